/-
  GroupPlays: the statement that settles both groups (its order is drawn): what they tell is one list.
  GroupPlays: the statement that compares counts, timers, keys, and the panes of the deed's key (its order is drawn, and it has guards).
-/
import Derived.Test.YtbdocnkpjlpfmaaGreatGrpPlaysSt
namespace Go.Proofs.YtbdocnkpjlpfmaaGreat.groupPlays
open Go.ChangeShapes Go.WideShapes Go.ChangeAt Go.RowKit Small Foot Pane Grp Rg Rel RelA RelJ
set_option linter.unusedVariables false

noncomputable def r16 : Code := ((Tryz.f3.body.bind (rgn 16)).getD .skip)
def Pv (g gr gx : Nat) (mark : Int) (i : Nat) (u : Value) : Prop := match i with
  | 0 => u = gp g
  | 1 => u = .pointer (some ⟨gx, 4, none⟩)
  | 2 => u = .int .i64 mark
  | 4 => u = gp gr
  | 5 => u = .pointer (some ⟨gx, 4, none⟩)
  | 6 => u = .int .i64 mark
  | _ => True
def JT (w0 : World) (B g m tg gr gx : Nat) (cf : C8) (x : Deed) (N : Nat) (S : Lists) (R : List Pn) (D : Nat → Bool) (f : Nat → Value) (w : World) : Prop :=
  (∀ j, D j = true → Pv g gr gx x.mark j (f j)) ∧ GM w0 B g m tg gr gx cf x N S R x.mark (D 3) (D 7) (f 3) (f 7) w
section
variable {w0 w w' : World} {B g m tg gr gx N n cnt b : Nat} {cf : C8} {x : Deed} {S : Lists} {R : List Pn} {fm : ByteArray → Option Value} {FT Bk : Nat → Prop} {lv : Value} {D : Nat → Bool} {f : Nat → Value} {v : Value}
theorem GM.lies {mark : Int} {d3 d7 : Bool} {u3 u7 : Value} (h : GM w0 B g m tg gr gx cf x N S R mark d3 d7 u3 u7 w) : Lies w gx 38 (dl x) := by
  obtain ⟨S', n, cnt, f, FT, Bk, lv, R', b, hb, -⟩ := h
  exact hb.xl
theorem JT_start (h : BX w0 w g m tg gr gx cf x N S n cnt fm FT Bk lv R b) (hB : B = w.heap.size) (hD : ∀ k, D k = true → 8 ≤ k) : JT w0 B g m tg gr gx cf x N S R D f w.drew := by
  have no : ∀ k, k < 8 → D k = false := fun k hk => by
    cases e : D k with
    | false => rfl
    | true => have := hD k e; omega
  refine ⟨fun j hj => ?_, ?_⟩
  · have := hD j hj
    match j, this with
    | j + 8, _ => trivial
  · rw [no 3 (by omega), no 7 (by omega)]
    exact ⟨S, n, cnt, fm, FT, Bk, lv, R, b, h.next (Below.refl _ _).drew, Nat.le_of_eq hB, fun _ => rfl, (fun e => by cases e), fun _ => rfl, (fun e => by cases e)⟩
theorem JT_val (i : Nat) (h3 : i ≠ 3) (h7 : i ≠ 7) (h : JT w0 B g m tg gr gx cf x N S R D f w) (hv : Pv g gr gx x.mark i v) : JT w0 B g m tg gr gx cf x N S R (updD D i) (updF f i v) w := by
  refine ⟨fun j hj => ?_, ?_⟩
  · by_cases e : j = i
    · subst e; rw [updF_same]; exact hv
    · rw [updF_other _ _ e]; rw [updD_other _ e] at hj; exact h.1 j hj
  · rw [updD_other _ (Ne.symm h3), updD_other _ (Ne.symm h7), updF_other _ _ (Ne.symm h3), updF_other _ _ (Ne.symm h7)]
    exact h.2
theorem JT_call3 (hall : ∀ j, D j = true → Pv g gr gx x.mark j (f j)) (h : GM w0 B g m tg gr gx cf x N S R x.mark true (D 7) v (f 7) w) : JT w0 B g m tg gr gx cf x N S R (updD D 3) (updF f 3 v) w := by
  refine ⟨fun j hj => ?_, ?_⟩
  · by_cases e : j = 3
    · subst e; trivial
    · rw [updF_other _ _ e]; rw [updD_other _ e] at hj; exact hall j hj
  · rw [updD_same, updF_same, updD_other _ (by decide), updF_other _ _ (by decide)]
    exact h
theorem JT_call7 (hall : ∀ j, D j = true → Pv g gr gx x.mark j (f j)) (h : GM w0 B g m tg gr gx cf x N S R x.mark (D 3) true (f 3) v w) : JT w0 B g m tg gr gx cf x N S R (updD D 7) (updF f 7 v) w := by
  refine ⟨fun j hj => ?_, ?_⟩
  · by_cases e : j = 7
    · subst e; trivial
    · rw [updF_other _ _ e]; rw [updD_other _ e] at hj; exact hall j hj
  · rw [updD_same, updF_same, updD_other _ (by decide), updF_other _ _ (by decide)]
    exact h
end

set_option maxRecDepth 100000 in
set_option maxHeartbeats 8000000 in
theorem settleArm {w0 w4 : World} {B g m tg gr gx N n cnt b : Nat} {cf : C8} {x : Deed} {S : Lists} {fm : ByteArray → Option Value} {FT Bk : Nat → Prop} {lv : Value} {R : List Pn} {u0 u1 u2 u3 u4 u5 u7 u8 u10 u12 u13 u14 u15 u16 u17 u18 u19 u20 u21 u22 u23 u24 u25 u26 u27 u28 u29 u30 u31 u32 u33 u34 u35 u36 u37 u38 u39 u40 u41 u42 u43 u44 u45 u46 u47 u48 u49 u50 u51 u52 u53 u54 u55 u56 u57 u58 u59 u60 u61 u62 u63 u64 u65 u66 u67 u68 u69 u70 u71 u72 u73 u74 u75 u76 u77 u78 u79 u80 u81 u82 u83 u84 u85 u86 u87 u88 u89 u90 u91 u92 u93 u94 u95 u96 u97 u98 u99 u100 u101 u102 u103 u104 u105 u106 u107 u108 u109 u110 u111 u112 u113 u114 u115 u116 u117 u118 u119 u120 u121 u122 u123 u124 u125 u126 u127 u128 u129 u130 u131 u132 u133 u134 u135 u136 u137 u138 u139 u140 u141 u142 u143 u144 u145 u146 u147 u148 u149 u150 u151 u152 u153 u154 u155 u156 u157 u158 u159 u160 u161 u162 u163 u164 u165 u166 u167 u168 u169 u170 u171 u172 u173 u174 u175 u176 u177 u178 u179 u180 u181 u182 u183 u184 u185 u186 u187 u188 u189 u190 u191 u192 u193 u194 u195 u196 : Value} {Q : Exit → Act → World → Prop}
    (hX0 : BX w0 w4 g m tg gr gx cf x N S n cnt fm FT Bk lv R b) (hBs : B = w4.heap.size) (rp : Rep S R) (F : Fine S) (hN : N ≤ 880) (hR : R.length ≤ 880) (hB : gr < B)
    (fe : Hid (∀ p ∈ R, (Lit.int .i64 p.e).wf = true)) (fz : Hid ((Lit.int .i64 cf.z).wf = true)) (fk : Hid ((Lit.int .i64 x.mark).wf = true))
    (hK : ∀ (t79 t80 t81 t82 t83 t84 t85 t86 t87 t88 : Value) (wx : World), (t88 = .bool false ∧ Hid (Bo w0 wx g m tg gr gx cf x N)) → Q .normal ⟨#[u0, u1, u2, u3, u4, u5, (gp g), u7, u8, (.pointer (some ⟨gr, 0, none⟩)), u10, (.pointer (some ⟨gx, 0, none⟩)), u12, u13, u14, u15, u16, u17, u18, u19, u20, u21, u22, u23, u24, u25, u26, u27, u28, u29, u30, u31, u32, u33, u34, u35, u36, u37, u38, u39, u40, u41, u42, u43, u44, u45, u46, u47, u48, u49, u50, u51, u52, u53, u54, u55, u56, u57, u58, u59, u60, u61, u62, u63, u64, u65, u66, u67, u68, u69, u70, u71, u72, u73, u74, u75, u76, u77, u78, t79, t80, t81, t82, t83, t84, t85, t86, t87, t88, u89, u90, u91, u92, u93, u94, u95, u96, u97, u98, u99, u100, u101, u102, u103, u104, u105, u106, u107, u108, u109, u110, u111, u112, u113, u114, u115, u116, u117, u118, u119, u120, u121, u122, u123, u124, u125, u126, u127, u128, u129, u130, u131, u132, u133, u134, u135, u136, u137, u138, u139, u140, u141, u142, u143, u144, u145, u146, u147, u148, u149, u150, u151, u152, u153, u154, u155, u156, u157, u158, u159, u160, u161, u162, u163, u164, u165, u166, u167, u168, u169, u170, u171, u172, u173, u174, u175, u176, u177, u178, u179, u180, u181, u182, u183, u184, u185, u186, u187, u188, u189, u190, u191, u192, u193, u194, u195, u196], []⟩ wx) :
    Code.wp Tryz.prog r16 Q ⟨#[u0, u1, u2, u3, u4, u5, (gp g), u7, u8, (.pointer (some ⟨gr, 0, none⟩)), u10, (.pointer (some ⟨gx, 0, none⟩)), u12, u13, u14, u15, u16, u17, u18, u19, u20, u21, u22, u23, u24, u25, u26, u27, u28, u29, u30, u31, u32, u33, u34, u35, u36, u37, u38, u39, u40, u41, u42, u43, u44, u45, u46, u47, u48, u49, u50, u51, u52, u53, u54, u55, u56, u57, u58, u59, u60, u61, u62, u63, u64, u65, u66, u67, u68, u69, u70, u71, u72, u73, u74, u75, u76, u77, u78, u79, u80, u81, u82, u83, u84, u85, u86, u87, u88, u89, u90, u91, u92, u93, u94, u95, u96, u97, u98, u99, u100, u101, u102, u103, u104, u105, u106, u107, u108, u109, u110, u111, u112, u113, u114, u115, u116, u117, u118, u119, u120, u121, u122, u123, u124, u125, u126, u127, u128, u129, u130, u131, u132, u133, u134, u135, u136, u137, u138, u139, u140, u141, u142, u143, u144, u145, u146, u147, u148, u149, u150, u151, u152, u153, u154, u155, u156, u157, u158, u159, u160, u161, u162, u163, u164, u165, u166, u167, u168, u169, u170, u171, u172, u173, u174, u175, u176, u177, u178, u179, u180, u181, u182, u183, u184, u185, u186, u187, u188, u189, u190, u191, u192, u193, u194, u195, u196], []⟩ w4 := by
  conv => arg 2; whnf
  refine wp_region_inv 8 197 (JT w0 B g m tg gr gx cf x N S R) (by show _ = _; kernel_rfl) (by show _ = _; kernel_rfl) (by show _ = _; kernel_rfl) (fun D f hD => JT_start hX0 hBs hD) ?_ ?_
  · intro i hi
    match i, hi with
    | 0, _ =>
      intro o ho a' w' D f Kc hd hout hDi hdep hJ hK
      have hJ0 := hJ
      obtain ⟨hall, hG⟩ := hJ
      have e0 : a'.eval (.tmp 6) = gp g := (hout 6 (Reg.Free.out (by show _ = _; kernel_rfl)))
      exact Sl.wp_move _ (Reg.Has.op (p := Op.move (.tmp 6)) (t := 79) (by show _ = _; kernel_rfl) ho).1 (by rw [e0]; exact hK _ _ (fun t hn => absurd ((Reg.Has.op (p := Op.move (.tmp 6)) (t := 79) (by show _ = _; kernel_rfl) ho).2.symm.trans hn) (by simp)) (JT_val 0 (by decide) (by decide) hJ0 rfl))
    | 1, _ =>
      intro o ho a' w' D f Kc hd hout hDi hdep hJ hK
      have hJ0 := hJ
      obtain ⟨hall, hG⟩ := hJ
      refine wp_val (V := .pointer (some ⟨gx, 4, none⟩)) (w' := w') ?_ (hK _ _ (fun t hn => absurd ((Reg.Has.op (p := Op.fieldAddr 38 (.tmp 11) 4) (t := 80) (by show _ = _; kernel_rfl) ho).2.symm.trans hn) (by simp)) (JT_val 1 (by decide) (by decide) hJ0 rfl))
      have hop := (Reg.Has.op (p := Op.fieldAddr 38 (.tmp 11) 4) (t := 80) (by show _ = _; kernel_rfl) ho).1
      have e1 : a'.eval (.tmp 11) = gp gx := (hout 11 (Reg.Free.out (by show _ = _; kernel_rfl)))
      generalize a'.eval = ev at e1
      simp [execOp, hop, go_sem, e1]
    | 2, _ =>
      intro o ho a' w' D f Kc hd hout hDi hdep hJ hK
      have hJ0 := hJ
      obtain ⟨hall, hG⟩ := hJ
      have hX := hG.lies
      have k0 := hX.cell (i := 4) rfl
      refine wp_val (V := .int .i64 x.mark) (w' := w') ?_ (hK _ _ (fun t hn => absurd ((Reg.Has.op (p := Op.load 2 (.tmp 80)) (t := 81) (by show _ = _; kernel_rfl) ho).2.symm.trans hn) (by simp)) (JT_val 2 (by decide) (by decide) hJ0 rfl))
      have hop := (Reg.Has.op (p := Op.load 2 (.tmp 80)) (t := 81) (by show _ = _; kernel_rfl) ho).1
      have e1 : a'.eval (.tmp 80) = .pointer (some ⟨gx, 4, none⟩) := ((hdep 1 (mem_of (by show _ = _; kernel_rfl))).2 80 (by show _ = _; kernel_rfl)).trans (hall 1 (hdep 1 (mem_of (by show _ = _; kernel_rfl))).1)
      generalize a'.eval = ev at e1
      simp [execOp, hop, go_sem, e1, k0]
    | 3, _ =>
      intro o ho a' w' D f Kc hd hout hDi hdep hJ hK
      have hJ0 := hJ
      obtain ⟨hall, hG⟩ := hJ
      have e1 : a'.eval (.tmp 79) = gp g := ((hdep 0 (mem_of (by show _ = _; kernel_rfl))).2 79 (by show _ = _; kernel_rfl)).trans (hall 0 (hdep 0 (mem_of (by show _ = _; kernel_rfl))).1)
      have e2 : a'.eval (.tmp 81) = .int .i64 x.mark := ((hdep 2 (mem_of (by show _ = _; kernel_rfl))).2 81 (by show _ = _; kernel_rfl)).trans (hall 2 (hdep 2 (mem_of (by show _ = _; kernel_rfl))).1)
      rw [hDi] at hG
      refine wp_call (S := fun u w2 => GM w0 B g m tg gr gx cf x N S R x.mark true (D 7) u (f 7) w2) (Reg.Has.op (p := Op.call { callee := Callee.value (.func 8), args := #[.tmp 79, .tmp 81], argTypes := #[26, 2] }) (t := 82) (by show _ = _; kernel_rfl) ho).1 #[gp g, .int .i64 x.mark] (by simp [e1, e2]) (fun _ _ => enters Tryz.func8 (by kernel_rfl) rfl _ _) (GM.settle hG hN fz fk) ?_
      rintro u w2 h2
      exact hK _ _ (fun t hn => absurd ((Reg.Has.op (p := Op.call { callee := Callee.value (.func 8), args := #[.tmp 79, .tmp 81], argTypes := #[26, 2] }) (t := 82) (by show _ = _; kernel_rfl) ho).2.symm.trans hn) (by simp)) (JT_call3 hall h2)
    | 4, _ =>
      intro o ho a' w' D f Kc hd hout hDi hdep hJ hK
      have hJ0 := hJ
      obtain ⟨hall, hG⟩ := hJ
      have e0 : a'.eval (.tmp 9) = gp gr := (hout 9 (Reg.Free.out (by show _ = _; kernel_rfl)))
      exact Sl.wp_move _ (Reg.Has.op (p := Op.move (.tmp 9)) (t := 83) (by show _ = _; kernel_rfl) ho).1 (by rw [e0]; exact hK _ _ (fun t hn => absurd ((Reg.Has.op (p := Op.move (.tmp 9)) (t := 83) (by show _ = _; kernel_rfl) ho).2.symm.trans hn) (by simp)) (JT_val 4 (by decide) (by decide) hJ0 rfl))
    | 5, _ =>
      intro o ho a' w' D f Kc hd hout hDi hdep hJ hK
      have hJ0 := hJ
      obtain ⟨hall, hG⟩ := hJ
      refine wp_val (V := .pointer (some ⟨gx, 4, none⟩)) (w' := w') ?_ (hK _ _ (fun t hn => absurd ((Reg.Has.op (p := Op.fieldAddr 38 (.tmp 11) 4) (t := 84) (by show _ = _; kernel_rfl) ho).2.symm.trans hn) (by simp)) (JT_val 5 (by decide) (by decide) hJ0 rfl))
      have hop := (Reg.Has.op (p := Op.fieldAddr 38 (.tmp 11) 4) (t := 84) (by show _ = _; kernel_rfl) ho).1
      have e1 : a'.eval (.tmp 11) = gp gx := (hout 11 (Reg.Free.out (by show _ = _; kernel_rfl)))
      generalize a'.eval = ev at e1
      simp [execOp, hop, go_sem, e1]
    | 6, _ =>
      intro o ho a' w' D f Kc hd hout hDi hdep hJ hK
      have hJ0 := hJ
      obtain ⟨hall, hG⟩ := hJ
      have hX := hG.lies
      have k0 := hX.cell (i := 4) rfl
      refine wp_val (V := .int .i64 x.mark) (w' := w') ?_ (hK _ _ (fun t hn => absurd ((Reg.Has.op (p := Op.load 2 (.tmp 84)) (t := 85) (by show _ = _; kernel_rfl) ho).2.symm.trans hn) (by simp)) (JT_val 6 (by decide) (by decide) hJ0 rfl))
      have hop := (Reg.Has.op (p := Op.load 2 (.tmp 84)) (t := 85) (by show _ = _; kernel_rfl) ho).1
      have e1 : a'.eval (.tmp 84) = .pointer (some ⟨gx, 4, none⟩) := ((hdep 5 (mem_of (by show _ = _; kernel_rfl))).2 84 (by show _ = _; kernel_rfl)).trans (hall 5 (hdep 5 (mem_of (by show _ = _; kernel_rfl))).1)
      generalize a'.eval = ev at e1
      simp [execOp, hop, go_sem, e1, k0]
    | 7, _ =>
      intro o ho a' w' D f Kc hd hout hDi hdep hJ hK
      have hJ0 := hJ
      obtain ⟨hall, hG⟩ := hJ
      have e1 : a'.eval (.tmp 83) = gp gr := ((hdep 4 (mem_of (by show _ = _; kernel_rfl))).2 83 (by show _ = _; kernel_rfl)).trans (hall 4 (hdep 4 (mem_of (by show _ = _; kernel_rfl))).1)
      have e2 : a'.eval (.tmp 85) = .int .i64 x.mark := ((hdep 6 (mem_of (by show _ = _; kernel_rfl))).2 85 (by show _ = _; kernel_rfl)).trans (hall 6 (hdep 6 (mem_of (by show _ = _; kernel_rfl))).1)
      rw [hDi] at hG
      refine wp_call (S := fun u w2 => GM w0 B g m tg gr gx cf x N S R x.mark (D 3) true (f 3) u w2) (Reg.Has.op (p := Op.call { callee := Callee.value (.func 9), args := #[.tmp 83, .tmp 85], argTypes := #[33, 2] }) (t := 86) (by show _ = _; kernel_rfl) ho).1 #[gp gr, .int .i64 x.mark] (by simp [e1, e2]) (fun _ _ => enters Tryz.func9 (by kernel_rfl) rfl _ _) (GM.rsettle hG hR hB fe fz fk) ?_
      rintro u w2 h2
      exact hK _ _ (fun t hn => absurd ((Reg.Has.op (p := Op.call { callee := Callee.value (.func 9), args := #[.tmp 83, .tmp 85], argTypes := #[33, 2] }) (t := 86) (by show _ = _; kernel_rfl) ho).2.symm.trans hn) (by simp)) (JT_call7 hall h2)
  · intro f D w' hD hJ hdup hev
    obtain ⟨hall, hG⟩ := hJ
    rw [hD 3 (by decide), hD 7 (by decide)] at hG
    obtain ⟨S', n', cnt', f', FT', Bk', lv', R', b', O, hb, rp', hlen, o3, o7⟩ := hG.both rp F
    obtain ⟨b3, -, i3⟩ := o3.is
    obtain ⟨b7, -, i7⟩ := o7.is
    obtain ⟨A3, c3, e3⟩ := i3.len
    obtain ⟨A7, c7, e7⟩ := i7.len
    have HB := Lib.hid hb
    have RP := Lib.hid rp'
    have I3 := Lib.hid i3
    have I7 := Lib.hid i7
    change wpList _ _ _ [_, _] (Act.put (Act.put (Act.put (Act.put (Act.put (Act.put (Act.put (Act.put _ (some 79) (f 0)) (some 80) (f 1)) (some 81) (f 2)) (some 82) (f 3)) (some 83) (f 4)) (some 84) (f 5)) (some 85) (f 6)) (some 86) (f 7)) _
    rw [Rel.puts_zero]
    rw [e3] at I3 ⊢
    rw [e7] at I7 ⊢
    clear hb rp' i3 i7 o3 o7 hall hdup hev hD e3 e7
    generalize f 0 = t0, f 1 = t1, f 2 = t2, f 4 = t4, f 5 = t5, f 6 = t6
    go_wp2_with fail
    refine (same_yes _ _ O b3 b7 _ I3 I7 (by omega)).mono ?_
    rintro r w2 ⟨rfl, k2⟩
    have HB2 := Lib.hid (HB.out.next k2)
    clear HB k2
    go_wp2_with fail
    exact Lib.hid ⟨S', n', cnt', f', FT', Bk', lv', R', b', HB2.out, RP.out⟩

end Go.Proofs.YtbdocnkpjlpfmaaGreat.groupPlays

namespace Go.Proofs.YtbdocnkpjlpfmaaGreat.groupPlays
open Go.ChangeShapes Go.WideShapes Go.ChangeAt Go.RowKit Small Foot Pane Grp Rg Rel
set_option linter.unusedVariables false

noncomputable def r24 : Code := ((Tryz.f3.body.bind (rgn 24)).getD .skip)
def Z4 (B g gr gx nr nk : Nat) (x : Deed) (AV AK AO : Option Addr) (cv ck co : Nat) (P : List Pn) (i : Nat) (u : Value) (w : World) : Prop := match i with
  | 0 => u = gp g
  | 1 => u = .int .i64 nr
  | 2 => u = gp gr
  | 3 => u = gp gr
  | 4 => u = .pointer (some ⟨gr, 8, none⟩)
  | 5 => u = .slice AV nr cv
  | 6 => u = .int .i64 nr
  | 7 => u = .bool false
  | 8 => u = .bool false
  | 9 => u = gp g
  | 10 => u = .int .i64 nr
  | 11 => u = gp gr
  | 12 => u = gp gr
  | 13 => u = .pointer (some ⟨gr, 8, none⟩)
  | 14 => u = .slice AV nr cv
  | 15 => u = .int .i64 nr
  | 16 => u = .bool false
  | 17 => u = .bool false
  | 18 => u = .bool false
  | 19 => u = .slice AK nk ck
  | 20 => u = .int .i64 nk
  | 21 => u = .slice AO nk co
  | 22 => u = .int .i64 nk
  | 23 => u = .bool false
  | 24 => u = .bool false
  | 25 => u = .bool false
  | 26 => u = gp g
  | 27 => u = .pointer (some ⟨gx, 1, none⟩)
  | 28 => u = .string x.key
  | 29 => Sl.Own Pn.k B w u P
  | 30 => u = gp gr
  | 31 => u = .pointer (some ⟨gx, 1, none⟩)
  | 32 => u = .string x.key
  | 33 => Sl.Own Pn.k B w u P
  | 34 => u = .bool true
  | 35 => u = .bool false
  | _ => True
theorem Z4.mono (B g gr gx nr nk : Nat) (x : Deed) (AV AK AO : Option Addr) (cv ck co : Nat) (P : List Pn) : ∀ i u w w', Z4 B g gr gx nr nk x AV AK AO cv ck co P i u w → Below w.heap.size w w' → Z4 B g gr gx nr nk x AV AK AO cv ck co P i u w'
  | 0, u, w, w', h, k => h
  | 1, u, w, w', h, k => h
  | 2, u, w, w', h, k => h
  | 3, u, w, w', h, k => h
  | 4, u, w, w', h, k => h
  | 5, u, w, w', h, k => h
  | 6, u, w, w', h, k => h
  | 7, u, w, w', h, k => h
  | 8, u, w, w', h, k => h
  | 9, u, w, w', h, k => h
  | 10, u, w, w', h, k => h
  | 11, u, w, w', h, k => h
  | 12, u, w, w', h, k => h
  | 13, u, w, w', h, k => h
  | 14, u, w, w', h, k => h
  | 15, u, w, w', h, k => h
  | 16, u, w, w', h, k => h
  | 17, u, w, w', h, k => h
  | 18, u, w, w', h, k => h
  | 19, u, w, w', h, k => h
  | 20, u, w, w', h, k => h
  | 21, u, w, w', h, k => h
  | 22, u, w, w', h, k => h
  | 23, u, w, w', h, k => h
  | 24, u, w, w', h, k => h
  | 25, u, w, w', h, k => h
  | 26, u, w, w', h, k => h
  | 27, u, w, w', h, k => h
  | 28, u, w, w', h, k => h
  | 29, u, w, w', h, k => Sl.Own.next (K := Pn.k) h k
  | 30, u, w, w', h, k => h
  | 31, u, w, w', h, k => h
  | 32, u, w, w', h, k => h
  | 33, u, w, w', h, k => Sl.Own.next (K := Pn.k) h k
  | 34, u, w, w', h, k => h
  | 35, u, w, w', h, k => h
  | i + 36, u, w, w', h, k => trivial
set_option maxRecDepth 100000 in
set_option maxHeartbeats 8000000 in
theorem allArm {w0 w4 : World} {g m tg gr gx N nr nk cnt b cv ck co : Nat} {cf : C8} {x : Deed} {S : Lists} {fm : ByteArray → Option Value} {FT Bk : Nat → Prop} {AV AK AO : Option Addr} {R P : List Pn} {u0 u1 u2 u3 u4 u5 u7 u8 u10 u12 u13 u14 u15 u18 u19 u20 u21 u22 u23 u24 u25 u26 u27 u28 u29 u30 u31 u32 u33 u34 u35 u36 u37 u38 u39 u40 u41 u42 u43 u44 u45 u46 u47 u48 u49 u50 u51 u52 u53 u54 u55 u56 u57 u58 u59 u60 u61 u62 u63 u64 u65 u66 u67 u68 u69 u70 u71 u72 u73 u74 u75 u76 u77 u78 u79 u80 u81 u82 u83 u84 u85 u86 u87 u88 u89 u90 u91 u92 u93 u94 u95 u96 u97 u98 u99 u100 u101 u102 u103 u104 u105 u106 u107 u108 u109 u110 u111 u112 u113 u114 u115 u116 u117 u118 u119 u120 u121 u122 u123 u124 u125 u126 u127 u128 u129 u130 u131 u132 u133 u134 u135 u136 u137 u138 u139 u140 u141 u142 u143 u144 u145 u146 u147 u148 u149 u150 u151 u152 u153 u154 u155 u156 u157 u158 u159 u160 u161 u162 u163 u164 u165 u166 u167 u168 u169 u170 u171 u172 u173 u174 u175 u176 u177 u178 u179 u180 u181 u182 u183 u184 u185 u186 u187 u188 u189 u190 u191 u192 u193 u194 u195 u196 : Value} {Q : Exit → Act → World → Prop}
    (X0 : Hid (BX w0 w4 g m tg gr gx cf x N S nr cnt fm FT Bk (.slice AV nr cv) R b)) (rp : Hid (Rep S R)) (F : Hid (Fine S)) (hN : N ≤ 880) (hk : x.key.size ≤ maxLen) (hP : P = S x.key) (hPn : P.length ≤ 1000)
    (hK : ∀ (t128 t129 t130 t131 t132 t133 t134 t135 t136 t137 t138 t139 t140 t141 t142 t143 t144 t145 t146 t147 t148 t149 t150 t151 t152 t153 t154 t155 t156 t157 t158 t159 t160 t161 t162 t163 t164 : Value) (wx : World), (t164 = .bool false ∧ Hid (BX w0 wx g m tg gr gx cf x N S nr cnt fm FT Bk (.slice AV nr cv) R b) ∧ Hid (Below w4.heap.size w4 wx)) → Q .normal ⟨#[u0, u1, u2, u3, u4, u5, (gp g), u7, u8, (.pointer (some ⟨gr, 0, none⟩)), u10, (.pointer (some ⟨gx, 0, none⟩)), u12, u13, u14, u15, (.slice AK nk ck), (.slice AO nk co), u18, u19, u20, u21, u22, u23, u24, u25, u26, u27, u28, u29, u30, u31, u32, u33, u34, u35, u36, u37, u38, u39, u40, u41, u42, u43, u44, u45, u46, u47, u48, u49, u50, u51, u52, u53, u54, u55, u56, u57, u58, u59, u60, u61, u62, u63, u64, u65, u66, u67, u68, u69, u70, u71, u72, u73, u74, u75, u76, u77, u78, u79, u80, u81, u82, u83, u84, u85, u86, u87, u88, u89, u90, u91, u92, u93, u94, u95, u96, u97, u98, u99, u100, u101, u102, u103, u104, u105, u106, u107, u108, u109, u110, u111, u112, u113, u114, u115, u116, u117, u118, u119, u120, u121, u122, u123, u124, u125, u126, u127, t128, t129, t130, t131, t132, t133, t134, t135, t136, t137, t138, t139, t140, t141, t142, t143, t144, t145, t146, t147, t148, t149, t150, t151, t152, t153, t154, t155, t156, t157, t158, t159, t160, t161, t162, t163, t164, u165, u166, u167, u168, u169, u170, u171, u172, u173, u174, u175, u176, u177, u178, u179, u180, u181, u182, u183, u184, u185, u186, u187, u188, u189, u190, u191, u192, u193, u194, u195, u196], []⟩ wx) :
    Code.wp Tryz.prog r24 Q ⟨#[u0, u1, u2, u3, u4, u5, (gp g), u7, u8, (.pointer (some ⟨gr, 0, none⟩)), u10, (.pointer (some ⟨gx, 0, none⟩)), u12, u13, u14, u15, (.slice AK nk ck), (.slice AO nk co), u18, u19, u20, u21, u22, u23, u24, u25, u26, u27, u28, u29, u30, u31, u32, u33, u34, u35, u36, u37, u38, u39, u40, u41, u42, u43, u44, u45, u46, u47, u48, u49, u50, u51, u52, u53, u54, u55, u56, u57, u58, u59, u60, u61, u62, u63, u64, u65, u66, u67, u68, u69, u70, u71, u72, u73, u74, u75, u76, u77, u78, u79, u80, u81, u82, u83, u84, u85, u86, u87, u88, u89, u90, u91, u92, u93, u94, u95, u96, u97, u98, u99, u100, u101, u102, u103, u104, u105, u106, u107, u108, u109, u110, u111, u112, u113, u114, u115, u116, u117, u118, u119, u120, u121, u122, u123, u124, u125, u126, u127, u128, u129, u130, u131, u132, u133, u134, u135, u136, u137, u138, u139, u140, u141, u142, u143, u144, u145, u146, u147, u148, u149, u150, u151, u152, u153, u154, u155, u156, u157, u158, u159, u160, u161, u162, u163, u164, u165, u166, u167, u168, u169, u170, u171, u172, u173, u174, u175, u176, u177, u178, u179, u180, u181, u182, u183, u184, u185, u186, u187, u188, u189, u190, u191, u192, u193, u194, u195, u196], []⟩ w4 := by
  conv => arg 2; whnf
  refine wp_region_when Goes.below 36 197 (Z4 w4.heap.size g gr gx nr nk x AV AK AO cv ck co P) (by show _ = _; kernel_rfl) (by show _ = _; kernel_rfl) (by show _ = _; kernel_rfl) (Z4.mono w4.heap.size g gr gx nr nk x AV AK AO cv ck co P) ?_ ?_ ?_
  · intro k j b hk hg v w' hv
    obtain ⟨hj, rfl⟩ := RelW.guards_of (js := [8, 18, 25]) (b := false) (by show _ = _; kernel_rfl) hk hg
    simp only [List.mem_cons, List.not_mem_nil, or_false] at hj
    rcases hj with rfl | rfl | rfl | rfl | rfl | rfl | rfl | rfl | rfl | rfl | rfl <;> exact hv
  · intro i hi o ho a' w' Kc hd hout hdep hB hK
    match i, hi, ho with
    | 0, _, ho => exact Sl.wp_move _ (Reg.Has.op (p := Op.move (.tmp 6)) (t := 128) (by show _ = _; kernel_rfl) ho).1 (hK _ _ (hout 6 (Reg.Free.out (by show _ = _; kernel_rfl))) (Below.refl _ _))
    | 1, _, ho =>
      have q0 : a'.eval (.tmp 128) = gp g := (hdep 0 (mem_of (by show _ = _; kernel_rfl)) 128 (by show _ = _; kernel_rfl))
      refine wp_call (S := fun u w2 => u = .int .i64 nr ∧ Below w'.heap.size w' w2) (Reg.Has.op (p := Op.call { callee := Callee.value (.func 14), args := #[.tmp 128], argTypes := #[26] }) (t := 129) (by show _ = _; kernel_rfl) ho).1 #[gp g] (by simp [q0]) (fun _ _ => enters Tryz.func14 (by kernel_rfl) rfl _ _) ((Grp.len_ok w' (Lib.hid (X0.out.next hB).q) F).mono (fun e w2 ⟨h1, h2⟩ => ⟨_, h1, rfl, h2⟩)) ?_
      rintro u w2 ⟨rfl, h2⟩
      exact hK _ _ rfl h2
    | 2, _, ho => exact Sl.wp_move _ (Reg.Has.op (p := Op.move (.tmp 9)) (t := 130) (by show _ = _; kernel_rfl) ho).1 (hK _ _ (hout 9 (Reg.Free.out (by show _ = _; kernel_rfl))) (Below.refl _ _))
    | 3, _, ho =>
      refine wp_val (V := gp gr) (w' := w') ?_ (hK _ _ rfl (Below.refl _ _))
      have hop := (Reg.Has.op (p := Op.nilCheck (.tmp 130)) (t := 131) (by show _ = _; kernel_rfl) ho).1
      have q0 : a'.eval (.tmp 130) = gp gr := (hdep 2 (mem_of (by show _ = _; kernel_rfl)) 130 (by show _ = _; kernel_rfl))
      generalize a'.eval = ev at q0
      simp [execOp, hop, go_sem, q0]
    | 4, _, ho =>
      refine wp_val (V := .pointer (some ⟨gr, 8, none⟩)) (w' := w') ?_ (hK _ _ rfl (Below.refl _ _))
      have hop := (Reg.Has.op (p := Op.fieldAddr 36 (.tmp 131) 1) (t := 132) (by show _ = _; kernel_rfl) ho).1
      have q0 : a'.eval (.tmp 131) = gp gr := (hdep 3 (mem_of (by show _ = _; kernel_rfl)) 131 (by show _ = _; kernel_rfl))
      generalize a'.eval = ev at q0
      simp [execOp, hop, go_sem, q0]
    | 5, _, ho =>
      refine wp_val (V := .slice AV nr cv) (w' := w') ?_ (hK _ _ rfl (Below.refl _ _))
      have hop := (Reg.Has.op (p := Op.load 34 (.tmp 132)) (t := 133) (by show _ = _; kernel_rfl) ho).1
      have q0 : a'.eval (.tmp 132) = .pointer (some ⟨gr, 8, none⟩) := (hdep 4 (mem_of (by show _ = _; kernel_rfl)) 132 (by show _ = _; kernel_rfl))
      have q1 : w'.cell? ⟨gr, 8, none⟩ = some (.slice AV nr cv) := (X0.out.next hB).rg.lies.cell (i := 8) rfl
      generalize a'.eval = ev at q0
      simp [execOp, hop, go_sem, q0, q1]
    | 6, _, ho =>
      refine wp_val (V := .int .i64 nr) (w' := w') ?_ (hK _ _ rfl (Below.refl _ _))
      have hop := (Reg.Has.op (p := Op.call { callee := Callee.builtin Builtin.len, args := #[.tmp 133], argTypes := #[34] }) (t := 134) (by show _ = _; kernel_rfl) ho).1
      have q0 : a'.eval (.tmp 133) = .slice AV nr cv := (hdep 5 (mem_of (by show _ = _; kernel_rfl)) 133 (by show _ = _; kernel_rfl))
      generalize a'.eval = ev at q0
      simp [execOp, hop, go_sem, q0]
    | 7, _, ho =>
      refine wp_val (V := .bool false) (w' := w') ?_ (hK _ _ rfl (Below.refl _ _))
      have hop := (Reg.Has.op (p := Op.binOp BinOp.neq 3 (.tmp 129) (.tmp 134) 3) (t := 135) (by show _ = _; kernel_rfl) ho).1
      have q0 : a'.eval (.tmp 129) = .int .i64 nr := (hdep 1 (mem_of (by show _ = _; kernel_rfl)) 129 (by show _ = _; kernel_rfl))
      have q1 : a'.eval (.tmp 134) = .int .i64 nr := (hdep 6 (mem_of (by show _ = _; kernel_rfl)) 134 (by show _ = _; kernel_rfl))
      generalize a'.eval = ev at q0 q1
      simp [execOp, hop, go_sem, q0, q1]
    | 8, _, ho => exact Sl.wp_move _ (Reg.Has.op (p := Op.move (.tmp 135)) (t := 136) (by show _ = _; kernel_rfl) ho).1 (hK _ _ (hdep 7 (mem_of (by show _ = _; kernel_rfl)) 135 (by show _ = _; kernel_rfl)) (Below.refl _ _))
    | 9, _, ho => exact Sl.wp_move _ (Reg.Has.op (p := Op.move (.tmp 6)) (t := 137) (by show _ = _; kernel_rfl) ho).1 (hK _ _ (hout 6 (Reg.Free.out (by show _ = _; kernel_rfl))) (Below.refl _ _))
    | 10, _, ho =>
      have q0 : a'.eval (.tmp 137) = gp g := (hdep 9 (mem_of (by show _ = _; kernel_rfl)) 137 (by show _ = _; kernel_rfl))
      refine wp_call (S := fun u w2 => u = .int .i64 nr ∧ w' = w2) (Reg.Has.op (p := Op.call { callee := Callee.value (.func 15), args := #[.tmp 137], argTypes := #[26] }) (t := 138) (by show _ = _; kernel_rfl) ho).1 #[gp g] (by simp [q0]) (fun _ _ => enters Tryz.func15 (by kernel_rfl) rfl _ _) ((Grp.due_ok w' (Lib.hid (X0.out.next hB).q)).mono (fun e w2 ⟨h1, h2⟩ => ⟨_, h1, rfl, h2⟩)) ?_
      rintro u w2 ⟨rfl, rfl⟩
      exact hK _ _ rfl (Below.refl _ _)
    | 11, _, ho => exact Sl.wp_move _ (Reg.Has.op (p := Op.move (.tmp 9)) (t := 139) (by show _ = _; kernel_rfl) ho).1 (hK _ _ (hout 9 (Reg.Free.out (by show _ = _; kernel_rfl))) (Below.refl _ _))
    | 12, _, ho =>
      refine wp_val (V := gp gr) (w' := w') ?_ (hK _ _ rfl (Below.refl _ _))
      have hop := (Reg.Has.op (p := Op.nilCheck (.tmp 139)) (t := 140) (by show _ = _; kernel_rfl) ho).1
      have q0 : a'.eval (.tmp 139) = gp gr := (hdep 11 (mem_of (by show _ = _; kernel_rfl)) 139 (by show _ = _; kernel_rfl))
      generalize a'.eval = ev at q0
      simp [execOp, hop, go_sem, q0]
    | 13, _, ho =>
      refine wp_val (V := .pointer (some ⟨gr, 8, none⟩)) (w' := w') ?_ (hK _ _ rfl (Below.refl _ _))
      have hop := (Reg.Has.op (p := Op.fieldAddr 36 (.tmp 140) 1) (t := 141) (by show _ = _; kernel_rfl) ho).1
      have q0 : a'.eval (.tmp 140) = gp gr := (hdep 12 (mem_of (by show _ = _; kernel_rfl)) 140 (by show _ = _; kernel_rfl))
      generalize a'.eval = ev at q0
      simp [execOp, hop, go_sem, q0]
    | 14, _, ho =>
      refine wp_val (V := .slice AV nr cv) (w' := w') ?_ (hK _ _ rfl (Below.refl _ _))
      have hop := (Reg.Has.op (p := Op.load 34 (.tmp 141)) (t := 142) (by show _ = _; kernel_rfl) ho).1
      have q0 : a'.eval (.tmp 141) = .pointer (some ⟨gr, 8, none⟩) := (hdep 13 (mem_of (by show _ = _; kernel_rfl)) 141 (by show _ = _; kernel_rfl))
      have q1 : w'.cell? ⟨gr, 8, none⟩ = some (.slice AV nr cv) := (X0.out.next hB).rg.lies.cell (i := 8) rfl
      generalize a'.eval = ev at q0
      simp [execOp, hop, go_sem, q0, q1]
    | 15, _, ho =>
      refine wp_val (V := .int .i64 nr) (w' := w') ?_ (hK _ _ rfl (Below.refl _ _))
      have hop := (Reg.Has.op (p := Op.call { callee := Callee.builtin Builtin.len, args := #[.tmp 142], argTypes := #[34] }) (t := 143) (by show _ = _; kernel_rfl) ho).1
      have q0 : a'.eval (.tmp 142) = .slice AV nr cv := (hdep 14 (mem_of (by show _ = _; kernel_rfl)) 142 (by show _ = _; kernel_rfl))
      generalize a'.eval = ev at q0
      simp [execOp, hop, go_sem, q0]
    | 16, _, ho =>
      refine wp_val (V := .bool false) (w' := w') ?_ (hK _ _ rfl (Below.refl _ _))
      have hop := (Reg.Has.op (p := Op.binOp BinOp.neq 3 (.tmp 138) (.tmp 143) 3) (t := 144) (by show _ = _; kernel_rfl) ho).1
      have q0 : a'.eval (.tmp 138) = .int .i64 nr := (hdep 10 (mem_of (by show _ = _; kernel_rfl)) 138 (by show _ = _; kernel_rfl))
      have q1 : a'.eval (.tmp 143) = .int .i64 nr := (hdep 15 (mem_of (by show _ = _; kernel_rfl)) 143 (by show _ = _; kernel_rfl))
      generalize a'.eval = ev at q0 q1
      simp [execOp, hop, go_sem, q0, q1]
    | 17, _, ho =>
      refine wp_val (V := .bool false) (w' := w') ?_ (hK _ _ rfl (Below.refl _ _))
      have hop := (Reg.Has.op (p := Op.pick (.tmp 136) (.const (.bool true)) (.tmp 144)) (t := 145) (by show _ = _; kernel_rfl) ho).1
      have q0 : a'.eval (.tmp 136) = .bool false := (hdep 8 (mem_of (by show _ = _; kernel_rfl)) 136 (by show _ = _; kernel_rfl))
      have q1 : a'.eval (.tmp 144) = .bool false := (hdep 16 (mem_of (by show _ = _; kernel_rfl)) 144 (by show _ = _; kernel_rfl))
      generalize a'.eval = ev at q0 q1
      simp [execOp, hop, go_sem, q0, q1]
    | 18, _, ho => exact Sl.wp_move _ (Reg.Has.op (p := Op.move (.tmp 145)) (t := 146) (by show _ = _; kernel_rfl) ho).1 (hK _ _ (hdep 17 (mem_of (by show _ = _; kernel_rfl)) 145 (by show _ = _; kernel_rfl)) (Below.refl _ _))
    | 19, _, ho => exact Sl.wp_move _ (Reg.Has.op (p := Op.move (.tmp 16)) (t := 147) (by show _ = _; kernel_rfl) ho).1 (hK _ _ (hout 16 (Reg.Free.out (by show _ = _; kernel_rfl))) (Below.refl _ _))
    | 20, _, ho =>
      refine wp_val (V := .int .i64 nk) (w' := w') ?_ (hK _ _ rfl (Below.refl _ _))
      have hop := (Reg.Has.op (p := Op.call { callee := Callee.builtin Builtin.len, args := #[.tmp 147], argTypes := #[43] }) (t := 148) (by show _ = _; kernel_rfl) ho).1
      have q0 : a'.eval (.tmp 147) = .slice AK nk ck := (hdep 19 (mem_of (by show _ = _; kernel_rfl)) 147 (by show _ = _; kernel_rfl))
      generalize a'.eval = ev at q0
      simp [execOp, hop, go_sem, q0]
    | 21, _, ho => exact Sl.wp_move _ (Reg.Has.op (p := Op.move (.tmp 17)) (t := 149) (by show _ = _; kernel_rfl) ho).1 (hK _ _ (hout 17 (Reg.Free.out (by show _ = _; kernel_rfl))) (Below.refl _ _))
    | 22, _, ho =>
      refine wp_val (V := .int .i64 nk) (w' := w') ?_ (hK _ _ rfl (Below.refl _ _))
      have hop := (Reg.Has.op (p := Op.call { callee := Callee.builtin Builtin.len, args := #[.tmp 149], argTypes := #[43] }) (t := 150) (by show _ = _; kernel_rfl) ho).1
      have q0 : a'.eval (.tmp 149) = .slice AO nk co := (hdep 21 (mem_of (by show _ = _; kernel_rfl)) 149 (by show _ = _; kernel_rfl))
      generalize a'.eval = ev at q0
      simp [execOp, hop, go_sem, q0]
    | 23, _, ho =>
      refine wp_val (V := .bool false) (w' := w') ?_ (hK _ _ rfl (Below.refl _ _))
      have hop := (Reg.Has.op (p := Op.binOp BinOp.neq 3 (.tmp 148) (.tmp 150) 3) (t := 151) (by show _ = _; kernel_rfl) ho).1
      have q0 : a'.eval (.tmp 148) = .int .i64 nk := (hdep 20 (mem_of (by show _ = _; kernel_rfl)) 148 (by show _ = _; kernel_rfl))
      have q1 : a'.eval (.tmp 150) = .int .i64 nk := (hdep 22 (mem_of (by show _ = _; kernel_rfl)) 150 (by show _ = _; kernel_rfl))
      generalize a'.eval = ev at q0 q1
      simp [execOp, hop, go_sem, q0, q1]
    | 24, _, ho =>
      refine wp_val (V := .bool false) (w' := w') ?_ (hK _ _ rfl (Below.refl _ _))
      have hop := (Reg.Has.op (p := Op.pick (.tmp 146) (.const (.bool true)) (.tmp 151)) (t := 152) (by show _ = _; kernel_rfl) ho).1
      have q0 : a'.eval (.tmp 146) = .bool false := (hdep 18 (mem_of (by show _ = _; kernel_rfl)) 146 (by show _ = _; kernel_rfl))
      have q1 : a'.eval (.tmp 151) = .bool false := (hdep 23 (mem_of (by show _ = _; kernel_rfl)) 151 (by show _ = _; kernel_rfl))
      generalize a'.eval = ev at q0 q1
      simp [execOp, hop, go_sem, q0, q1]
    | 25, _, ho => exact Sl.wp_move _ (Reg.Has.op (p := Op.move (.tmp 152)) (t := 153) (by show _ = _; kernel_rfl) ho).1 (hK _ _ (hdep 24 (mem_of (by show _ = _; kernel_rfl)) 152 (by show _ = _; kernel_rfl)) (Below.refl _ _))
    | 26, _, ho => exact Sl.wp_move _ (Reg.Has.op (p := Op.move (.tmp 6)) (t := 154) (by show _ = _; kernel_rfl) ho).1 (hK _ _ (hout 6 (Reg.Free.out (by show _ = _; kernel_rfl))) (Below.refl _ _))
    | 27, _, ho =>
      refine wp_val (V := .pointer (some ⟨gx, 1, none⟩)) (w' := w') ?_ (hK _ _ rfl (Below.refl _ _))
      have hop := (Reg.Has.op (p := Op.fieldAddr 38 (.tmp 11) 1) (t := 155) (by show _ = _; kernel_rfl) ho).1
      have q0 : a'.eval (.tmp 11) = gp gx := (hout 11 (Reg.Free.out (by show _ = _; kernel_rfl)))
      generalize a'.eval = ev at q0
      simp [execOp, hop, go_sem, q0]
    | 28, _, ho =>
      refine wp_val (V := .string x.key) (w' := w') ?_ (hK _ _ rfl (Below.refl _ _))
      have hop := (Reg.Has.op (p := Op.load 9 (.tmp 155)) (t := 156) (by show _ = _; kernel_rfl) ho).1
      have q0 : a'.eval (.tmp 155) = .pointer (some ⟨gx, 1, none⟩) := (hdep 27 (mem_of (by show _ = _; kernel_rfl)) 155 (by show _ = _; kernel_rfl))
      have q1 : w'.cell? ⟨gx, 1, none⟩ = some (.string x.key) := (X0.out.next hB).xl.cell (i := 1) rfl
      generalize a'.eval = ev at q0
      simp [execOp, hop, go_sem, q0, q1]
    | 29, _, ho =>
      have q0 : a'.eval (.tmp 154) = gp g := (hdep 26 (mem_of (by show _ = _; kernel_rfl)) 154 (by show _ = _; kernel_rfl))
      have q1 : a'.eval (.tmp 156) = .string x.key := (hdep 28 (mem_of (by show _ = _; kernel_rfl)) 156 (by show _ = _; kernel_rfl))
      refine wp_call (S := fun u w2 => Sl.Own Pn.k w'.heap.size w2 u (S x.key) ∧ Below w'.heap.size w' w2) (Reg.Has.op (p := Op.call { callee := Callee.value (.func 16), args := #[.tmp 154, .tmp 156], argTypes := #[26, 9] }) (t := 157) (by show _ = _; kernel_rfl) ho).1 #[gp g, .string x.key] (by simp [q0, q1]) (fun _ _ => enters Tryz.func16 (by kernel_rfl) rfl _ _) ((gpanes (X0.out.next hB) hN x.key hk).mono (fun e w2 ⟨v, h1, h2, h3⟩ => ⟨v, h1, h2, h3⟩)) ?_
      rintro u w2 ⟨h1, h2⟩
      exact hK _ _ (by rw [hP]; exact Rg.own_any h1 hB.size) h2
    | 30, _, ho => exact Sl.wp_move _ (Reg.Has.op (p := Op.move (.tmp 9)) (t := 158) (by show _ = _; kernel_rfl) ho).1 (hK _ _ (hout 9 (Reg.Free.out (by show _ = _; kernel_rfl))) (Below.refl _ _))
    | 31, _, ho =>
      refine wp_val (V := .pointer (some ⟨gx, 1, none⟩)) (w' := w') ?_ (hK _ _ rfl (Below.refl _ _))
      have hop := (Reg.Has.op (p := Op.fieldAddr 38 (.tmp 11) 1) (t := 159) (by show _ = _; kernel_rfl) ho).1
      have q0 : a'.eval (.tmp 11) = gp gx := (hout 11 (Reg.Free.out (by show _ = _; kernel_rfl)))
      generalize a'.eval = ev at q0
      simp [execOp, hop, go_sem, q0]
    | 32, _, ho =>
      refine wp_val (V := .string x.key) (w' := w') ?_ (hK _ _ rfl (Below.refl _ _))
      have hop := (Reg.Has.op (p := Op.load 9 (.tmp 159)) (t := 160) (by show _ = _; kernel_rfl) ho).1
      have q0 : a'.eval (.tmp 159) = .pointer (some ⟨gx, 1, none⟩) := (hdep 31 (mem_of (by show _ = _; kernel_rfl)) 159 (by show _ = _; kernel_rfl))
      have q1 : w'.cell? ⟨gx, 1, none⟩ = some (.string x.key) := (X0.out.next hB).xl.cell (i := 1) rfl
      generalize a'.eval = ev at q0
      simp [execOp, hop, go_sem, q0, q1]
    | 33, _, ho =>
      have q0 : a'.eval (.tmp 158) = gp gr := (hdep 30 (mem_of (by show _ = _; kernel_rfl)) 158 (by show _ = _; kernel_rfl))
      have q1 : a'.eval (.tmp 160) = .string x.key := (hdep 32 (mem_of (by show _ = _; kernel_rfl)) 160 (by show _ = _; kernel_rfl))
      refine wp_call (S := fun u w2 => Sl.Own Pn.k w'.heap.size w2 u (S x.key) ∧ Below w'.heap.size w' w2) (Reg.Has.op (p := Op.call { callee := Callee.value (.func 17), args := #[.tmp 158, .tmp 160], argTypes := #[33, 9] }) (t := 161) (by show _ = _; kernel_rfl) ho).1 #[gp gr, .string x.key] (by simp [q0, q1]) (fun _ _ => enters Tryz.func17 (by kernel_rfl) rfl _ _) ((rpanes (X0.out.next hB) rp hN x.key).mono (fun e w2 ⟨v, h1, h2, h3⟩ => ⟨v, h1, h2, h3⟩)) ?_
      rintro u w2 ⟨h1, h2⟩
      exact hK _ _ (by rw [hP]; exact Rg.own_any h1 hB.size) h2
    | 34, _, ho =>
      have o1 : Sl.Own Pn.k w4.heap.size w' _ P := (hdep 29 (mem_of (by show _ = _; kernel_rfl)) 157 (by show _ = _; kernel_rfl))
      have o2 : Sl.Own Pn.k w4.heap.size w' _ P := (hdep 33 (mem_of (by show _ = _; kernel_rfl)) 161 (by show _ = _; kernel_rfl))
      obtain ⟨b1, -, i1⟩ := o1.is
      obtain ⟨b2, -, i2⟩ := o2.is
      refine wp_call (S := fun u w2 => u = .bool true ∧ Below w'.heap.size w' w2) (Reg.Has.op (p := Op.call { callee := Callee.value (.func 7), args := #[.tmp 157, .tmp 161], argTypes := #[34, 34] }) (t := 162) (by show _ = _; kernel_rfl) ho).1 #[a'.eval (.tmp 157), a'.eval (.tmp 161)] (by simp) (fun _ _ => enters Tryz.func7 (by kernel_rfl) rfl _ _) ((same_yes _ _ P b1 b2 w' (Lib.hid i1) (Lib.hid i2) hPn).mono (fun e w2 ⟨h1, h2⟩ => ⟨_, h1, rfl, h2⟩)) ?_
      rintro u w2 ⟨rfl, h2⟩
      exact hK _ _ rfl h2
    | 35, _, ho =>
      refine wp_val (V := .bool false) (w' := w') ?_ (hK _ _ rfl (Below.refl _ _))
      have hop := (Reg.Has.op (p := Op.unOp UnOp.not 4 (.tmp 162)) (t := 163) (by show _ = _; kernel_rfl) ho).1
      have q0 : a'.eval (.tmp 162) = .bool true := (hdep 34 (mem_of (by show _ = _; kernel_rfl)) 162 (by show _ = _; kernel_rfl))
      generalize a'.eval = ev at q0
      simp [execOp, hop, go_sem, q0]
    | i + 36, hi, _ => exact absurd hi (by omega)
  · intro f w' hv hB hev
    have e25 : f 25 = .bool false := hv 25 (by omega)
    have e35 : f 35 = .bool false := hv 35 (by omega)
    change wpList _ _ _ [_] (Act.put (Act.put (Act.put (Act.put (Act.put (Act.put (Act.put (Act.put (Act.put (Act.put (Act.put (Act.put (Act.put (Act.put (Act.put (Act.put (Act.put (Act.put (Act.put (Act.put (Act.put (Act.put (Act.put (Act.put (Act.put (Act.put (Act.put (Act.put (Act.put (Act.put (Act.put (Act.put (Act.put (Act.put (Act.put (Act.put _ (some 128) (f 0)) (some 129) (f 1)) (some 130) (f 2)) (some 131) (f 3)) (some 132) (f 4)) (some 133) (f 5)) (some 134) (f 6)) (some 135) (f 7)) (some 136) (f 8)) (some 137) (f 9)) (some 138) (f 10)) (some 139) (f 11)) (some 140) (f 12)) (some 141) (f 13)) (some 142) (f 14)) (some 143) (f 15)) (some 144) (f 16)) (some 145) (f 17)) (some 146) (f 18)) (some 147) (f 19)) (some 148) (f 20)) (some 149) (f 21)) (some 150) (f 22)) (some 151) (f 23)) (some 152) (f 24)) (some 153) (f 25)) (some 154) (f 26)) (some 155) (f 27)) (some 156) (f 28)) (some 157) (f 29)) (some 158) (f 30)) (some 159) (f 31)) (some 160) (f 32)) (some 161) (f 33)) (some 162) (f 34)) (some 163) (f 35)) _
    rw [Rel.puts_zero]
    clear hv hev
    rw [e25, e35]
    have X1 := Lib.hid (X0.out.next hB)
    have KB := Lib.hid hB
    clear hB e25 e35
    generalize f 0 = t0, f 1 = t1, f 2 = t2, f 3 = t3, f 4 = t4, f 5 = t5, f 6 = t6, f 7 = t7, f 8 = t8, f 9 = t9, f 10 = t10, f 11 = t11, f 12 = t12, f 13 = t13, f 14 = t14, f 15 = t15, f 16 = t16, f 17 = t17, f 18 = t18, f 19 = t19, f 20 = t20, f 21 = t21, f 22 = t22, f 23 = t23, f 24 = t24, f 26 = t26, f 27 = t27, f 28 = t28, f 29 = t29, f 30 = t30, f 31 = t31, f 32 = t32, f 33 = t33, f 34 = t34
    go_wp2_with fail

noncomputable def r29 : Code := ((Tryz.f3.body.bind (rgn 29)).getD .skip)
def Z9 (B g gr k bk fk bo fo ck co : Nat) (key : ByteArray) (L : List ByteArray) (P : List Pn) (i : Nat) (u : Value) (w : World) : Prop := match i with
  | 0 => u = .slice (some ⟨bk, fk, none⟩) L.length ck
  | 1 => u = .int .i64 (k : Nat)
  | 2 => u = .pointer (some ⟨bk, fk + k, none⟩)
  | 3 => u = .string key
  | 4 => u = .slice (some ⟨bo, fo, none⟩) L.length co
  | 5 => u = .int .i64 (k : Nat)
  | 6 => u = .pointer (some ⟨bo, fo + k, none⟩)
  | 7 => u = .string key
  | 8 => u = .bool false
  | 9 => u = .bool false
  | 10 => u = gp g
  | 11 => u = .slice (some ⟨bk, fk, none⟩) L.length ck
  | 12 => u = .int .i64 (k : Nat)
  | 13 => u = .pointer (some ⟨bk, fk + k, none⟩)
  | 14 => u = .string key
  | 15 => Sl.Own Pn.k B w u P
  | 16 => u = gp gr
  | 17 => u = .slice (some ⟨bk, fk, none⟩) L.length ck
  | 18 => u = .int .i64 (k : Nat)
  | 19 => u = .pointer (some ⟨bk, fk + k, none⟩)
  | 20 => u = .string key
  | 21 => Sl.Own Pn.k B w u P
  | 22 => u = .bool true
  | 23 => u = .bool false
  | _ => True
theorem Z9.mono (B g gr k bk fk bo fo ck co : Nat) (key : ByteArray) (L : List ByteArray) (P : List Pn) : ∀ i u w w', Z9 B g gr k bk fk bo fo ck co key L P i u w → Below w.heap.size w w' → Z9 B g gr k bk fk bo fo ck co key L P i u w'
  | 0, u, w, w', h, k => h
  | 1, u, w, w', h, k => h
  | 2, u, w, w', h, k => h
  | 3, u, w, w', h, k => h
  | 4, u, w, w', h, k => h
  | 5, u, w, w', h, k => h
  | 6, u, w, w', h, k => h
  | 7, u, w, w', h, k => h
  | 8, u, w, w', h, k => h
  | 9, u, w, w', h, k => h
  | 10, u, w, w', h, k => h
  | 11, u, w, w', h, k => h
  | 12, u, w, w', h, k => h
  | 13, u, w, w', h, k => h
  | 14, u, w, w', h, k => h
  | 15, u, w, w', h, k => Sl.Own.next (K := Pn.k) h k
  | 16, u, w, w', h, k => h
  | 17, u, w, w', h, k => h
  | 18, u, w, w', h, k => h
  | 19, u, w, w', h, k => h
  | 20, u, w, w', h, k => h
  | 21, u, w, w', h, k => Sl.Own.next (K := Pn.k) h k
  | 22, u, w, w', h, k => h
  | 23, u, w, w', h, k => h
  | i + 24, u, w, w', h, k => trivial
set_option maxRecDepth 100000 in
set_option maxHeartbeats 8000000 in
theorem keyArm {w0 w4 : World} {g m tg gr gx N n cnt b k bk fk bo fo ck co : Nat} {cf : C8} {x : Deed} {key : ByteArray} {L : List ByteArray} {S : Lists} {fm : ByteArray → Option Value} {FT Bk : Nat → Prop} {lv : Value} {R P : List Pn} {u0 u1 u2 u3 u4 u5 u7 u8 u10 u11 u12 u13 u14 u15 u19 u20 u21 u22 u23 u24 u25 u26 u27 u28 u29 u30 u31 u32 u33 u34 u35 u36 u37 u38 u39 u40 u41 u42 u43 u44 u45 u46 u47 u48 u49 u50 u51 u52 u53 u54 u55 u56 u57 u58 u59 u60 u61 u62 u63 u64 u65 u66 u67 u68 u69 u70 u71 u72 u73 u74 u75 u76 u77 u78 u79 u80 u81 u82 u83 u84 u85 u86 u87 u88 u89 u90 u91 u92 u93 u94 u95 u96 u97 u98 u99 u100 u101 u102 u103 u104 u105 u106 u107 u108 u109 u110 u111 u112 u113 u114 u115 u116 u117 u118 u119 u120 u121 u122 u123 u124 u125 u126 u127 u128 u129 u130 u131 u132 u133 u134 u135 u136 u137 u138 u139 u140 u141 u142 u143 u144 u145 u146 u147 u148 u149 u150 u151 u152 u153 u154 u155 u156 u157 u158 u159 u160 u161 u162 u163 u164 u165 u166 u167 u168 u169 u170 u171 u172 u173 u174 u175 u176 u177 u178 u179 u180 u181 u182 u183 u184 u185 u186 u187 u188 u189 u190 u191 u192 u193 u194 u195 u196 : Value} {Q : Exit → Act → World → Prop}
    (X0 : Hid (BX w0 w4 g m tg gr gx cf x N S n cnt fm FT Bk lv R b)) (rp : Hid (Rep S R)) (hN : N ≤ 880) (hk : key.size ≤ maxLen) (hP : P = S key) (hPn : P.length ≤ 1000) (hkl : k < L.length)
    (CK : Hid (w4.cell? ⟨bk, fk + k, none⟩ = some (.string key))) (CO : Hid (w4.cell? ⟨bo, fo + k, none⟩ = some (.string key)))
    (hK : ∀ (t171 t172 t173 t174 t175 t176 t177 t178 t179 t180 t181 t182 t183 t184 t185 t186 t187 t188 t189 t190 t191 t192 t193 t194 t195 : Value) (wx : World), (t195 = .bool false ∧ Hid (Below w4.heap.size w4 wx)) → Q .normal ⟨#[u0, u1, u2, u3, u4, u5, (gp g), u7, u8, (.pointer (some ⟨gr, 0, none⟩)), u10, u11, u12, u13, u14, u15, (.slice (some ⟨bk, fk, none⟩) L.length ck), (.slice (some ⟨bo, fo, none⟩) L.length co), (.int .i64 (k : Nat)), u19, u20, u21, u22, u23, u24, u25, u26, u27, u28, u29, u30, u31, u32, u33, u34, u35, u36, u37, u38, u39, u40, u41, u42, u43, u44, u45, u46, u47, u48, u49, u50, u51, u52, u53, u54, u55, u56, u57, u58, u59, u60, u61, u62, u63, u64, u65, u66, u67, u68, u69, u70, u71, u72, u73, u74, u75, u76, u77, u78, u79, u80, u81, u82, u83, u84, u85, u86, u87, u88, u89, u90, u91, u92, u93, u94, u95, u96, u97, u98, u99, u100, u101, u102, u103, u104, u105, u106, u107, u108, u109, u110, u111, u112, u113, u114, u115, u116, u117, u118, u119, u120, u121, u122, u123, u124, u125, u126, u127, u128, u129, u130, u131, u132, u133, u134, u135, u136, u137, u138, u139, u140, u141, u142, u143, u144, u145, u146, u147, u148, u149, u150, u151, u152, u153, u154, u155, u156, u157, u158, u159, u160, u161, u162, u163, u164, u165, u166, u167, u168, u169, u170, t171, t172, t173, t174, t175, t176, t177, t178, t179, t180, t181, t182, t183, t184, t185, t186, t187, t188, t189, t190, t191, t192, t193, t194, t195, u196], []⟩ wx) :
    Code.wp Tryz.prog r29 Q ⟨#[u0, u1, u2, u3, u4, u5, (gp g), u7, u8, (.pointer (some ⟨gr, 0, none⟩)), u10, u11, u12, u13, u14, u15, (.slice (some ⟨bk, fk, none⟩) L.length ck), (.slice (some ⟨bo, fo, none⟩) L.length co), (.int .i64 (k : Nat)), u19, u20, u21, u22, u23, u24, u25, u26, u27, u28, u29, u30, u31, u32, u33, u34, u35, u36, u37, u38, u39, u40, u41, u42, u43, u44, u45, u46, u47, u48, u49, u50, u51, u52, u53, u54, u55, u56, u57, u58, u59, u60, u61, u62, u63, u64, u65, u66, u67, u68, u69, u70, u71, u72, u73, u74, u75, u76, u77, u78, u79, u80, u81, u82, u83, u84, u85, u86, u87, u88, u89, u90, u91, u92, u93, u94, u95, u96, u97, u98, u99, u100, u101, u102, u103, u104, u105, u106, u107, u108, u109, u110, u111, u112, u113, u114, u115, u116, u117, u118, u119, u120, u121, u122, u123, u124, u125, u126, u127, u128, u129, u130, u131, u132, u133, u134, u135, u136, u137, u138, u139, u140, u141, u142, u143, u144, u145, u146, u147, u148, u149, u150, u151, u152, u153, u154, u155, u156, u157, u158, u159, u160, u161, u162, u163, u164, u165, u166, u167, u168, u169, u170, u171, u172, u173, u174, u175, u176, u177, u178, u179, u180, u181, u182, u183, u184, u185, u186, u187, u188, u189, u190, u191, u192, u193, u194, u195, u196], []⟩ w4 := by
  conv => arg 2; whnf
  refine wp_region_when Goes.below 24 197 (Z9 w4.heap.size g gr k bk fk bo fo ck co key L P) (by show _ = _; kernel_rfl) (by show _ = _; kernel_rfl) (by show _ = _; kernel_rfl) (Z9.mono w4.heap.size g gr k bk fk bo fo ck co key L P) ?_ ?_ ?_
  · intro k j b hk hg v w' hv
    obtain ⟨hj, rfl⟩ := RelW.guards_of (js := [9]) (b := false) (by show _ = _; kernel_rfl) hk hg
    simp only [List.mem_cons, List.not_mem_nil, or_false] at hj
    rcases hj with rfl | rfl | rfl <;> exact hv
  · intro i hi o ho a' w' Kc hd hout hdep hB hK
    match i, hi, ho with
    | 0, _, ho => exact Sl.wp_move _ (Reg.Has.op (p := Op.move (.tmp 16)) (t := 171) (by show _ = _; kernel_rfl) ho).1 (hK _ _ (hout 16 (Reg.Free.out (by show _ = _; kernel_rfl))) (Below.refl _ _))
    | 1, _, ho => exact Sl.wp_move _ (Reg.Has.op (p := Op.move (.tmp 18)) (t := 172) (by show _ = _; kernel_rfl) ho).1 (hK _ _ (hout 18 (Reg.Free.out (by show _ = _; kernel_rfl))) (Below.refl _ _))
    | 2, _, ho =>
      have q1 : a'.eval (.tmp 171) = .slice (some ⟨bk, fk, none⟩) L.length ck := (hdep 0 (mem_of (by show _ = _; kernel_rfl)) 171 (by show _ = _; kernel_rfl))
      have hz := Reg.wp_at (Q := Q) (w := w') Tx.ok (l := L) (m := k) (.tmp 171) (.tmp 172) (Reg.Has.op (p := Op.indexAddr 43 (.tmp 171) (.tmp 172)) (t := 173) (by show _ = _; kernel_rfl) ho).1 q1 (hdep 1 (mem_of (by show _ = _; kernel_rfl)) 172 (by show _ = _; kernel_rfl)) hkl (Kc := Kc) (by rw [show k * Tx.k.k = k from Nat.mul_one k]; exact hK _ _ rfl (Below.refl _ _))
      exact hz
    | 3, _, ho =>
      refine wp_val (V := .string key) (w' := w') ?_ (hK _ _ rfl (Below.refl _ _))
      have hop := (Reg.Has.op (p := Op.load 9 (.tmp 173)) (t := 174) (by show _ = _; kernel_rfl) ho).1
      have q0 : a'.eval (.tmp 173) = .pointer (some ⟨bk, fk + k, none⟩) := (hdep 2 (mem_of (by show _ = _; kernel_rfl)) 173 (by show _ = _; kernel_rfl))
      have q1 : w'.cell? ⟨bk, fk + k, none⟩ = some (.string key) := cell_keep hB CK.out
      generalize a'.eval = ev at q0
      simp [execOp, hop, go_sem, q0, q1]
    | 4, _, ho => exact Sl.wp_move _ (Reg.Has.op (p := Op.move (.tmp 17)) (t := 175) (by show _ = _; kernel_rfl) ho).1 (hK _ _ (hout 17 (Reg.Free.out (by show _ = _; kernel_rfl))) (Below.refl _ _))
    | 5, _, ho => exact Sl.wp_move _ (Reg.Has.op (p := Op.move (.tmp 18)) (t := 176) (by show _ = _; kernel_rfl) ho).1 (hK _ _ (hout 18 (Reg.Free.out (by show _ = _; kernel_rfl))) (Below.refl _ _))
    | 6, _, ho =>
      have q1 : a'.eval (.tmp 175) = .slice (some ⟨bo, fo, none⟩) L.length co := (hdep 4 (mem_of (by show _ = _; kernel_rfl)) 175 (by show _ = _; kernel_rfl))
      have hz := Reg.wp_at (Q := Q) (w := w') Tx.ok (l := L) (m := k) (.tmp 175) (.tmp 176) (Reg.Has.op (p := Op.indexAddr 43 (.tmp 175) (.tmp 176)) (t := 177) (by show _ = _; kernel_rfl) ho).1 q1 (hdep 5 (mem_of (by show _ = _; kernel_rfl)) 176 (by show _ = _; kernel_rfl)) hkl (Kc := Kc) (by rw [show k * Tx.k.k = k from Nat.mul_one k]; exact hK _ _ rfl (Below.refl _ _))
      exact hz
    | 7, _, ho =>
      refine wp_val (V := .string key) (w' := w') ?_ (hK _ _ rfl (Below.refl _ _))
      have hop := (Reg.Has.op (p := Op.load 9 (.tmp 177)) (t := 178) (by show _ = _; kernel_rfl) ho).1
      have q0 : a'.eval (.tmp 177) = .pointer (some ⟨bo, fo + k, none⟩) := (hdep 6 (mem_of (by show _ = _; kernel_rfl)) 177 (by show _ = _; kernel_rfl))
      have q1 : w'.cell? ⟨bo, fo + k, none⟩ = some (.string key) := cell_keep hB CO.out
      generalize a'.eval = ev at q0
      simp [execOp, hop, go_sem, q0, q1]
    | 8, _, ho =>
      refine wp_val (V := .bool false) (w' := w') ?_ (hK _ _ rfl (Below.refl _ _))
      have hop := (Reg.Has.op (p := Op.binOp BinOp.neq 9 (.tmp 174) (.tmp 178) 9) (t := 179) (by show _ = _; kernel_rfl) ho).1
      have q0 : a'.eval (.tmp 174) = .string key := (hdep 3 (mem_of (by show _ = _; kernel_rfl)) 174 (by show _ = _; kernel_rfl))
      have q1 : a'.eval (.tmp 178) = .string key := (hdep 7 (mem_of (by show _ = _; kernel_rfl)) 178 (by show _ = _; kernel_rfl))
      generalize a'.eval = ev at q0 q1
      simp [execOp, hop, go_sem, q0, q1]
    | 9, _, ho => exact Sl.wp_move _ (Reg.Has.op (p := Op.move (.tmp 179)) (t := 180) (by show _ = _; kernel_rfl) ho).1 (hK _ _ (hdep 8 (mem_of (by show _ = _; kernel_rfl)) 179 (by show _ = _; kernel_rfl)) (Below.refl _ _))
    | 10, _, ho => exact Sl.wp_move _ (Reg.Has.op (p := Op.move (.tmp 6)) (t := 181) (by show _ = _; kernel_rfl) ho).1 (hK _ _ (hout 6 (Reg.Free.out (by show _ = _; kernel_rfl))) (Below.refl _ _))
    | 11, _, ho => exact Sl.wp_move _ (Reg.Has.op (p := Op.move (.tmp 16)) (t := 182) (by show _ = _; kernel_rfl) ho).1 (hK _ _ (hout 16 (Reg.Free.out (by show _ = _; kernel_rfl))) (Below.refl _ _))
    | 12, _, ho => exact Sl.wp_move _ (Reg.Has.op (p := Op.move (.tmp 18)) (t := 183) (by show _ = _; kernel_rfl) ho).1 (hK _ _ (hout 18 (Reg.Free.out (by show _ = _; kernel_rfl))) (Below.refl _ _))
    | 13, _, ho =>
      have q1 : a'.eval (.tmp 182) = .slice (some ⟨bk, fk, none⟩) L.length ck := (hdep 11 (mem_of (by show _ = _; kernel_rfl)) 182 (by show _ = _; kernel_rfl))
      have hz := Reg.wp_at (Q := Q) (w := w') Tx.ok (l := L) (m := k) (.tmp 182) (.tmp 183) (Reg.Has.op (p := Op.indexAddr 43 (.tmp 182) (.tmp 183)) (t := 184) (by show _ = _; kernel_rfl) ho).1 q1 (hdep 12 (mem_of (by show _ = _; kernel_rfl)) 183 (by show _ = _; kernel_rfl)) hkl (Kc := Kc) (by rw [show k * Tx.k.k = k from Nat.mul_one k]; exact hK _ _ rfl (Below.refl _ _))
      exact hz
    | 14, _, ho =>
      refine wp_val (V := .string key) (w' := w') ?_ (hK _ _ rfl (Below.refl _ _))
      have hop := (Reg.Has.op (p := Op.load 9 (.tmp 184)) (t := 185) (by show _ = _; kernel_rfl) ho).1
      have q0 : a'.eval (.tmp 184) = .pointer (some ⟨bk, fk + k, none⟩) := (hdep 13 (mem_of (by show _ = _; kernel_rfl)) 184 (by show _ = _; kernel_rfl))
      have q1 : w'.cell? ⟨bk, fk + k, none⟩ = some (.string key) := cell_keep hB CK.out
      generalize a'.eval = ev at q0
      simp [execOp, hop, go_sem, q0, q1]
    | 15, _, ho =>
      have q0 : a'.eval (.tmp 181) = gp g := (hdep 10 (mem_of (by show _ = _; kernel_rfl)) 181 (by show _ = _; kernel_rfl))
      have q1 : a'.eval (.tmp 185) = .string key := (hdep 14 (mem_of (by show _ = _; kernel_rfl)) 185 (by show _ = _; kernel_rfl))
      refine wp_call (S := fun u w2 => Sl.Own Pn.k w'.heap.size w2 u (S key) ∧ Below w'.heap.size w' w2) (Reg.Has.op (p := Op.call { callee := Callee.value (.func 16), args := #[.tmp 181, .tmp 185], argTypes := #[26, 9] }) (t := 186) (by show _ = _; kernel_rfl) ho).1 #[gp g, .string key] (by simp [q0, q1]) (fun _ _ => enters Tryz.func16 (by kernel_rfl) rfl _ _) ((gpanes (X0.out.next hB) hN key hk).mono (fun e w2 ⟨v, h1, h2, h3⟩ => ⟨v, h1, h2, h3⟩)) ?_
      rintro u w2 ⟨h1, h2⟩
      exact hK _ _ (by rw [hP]; exact Rg.own_any h1 hB.size) h2
    | 16, _, ho => exact Sl.wp_move _ (Reg.Has.op (p := Op.move (.tmp 9)) (t := 187) (by show _ = _; kernel_rfl) ho).1 (hK _ _ (hout 9 (Reg.Free.out (by show _ = _; kernel_rfl))) (Below.refl _ _))
    | 17, _, ho => exact Sl.wp_move _ (Reg.Has.op (p := Op.move (.tmp 16)) (t := 188) (by show _ = _; kernel_rfl) ho).1 (hK _ _ (hout 16 (Reg.Free.out (by show _ = _; kernel_rfl))) (Below.refl _ _))
    | 18, _, ho => exact Sl.wp_move _ (Reg.Has.op (p := Op.move (.tmp 18)) (t := 189) (by show _ = _; kernel_rfl) ho).1 (hK _ _ (hout 18 (Reg.Free.out (by show _ = _; kernel_rfl))) (Below.refl _ _))
    | 19, _, ho =>
      have q1 : a'.eval (.tmp 188) = .slice (some ⟨bk, fk, none⟩) L.length ck := (hdep 17 (mem_of (by show _ = _; kernel_rfl)) 188 (by show _ = _; kernel_rfl))
      have hz := Reg.wp_at (Q := Q) (w := w') Tx.ok (l := L) (m := k) (.tmp 188) (.tmp 189) (Reg.Has.op (p := Op.indexAddr 43 (.tmp 188) (.tmp 189)) (t := 190) (by show _ = _; kernel_rfl) ho).1 q1 (hdep 18 (mem_of (by show _ = _; kernel_rfl)) 189 (by show _ = _; kernel_rfl)) hkl (Kc := Kc) (by rw [show k * Tx.k.k = k from Nat.mul_one k]; exact hK _ _ rfl (Below.refl _ _))
      exact hz
    | 20, _, ho =>
      refine wp_val (V := .string key) (w' := w') ?_ (hK _ _ rfl (Below.refl _ _))
      have hop := (Reg.Has.op (p := Op.load 9 (.tmp 190)) (t := 191) (by show _ = _; kernel_rfl) ho).1
      have q0 : a'.eval (.tmp 190) = .pointer (some ⟨bk, fk + k, none⟩) := (hdep 19 (mem_of (by show _ = _; kernel_rfl)) 190 (by show _ = _; kernel_rfl))
      have q1 : w'.cell? ⟨bk, fk + k, none⟩ = some (.string key) := cell_keep hB CK.out
      generalize a'.eval = ev at q0
      simp [execOp, hop, go_sem, q0, q1]
    | 21, _, ho =>
      have q0 : a'.eval (.tmp 187) = gp gr := (hdep 16 (mem_of (by show _ = _; kernel_rfl)) 187 (by show _ = _; kernel_rfl))
      have q1 : a'.eval (.tmp 191) = .string key := (hdep 20 (mem_of (by show _ = _; kernel_rfl)) 191 (by show _ = _; kernel_rfl))
      refine wp_call (S := fun u w2 => Sl.Own Pn.k w'.heap.size w2 u (S key) ∧ Below w'.heap.size w' w2) (Reg.Has.op (p := Op.call { callee := Callee.value (.func 17), args := #[.tmp 187, .tmp 191], argTypes := #[33, 9] }) (t := 192) (by show _ = _; kernel_rfl) ho).1 #[gp gr, .string key] (by simp [q0, q1]) (fun _ _ => enters Tryz.func17 (by kernel_rfl) rfl _ _) ((rpanes (X0.out.next hB) rp hN key).mono (fun e w2 ⟨v, h1, h2, h3⟩ => ⟨v, h1, h2, h3⟩)) ?_
      rintro u w2 ⟨h1, h2⟩
      exact hK _ _ (by rw [hP]; exact Rg.own_any h1 hB.size) h2
    | 22, _, ho =>
      have o1 : Sl.Own Pn.k w4.heap.size w' _ P := (hdep 15 (mem_of (by show _ = _; kernel_rfl)) 186 (by show _ = _; kernel_rfl))
      have o2 : Sl.Own Pn.k w4.heap.size w' _ P := (hdep 21 (mem_of (by show _ = _; kernel_rfl)) 192 (by show _ = _; kernel_rfl))
      obtain ⟨b1, -, i1⟩ := o1.is
      obtain ⟨b2, -, i2⟩ := o2.is
      refine wp_call (S := fun u w2 => u = .bool true ∧ Below w'.heap.size w' w2) (Reg.Has.op (p := Op.call { callee := Callee.value (.func 7), args := #[.tmp 186, .tmp 192], argTypes := #[34, 34] }) (t := 193) (by show _ = _; kernel_rfl) ho).1 #[a'.eval (.tmp 186), a'.eval (.tmp 192)] (by simp) (fun _ _ => enters Tryz.func7 (by kernel_rfl) rfl _ _) ((same_yes _ _ P b1 b2 w' (Lib.hid i1) (Lib.hid i2) hPn).mono (fun e w2 ⟨h1, h2⟩ => ⟨_, h1, rfl, h2⟩)) ?_
      rintro u w2 ⟨rfl, h2⟩
      exact hK _ _ rfl h2
    | 23, _, ho =>
      refine wp_val (V := .bool false) (w' := w') ?_ (hK _ _ rfl (Below.refl _ _))
      have hop := (Reg.Has.op (p := Op.unOp UnOp.not 4 (.tmp 193)) (t := 194) (by show _ = _; kernel_rfl) ho).1
      have q0 : a'.eval (.tmp 193) = .bool true := (hdep 22 (mem_of (by show _ = _; kernel_rfl)) 193 (by show _ = _; kernel_rfl))
      generalize a'.eval = ev at q0
      simp [execOp, hop, go_sem, q0]
    | i + 24, hi, _ => exact absurd hi (by omega)
  · intro f w' hv hB hev
    have e9 : f 9 = .bool false := hv 9 (by omega)
    have e23 : f 23 = .bool false := hv 23 (by omega)
    change wpList _ _ _ [_] (Act.put (Act.put (Act.put (Act.put (Act.put (Act.put (Act.put (Act.put (Act.put (Act.put (Act.put (Act.put (Act.put (Act.put (Act.put (Act.put (Act.put (Act.put (Act.put (Act.put (Act.put (Act.put (Act.put (Act.put _ (some 171) (f 0)) (some 172) (f 1)) (some 173) (f 2)) (some 174) (f 3)) (some 175) (f 4)) (some 176) (f 5)) (some 177) (f 6)) (some 178) (f 7)) (some 179) (f 8)) (some 180) (f 9)) (some 181) (f 10)) (some 182) (f 11)) (some 183) (f 12)) (some 184) (f 13)) (some 185) (f 14)) (some 186) (f 15)) (some 187) (f 16)) (some 188) (f 17)) (some 189) (f 18)) (some 190) (f 19)) (some 191) (f 20)) (some 192) (f 21)) (some 193) (f 22)) (some 194) (f 23)) _
    rw [Rel.puts_zero]
    clear hv hev
    rw [e9, e23]
    have X1 := Lib.hid hB
    clear hB e9 e23
    generalize f 0 = t0, f 1 = t1, f 2 = t2, f 3 = t3, f 4 = t4, f 5 = t5, f 6 = t6, f 7 = t7, f 8 = t8, f 10 = t10, f 11 = t11, f 12 = t12, f 13 = t13, f 14 = t14, f 15 = t15, f 16 = t16, f 17 = t17, f 18 = t18, f 19 = t19, f 20 = t20, f 21 = t21, f 22 = t22
    go_wp2_with fail

end Go.Proofs.YtbdocnkpjlpfmaaGreat.groupPlays
