/-
  group's put: a value into a window of a key, where windows don't grow.
-/
import Derived.Test.YtemklcckhpchaaaGreatGrpMem
import Derived.Test.YtemklcckhpchaaaGreatPanePut
import Derived.Test.YtemklcckhpchaaaGreatDrawn
import Derived.Test.YtemklcckhpchaaaGreatPaneMs
import Derived.StillTailTactics
import Derived.Deep.DeepCutAuto
namespace Go.Proofs.YtemklcckhpchaaaGreat
open Go.ChangeShapes Go.WideShapes Go.ChangeAt Go.RowKit
namespace Grp
open Small Foot Pane
set_option linter.unusedVariables false

/-- what the parts of 'g.panes[key] = pane.Put(..)' yield -/
def Mp3 (B gx g m : Nat) (vl : Value) (key : ByteArray) (s e v : Int) (L' : List Pn) (i : Nat) (u : Value) (w : World) : Prop := match i with
  | 0 => u = gp g
  | 1 => u = gp g
  | 2 => u = .pointer (some ⟨g, 8, none⟩)
  | 3 => u = .map (some m)
  | 4 => u = .string key
  | 5 => u = vl
  | 6 => u = .string key
  | 7 => u = win s e
  | 8 => u = .int .i64 v
  | 9 => Sl.Own Pn.k B w u L'
  | _ => True
theorem Mp3.mono (B gx g m : Nat) (vl : Value) (key : ByteArray) (s e v : Int) (L' : List Pn) : ∀ i u w w', Mp3 B gx g m vl key s e v L' i u w → Below w.heap.size w w' → Mp3 B gx g m vl key s e v L' i u w'
  | 0, u, w, w', h, k => h
  | 1, u, w, w', h, k => h
  | 2, u, w, w', h, k => h
  | 3, u, w, w', h, k => h
  | 4, u, w, w', h, k => h
  | 5, u, w, w', h, k => h
  | 6, u, w, w', h, k => h
  | 7, u, w, w', h, k => h
  | 8, u, w, w', h, k => h
  | 9, u, w, w', h, k => Sl.Own.next (K := Pn.k) h k
  | i + 10, u, w, w', h, k => trivial

/-- a group that goes on: with these lists and timers -/
def Goes (w w' : World) (g m tg : Nat) (cf : C8) (S : Lists) (M : Tmr.Tm → Prop) (n cnt : Nat) (FT Bk : Nat → Prop) : Prop :=
  ∃ n' cnt' f' FT' Bk', Gq w' g m tg cf S M n' cnt' f' FT' Bk' ∧ n' ≤ n ∧ cnt' ≤ cnt ∧ Moves (Fp g m FT) (Fp g m FT') w w' ∧ ∀ b, Bk' b → Bk b ∨ (w.heap.size ≤ b ∧ b < w'.heap.size)
set_option maxRecDepth 100000 in
set_option maxHeartbeats 4000000 in
theorem put_plain {g m tg n cnt : Nat} {cf : C8} {S : Lists} {M : Tmr.Tm → Prop} {fm : ByteArray → Option Value} {FT Bk : Nat → Prop} (key : ByteArray) (s e v : Int) (L' : List Pn) (w : World) (H : Hid (Gq w g m tg cf S M n cnt fm FT Bk)) (hk2 : cf.k ≠ 2)
    (hk : key.size ≤ maxLen) (hc : cnt < 1048576) (hn : n < 1048576) (fs : (Lit.int .i64 s).wf = true) (fe : (Lit.int .i64 e).wf = true) (hL : L' ≠ [])
    (PUT : Hid (∀ (l : Value) (b : Nat) (w : World), Hid (Sl.Is Pn.k w l (S key) b) → Calls Tryz.prog 60 #[l, .string key, win s e, .int .i64 v] w fun r w' => ∃ v', r = .returned v' ∧ Sl.Own Pn.k w.heap.size w' v' L' ∧ Below w.heap.size w w')) :
    Calls Tryz.prog 40 #[gp g, .string key, win s e, .int .i64 v] w fun r w' => r = .returned (.tuple #[]) ∧ Grp.Goes w w' g m tg cf (S.set key L') (fun y => y = ⟨key, s, e⟩ ∨ M y) (n + 1) (cnt + 1) FT Bk := by
  have K0 := Lib.hid (below1 w (Obj.cells #[.int .i64 s, .int .i64 e] 72))
  have X0 := Lib.hid (Lies.new w 72 [.int .i64 s, .int .i64 e])
  obtain ⟨vl, b, hv, iv⟩ := H.out.list key
  have I0 := Lib.hid (iv.next K0.out)
  have H0 := Lib.hid (H.out.next K0.out)
  have hl := H0.out.map.look hk
  rw [hv] at hl
  have c0 := H0.out.lies.cell (i := 0) rfl
  have c8 := H0.out.lies.cell (i := 8) rfl
  have q1 : (cf.k == 2) = false := by simpa using hk2
  have q2 : (cf.k != 2) = true := by simpa using hk2
  clear iv hv
  go_enter Tryz.func40, Tryz.ntmps40
  go_upto_region 3 with fail
  obtain ⟨gx, hgx⟩ : ∃ gx, gx = w.heap.size := ⟨_, rfl⟩
  change Hid (Below w.heap.size w (w.alloc (Obj.cells #[.int .i64 s, .int .i64 e] 72))) at K0
  change Hid (Lies (w.alloc (Obj.cells #[.int .i64 s, .int .i64 e] 72)) w.heap.size _ _) at X0
  rw [← hgx] at X0 ⊢
  have HG := Lib.hid hgx
  clear hgx hl c0 c8
  generalize w.alloc (Obj.cells #[.int .i64 s, .int .i64 e] 72) = w0 at *
  refine wp_region_goes Goes.below 10 81 (Mp3 w0.heap.size gx g m vl key s e v L') (by show _ = _; kernel_rfl) (by show _ = _; kernel_rfl) (by show _ = _; kernel_rfl) (Mp3.mono w0.heap.size gx g m vl key s e v L') ?_ ?_
  · intro i hi o ho a' w' Kc hd hout hdep hB hK
    match i, hi, ho with
    | 0, _, ho => exact Sl.wp_move _ (Reg.Has.op (p := Op.move (.tmp 0)) (t := 25) (by show _ = _; kernel_rfl) ho).1 (hK _ _ (hout 0 (Reg.Free.out (by show _ = _; kernel_rfl))) (Below.refl _ _))
    | 1, _, ho =>
      refine wp_val (V := gp g) (w' := w') ?_ (hK _ _ rfl (Below.refl _ _))
      have hop := (Reg.Has.op (p := Op.nilCheck (.tmp 25)) (t := 26) (by show _ = _; kernel_rfl) ho).1
      have h6 : a'.eval (.tmp 25) = gp g := (hdep 0 (mem_of (by show _ = _; kernel_rfl)) 25 (by show _ = _; kernel_rfl))
      generalize a'.eval = ev at h6
      simp [execOp, hop, h6, go_sem]
    | 2, _, ho =>
      refine wp_val (V := .pointer (some ⟨g, 8, none⟩)) (w' := w') ?_ (hK _ _ rfl (Below.refl _ _))
      have hop := (Reg.Has.op (p := Op.fieldAddr 82 (.tmp 26) 1) (t := 27) (by show _ = _; kernel_rfl) ho).1
      have h6 : a'.eval (.tmp 26) = .pointer (some ⟨g, 0, none⟩) := (hdep 1 (mem_of (by show _ = _; kernel_rfl)) 26 (by show _ = _; kernel_rfl))
      generalize a'.eval = ev at h6
      simp [execOp, hop, h6, go_sem]
    | 3, _, ho =>
      refine wp_val (V := .map (some m)) (w' := w') ?_ (hK _ _ rfl (Below.refl _ _))
      have hop := (Reg.Has.op (p := Op.load 78 (.tmp 27)) (t := 28) (by show _ = _; kernel_rfl) ho).1
      have h6 : a'.eval (.tmp 27) = .pointer (some ⟨g, 8, none⟩) := (hdep 2 (mem_of (by show _ = _; kernel_rfl)) 27 (by show _ = _; kernel_rfl))
      have k0 := (H0.out.next hB).lies.cell (i := 8) rfl
      generalize a'.eval = ev at h6
      simp [execOp, hop, h6, go_sem, k0]
    | 4, _, ho => exact Sl.wp_move _ (Reg.Has.op (p := Op.move (.tmp 1)) (t := 29) (by show _ = _; kernel_rfl) ho).1 (hK _ _ (hout 1 (Reg.Free.out (by show _ = _; kernel_rfl))) (Below.refl _ _))
    | 5, _, ho => exact Sl.wp_move _ (Reg.Has.op (p := Op.move (.tmp 8)) (t := 30) (by show _ = _; kernel_rfl) ho).1 (hK _ _ (hout 8 (Reg.Free.out (by show _ = _; kernel_rfl))) (Below.refl _ _))
    | 6, _, ho => exact Sl.wp_move _ (Reg.Has.op (p := Op.move (.tmp 1)) (t := 31) (by show _ = _; kernel_rfl) ho).1 (hK _ _ (hout 1 (Reg.Free.out (by show _ = _; kernel_rfl))) (Below.refl _ _))
    | 7, _, ho =>
      refine wp_val (V := win s e) (w' := w') ?_ (hK _ _ rfl (Below.refl _ _))
      have hop := (Reg.Has.op (p := Op.load 72 (.tmp 6)) (t := 32) (by show _ = _; kernel_rfl) ho).1
      have h6 : a'.eval (.tmp 6) = .pointer (some ⟨gx, 0, none⟩) := (hout 6 (Reg.Free.out (by show _ = _; kernel_rfl)))
      have k1 := (X0.out.next hB).cell (i := 0) rfl
      have k2 := (X0.out.next hB).cell (i := 1) rfl
      generalize a'.eval = ev at h6
      simp [execOp, hop, h6, go_sem, k1, k2]
    | 8, _, ho => exact Sl.wp_move _ (Reg.Has.op (p := Op.move (.tmp 3)) (t := 33) (by show _ = _; kernel_rfl) ho).1 (hK _ _ (hout 3 (Reg.Free.out (by show _ = _; kernel_rfl))) (Below.refl _ _))
    | 9, _, ho =>
      refine wp_call (S := fun x w2 => Sl.Own Pn.k w'.heap.size w2 x L' ∧ Below w'.heap.size w' w2) (Reg.Has.op (p := Op.call { callee := Callee.value (.func 60), args := #[.tmp 30, .tmp 31, .tmp 32, .tmp 33], argTypes := #[37, 9, 72, 2] }) (t := 34) (by show _ = _; kernel_rfl) ho).1 #[vl, .string key, win s e, .int .i64 v] (by simp [show a'.eval (.tmp 30) = _ from (hdep 5 (mem_of (by show _ = _; kernel_rfl)) 30 (by show _ = _; kernel_rfl)), show a'.eval (.tmp 31) = _ from (hdep 6 (mem_of (by show _ = _; kernel_rfl)) 31 (by show _ = _; kernel_rfl)), show a'.eval (.tmp 32) = _ from (hdep 7 (mem_of (by show _ = _; kernel_rfl)) 32 (by show _ = _; kernel_rfl)), show a'.eval (.tmp 33) = _ from (hdep 8 (mem_of (by show _ = _; kernel_rfl)) 33 (by show _ = _; kernel_rfl))]) (fun _ _ => enters Tryz.func60 (by kernel_rfl) rfl _ _) ((PUT.out vl b w' (Lib.hid (I0.out.next hB))).mono (fun _ _ ⟨v', h1, h2⟩ => ⟨v', h1, h2⟩)) ?_
      rintro x w2 ⟨h1, h2⟩
      exact hK _ _ (own_base h1 hB.size) h2
  · intro f w' hv' hB hev
    have e28 : f 3 = .map (some m) := hv' 3 (by omega)
    have e29 : f 4 = .string key := hv' 4 (by omega)
    have o5 : Sl.Own Pn.k w0.heap.size w' (f 9) L' := hv' 9 (by omega)
    have h28 := (hev 3 (by omega) 28 (by show _ = _; kernel_rfl)).trans e28
    have h29 := (hev 4 (by omega) 29 (by show _ = _; kernel_rfl)).trans e29
    have h34 := hev 9 (by omega) 34 (by show _ = _; kernel_rfl)
    clear hv' hev
    change wpList _ _ _ [_] _ _
    have H2 := Lib.hid (H0.out.next hB)
    have K2 := Lib.hid (after K0.out hB)
    have X2 := Lib.hid (X0.out.next hB)
    have O5 := Lib.hid o5
    have IN : Hid (∀ i, Fp g m FT i → i < w.heap.size) := Lib.hid H.out.in
    refine wpList_store rfl _ _ _ rfl (x := key) (m := m) (f 9) h28 h29 h34 H2.out.map hk (by omega) (updOf_ok _ _ _) ?_
    intro w1 M1 G1
    have hcn : (if fm key = none then cnt + 1 else cnt) ≤ cnt + 1 := by split <;> omega
    generalize (if fm key = none then cnt + 1 else cnt) = c1 at *
    have G1 := Lib.hid G1
    have G4 := Lib.hid (grown_over (j := w1.heap.size) K2.out G1.out (grown_refl _ _) (Nat.le_trans K2.out.size G1.out.size))
    obtain ⟨b5, ob5, i5⟩ := O5.out.is
    have nf : ∀ i, Fp g m FT i → b5 ≠ i := fun i hi e => by
      have := IN.out i hi
      have := K0.out.size
      omega
    have nm : some gx ≠ some m := fun e => by
      have := IN.out m (.inr (.inl rfl))
      have := HG.out
      have := Option.some.inj e
      omega
    have I6 := i5.keep (G1.out.block _ (is_lt i5 hL) (fun e => nf m (.inr (.inl rfl)) (Option.some.inj e))) G1.out.size
    have Q4 := Lib.hid (H.out.mapped (Bk' := fun b => Bk b ∨ b = b5) M1 G4.out (updOf_ok _ _ _) (fun b hb => .inl hb) (.inr ⟨hL, _, b5, rfl, I6, nf _ (.inl rfl), nf _ (.inr (.inl rfl)), fun q => nf _ (.inr (.inr q)) rfl, .inr rfl⟩))
    have B6 : Hid (w.heap.size ≤ b5 ∧ b5 < w1.heap.size) := Lib.hid ⟨by have := K0.out.size; omega, is_lt I6 hL⟩
    have X3 := Lib.hid (lies_grown X2.out G1.out nm)
    have V4 := Lib.hid (H.out.moves_map G4.out)
    clear nm nf I6 i5 ob5 M1 G1 G4 o5 O5 X2 H2 H0 I0 e28 e29
    have c9 := Q4.out.lies.cell (i := 9) rfl
    have s0 := X3.out.cell (i := 0) rfl
    have s1 := X3.out.cell (i := 1) rfl
    change wpList _ _ _ [] (Act.put (Act.put (Act.put (Act.put (Act.put (Act.put (Act.put (Act.put (Act.put (Act.put (Act.put _ (some 25) (f 0)) (some 26) (f 1)) (some 27) (f 2)) (some 28) (f 3)) (some 29) (f 4)) (some 30) (f 5)) (some 31) (f 6)) (some 32) (f 7)) (some 33) (f 8)) (some 34) (f 9)) none _) _
    rw [Rel.puts_zero]
    rw [put_none]
    clear h28 h29 h34
    go_upto_region 4 with fail
    go_still_tail 7, (by kernel_rfl)
    change wpList _ _ _ _ _ w1.drew
    have Q5 := Lib.hid (Q4.out.next (w' := w1.drew) (Below.refl _ _).drew)
    have V5 := Lib.hid (V4.out.trans (Moves.of_below (w' := w1.drew) (Below.refl _ _).drew Q4.out.in))
    clear Q4 V4 X3 c9 s0 s1
    have hW1 : w1.heap.size ≤ w1.drew.heap.size := Nat.le_refl _
    generalize w1.drew = W at *
    go_wp2_with fail
    refine (Tmr.put_foot W ⟨key, s, e⟩ (Lib.hid Q5.out.ts) (Lib.hid ⟨hk, fs, fe⟩) hn).mono ?_
    rintro r w2 ⟨b', n', F', rfl, -, hn', T2, V2⟩
    have G6 := Lib.hid (Q5.out.timed T2 V2)
    have V6 := Lib.hid (V5.out.trans (Q5.out.moves_ts V2))
    have hn6 : n' ≤ n + 1 := by rw [hn']; split <;> omega
    have hW2 := V2.size
    clear T2 V2 hn' Q5 V5
    dsimp only
    go_wp2
    exact bodyPost_ret (v := .tuple #[]) (by simp [results, Tryz.results40, go_sem]) rfl ⟨rfl, n', _, _, F', _, G6.out, hn6, hcn, V6.out, fun b hb => hb.imp id (fun e => by rw [e]; exact ⟨B6.out.1, Nat.lt_of_lt_of_le B6.out.2 (Nat.le_trans hW1 hW2)⟩)⟩
end Grp
end Go.Proofs.YtemklcckhpchaaaGreat
