/-
  The document's Settle (easelref06): of the panes that are over the least goes out, one behind the other.
-/
import Derived.Test.YtbdocnkpjlpfmaaGreatRgSt
namespace Go.Proofs.YtbdocnkpjlpfmaaGreat
open Go.ChangeShapes Go.WideShapes Go.ChangeAt Go.RowKit
namespace Rg
open Small Foot Pane Grp
set_option linter.unusedVariables false

/-- what goes out of a list, one behind the other: the least of those that are over -/
inductive ROuts (late mark : Int) (R : List Pn) : List Pn → List Pn → Prop
  | none : ROuts late mark R [] R
  | more {O R1 : List Pn} {p : Pn} {k : Nat} (h : ROuts late mark R O R1) (hp : R1[k]? = some p) (ho : p.e + late ≤ mark) (hl : ∀ q, q ∈ R1 → q.e + late ≤ mark → Tmr.le (tmOf p) (tmOf q)) : ROuts late mark R (O ++ [p]) (R1.take k ++ R1.drop (k + 1))
/-- the least of those among the first i that are over -/
def Fo (late mark : Int) (R : List Pn) (i : Nat) (best : Int) : Prop :=
  (best = -1 ∧ ∀ j q, j < i → R[j]? = some q → ¬ q.e + late ≤ mark) ∨ (∃ (k : Nat) (x : Pn), best = k ∧ k < i ∧ R[k]? = some x ∧ x.e + late ≤ mark ∧ ∀ j q, j < i → R[j]? = some q → q.e + late ≤ mark → Tmr.le (tmOf x) (tmOf q))
section
variable {late mark : Int} {R : List Pn} {i : Nat} {best : Int} {y : Pn}
theorem Fo.zero : Fo late mark R 0 (-1) := .inl ⟨rfl, fun j q h => absurd h (by omega)⟩
theorem Fo.not (h : Fo late mark R i best) (hy : R[i]? = some y) (ho : ¬ y.e + late ≤ mark) : Fo late mark R (i + 1) best := by
  have case_ : ∀ {j q}, j < i + 1 → R[j]? = some q → j < i ∨ q = y := fun {j q} hj hq => by
    by_cases e : j = i
    · subst e; rw [hy] at hq; exact .inr (Option.some.inj hq).symm
    · exact .inl (by omega)
  rcases h with ⟨rfl, h⟩ | ⟨k, x, rfl, hk, hx, hox, h⟩
  · refine .inl ⟨rfl, fun j q hj hq => ?_⟩
    rcases case_ hj hq with r | rfl
    · exact h j q r hq
    · exact ho
  · refine .inr ⟨k, x, rfl, by omega, hx, hox, fun j q hj hq hoq => ?_⟩
    rcases case_ hj hq with r | rfl
    · exact h j q r hq hoq
    · exact absurd hoq ho
theorem Fo.first (h : Fo late mark R i (-1)) (hy : R[i]? = some y) (ho : y.e + late ≤ mark) : Fo late mark R (i + 1) i := by
  rcases h with ⟨-, h⟩ | ⟨k, x, e, _⟩
  · refine .inr ⟨i, y, rfl, by omega, hy, ho, fun j q hj hq hoq => ?_⟩
    by_cases e : j = i
    · subst e; rw [hy] at hq; obtain rfl := Option.some.inj hq; exact Tmr.le_refl _
    · exact absurd hoq (h j q (by omega) hq)
  · omega
theorem Fo.less {k : Nat} {x : Pn} (hk : k < i) (hx : R[k]? = some x) (hox : x.e + late ≤ mark) (h : ∀ j q, j < i → R[j]? = some q → q.e + late ≤ mark → Tmr.le (tmOf x) (tmOf q)) (hy : R[i]? = some y) (ho : y.e + late ≤ mark) (hl : Tmr.lt (tmOf y) (tmOf x) = true) : Fo late mark R (i + 1) i := by
  refine .inr ⟨i, y, rfl, by omega, hy, ho, fun j q hj hq hoq => ?_⟩
  by_cases e : j = i
  · subst e; rw [hy] at hq; obtain rfl := Option.some.inj hq; exact Tmr.le_refl _
  · exact Tmr.le_trans (Tmr.le_of_lt hl) (h j q (by omega) hq hoq)
theorem Fo.more {k : Nat} {x : Pn} (hk : k < i) (hx : R[k]? = some x) (hox : x.e + late ≤ mark) (h : ∀ j q, j < i → R[j]? = some q → q.e + late ≤ mark → Tmr.le (tmOf x) (tmOf q)) (hy : R[i]? = some y) (hl : Tmr.lt (tmOf y) (tmOf x) = false) : Fo late mark R (i + 1) k := by
  refine .inr ⟨k, x, rfl, by omega, hx, hox, fun j q hj hq hoq => ?_⟩
  by_cases e : j = i
  · subst e; rw [hy] at hq; obtain rfl := Option.some.inj hq; exact hl
  · exact h j q (by omega) hq hoq
end
def RSettled (w : World) (gr : Nat) (cf : C8) (R : List Pn) (b0 : Nat) (mark : Int) (r : Ending) (w' : World) : Prop :=
  ∃ sv O R1 v b, r = .returned sv ∧ ROuts cf.z mark R O R1 ∧ (∀ q, q ∈ R1 → ¬ q.e + cf.z ≤ mark) ∧ Sl.Own Pn.k w.heap.size w' sv O ∧ Rg w' gr cf v R1 b ∧ w.grownBy w' (some gr) ∧ O.length + R1.length = R.length ∧ (b = b0 ∨ w.heap.size ≤ b)
/-- what is kept in the midst of it -/
structure RS (w : World) (gr : Nat) (cf : C8) (R : List Pn) (b0 : Nat) (mark : Int) (sv : Value) (O R1 : List Pn) (v : Value) (b : Nat) (wr : World) : Prop where
  outs : ROuts cf.z mark R O R1
  out : Sl.Own Pn.k w.heap.size wr sv O
  rg : Rg wr gr cf v R1 b
  grown : w.grownBy wr (some gr)
  len : O.length + R1.length = R.length
  ap : R1 ≠ [] → ∀ a, sv.ownBlock = some a → a ≠ b
  fr : b = b0 ∨ w.heap.size ≤ b
theorem RS.next {w wr w' : World} {gr b b0 : Nat} {cf : C8} {R O R1 : List Pn} {mark : Int} {sv v : Value} (h : RS w gr cf R b0 mark sv O R1 v b wr) (k : Below wr.heap.size wr w') : RS w gr cf R b0 mark sv O R1 v b w' :=
  ⟨h.outs, h.out.next k, h.rg.next k, h.grown.andThen ⟨k.os, k.tape, k.output, k.size, fun i hi _ => k.block i hi⟩ (fun j hj => .inr hj), h.len, h.ap, h.fr⟩
/-- one went out -/
theorem RS.app {w wr w' w4 : World} {gr b b0 : Nat} {cf : C8} {R O R1 L2 : List Pn} {mark : Int} {sv v vo : Value} (Q : RS w gr cf R b0 mark sv O R1 v b wr) (hg : gr < w.heap.size) (ne : R1 ≠ []) (k : Below wr.heap.size wr w') (y1 : Sl.Own Pn.k w.heap.size w4 vo L2) (y2 : w'.grownBy w4 sv.ownBlock) (y3 : vo.ownBlock = sv.ownBlock ∨ vo.ownBlock = some w'.heap.size) :
    Sl.Own Pn.k w.heap.size w4 vo L2 ∧ Rg w4 gr cf v R1 b ∧ w.grownBy w4 (some gr) ∧ (∀ a, vo.ownBlock = some a → a ≠ b) := by
  have R0 := Q.rg.next k
  have hgs : gr < w'.heap.size := R0.lies.lt
  have hb : b < w'.heap.size := is_lt R0.list ne
  have n1 : some gr ≠ sv.ownBlock := fun e => by have := (Q.out.lt gr e.symm).1; omega
  have n2 : some b ≠ sv.ownBlock := fun e => Q.ap ne b e.symm rfl
  have k2 := k.size
  refine ⟨y1, ⟨(y2.block gr hgs n1).trans R0.lies, R0.list.keep (y2.block b hb n2) y2.size, R0.ne⟩, ?_, fun a ha e => ?_⟩
  · have g1 : w.grownBy w' (some gr) := Q.grown.andThen ⟨k.os, k.tape, k.output, k.size, fun i hi _ => k.block i hi⟩ (fun j hj => .inr hj)
    exact g1.andThen y2 fun j hj => .inl (Q.out.lt j hj).1
  · subst e
    rcases y3 with e | e
    · exact n2 (ha.symm.trans e)
    · rw [e] at ha
      have := Option.some.inj ha
      omega
/-- .. and it isn't in the list any more -/
theorem RS.cut {w w4 w5 : World} {gr b b0 k : Nat} {cf : C8} {R O R1 : List Pn} {mark : Int} {sv vo v u : Value} {x : Pn} {wr : World} (Q : RS w gr cf R b0 mark sv O R1 v b wr) (hg : gr < w.heap.size) (hx : R1[k]? = some x) (ho : x.e + cf.z ≤ mark) (hl : ∀ q, q ∈ R1 → q.e + cf.z ≤ mark → Tmr.le (tmOf x) (tmOf q))
    (o : Sl.Own Pn.k w.heap.size w4 vo (O ++ [x])) (r : Rg w4 gr cf v R1 b) (g : w.grownBy w4 (some gr)) (k5 : Below w4.heap.size w4 w5) (p : Sl.Own Pn.k w4.heap.size w5 u (R1.take k ++ R1.drop (k + 1))) :
    ∃ b2, RS w gr cf R b0 mark vo (O ++ [x]) (R1.take k ++ R1.drop (k + 1)) u b2 (w5.setCell ⟨gr, 8, none⟩ u) := by
  have hg4 : gr < w4.heap.size := Nat.lt_of_lt_of_le hg g.size
  obtain ⟨b2, hb2, i2⟩ := p.is
  have hne : b2 ≠ gr := by omega
  have g5 : w.grownBy w5 (some gr) := g.andThen ⟨k5.os, k5.tape, k5.output, k5.size, fun i hi _ => k5.block i hi⟩ (fun j hj => .inr hj)
  refine ⟨b2, .more Q.outs hx ho hl, ?_, ⟨(r.next k5).lies.put 8 u, i2.keep (Below.heap_setCell w5 ⟨gr, 8, none⟩ u b2 hne) (by simp), fun _ => hne⟩, ?_, ?_, fun _ a ha => ?_, .inr (by have := g.size; omega)⟩
  · exact (o.next k5).move fun a ha => Below.heap_setCell w5 ⟨gr, 8, none⟩ u a (fun e => by have := (o.lt a ha).1; simp only at e; omega)
  · exact g5.andThen (set_grown w5 gr 8 u) (fun j hj => .inr hj)
  · have := Q.len
    have := lt_of_at hx
    simp only [List.length_append, List.length_singleton, List.length_take, List.length_drop]
    omega
  · have := (o.lt a ha).2
    omega

set_option maxRecDepth 100000 in
set_option maxHeartbeats 8000000 in
theorem settle_ok (gr : Nat) (cf : C8) (v : Value) (R : List Pn) (b : Nat) (mark : Int) (w : World) (H : Hid (Rg w gr cf v R b)) (hn : R.length ≤ 10000) (fz : Hid ((Lit.int .i64 cf.z).wf = true)) (fk : Hid ((Lit.int .i64 mark).wf = true)) (fe : Hid (∀ p ∈ R, (Lit.int .i64 p.e).wf = true)) :
    Calls Tryz.prog 9 #[gp gr, .int .i64 mark] w (RSettled w gr cf R b mark) := by
  have hgr : gr < w.heap.size := H.out.lies.lt
  go_enter Tryz.func9, Tryz.ntmps9
  go_wp2_with fail
  go_loopw [5] (fun so wr => ∃ O R1 v1 b1, Hid (RS w gr cf R b mark so O R1 v1 b1 wr) ∧ Hid (∀ q ∈ R1, q ∈ R)) (fun so _ => R.length - slen so)
  case atStart => exact ⟨[], R, v, b, Lib.hid ⟨.none, Sl.Own.nil _ _ _, H.out, grown_refl _ _, by simp, fun _ a ha => (by cases ha), .inl rfl⟩, Lib.hid (fun q hq => hq)⟩
  case round =>
    obtain ⟨O, R1, v1, b1, Q, SB⟩ := hrel
    have hlen := Q.out.len
    obtain ⟨bo, -, io⟩ := Q.out.out.is
    obtain ⟨AO, co, hv⟩ := io.len
    subst hv
    clear io
    obtain ⟨AV, cv, hv⟩ := Q.out.rg.list.len
    subst hv
    go_wp2_with fail
    go_loopw [6, 7] (fun sb si wk => ∃ (i : Nat) (best : Int), i ≤ R1.length ∧ si = .int .i64 i ∧ sb = .int .i64 best ∧ Hid (Fo cf.z mark R1 i best) ∧ Hid (Below wr.heap.size wr wk)) (fun _ si _ => R1.length - (intOf si).toNat)
    case atStart => exact ⟨0, -1, Nat.zero_le _, rfl, rfl, Lib.hid Fo.zero, Lib.hid (Below.refl _ _)⟩
    case round =>
      obtain ⟨i, best, hi, rfl, rfl, HF, K⟩ := hrel
      have c8 := cell_keep K.out (Q.out.rg.lies.cell (i := 8) rfl)
      by_cases hlt : i < R1.length
      · obtain ⟨off, cap', he, h2, h3, h4, hcell⟩ := Q.out.rg.list.some_ Pn.ok (by omega)
        obtain ⟨rfl, rfl⟩ : AV = some ⟨b1, off, none⟩ ∧ cv = cap' := by simpa using he
        obtain ⟨y, hy⟩ := at_some hlt
        obtain ⟨c0, c1, c2, c3, c4, c5, c6⟩ := Tmr.pane_cells hy hcell
        have cz := cell_keep K.out (Q.out.rg.lies.cell (i := 4) rfl)
        have c0 := cell_keep K.out c0
        have c1 := cell_keep K.out c1
        have c2 := cell_keep K.out c2
        have c3 := cell_keep K.out c3
        have c4 := cell_keep K.out c4
        have c5 := cell_keep K.out c5
        have c6 := cell_keep K.out c6
        have HC := Lib.hid hcell
        have HY := Lib.hid hy
        have fy := fit (fe.out y (SB.out y (List.mem_of_getElem? hy)))
        have z0 := fit fz.out
        have m0 := fit fk.out
        obtain ⟨ov, hov⟩ : ∃ ov, ov = decide (y.e + cf.z ≤ mark) := ⟨_, rfl⟩
        have OV : Hid (∀ w, Calls Tryz.prog 22 #[win y.s y.e, .int .i64 cf.z, .int .i64 mark] w fun r w' => r = .returned (.bool ov) ∧ Below w.heap.size w w') :=
          Lib.hid fun w => by rw [hov]; exact RefSpan.over_ok y.s y.e cf.z mark w fy.1 fy.2 z0.1 z0.2 m0.1 m0.2
        have i0 : (i : Int) < R1.length := by omega
        clear hcell he h2 h3 h4 hy fy z0 m0
        go_upto_region 6 with fail
        have f8 := Later.cell c8
        have fzc := Later.cell cz
        have f1 := Later.cell c1
        have f2 := Later.cell c2
        refine wp_region_later (by kernel_rfl) (by kernel_rfl) ?_
        repeat (go_big_quiet_step (with_reducible exact Later.call _ (OV.out _)))
        refine wpQuiet_nil ?_
        rintro _ ⟨u, rfl⟩
        have K2 := Lib.hid (after K.out u.below)
        have c8 := f8 u
        have c0 := Later.cell c0 u
        have c1 := f1 u
        have c2 := f2 u
        have c3 := Later.cell c3 u
        have c4 := Later.cell c4 u
        have c5 := Later.cell c5 u
        have c6 := Later.cell c6 u
        clear f8 fzc f1 f2 cz K OV
        generalize u.w = w3 at *
        cases ov
        · have ho : ¬ y.e + cf.z ≤ mark := of_decide_eq_false hov.symm
          have HF2 := Lib.hid (HF.out.not HY.out ho)
          clear hov c0 c1 c2 c3 c4 c5 c6 c8
          go_wp2_with fail
          exact ⟨⟨i + 1, best, by omega, by go_num, rfl, HF2, K2⟩, by simp [intOf]; omega⟩
        · have ho : y.e + cf.z ≤ mark := of_decide_eq_true hov.symm
          clear hov
          rcases HF.out with ⟨rfl, h⟩ | ⟨k, x, rfl, hk, hx, hox, hle⟩
          · have HF2 := Lib.hid (Fo.first HF.out HY.out ho)
            clear c0 c1 c2 c3 c4 c5 c6 c8 h
            go_wp2_with fail
            exact ⟨⟨i + 1, i, by omega, by go_num, rfl, HF2, K2⟩, by simp [intOf]; omega⟩
          · obtain ⟨d0, d1, d2, d3, d4, d5, d6⟩ := Tmr.pane_cells hx HC.out
            have kn : decide ((k : Int) < 0) = false := decide_eq_false (by omega)
            have k0 : (k : Int) < R1.length := by omega
            have HX := Lib.hid hx
            have HLE := Lib.hid hle
            clear hx hle HF
            go_upto_region 10 with fail
            have f8 := Later.cell c8
            have f0 := Later.cell c0
            have f1 := Later.cell c1
            have f2 := Later.cell c2
            have f3 := Later.cell c3
            have f4 := Later.cell c4
            have f5 := Later.cell c5
            have f6 := Later.cell c6
            have g0 := Later.cell (cell_keep K2.out d0)
            have g1 := Later.cell (cell_keep K2.out d1)
            have g2 := Later.cell (cell_keep K2.out d2)
            have g3 := Later.cell (cell_keep K2.out d3)
            have g4 := Later.cell (cell_keep K2.out d4)
            have g5 := Later.cell (cell_keep K2.out d5)
            have g6 := Later.cell (cell_keep K2.out d6)
            clear c0 c1 c2 c3 c4 c5 c6 c8 d0 d1 d2 d3 d4 d5 d6
            refine wp_region_later (by kernel_rfl) (by kernel_rfl) ?_
            repeat (go_big_quiet_step (with_reducible exact Later.call _ (Pn.less_ok y x _)))
            refine wpQuiet_nil ?_
            rintro _ ⟨u, rfl⟩
            have K3 := Lib.hid (after K2.out u.below)
            clear f0 f1 f2 f3 f4 f5 f6 f8 g0 g1 g2 g3 g4 g5 g6 K2
            generalize u.w = w4 at *
            cases hls : Tmr.lt y.tm x.tm
            · have HF2 := Lib.hid (Fo.more hk HX.out hox HLE.out HY.out hls)
              go_wp2_with fail
              exact ⟨⟨i + 1, k, by omega, by go_num, rfl, HF2, K3⟩, by simp [intOf]; omega⟩
            · have HF2 := Lib.hid (Fo.less hk HX.out hox HLE.out HY.out ho hls)
              go_wp2_with fail
              exact ⟨⟨i + 1, i, by omega, by go_num, rfl, HF2, K3⟩, by simp [intOf]; omega⟩
      · obtain rfl : i = R1.length := by omega
        have Q2 := Lib.hid (Q.out.next K.out)
        rcases HF.out with ⟨rfl, h⟩ | ⟨k, x, rfl, hk, hx, hox, hle⟩
        · have HN := Lib.hid h
          clear h Q K
          go_wp2_with fail
          go_ret
          exact ⟨_, O, R1, _, b1, rfl, Q2.out.outs, fun q hq => by
            obtain ⟨j, hj⟩ := List.mem_iff_getElem?.1 hq
            have := HN.out j q (lt_of_at hj) hj
            omega, Q2.out.out, Q2.out.rg, Q2.out.grown, Q2.out.len, Q2.out.fr⟩
        · obtain ⟨off, cap', he, h2, h3, h4, hcell⟩ := Q2.out.rg.list.some_ Pn.ok (by omega)
          obtain ⟨rfl, rfl⟩ : AV = some ⟨b1, off, none⟩ ∧ cv = cap' := by simpa using he
          obtain ⟨d0, d1, d2, d3, d4, d5, d6⟩ := Tmr.pane_cells hx hcell
          have kn : decide ((k : Int) < 0) = false := decide_eq_false (by omega)
          have k0 : (k : Int) < R1.length := by omega
          have HX := Lib.hid hx
          have HLE := Lib.hid hle
          have ne1 : Hid (R1 ≠ []) := Lib.hid fun e => by rw [e] at hk; simp at hk
          have hws := Lib.hid Q2.out.grown.size
          clear hcell he h2 h3 h4 hx hle HF Q K
          go_wp2_with (at_builtin; refine wpList_plain rfl fun K' hK' => Sl.wp_append (K := Pn.k) Pn.ok (.tmp 57) (.tmp 65) rfl (base := w.heap.size) (l := O) (l2 := [x]) (by exact Q2.out.out.next (below1 _ _)) (by exact Sl.Is.one Pn.ok (x := x) (Lies.new _ _ _)) (by simp only [List.length_singleton]; omega) (by have := hws.out; simp; omega) (fun vo w4 y1 y2 y3 => hK' _ _ ?_); have R4 := Lib.hid (Q2.out.app hgr ne1.out (below1 _ _) y1 y2 y3); clear y1 y2 y3; have c8 := R4.out.2.1.lies.cell (i := 8) rfl)
          refine (without_ok _ R1 b1 k _ (Lib.hid R4.out.2.1.list) (by omega) hk).mono ?_
          rintro r w5 ⟨u, rfl, ow, k5⟩
          obtain ⟨b5, -, i5⟩ := ow.is
          obtain ⟨A5, q5, e5⟩ := i5.len
          subst e5
          clear i5
          have hfin := Q2.out.cut hgr HX.out hox (fun q hq ho => by
            obtain ⟨j, hj⟩ := List.mem_iff_getElem?.1 hq
            exact HLE.out j q (lt_of_at hj) hj ho) R4.out.1 R4.out.2.1 R4.out.2.2.1 k5 ow
          obtain ⟨b2, Q5⟩ := hfin
          have Q5 := Lib.hid Q5
          have l5 := (R4.out.2.1.next k5).lies
          have c8 := l5.cell (i := 8) rfl
          have o8 := l5.open_ 8
          clear ow k5 l5
          have hvo : slen vo = O.length + 1 := by
            obtain ⟨b6, -, i6⟩ := R4.out.1.is
            obtain ⟨A6, q6, e6⟩ := i6.len
            rw [e6]
            simp [slen]
          have hle := Q5.out.len
          simp only [List.length_append, List.length_singleton] at hle
          have SB2 : Hid (∀ q ∈ R1.take k ++ R1.drop (k + 1), q ∈ R) := Lib.hid fun q hq => SB.out q (cut_mem hq)
          generalize R1.take k ++ R1.drop (k + 1) = R2 at *
          go_wp2_with fail
          exact ⟨⟨_, _, _, _, Q5, SB2⟩, by rw [hvo]; simp only [slen]; omega⟩
end Rg
end Go.Proofs.YtbdocnkpjlpfmaaGreat
