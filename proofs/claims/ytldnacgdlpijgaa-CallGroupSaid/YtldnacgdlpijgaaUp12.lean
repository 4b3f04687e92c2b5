/-
  The head of the statements of layer 12 (the document's example) answers true; whether a reply's panes are few.
-/
import Derived.Test.YtldnacgdlpijgaaCall
namespace Go.Proofs.Ytldnacgdlpijgaa
open Go.ChangeShapes Go.WideShapes Go.ChangeAt Go.RowKit
namespace Ca
open Base
set_option linter.unusedVariables false

abbrev exC : Cf := ⟨0, 10, 0, 0, 0, 2, 4, 1⟩
abbrev exX (op u : Int) : Cl := ⟨op, ⟨#[]⟩, 0, 0, 0, u, 0⟩
theorem exC_may : exC.may := ⟨.inl ⟨rfl, by decide⟩, by decide⟩
theorem exC_fit : exC.Fit := by unfold Cf.Fit; decide
theorem ex_no : ¬ mayC exC (exX 0 0) := fun h => absurd h.2.1.1 (by decide)
theorem ex_yes : mayC exC (exX 7 0) := ⟨exC_may, by decide, fun h => absurd h (by decide), fun h => absurd h (by decide), fun h => absurd h (by decide)⟩
theorem exX_fit (op u : Int) (h : (Lit.int .i64 op).wf = true) (k : (Lit.int .i64 u).wf = true) : (exX op u).Fit := by
  have z : (Lit.int .i64 0).wf = true := by decide
  exact ⟨h, Nat.zero_le _, z, z, z, k, z⟩

set_option maxHeartbeats 1600000 in
theorem up_ok (w : World) : Calls Try.prog 5 #[] w fun e w' => e = .returned (.bool true) ∧ Below w.heap.size w w' := by
  have C0 := Lib.hid (Cfg.new w 0 10 0 0 0 2 4 1)
  have M0 := Lib.hid fun w => may_ok exC (exX 0 0) w false (Lib.hid (by simp [ex_no])) exC_fit (exX_fit 0 0 (by decide) (by decide))
  have M1 := Lib.hid fun w => may_ok exC (exX 7 0) w true (Lib.hid (by simp [ex_yes])) exC_fit (exX_fit 7 0 (by decide) (by decide))
  have K := Lib.hid fun w => keyed_ok (exX 5 0) w
  have G0 := Lib.hid fun w => group_ok exC (exX 6 3) w exC_fit (exX_fit 6 3 (by decide) (by decide))
  have G1 := Lib.hid fun w => group_ok exC (exX 3 0) w exC_fit (exX_fit 3 0 (by decide) (by decide))
  rw [show kd (exX 5 0).op = true from rfl] at K
  rw [show grpOf exC.r (exX 6 3) = 3 from rfl] at G0
  rw [show grpOf exC.r (exX 3 0) = -1 from rfl] at G1
  go_enter Try.func5, Try.ntmps5
  go_wp2_with fail
  refine (M0.out _).mono ?_
  rintro e w1 ⟨rfl, k1⟩
  have C1 := Lib.hid (C0.out.next k1)
  obtain ⟨c0, c1, c2, c3, c4, c5, c6, c7⟩ := C1.out
  go_wp2_with fail
  refine (M1.out _).mono ?_
  rintro e w2 ⟨rfl, k2⟩
  have C2 := Lib.hid (C1.out.next k2)
  clear c0 c1 c2 c3 c4 c5 c6 c7
  obtain ⟨c0, c1, c2, c3, c4, c5, c6, c7⟩ := C2.out
  go_wp2_with fail
  refine (K.out _).mono ?_
  rintro e w3 ⟨rfl, k3⟩
  have C3 := Lib.hid (C2.out.next k3)
  clear c0 c1 c2 c3 c4 c5 c6 c7
  obtain ⟨c0, c1, c2, c3, c4, c5, c6, c7⟩ := C3.out
  go_wp2_with fail
  refine (G0.out _).mono ?_
  rintro e w4 ⟨rfl, k4⟩
  have C4 := Lib.hid (C3.out.next k4)
  clear c0 c1 c2 c3 c4 c5 c6 c7
  obtain ⟨c0, c1, c2, c3, c4, c5, c6, c7⟩ := C4.out
  go_wp2_with fail
  refine (G1.out _).mono ?_
  rintro e w5 ⟨rfl, k5⟩
  go_wp2
  go_ret
  exact ⟨rfl, after (after (after (after (after (below1 _ _) k1) k2) k3) k4) k5⟩

/-- what few tells: a bool, and if it is true, there are at most 30 -/
def Few (L : List Pn) (w : World) (r : Ending) (w' : World) : Prop := ∃ b : Bool, r = .returned (.bool b) ∧ (b = true → L.length ≤ 30) ∧ Below w.heap.size w w'
set_option maxHeartbeats 1600000 in
theorem few_ok (c : Int) (l : Value) (L : List Pn) (w : World) (H : Hid (Out.Rd w l L)) (hL : L.length ≤ maxLen) :
    Calls Try.prog 6 #[rep c l] w (Few L w) := by
  obtain ⟨AD, cap, hl⟩ := H.out.len
  subst hl
  unfold maxLen at hL
  have B1 := Lib.hid (below1 w (Obj.cells #[.int .i64 c, .slice AD L.length cap] 28))
  have T : (w.alloc (Obj.cells #[.int .i64 c, .slice AD L.length cap] 28)).cell? ⟨w.heap.size, 1, none⟩ = some (.slice AD L.length cap) := by go_simp
  have T := Lib.hid T
  go_enter Try.func6, Try.ntmps6
  go_wp2_with fail
  go_loopw [3] (fun si wr => ∃ (i : Nat), i ≤ L.length ∧ i ≤ 30 ∧ si = .int .i64 i ∧ Hid (wr.cell? ⟨w.heap.size, 1, none⟩ = some (.slice AD L.length cap)) ∧ Hid (Below w.heap.size w wr)) (fun si _ => 31 - (intOf si).toNat)
  case atStart => exact ⟨0, by omega, by omega, rfl, T, B1⟩
  case round =>
    obtain ⟨i, hi, hi30, rfl, E, K⟩ := hrel
    have e := E.out
    by_cases hlt : i < L.length
    · have hlt' : (i : Int) < L.length := by omega
      by_cases h30 : i < 30
      · have h30' : (i : Int) < 30 := by omega
        obtain ⟨b, off, cap', he, h2, h3, h4, hcell⟩ := H.out.some_ (by omega)
        obtain ⟨rfl, rfl⟩ : AD = some ⟨b, off, none⟩ ∧ cap = cap' := by simpa using he
        obtain ⟨p, hp⟩ := Out.at_some hlt
        obtain ⟨c0, -⟩ := Out.pane_cells hp hcell
        have c0 := cell_keep K.out c0
        clear hcell hp h2 h3 h4 he
        by_cases hk : (100 : Int) < p.key.size
        · go_wp2
          go_ret
          exact ⟨false, rfl, fun h => (by cases h), K.out⟩
        · go_wp2_with fail
          exact ⟨⟨i + 1, by omega, by omega, by go_num, E, K⟩, by simp [intOf]; omega⟩
      · have h30' : ¬ (i : Int) < 30 := by omega
        go_wp2
        go_ret
        exact ⟨_, rfl, fun h => by have := of_decide_eq_true h; omega, K.out⟩
    · have hlt' : ¬ (i : Int) < L.length := by omega
      go_wp2
      go_ret
      exact ⟨_, rfl, fun h => by omega, K.out⟩
end Ca
end Go.Proofs.Ytldnacgdlpijgaa
