/-
  The head of the statements of layer 3 (the document's example) answers true.
-/
import Derived.Test.YtjdfjhoephlmnaaAsgOf
import Derived.Test.YtjdfjhoephlmnaaErrs
import Derived.Laws.StructEq
namespace Go.Proofs.Ytjdfjhoephlmnaa
open Go.ChangeShapes Go.WideShapes Go.ChangeAt Go.RowKit
namespace Asg
open Base
set_option linter.unusedVariables false

theorem ex_may : may 1 10 5 0 0 1 1 1 := ⟨.inr (.inl (by decide)), by decide⟩
theorem ex_told : Asg.Told 1 10 5 0 0 (-3) (some (2, -10, 5, 10)) :=
  Told.slidesYes (k := 1) (s := 10) (l := 5) (g := 0) (z := 0) (t := -3) 1 (.inr rfl) (by decide) (by decide) (by decide) (by decide) (by decide)
theorem zero_may : ¬ may 0 0 0 0 0 0 0 0 := fun h => absurd h.2.2.1 (by decide)

theorem two_at {w : World} {g : Nat} {a d l : Int} (h : Wins w g 2 a d l) : w.cell? ⟨g, 0, none⟩ = some (.int .i64 a) ∧ w.cell? ⟨g, 1, none⟩ = some (.int .i64 (a + l)) ∧
    w.cell? ⟨g, 2, none⟩ = some (.int .i64 (a + d)) ∧ w.cell? ⟨g, 3, none⟩ = some (.int .i64 (a + d + l)) := by
  obtain ⟨h0, h1⟩ := h 0 (by omega)
  obtain ⟨h2, h3⟩ := h 1 (by omega)
  simp only [Nat.zero_mul, Nat.one_mul, Nat.zero_add, Int.ofNat_zero, Int.zero_mul, Int.add_zero, Int.ofNat_one, Int.one_mul] at h0 h1 h2 h3
  exact ⟨by simpa using h0, by simpa using h1, by simpa using h2, by simpa using h3⟩

set_option maxHeartbeats 1600000 in
theorem up_ok (w : World) : Calls Try.prog 5 #[] w fun e w' => e = .returned (.bool true) ∧ Below w.heap.size w w' := by
  have OF : Hid (∀ w, Calls Try.prog 6 #[cfg 1 10 5 0 0 1 1 1, .int .i64 (-3)] w (Gives (madeR .nilIface 2 (-10) 5 10) w)) :=
    Lib.hid fun w => of_ok 1 10 5 0 0 1 1 1 (-3) (some (2, -10, 5, 10)) w (by decide) (by decide) (by decide) (by decide) (by decide) (by decide) ex_may ex_told
  have C0 := Lib.hid (Cfg.new w 1 10 5 0 0 1 1 1)
  go_enter Try.func5, Try.ntmps5
  go_wp2_with fail
  refine (OF.out _).mono ?_
  rintro e w1 ⟨_, _, rfl, ⟨g, c, rfl, rfl, W⟩, k1⟩
  have WW := Lib.hid W
  clear W
  have C1 := Lib.hid (C0.out.next k1)
  go_wp2_with fail
  refine (of_config 0 0 0 0 0 0 0 0 0 _ (by decide) (Lib.hid zero_may)).mono ?_
  rintro e w2 ⟨_, _, rfl, ⟨rfl, rfl⟩, k2⟩
  have C2 := Lib.hid (C1.out.next k2)
  obtain ⟨c0, c1, c2, c3, c4, c5, c6, c7⟩ := C2.out
  go_wp2_with fail
  refine (may_ok 1 10 5 0 0 1 1 1 _ true (Lib.hid (by simp [ex_may])) (by decide)).mono ?_
  rintro e w3 ⟨rfl, k3⟩
  obtain ⟨d0, d1, d2, d3⟩ := two_at ((WW.out.next k2).next k3)
  have q := Errs.eql_code w3 2 2
  clear c0 c1 c2 c3 c4 c5 c6 c7
  go_wp2
  go_ret
  exact ⟨rfl, after (after (after (below1 _ _) k1) k2) k3⟩
end Asg
end Go.Proofs.Ytjdfjhoephlmnaa
