/-
  The head of the statements of layer 4 (the document's example) answers true.
-/
import Derived.Test.YtfblbhncjcicpaaAgg
import Derived.Laws.StructEq
namespace Go.Proofs.Ytfblbhncjcicpaa
open Go.ChangeShapes Go.WideShapes Go.ChangeAt Go.RowKit Small BigFrame
namespace Agg
set_option linter.unusedVariables false

theorem add_now {x : A4} {v c s l u : Int} {w : World} (e : mrg x (one4 v) = ⟨c, s, l, u⟩) : Calls Try.prog 8 #[x.val, .int .i64 v] w fun r w' => r = .returned (agv c s l u) ∧ Below w.heap.size w w' := by
  have := add_ok x v w
  rw [e] at this
  exact this
theorem merge_now {x y : A4} {c s l u : Int} {w : World} (e : mrg x y = ⟨c, s, l, u⟩) : Calls Try.prog 10 #[x.val, y.val] w fun r w' => r = .returned (agv c s l u) ∧ Below w.heap.size w w' := by
  have := merge_ok x y w
  rw [e] at this
  exact this

set_option maxHeartbeats 1000000 in
theorem up_ok (w : World) : Calls Try.prog 5 #[] w fun e w' => e = .returned (.bool true) ∧ Below w.heap.size w w' := by
  go_enter Try.func5, Try.ntmps5
  go_wp2_with fail
  refine (of_ok 5 _).mono ?_
  rintro e w1 ⟨rfl, k1⟩
  go_wp2_with fail
  refine (add_now (x := ⟨1, 5, 5, 5⟩) (v := -2) (c := 2) (s := 3) (l := -2) (u := 5) (by kernel_rfl)).mono ?_
  rintro e w2 ⟨rfl, k2⟩
  go_wp2_with fail
  refine (of_ok 7 _).mono ?_
  rintro e w3 ⟨rfl, k3⟩
  go_wp2_with fail
  refine (merge_now (x := ⟨0, 0, 0, 0⟩) (y := ⟨1, 7, 7, 7⟩) (c := 1) (s := 7) (l := 7) (u := 7) (by kernel_rfl)).mono ?_
  rintro e w4 ⟨rfl, k4⟩
  go_wp2_with fail
  refine (of_ok 7 _).mono ?_
  rintro e w5 ⟨rfl, k5⟩
  go_wp2
  go_ret
  exact ⟨rfl, after k1 (after k2 (after k3 (after k4 k5)))⟩
end Agg
end Go.Proofs.Ytfblbhncjcicpaa
