/-
  The head of the statements of layer 5 (the document's example) answers true.
-/
import Derived.Test.YtnkhijhncnilhaaFnv
namespace Go.Proofs.Ytnkhijhncnilhaa
open Go.ChangeShapes Go.WideShapes Go.ChangeAt Go.RowKit Small BigFrame
namespace Fnv
set_option linter.unusedVariables false

theorem sum_none (w : World) : Calls Try.prog 7 #[.string ⟨#[]⟩] w fun r w' => r = .returned (.int .u32 2166136261) ∧ Below w.heap.size w w' := sum_ok ⟨#[]⟩ w (by decide)
theorem num_a : num [97] = 3826002220 := by decide +kernel
theorem sum_a (w : World) : Calls Try.prog 7 #[.string ⟨#[97]⟩] w fun r w' => r = .returned (.int .u32 3826002220) ∧ Below w.heap.size w w' := by
  have h := sum_ok ⟨#[97]⟩ w (by decide)
  rw [show (ByteArray.mk #[97]).data.toList = [97] from rfl, num_a] at h
  exact h
theorem group_a (w : World) : Calls Try.prog 9 #[.string ⟨#[97]⟩, .int .i64 0] w fun r w' => r = .returned (.int .i64 0) ∧ Below w.heap.size w w' := group_ok ⟨#[97]⟩ 0 w (by decide) (by decide) (by decide)

set_option maxHeartbeats 1000000 in
theorem up_ok (w : World) : Calls Try.prog 5 #[] w fun e w' => e = .returned (.bool true) ∧ Below w.heap.size w w' := by
  go_enter Try.func5, Try.ntmps5
  go_wp2_with fail
  refine (sum_none _).mono ?_
  rintro e w1 ⟨rfl, k1⟩
  go_wp2_with fail
  refine (sum_a _).mono ?_
  rintro e w2 ⟨rfl, k2⟩
  go_wp2_with fail
  refine (told true (may_ok ⟨#[97]⟩ _ (by decide)) (by decide)).mono ?_
  rintro e w3 ⟨rfl, k3⟩
  go_wp2_with fail
  refine (told false (may_ok ⟨#[]⟩ _ (by decide)) (by decide)).mono ?_
  rintro e w4 ⟨rfl, k4⟩
  go_wp2_with fail
  refine (group_a _).mono ?_
  rintro e w5 ⟨rfl, k5⟩
  go_wp2
  go_ret
  exact ⟨rfl, after k1 (after k2 (after k3 (after k4 k5)))⟩
end Fnv
end Go.Proofs.Ytnkhijhncnilhaa
