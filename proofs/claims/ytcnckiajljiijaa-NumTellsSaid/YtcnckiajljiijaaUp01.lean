/-
  The head of the statements of layer 1 (the document's example) answers true.
-/
import Derived.Test.YtcnckiajljiijaaNum
import Derived.Test.YtcnckiajljiijaaErrs
namespace Go.Proofs.Ytcnckiajljiijaa
open Go.ChangeShapes Go.WideShapes Go.ChangeAt Go.RowKit
namespace Num

set_option maxHeartbeats 400000 in
theorem up_ok (w : World) : Calls Try.prog 5 #[] w fun e w' => e = .returned (.bool true) ∧ w = w' := by
  have q3 := Errs.eql_code w 3 3
  have q1 := Errs.eql_code w 1 1
  go_enter Try.func5, Try.ntmps5
  go_wp2_with fail
  refine (floor_ok (-1) 10 _ (by omega) (by omega) (by omega) (by omega)).mono ?_
  rintro e w' ⟨rfl, rfl⟩
  go_wp2_with fail
  refine (down_ok (-1) 10 _ (by omega) (by omega) (by omega) (by omega) (by omega)).mono ?_
  rintro e w' ⟨rfl, rfl⟩
  go_wp2_with fail
  refine (add_bad 9223372036854775807 1 _ (by omega) (by omega) (by omega) (by omega) (by omega)).mono ?_
  rintro e w' ⟨rfl, rfl⟩
  go_wp2_with fail
  refine (floor_arg 1 0 _ (by omega)).mono ?_
  rintro e w' ⟨rfl, rfl⟩
  go_wp2
  go_ret
  exact ⟨rfl, rfl⟩
end Num
end Go.Proofs.Ytcnckiajljiijaa
