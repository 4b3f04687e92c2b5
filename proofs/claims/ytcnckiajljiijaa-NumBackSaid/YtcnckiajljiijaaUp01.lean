/-
  The head of the statements of layer 1 (the document's example) answers true; two errors that are numbers of api.Code are equal as the numbers are.
-/
import Derived.Test.YtcnckiajljiijaaNum
import Derived.LaidEql
namespace Go.Proofs.Ytcnckiajljiijaa
open Go.ChangeShapes Go.WideShapes Go.ChangeAt Go.RowKit
namespace Num

/-- '==' between two errors, both of them an api.Code: as their numbers are. -/
theorem eql_code_deep (w : World) (d : Nat) (a b : Int) :
    (Op.equalIn (d + 2) 24 (.iface 32 (.int .i64 a)) (.iface 32 (.int .i64 b))).run Try.prog w = .ok (a == b) w := by
  have hc : ∃ i, Try.prog.info? 32 = some i ∧ i.comparable = true := ⟨_, rfl, by kernel_rfl⟩
  obtain ⟨i, hinfo, hcomp⟩ := hc
  simp [Op.equalIn, run_underlying Try.underlying24, run_underlying Try.underlying32, typeInfo, hinfo, hcomp]

theorem eql_code (w : World) (a b : Int) :
    (binOp .eql 24 (.iface 32 (.int .i64 a)) (.iface 32 (.int .i64 b))).run Try.prog w = .ok (.bool (a == b)) w := by
  simp only [binOp]
  simp [Op.equal, Op.maxDepth, eql_code_deep w 9998 a b]

set_option maxHeartbeats 400000 in
theorem up_ok (w : World) : Calls Try.prog 5 #[] w fun e w' => e = .returned (.bool true) ∧ w = w' := by
  have q3 := eql_code w 3 3
  have q1 := eql_code w 1 1
  go_enter Try.func5, Try.ntmps5
  go_wp2_with fail
  refine (floor_ok (-1) 10 _ (by omega) (by omega) (by omega) (by omega)).mono ?_
  rintro e w' ⟨rfl, rfl⟩
  go_wp2_with fail
  refine (down_ok (-1) 10 _ (by omega) (by omega) (by omega) (by omega) (by omega)).mono ?_
  rintro e w' ⟨rfl, rfl⟩
  go_wp2_with fail
  refine (add_bad 9223372036854775807 1 _ (by omega) (by omega) (by omega) (by omega) (by omega)).mono ?_
  rintro e w' ⟨rfl, rfl⟩
  go_wp2_with fail
  refine (floor_arg 1 0 _ (by omega)).mono ?_
  rintro e w' ⟨rfl, rfl⟩
  go_wp2
  go_ret
  exact ⟨rfl, rfl⟩
end Num
end Go.Proofs.Ytcnckiajljiijaa
