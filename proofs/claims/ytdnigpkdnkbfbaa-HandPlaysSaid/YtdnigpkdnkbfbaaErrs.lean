/-
  Errors: '==' between two errors of type api.Code is that of their numbers; contracts of easellaw00.Code at nil and at each of api's ten errors.
-/
import Derived.Test.YtdnigpkdnkbfbaaRows
import Derived.WalkKit
import Derived.ProofKit
import Derived.OpenShut
import Derived.IntWalk
import Derived.Lib.Hide
import Derived.LaidEql
import Derived.LoopTactic
namespace Go.Proofs.Ytdnigpkdnkbfbaa
open Go.ChangeShapes Go.WideShapes Go.ChangeAt Go.RowKit
namespace Errs
set_option linter.unusedVariables false

set_option maxRecDepth 100000 in
theorem eql_code_deep (w : World) (d : Nat) (a b : Int) :
    (Op.equalIn (d + 2) 26 (.iface 58 (.int .i64 a)) (.iface 58 (.int .i64 b))).run Try.prog w = .ok (a == b) w := by
  have hc : ∃ i, Try.prog.info? 58 = some i ∧ i.comparable = true := ⟨_, rfl, by kernel_rfl⟩
  obtain ⟨i, hinfo, hcomp⟩ := hc
  simp [Op.equalIn, run_underlying Try.underlying26, run_underlying Try.underlying58, typeInfo, hinfo, hcomp]

/-- '==' between two errors, both of them an api.Code: as their numbers are. -/
theorem eql_code (w : World) (a b : Int) :
    (binOp .eql 26 (.iface 58 (.int .i64 a)) (.iface 58 (.int .i64 b))).run Try.prog w = .ok (.bool (a == b)) w := by
  simp only [binOp]
  simp [Op.equal, Op.maxDepth, eql_code_deep w 9998 a b]

set_option maxHeartbeats 400000 in
theorem code_nil (w : World) : Calls Try.prog 7 #[.nilIface] w fun e w' => e = .returned (.int .i64 0) ∧ w = w' := by
  go_enter Try.func7, Try.ntmps7
  go_wp2
  go_ret
  exact ⟨rfl, rfl⟩

set_option maxHeartbeats 400000 in
theorem code_of (n : Nat) (w : World) (h0 : 1 ≤ n) (h1 : n ≤ 10) :
    Calls Try.prog 7 #[.iface 58 (.int .i64 n)] w fun e w' => e = .returned (.int .i64 n) ∧ w = w' := by
  go_enter Try.func7, Try.ntmps7
  go_wp2
  go_loop [3] (fun i => ∃ k : Nat, 1 ≤ k ∧ k ≤ n ∧ i = .int .i64 k) (fun i => n - (intOf i).toNat)
  case atStart => exact ⟨1, by omega, by omega, rfl⟩
  case round =>
    obtain ⟨k, hk0, hk1, rfl⟩ := hrel
    have q := eql_code w (n : Int) (k : Int)
    by_cases hlt : k < n
    · have hne : ((n : Int) == (k : Int)) = false := by simp; omega
      go_wp2
      go_round
      case rel => exact ⟨k + 1, by omega, by omega, by go_num⟩
      case measure => simp [intOf]; omega
    · have he : k = n := by omega
      subst he
      go_wp2
      go_ret
      exact ⟨rfl, rfl⟩
end Errs
end Go.Proofs.Ytdnigpkdnkbfbaa
