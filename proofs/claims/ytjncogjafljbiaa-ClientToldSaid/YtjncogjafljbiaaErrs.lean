/-
  Errors: '==' between two errors of type api.Code is that of their numbers; contracts of easellaw00.Code at nil and at each of api's ten errors.
-/
import Derived.Test.YtjncogjafljbiaaRows
import Derived.WalkKit
import Derived.ProofKit
import Derived.OpenShut
import Derived.IntWalk
import Derived.Lib.Hide
import Derived.LaidEql
import Derived.LoopTactic
namespace Go.Proofs.Ytjncogjafljbiaa
open Go.ChangeShapes Go.WideShapes Go.ChangeAt Go.RowKit
namespace Errs
set_option linter.unusedVariables false

set_option maxRecDepth 100000 in
theorem eql_code_deep (w : World) (d : Nat) (a b : Int) :
    (Op.equalIn (d + 2) 47 (.iface 91 (.int .i64 a)) (.iface 91 (.int .i64 b))).run Try.prog w = .ok (a == b) w := by
  have hc : ∃ i, Try.prog.info? 91 = some i ∧ i.comparable = true := ⟨_, rfl, by kernel_rfl⟩
  obtain ⟨i, hinfo, hcomp⟩ := hc
  simp [Op.equalIn, run_underlying Try.underlying47, run_underlying Try.underlying91, typeInfo, hinfo, hcomp]

/-- '==' between two errors, both of them an api.Code: as their numbers are. -/
theorem eql_code (w : World) (a b : Int) :
    (binOp .eql 47 (.iface 91 (.int .i64 a)) (.iface 91 (.int .i64 b))).run Try.prog w = .ok (.bool (a == b)) w := by
  simp only [binOp]
  simp [Op.equal, Op.maxDepth, eql_code_deep w 9998 a b]


end Errs
end Go.Proofs.Ytjncogjafljbiaa
