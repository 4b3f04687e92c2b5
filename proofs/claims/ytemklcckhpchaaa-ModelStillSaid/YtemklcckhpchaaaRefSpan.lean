/-
  Contracts of the document's own answers to layer 2 (package easelref01): above, Over, Compare, Meet, Join.
-/
import Derived.Test.YtemklcckhpchaaaRef01
import Derived.Test.YtemklcckhpchaaaSpan
import Derived.Laws.StructEq
namespace Go.Proofs.Ytemklcckhpchaaa
open Go.ChangeShapes Go.WideShapes Go.ChangeAt Go.RowKit
namespace RefSpan
open Ref01 Spn
set_option linter.unusedVariables false





end RefSpan
end Go.Proofs.Ytemklcckhpchaaa
