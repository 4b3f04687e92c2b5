/-
  Contract of easelref06.Fine: of each key by rising Ends, and no window twice: then it is true.
-/
import Derived.Test.YtemklcckhpchaaaGreatPaneRef
namespace Go.Proofs.YtemklcckhpchaaaGreat
open Go.ChangeShapes Go.WideShapes Go.ChangeAt Go.RowKit Small
set_option linter.unusedVariables false
namespace Pane

theorem below_drewN (w : World) (n : Nat) : Below w.heap.size w (w.drewN n) := by
  induction n with
  | zero => exact Below.refl _ _
  | succ n ih => exact ih.drew
/-- what Fine asks of two panes, one ahead of the other -/
def FineTwo (p q : Pn) : Prop := p.key = q.key → p.e ≤ q.e ∧ ¬ (p.s = q.s ∧ p.e = q.e)
end Pane
end Go.Proofs.YtemklcckhpchaaaGreat
