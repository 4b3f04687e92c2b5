/-
  Contracts of the document's own answers to layer 1 (package easelref01): wide, plus, minus, fits, Add, Sub, Floor, Down.
-/
import Derived.Test.YtemklcckhpchaaaNum
import Derived.Below
namespace Go.Proofs.Ytemklcckhpchaaa
open Go.ChangeShapes Go.WideShapes Go.ChangeAt Go.RowKit
namespace Ref01
set_option linter.unusedVariables false

/-- an integer of more than 64 bits, as the two numbers that it is held in -/
abbrev big (h l : Int) : Value := .agg #[.int .i64 h, .int .i64 l]

theorem ret_big {h l h' l' : Int} (a : h = h') (b : l = l') : Ending.returned (big h l) = .returned (big h' l') := by rw [a, b]


theorem below4 (w : World) (a b c d : Obj) : Below w.heap.size w ((((w.alloc a).alloc b).alloc c).alloc d) :=
  ((((Below.refl _ _).alloc (Nat.le_refl _) _).alloc (by simp) _).alloc (by simp; omega) _).alloc (by simp; omega) _




theorem below_after {a b c : World} (h : Below a.heap.size a b) (k : Below b.heap.size b c) : Below a.heap.size a c := h.trans (k.mono h.size)



theorem ret_int1 {a b : Int} (h : a = b) : Ending.returned (.int .i64 a) = .returned (.int .i64 b) := by rw [h]


end Ref01
end Go.Proofs.Ytemklcckhpchaaa
