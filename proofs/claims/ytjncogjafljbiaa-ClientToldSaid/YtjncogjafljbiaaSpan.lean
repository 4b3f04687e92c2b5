/-
  Contracts of package span (layer 2): May, Has, Meet, Join, Over, Compare, each at any windows and numbers.
-/
import Derived.Test.YtjncogjafljbiaaNum
import Derived.Below
import Derived.StillTailTactics
namespace Go.Proofs.Ytjncogjafljbiaa
open Go.ChangeShapes Go.WideShapes Go.ChangeAt Go.RowKit
namespace Spn
set_option linter.unusedVariables false
set_option maxRecDepth 100000

/-- a window, as the two numbers that it is held in -/
abbrev win (s e : Int) : Value := .agg #[.int .i64 s, .int .i64 e]

theorem below1 (w : World) (a : Obj) : Below w.heap.size w (w.alloc a) := (Below.refl _ _).alloc (Nat.le_refl _) _
theorem below2 (w : World) (a b : Obj) : Below w.heap.size w ((w.alloc a).alloc b) := (below1 w a).alloc (by simp) _
theorem below3 (w : World) (a b c : Obj) : Below w.heap.size w (((w.alloc a).alloc b).alloc c) := (below2 w a b).alloc (by simp; omega) _
theorem after {a b c : World} (h : Below a.heap.size a b) (k : Below b.heap.size b c) : Below a.heap.size a c := h.trans (k.mono h.size)
theorem ret_win {a b c d : Int} (h : a = c) (k : b = d) : Ending.returned (win a b) = .returned (win c d) := by rw [h, k]
theorem ret_int {a b : Int} (h : a = b) : Ending.returned (.int .i64 a) = .returned (.int .i64 b) := by rw [h]
theorem turned {f : Nat} {vs : Array Value} {v : Value} {w : World} (h : Calls Try.prog f vs w fun e w' => e = .returned v ∧ w = w') : Calls Try.prog f vs w fun e w' => e = .returned v ∧ w' = w :=
  h.mono fun _ _ ⟨a, b⟩ => ⟨a, b.symm⟩
theorem ret_bool {a b : Bool} (h : a = b) : Ending.returned (.bool a) = .returned (.bool b) := by rw [h]

set_option maxHeartbeats 400000 in
theorem may_ok (s e : Int) (w : World) :
    Calls Try.prog 73 #[win s e] w fun r w' => r = .returned (.bool (decide (s < e))) ∧ Below w.heap.size w w' := by
  go_enter Try.func73, Try.ntmps73
  go_wp2
  go_ret
  exact ⟨rfl, below1 _ _⟩





/-- how two numbers stand to one another -/
abbrev cmp3 (a b : Int) : Int := if a < b then -1 else if b < a then 1 else 0
/-- how two windows do: by Start, then by End -/
abbrev cmpW (a b c d : Int) : Int := if a < c then -1 else if c < a then 1 else cmp3 b d




end Spn
end Go.Proofs.Ytjncogjafljbiaa
