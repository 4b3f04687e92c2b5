/-
  Small words that later texts share: a window and a config as values, what lies below stays, ends of walks.
-/
import Derived.Test.YtjncogjafljbiaaNum
import Derived.Test.YtjncogjafljbiaaSmall
import Derived.Below
namespace Go.Proofs.Ytjncogjafljbiaa
open Go.ChangeShapes Go.WideShapes Go.ChangeAt Go.RowKit
namespace Base
set_option linter.unusedVariables false

/-- a window, as the two numbers that it is held in -/
abbrev win (s e : Int) : Value := .agg #[.int .i64 s, .int .i64 e]
/-- a config: Kind, Size, Slide, Gap, Late, Shards, Groups, Cap -/
abbrev cfg (k s l g z h r c : Int) : Value := .agg #[.int .i64 k, .int .i64 s, .int .i64 l, .int .i64 g, .int .i64 z, .int .i64 h, .int .i64 r, .int .i64 c]

theorem below1 (w : World) (a : Obj) : Below w.heap.size w (w.alloc a) := (Below.refl _ _).alloc (Nat.le_refl _) _
theorem below2 (w : World) (a b : Obj) : Below w.heap.size w ((w.alloc a).alloc b) := (below1 w a).alloc (by simp) _
theorem below3 (w : World) (a b c : Obj) : Below w.heap.size w (((w.alloc a).alloc b).alloc c) := (below2 w a b).alloc (by simp; omega) _
theorem after {a b c : World} (h : Below a.heap.size a b) (k : Below b.heap.size b c) : Below a.heap.size a c := h.trans (k.mono h.size)
theorem ret_win {a b c d : Int} (h : a = c) (k : b = d) : Ending.returned (win a b) = .returned (win c d) := by rw [h, k]
theorem ret_int {a b : Int} (h : a = b) : Ending.returned (.int .i64 a) = .returned (.int .i64 b) := by rw [h]
theorem ret_bool {a b : Bool} (h : a = b) : Ending.returned (.bool a) = .returned (.bool b) := by rw [h]
theorem told {f : Nat} {vs : Array Value} {x : Bool} {w : World} (b : Bool) (h : Calls Try.prog f vs w fun r w' => r = .returned (.bool x) ∧ Below w.heap.size w w') (e : x = b) :
    Calls Try.prog f vs w fun r w' => r = .returned (.bool b) ∧ Below w.heap.size w w' := by rw [← e]; exact h
theorem turned {f : Nat} {vs : Array Value} {v : Value} {w : World} (h : Calls Try.prog f vs w fun e w' => e = .returned v ∧ w = w') : Calls Try.prog f vs w fun e w' => e = .returned v ∧ w' = w :=
  h.mono fun _ _ ⟨a, b⟩ => ⟨a, b.symm⟩
theorem cell_keep {w w' : World} (k : Below w.heap.size w w') {a : Addr} {v : Value} (h : w.cell? a = some v) : w'.cell? a = some v :=
  (k.cell (World.block_lt_of_cell? _ _ h)).trans h

/-- a config's eight cells lie in block g -/
def Cfg (w : World) (g : Nat) (k s l u z h r c : Int) : Prop :=
  w.cell? ⟨g, 0, none⟩ = some (.int .i64 k) ∧ w.cell? ⟨g, 1, none⟩ = some (.int .i64 s) ∧ w.cell? ⟨g, 2, none⟩ = some (.int .i64 l) ∧ w.cell? ⟨g, 3, none⟩ = some (.int .i64 u) ∧
  w.cell? ⟨g, 4, none⟩ = some (.int .i64 z) ∧ w.cell? ⟨g, 5, none⟩ = some (.int .i64 h) ∧ w.cell? ⟨g, 6, none⟩ = some (.int .i64 r) ∧ w.cell? ⟨g, 7, none⟩ = some (.int .i64 c)
theorem Cfg.new (w : World) (k s l u z h r c : Int) : Cfg (w.alloc (Obj.cells #[.int .i64 k, .int .i64 s, .int .i64 l, .int .i64 u, .int .i64 z, .int .i64 h, .int .i64 r, .int .i64 c] 23)) w.heap.size k s l u z h r c := by
  refine ⟨?_, ?_, ?_, ?_, ?_, ?_, ?_, ?_⟩ <;> go_simp
theorem Cfg.next {w w' : World} {g : Nat} {k s l u z h r c : Int} (b : Below w.heap.size w w') (x : Cfg w g k s l u z h r c) : Cfg w' g k s l u z h r c := by
  obtain ⟨h0, h1, h2, h3, h4, h5, h6, h7⟩ := x
  exact ⟨cell_keep b h0, cell_keep b h1, cell_keep b h2, cell_keep b h3, cell_keep b h4, cell_keep b h5, cell_keep b h6, cell_keep b h7⟩
end Base
end Go.Proofs.Ytjncogjafljbiaa
