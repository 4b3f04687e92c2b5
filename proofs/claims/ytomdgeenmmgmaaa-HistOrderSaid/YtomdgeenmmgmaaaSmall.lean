/-
  A statement that draws its order, reads, and calls functions that make memory of their own and answer the same in every later world: walked once, in the order of the text.
  Small words, of no package: what lies below stays, ends of walks, numbers in their kinds' ranges, what a wrapped sum comes to.
-/
import Derived.Test.YtomdgeenmmgmaaaRows
import Derived.WalkKit
import Derived.ProofKit
import Derived.Below
import Derived.BigQuiet
import Derived.IntWalk
import Derived.Lib.Hide
namespace Go.Proofs.Ytomdgeenmmgmaaa
open Go.RowKit

/-- a world that comes behind w0: all that lay there lies there as it lay -/
structure Later (w0 : World) where
  w : World
  below : Below w0.heap.size w0 w

instance (w0 : World) : Nonempty (Later w0) := ⟨⟨w0, Below.refl _ _⟩⟩

theorem Below.next {a b c : World} (h : Below a.heap.size a b) (k : Below b.heap.size b c) : Below a.heap.size a c := h.trans (k.mono h.size)
theorem Below.held {w w' : World} (k : Below w.heap.size w w') {a : Addr} {v : Value} (h : w.cell? a = some v) : w'.cell? a = some v := (k.cell (World.block_lt_of_cell? _ _ h)).trans h

theorem Later.cell {w0 : World} {a : Addr} {v : Value} (h : w0.cell? a = some v) : ∀ u : Later w0, u.w.cell? a = some v := fun u => Below.held u.below h

theorem Later.call {w0 : World} {f : FuncId} {vs : Array Value} {v : Value} (u : Later w0) (h : Calls Try.prog f vs u.w fun e w' => e = .returned v ∧ Below u.w.heap.size u.w w') :
    Calls Try.prog f vs u.w fun e w' => e = .returned v ∧ ∃ u' : Later w0, w' = u'.w :=
  h.mono fun _ w' ⟨he, k⟩ => ⟨he, ⟨w', Below.next u.below k⟩, rfl⟩

theorem Later.call_same {w0 : World} {f : FuncId} {vs : Array Value} {v : Value} (u : Later w0) (h : Calls Try.prog f vs u.w fun e w' => e = .returned v ∧ u.w = w') :
    Calls Try.prog f vs u.w fun e w' => e = .returned v ∧ ∃ u' : Later w0, w' = u'.w :=
  h.mono fun _ _ ⟨he, k⟩ => ⟨he, u, k.symm⟩

/-- the region, from w0 on: what follows is asked in every later world -/
theorem wp_region_later {id : Nat} {Q : Exit → Act → World → Prop} {a : Act} {w : World} {l : List Oper} (hm : Try.prog.follows .mixedOrders = true) (hB : Region.lexB .any l.toArray = true)
    (h : wpQuiet Try.prog l.toArray (fun w' => ∃ u : Later w, w' = u.w) (fun a' => ∀ w', (∃ u : Later w, w' = u.w) → Q .normal a' w') l a) : (Code.region id l.toArray true).wp Try.prog Q a w :=
  wp_region_quiet (C := fun w' => ∃ u : Later w, w' = u.w) hm hB ⟨⟨w.drew, (Below.refl _ _).drew⟩, rfl⟩ (by simpa using h)
end Go.Proofs.Ytomdgeenmmgmaaa

namespace Go.Proofs.Ytomdgeenmmgmaaa
open Go.ChangeShapes Go.WideShapes Go.ChangeAt Go.RowKit
namespace Small
set_option linter.unusedVariables false

theorem below1 (w : World) (a : Obj) : Below w.heap.size w (w.alloc a) := (Below.refl _ _).alloc (Nat.le_refl _) _
theorem below2 (w : World) (a b : Obj) : Below w.heap.size w ((w.alloc a).alloc b) := (below1 w a).alloc (by simp) _
theorem below3 (w : World) (a b c : Obj) : Below w.heap.size w (((w.alloc a).alloc b).alloc c) := (below2 w a b).alloc (by simp; omega) _
theorem after {a b c : World} (h : Below a.heap.size a b) (k : Below b.heap.size b c) : Below a.heap.size a c := h.trans (k.mono h.size)
theorem ret_int {a b : Int} (h : a = b) : Ending.returned (.int .i64 a) = .returned (.int .i64 b) := by rw [h]
theorem ret_bool {a b : Bool} (h : a = b) : Ending.returned (.bool a) = .returned (.bool b) := by rw [h]
theorem told {f : Nat} {vs : Array Value} {x : Bool} {w : World} (b : Bool) (h : Calls Try.prog f vs w fun r w' => r = .returned (.bool x) ∧ Below w.heap.size w w') (e : x = b) :
    Calls Try.prog f vs w fun r w' => r = .returned (.bool b) ∧ Below w.heap.size w w' := by rw [← e]; exact h
theorem cell_keep {w w' : World} (k : Below w.heap.size w w') {a : Addr} {v : Value} (h : w.cell? a = some v) : w'.cell? a = some v :=
  (k.cell (World.block_lt_of_cell? _ _ h)).trans h

/-- a number of 64 bits lies in its range -/
theorem fit {a : Int} (h : (Lit.int .i64 a).wf = true) : -9223372036854775808 ≤ a ∧ a ≤ 9223372036854775807 := by
  simp [Lit.wf, IntKind.min, IntKind.max, IntKind.bits, IntKind.signed] at h
  omega

/-- block g holds just these cells, and any of them may be written -/
def Lies (w : World) (g : Nat) (t : TypeId) (cs : List Value) : Prop := w.heap[g]? = some (Obj.cells cs.toArray t (0, 0))
section
variable {w w' : World} {g : Nat} {t : TypeId} {cs : List Value}
theorem Lies.lt (h : Lies w g t cs) : g < w.heap.size := Nat.lt_of_not_le fun k => by
  have : w.heap[g]? = none := Array.getElem?_eq_none k
  rw [Lies, this] at h
  cases h
theorem Lies.cell (h : Lies w g t cs) {i : Nat} {v : Value} (hv : cs[i]? = some v) : w.cell? ⟨g, i, none⟩ = some v := by
  rw [cell_of_row w g i cs.toArray t (0, 0) h]; simpa using hv
theorem Lies.open_ (h : Lies w g t cs) (i : Nat) : w.frozen? ⟨g, i, none⟩ = false := by
  unfold Lies at h
  simp [World.frozen?, h]
theorem Lies.new (w : World) (t : TypeId) (cs : List Value) : Lies (w.alloc (Obj.cells cs.toArray t)) w.heap.size t cs := heap_alloc_new w _
theorem Lies.keep (h : Lies w g t cs) {B : Nat} (k : Below B w w') (hg : g < B) : Lies w' g t cs := (k.block g hg).trans h
theorem Lies.next (h : Lies w g t cs) (k : Below w.heap.size w w') : Lies w' g t cs := h.keep k h.lt
theorem Lies.drew (h : Lies w g t cs) : Lies w.drew g t cs := h
theorem Lies.alloc (h : Lies w g t cs) (o : Obj) : Lies (w.alloc o) g t cs := h.next (below1 w o)
theorem Lies.far (h : Lies w g t cs) {p : Addr} (hp : g ≠ p.block) (u : Value) : Lies (w.setCell p u) g t cs := (Below.heap_setCell w p u g hp).trans h
theorem Lies.put (h : Lies w g t cs) (i : Nat) (u : Value) : Lies (w.setCell ⟨g, i, none⟩ u) g t (cs.set i u) := by
  unfold Lies at h ⊢
  simp [World.setCell, Array.getElem?_modify, h]
/-- the four cells of a block of four, and that they may be written -/
theorem Lies.four {a b c d : Value} (h : Lies w g t [a, b, c, d]) :
    w.cell? ⟨g, 0, none⟩ = some a ∧ w.cell? ⟨g, 1, none⟩ = some b ∧ w.cell? ⟨g, 2, none⟩ = some c ∧ w.cell? ⟨g, 3, none⟩ = some d ∧
      w.frozen? ⟨g, 0, none⟩ = false ∧ w.frozen? ⟨g, 1, none⟩ = false ∧ w.frozen? ⟨g, 2, none⟩ = false ∧ w.frozen? ⟨g, 3, none⟩ = false :=
  ⟨h.cell rfl, h.cell rfl, h.cell rfl, h.cell rfl, h.open_ 0, h.open_ 1, h.open_ 2, h.open_ 3⟩
/-- all four written -/
theorem Lies.put4 {a b c d : Value} (h : Lies w g t [a, b, c, d]) (p q r s : Value) :
    Lies ((((w.setCell ⟨g, 0, none⟩ p).setCell ⟨g, 1, none⟩ q).setCell ⟨g, 2, none⟩ r).setCell ⟨g, 3, none⟩ s) g t [p, q, r, s] := (((h.put 0 p).put 1 q).put 2 r).put 3 s
end
end Small
end Go.Proofs.Ytomdgeenmmgmaaa
