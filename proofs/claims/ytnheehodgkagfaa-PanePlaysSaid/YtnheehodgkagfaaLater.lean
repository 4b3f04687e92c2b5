/-
  A statement that draws its order, reads, and calls functions that make memory of their own and answer the same in every later world: walked once, in the order of the text.
-/
import Derived.Test.YtnheehodgkagfaaRows
import Derived.WalkKit
import Derived.ProofKit
import Derived.Below
import Derived.BigQuiet
namespace Go.Proofs.Ytnheehodgkagfaa
open Go.RowKit

/-- a world that comes behind w0: all that lay there lies there as it lay -/
structure Later (w0 : World) where
  w : World
  below : Below w0.heap.size w0 w

instance (w0 : World) : Nonempty (Later w0) := ⟨⟨w0, Below.refl _ _⟩⟩

theorem Below.next {a b c : World} (h : Below a.heap.size a b) (k : Below b.heap.size b c) : Below a.heap.size a c := h.trans (k.mono h.size)
theorem Below.held {w w' : World} (k : Below w.heap.size w w') {a : Addr} {v : Value} (h : w.cell? a = some v) : w'.cell? a = some v := (k.cell (World.block_lt_of_cell? _ _ h)).trans h

theorem Later.cell {w0 : World} {a : Addr} {v : Value} (h : w0.cell? a = some v) : ∀ u : Later w0, u.w.cell? a = some v := fun u => Below.held u.below h

theorem Later.call {w0 : World} {f : FuncId} {vs : Array Value} {v : Value} (u : Later w0) (h : Calls Try.prog f vs u.w fun e w' => e = .returned v ∧ Below u.w.heap.size u.w w') :
    Calls Try.prog f vs u.w fun e w' => e = .returned v ∧ ∃ u' : Later w0, w' = u'.w :=
  h.mono fun _ w' ⟨he, k⟩ => ⟨he, ⟨w', Below.next u.below k⟩, rfl⟩

theorem Later.call_same {w0 : World} {f : FuncId} {vs : Array Value} {v : Value} (u : Later w0) (h : Calls Try.prog f vs u.w fun e w' => e = .returned v ∧ u.w = w') :
    Calls Try.prog f vs u.w fun e w' => e = .returned v ∧ ∃ u' : Later w0, w' = u'.w :=
  h.mono fun _ _ ⟨he, k⟩ => ⟨he, u, k.symm⟩

/-- the region, from w0 on: what follows is asked in every later world -/
theorem wp_region_later {id : Nat} {Q : Exit → Act → World → Prop} {a : Act} {w : World} {l : List Oper} (hm : Try.prog.follows .mixedOrders = true) (hB : Region.lexB .any l.toArray = true)
    (h : wpQuiet Try.prog l.toArray (fun w' => ∃ u : Later w, w' = u.w) (fun a' => ∀ w', (∃ u : Later w, w' = u.w) → Q .normal a' w') l a) : (Code.region id l.toArray true).wp Try.prog Q a w :=
  wp_region_quiet (C := fun w' => ∃ u : Later w, w' = u.w) hm hB ⟨⟨w.drew, (Below.refl _ _).drew⟩, rfl⟩ (by simpa using h)
end Go.Proofs.Ytnheehodgkagfaa
