/-
  Footprints: which blocks a thing in memory is made of; a call may change these, and take new ones, and leaves all others as they are.
-/
import Derived.Test.YtjncogjafljbiaaSmall
namespace Go.Proofs.Ytjncogjafljbiaa
open Go.RowKit
namespace Foot
set_option linter.unusedVariables false

/-- the blocks F may be changed, and are F' from now on; all others that there were stay -/
structure Moves (F F' : Nat → Prop) (w w' : World) : Prop where
  os : w'.os = w.os
  tape : w'.tape = w.tape
  output : w'.output = w.output
  size : w.heap.size ≤ w'.heap.size
  block : ∀ k, k < w.heap.size → ¬ F k → w'.heap[k]? = w.heap[k]?
  new : ∀ k, F' k → (F k ∨ w.heap.size ≤ k) ∧ k < w'.heap.size

/-- no block is of both -/
def Apart (F G : Nat → Prop) : Prop := ∀ k, F k → ¬ G k
theorem Apart.symm {F G : Nat → Prop} (h : Apart F G) : Apart G F := fun k a b => h k b a
/-- none lies ahead of B -/
def From (B : Nat) (F : Nat → Prop) : Prop := ∀ k, F k → B ≤ k
/-- all are there -/
def In (w : World) (F : Nat → Prop) : Prop := ∀ k, F k → k < w.heap.size

section
variable {F F' F'' G : Nat → Prop} {w w' w'' : World} {B : Nat}
theorem Moves.refl (h : In w F) : Moves F F w w := ⟨rfl, rfl, rfl, Nat.le_refl _, fun _ _ _ => rfl, fun k hk => ⟨.inl hk, h k hk⟩⟩
theorem Moves.trans (a : Moves F F' w w') (b : Moves F' F'' w' w'') : Moves F F'' w w'' :=
  ⟨b.os.trans a.os, b.tape.trans a.tape, b.output.trans a.output, Nat.le_trans a.size b.size,
    fun k hk hf => (b.block k (Nat.lt_of_lt_of_le hk a.size) fun h => by rcases (a.new k h).1 with q | q; exact hf q; omega).trans (a.block k hk hf),
    fun k hk => ⟨by have s := a.size; rcases (b.new k hk).1 with q | q; exact (a.new k q).1; exact .inr (by omega), (b.new k hk).2⟩⟩
theorem Moves.of_below (h : Below w.heap.size w w') (hf : In w F) : Moves F F w w' :=
  ⟨h.os, h.tape, h.output, h.size, fun k hk _ => h.block k hk, fun k hk => ⟨.inl hk, Nat.lt_of_lt_of_le (hf k hk) h.size⟩⟩
theorem Moves.below (h : Moves F F' w w') (hf : From B F) (hB : B ≤ w.heap.size) : Below B w w' :=
  ⟨h.os, h.tape, h.output, h.size, fun k hk => h.block k (by omega) fun q => by have := hf k q; omega⟩
theorem Moves.from (h : Moves F F' w w') (hf : From B F) (hB : B ≤ w.heap.size) : From B F' := fun k hk => by
  rcases (h.new k hk).1 with q | q
  · exact hf k q
  · omega
theorem Moves.in (h : Moves F F' w w') : In w' F' := fun k hk => (h.new k hk).2
theorem Moves.apart (h : Moves F F' w w') (a : Apart F G) (hg : In w G) : Apart F' G := fun k hk q => by
  rcases (h.new k hk).1 with f | f
  · exact a k f q
  · have := hg k q; omega
theorem Moves.kept (h : Moves F F' w w') (a : Apart F G) (hg : In w G) : ∀ k, G k → w'.heap[k]? = w.heap[k]? := fun k hk => h.block k (hg k hk) fun f => a k f hk
theorem Moves.lies (h : Moves F F' w w') {g : Nat} {t : TypeId} {cs : List Value} (hf : ¬ F g) (l : Small.Lies w g t cs) : Small.Lies w' g t cs := (h.block g l.lt hf).trans l
theorem Moves.cell (h : Moves F F' w w') (hf : From B F) {a : Addr} {v : Value} (ha : a.block < B) (hB : B ≤ w.heap.size) (hc : w.cell? a = some v) : w'.cell? a = some v := ((h.below hf hB).cell ha).trans hc
theorem In.next (h : In w F) (k : w.heap.size ≤ w'.heap.size) : In w' F := fun i hi => Nat.lt_of_lt_of_le (h i hi) k
end
end Foot
end Go.Proofs.Ytjncogjafljbiaa
