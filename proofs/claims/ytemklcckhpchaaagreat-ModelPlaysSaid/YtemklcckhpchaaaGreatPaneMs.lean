/-
  pane.Merge: what its loop keeps; how it begins.
-/
import Derived.Test.YtemklcckhpchaaaGreatPanePut
import Derived.Test.YtemklcckhpchaaaGreatPaneDel
namespace Go.Proofs.YtemklcckhpchaaaGreat
open Go.ChangeShapes Go.WideShapes Go.ChangeAt Go.RowKit Small
set_option linter.unusedVariables false
namespace Pane

/-- does a pane's window meet this one -/
abbrev meets (s e : Int) (p : Pn) : Bool := decide (max p.s s < min p.e e)
/-- both, together: the first one's key -/
abbrev join2 (x p : Pn) : Pn := mk x.key (min x.s p.s) (max x.e p.e) (Agg.mrg (ag x) (ag p))
abbrev restOf (s e : Int) (L : List Pn) : List Pn := L.filter fun p => !meets s e p
abbrev metOf (s e : Int) (L : List Pn) : List Pn := L.filter (meets s e)
abbrev wins (L : List Pn) : List (Int × Int) := L.map fun p => (p.s, p.e)
abbrev joined (s e : Int) (x : Pn) (L : List Pn) : Pn := (metOf s e L).foldl join2 x

theorem rest_no {s e : Int} {L : List Pn} {i : Nat} {p : Pn} (h : L[i]? = some p) (hm : meets s e p = false) : restOf s e (L.take (i + 1)) = restOf s e (L.take i) ++ [p] ∧ metOf s e (L.take (i + 1)) = metOf s e (L.take i) := by
  rw [List.take_add_one, h]
  simp only [restOf, metOf, List.filter_append, Option.toList_some, List.filter_cons, List.filter_nil, hm]
  simp
theorem rest_yes {s e : Int} {L : List Pn} {i : Nat} {p : Pn} (h : L[i]? = some p) (hm : meets s e p = true) : restOf s e (L.take (i + 1)) = restOf s e (L.take i) ∧ metOf s e (L.take (i + 1)) = metOf s e (L.take i) ++ [p] := by
  rw [List.take_add_one, h]
  simp only [restOf, metOf, List.filter_append, Option.toList_some, List.filter_cons, List.filter_nil, hm]
  simp
theorem filter_le (f : Pn → Bool) (L : List Pn) (i : Nat) : ((L.take i).filter f).length ≤ L.length :=
  Nat.le_trans (List.length_filter_le _ _) (by rw [List.length_take]; omega)

/-- what lies in memory in the midst of it -/
structure MS (B : World) (g0 g1 g2 : Nat) (s e : Int) (x : Pn) (vr vm : Value) (R : List Pn) (M : List (Int × Int)) (w : World) : Prop where
  below : Below B.heap.size B w
  lo0 : B.heap.size ≤ g0
  lo1 : B.heap.size ≤ g1
  lo2 : B.heap.size ≤ g2
  n01 : g0 ≠ g1
  n12 : g1 ≠ g2
  n02 : g0 ≠ g2
  sp : Lies w g0 72 [.int .i64 s, .int .i64 e]
  res : Lies w g2 72 [.int .i64 0, .int .i64 0]
  one : Lies w g1 76 x.cl
  rest : Sl.Own Pn.k B.heap.size w vr R
  met : Sl.Own Wn.k B.heap.size w vm M
  nr : ∀ a, vr.ownBlock = some a → a ≠ g0 ∧ a ≠ g1 ∧ a ≠ g2 ∧ vm.ownBlock ≠ some a
  nm : ∀ a, vm.ownBlock = some a → a ≠ g0 ∧ a ≠ g1 ∧ a ≠ g2
section
variable {B w w' : World} {g0 g1 g2 : Nat} {s e : Int} {x x' : Pn} {vr vm v' : Value} {R R' : List Pn} {M M' : List (Int × Int)}
theorem MS.next (h : MS B g0 g1 g2 s e x vr vm R M w) (k : Below w.heap.size w w') : MS B g0 g1 g2 s e x vr vm R M w' :=
  ⟨after h.below k, h.lo0, h.lo1, h.lo2, h.n01, h.n12, h.n02, h.sp.next k, h.res.next k, h.one.next k, h.rest.next k, h.met.next k, h.nr, h.nm⟩
theorem lies_grown {t : TypeId} {cs : List Value} {g : Nat} {row : Option Nat} (h : Lies w g t cs) (k : w.grownBy w' row) (hne : some g ≠ row) : Lies w' g t cs := (k.block g h.lt hne).trans h
theorem MS.rested (h : MS B g0 g1 g2 s e x vr vm R M w) (o : Sl.Own Pn.k B.heap.size w' v' R') (k : w.grownBy w' vr.ownBlock) (q : v'.ownBlock = vr.ownBlock ∨ v'.ownBlock = some w.heap.size) : MS B g0 g1 g2 s e x v' vm R' M w' := by
  have ne : ∀ a : Nat, (a = g0 ∨ a = g1 ∨ a = g2 ∨ vm.ownBlock = some a) → some a ≠ vr.ownBlock := fun a ha e => by
    have := h.nr a e.symm
    rcases ha with r | r | r | r
    · exact this.1 r
    · exact this.2.1 r
    · exact this.2.2.1 r
    · exact this.2.2.2 r
  refine ⟨h.below.grown k h.below.size (fun a ha => (h.rest.lt a ha).1), h.lo0, h.lo1, h.lo2, h.n01, h.n12, h.n02, lies_grown h.sp k (ne _ (.inl rfl)), lies_grown h.res k (ne _ (.inr (.inr (.inl rfl)))), lies_grown h.one k (ne _ (.inr (.inl rfl))), o,
    h.met.move fun a ha => k.block a (h.met.lt a ha).2 (ne a (.inr (.inr (.inr ha)))), fun a ha => ?_, h.nm⟩
  rcases q with q | q
  · exact h.nr a (q ▸ ha)
  · rw [q] at ha
    obtain rfl := Option.some.inj ha
    have l0 := h.sp.lt
    have l1 := h.one.lt
    have l2 := h.res.lt
    exact ⟨by omega, by omega, by omega, fun e => by have := (h.met.lt _ e).2; omega⟩
theorem MS.metted (h : MS B g0 g1 g2 s e x vr vm R M w) (o : Sl.Own Wn.k B.heap.size w' v' M') (k : w.grownBy w' vm.ownBlock) (q : v'.ownBlock = vm.ownBlock ∨ v'.ownBlock = some w.heap.size) : MS B g0 g1 g2 s e x vr v' R M' w' := by
  have ne : ∀ a : Nat, (a = g0 ∨ a = g1 ∨ a = g2) → some a ≠ vm.ownBlock := fun a ha e => by
    have := h.nm a e.symm
    rcases ha with r | r | r
    · exact this.1 r
    · exact this.2.1 r
    · exact this.2.2 r
  refine ⟨h.below.grown k h.below.size (fun a ha => (h.met.lt a ha).1), h.lo0, h.lo1, h.lo2, h.n01, h.n12, h.n02, lies_grown h.sp k (ne _ (.inl rfl)), lies_grown h.res k (ne _ (.inr (.inr rfl))), lies_grown h.one k (ne _ (.inr (.inl rfl))),
    h.rest.move fun a ha => k.block a (h.rest.lt a ha).2 (fun e => (h.nr a ha).2.2.2 e.symm), o, fun a ha => ?_, fun a ha => ?_⟩
  · have := h.nr a ha
    refine ⟨this.1, this.2.1, this.2.2.1, fun e => ?_⟩
    rcases q with q | q
    · exact this.2.2.2 (q ▸ e)
    · rw [q] at e
      obtain rfl := Option.some.inj e
      have := (h.rest.lt _ ha).2
      omega
  · rcases q with q | q
    · exact h.nm a (q ▸ ha)
    · rw [q] at ha
      obtain rfl := Option.some.inj ha
      have l0 := h.sp.lt
      have l1 := h.one.lt
      have l2 := h.res.lt
      exact ⟨by omega, by omega, by omega⟩
/-- the one is written -/
theorem MS.oned (h : MS B g0 g1 g2 s e x vr vm R M w) (o : Lies w' g1 76 x'.cl) (k : w.grownBy w' (some g1)) : MS B g0 g1 g2 s e x' vr vm R M w' := by
  have ne : ∀ a : Nat, a ≠ g1 → some a ≠ some g1 := fun a ha e => ha (Option.some.inj e)
  refine ⟨h.below.grown k h.below.size (fun a ha => by obtain rfl := Option.some.inj ha; exact h.lo1), h.lo0, h.lo1, h.lo2, h.n01, h.n12, h.n02, lies_grown h.sp k (ne _ h.n01), lies_grown h.res k (ne _ h.n12.symm), o,
    h.rest.move fun a ha => k.block a (h.rest.lt a ha).2 (ne _ (h.nr a ha).2.1), h.met.move fun a ha => k.block a (h.met.lt a ha).2 (ne _ (h.nm a ha).2.1), h.nr, h.nm⟩
theorem grown_cells {g i : Nat} (u : Value) (h : w.grownBy w' (some g)) : w.grownBy (w'.setCell ⟨g, i, none⟩ u) (some g) :=
  ⟨h.os, h.tape, h.output, by simpa using h.size, fun b hb hne => by rw [Below.heap_setCell _ _ _ _ (show b ≠ g from fun e => hne (by rw [e]))]; exact h.block b hb hne⟩
theorem grown_refl (w : World) (row : Option Nat) : w.grownBy w row := ⟨rfl, rfl, rfl, Nat.le_refl _, fun _ _ _ => rfl⟩
end

end Pane
end Go.Proofs.YtemklcckhpchaaaGreat
