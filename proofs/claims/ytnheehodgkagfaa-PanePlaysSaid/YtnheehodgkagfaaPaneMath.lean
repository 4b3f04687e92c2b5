/-
  Lists of panes by rising windows: where a window's place is, and what comes of putting one there, or of cutting it out. Plain mathematics, of no memory.
-/
import Derived.Test.YtnheehodgkagfaaPn
namespace Go.Proofs.Ytnheehodgkagfaa
open Go.ChangeShapes Go.WideShapes Go.ChangeAt Go.RowKit Small
set_option linter.unusedVariables false
namespace Pane

/-- is a pane's window ahead of this one: by Start, then by End -/
abbrev Ah (x : Pn) (s e : Int) : Prop := x.s < s ∨ (x.s = s ∧ x.e < e)
abbrev Eq2 (x : Pn) (s e : Int) : Prop := x.s = s ∧ x.e = e
/-- by rising windows, each once -/
def Rises (L : List Pn) : Prop := L.Pairwise fun p q => Ah p q.s q.e

/-- k panes are ahead of the window -/
structure At (L : List Pn) (s e : Int) (k : Nat) : Prop where
  le : k ≤ L.length
  lo : ∀ i x, i < k → L[i]? = some x → Ah x s e
  hi : ∀ i x, k ≤ i → L[i]? = some x → ¬ Ah x s e

theorem at_some {L : List Pn} {i : Nat} (h : i < L.length) : ∃ x, L[i]? = some x := ⟨L[i], by simp [h]⟩
theorem lt_of_at {L : List Pn} {i : Nat} {x : Pn} (h : L[i]? = some x) : i < L.length := (List.getElem?_eq_some_iff.1 h).1

theorem At.uniq {L : List Pn} {s e : Int} {k k' : Nat} (h : At L s e k) (h' : At L s e k') : k = k' := by
  rcases Nat.lt_trichotomy k k' with q | q | q
  · obtain ⟨x, hx⟩ := at_some (L := L) (i := k) (by have := h'.le; omega)
    exact absurd (h'.lo k x q hx) (h.hi k x (Nat.le_refl _) hx)
  · exact q
  · obtain ⟨x, hx⟩ := at_some (L := L) (i := k') (by have := h.le; omega)
    exact absurd (h.lo k' x q hx) (h'.hi k' x (Nat.le_refl _) hx)

theorem Rises.at {L : List Pn} (h : Rises L) {i j : Nat} {x y : Pn} (hij : i < j) (hx : L[i]? = some x) (hy : L[j]? = some y) : Ah x y.s y.e := by
  obtain ⟨h1, rfl⟩ := List.getElem?_eq_some_iff.1 hx
  obtain ⟨h2, rfl⟩ := List.getElem?_eq_some_iff.1 hy
  exact List.pairwise_iff_getElem.1 h i j h1 h2 hij

theorem At.ex {L : List Pn} (h : Rises L) (s e : Int) : ∃ k, At L s e k := by
  induction L with
  | nil => exact ⟨0, Nat.le_refl _, fun i x q _ => absurd q (by omega), fun i x _ hx => by simp at hx⟩
  | cons p L ih =>
    obtain ⟨h1, h2⟩ := List.pairwise_cons.1 h
    by_cases hp : Ah p s e
    · obtain ⟨k, a⟩ := ih h2
      refine ⟨k + 1, by have := a.le; simp; omega, fun i x q hx => ?_, fun i x q hx => ?_⟩
      · cases i with
        | zero => simp at hx; subst hx; exact hp
        | succ i => exact a.lo i x (by omega) (by simpa using hx)
      · cases i with
        | zero => omega
        | succ i => exact a.hi i x (by omega) (by simpa using hx)
    · refine ⟨0, by simp, fun i x q _ => absurd q (by omega), fun i x q hx => ?_⟩
      cases i with
      | zero => simp at hx; subst hx; exact hp
      | succ i =>
        have hm := h1 x (List.mem_of_getElem? (by simpa using hx))
        simp only [Ah] at hp hm ⊢
        omega

theorem At.found {L : List Pn} (h : Rises L) {s e : Int} {k : Nat} (a : At L s e k) {x : Pn} (hx : x ∈ L) (he : Eq2 x s e) : L[k]? = some x := by
  obtain ⟨i, hi⟩ := List.mem_iff_getElem?.1 hx
  rcases Nat.lt_trichotomy i k with q | q | q
  · have := a.lo i x q hi
    simp only [Ah, Eq2] at this he
    omega
  · subst q; exact hi
  · obtain ⟨y, hy⟩ := at_some (L := L) (i := k) (by have := lt_of_at hi; omega)
    have h1 := h.at q hy hi
    have h2 := a.hi k y (Nat.le_refl _) hy
    simp only [Ah, Eq2] at h1 h2 he
    omega

theorem rises_ins {L : List Pn} (h : Rises L) {p : Pn} {k : Nat} (a : At L p.s p.e k) (hn : ∀ x ∈ L, ¬ Eq2 x p.s p.e) : Rises (L.take k ++ p :: L.drop k) := by
  have ht : ∀ x ∈ L.take k, Ah x p.s p.e := fun x hx => by
    obtain ⟨i, hi⟩ := List.mem_iff_getElem?.1 hx
    rw [List.getElem?_take] at hi
    split at hi
    · exact a.lo i x (by assumption) hi
    · cases hi
  have hd : ∀ x ∈ L.drop k, Ah p x.s x.e := fun x hx => by
    obtain ⟨i, hi⟩ := List.mem_iff_getElem?.1 hx
    rw [List.getElem?_drop] at hi
    have h1 := a.hi _ x (by omega) hi
    have h2 := hn x (List.mem_of_mem_drop hx)
    simp only [Ah, Eq2] at h1 h2 ⊢
    omega
  have hw := h
  rw [← List.take_append_drop k L] at hw
  obtain ⟨w1, w2, w3⟩ := List.pairwise_append.1 hw
  refine List.pairwise_append.2 ⟨w1, List.pairwise_cons.2 ⟨hd, w2⟩, fun x hx y hy => ?_⟩
  rcases List.mem_cons.1 hy with rfl | hy
  · exact ht x hx
  · exact w3 x hx y hy
theorem Rises.sub {L L' : List Pn} (h : Rises L) (k : L'.Sublist L) : Rises L' := List.Pairwise.sublist k h
theorem rises_cut {L : List Pn} (h : Rises L) (k : Nat) : Rises (L.take k ++ L.drop (k + 1)) := by
  refine h.sub ?_
  have e : L = L.take k ++ L.drop k := (List.take_append_drop k L).symm
  have : (L.take k ++ L.drop (k + 1)).Sublist (L.take k ++ L.drop k) := by
    refine List.Sublist.append (List.Sublist.refl _) ?_
    rw [← List.drop_drop]
    exact List.drop_sublist _ _
  rwa [← e] at this
theorem at_cut {L : List Pn} {s e : Int} {k : Nat} (a : At L s e k) (hk : k < L.length) : At (L.take k ++ L.drop (k + 1)) s e k := by
  have hl : (L.take k).length = k := by rw [List.length_take]; omega
  refine ⟨by rw [List.length_append, hl]; omega, fun i x q hx => ?_, fun i x q hx => ?_⟩
  · rw [List.getElem?_append_left (by omega), List.getElem?_take_of_lt q] at hx
    exact a.lo i x q hx
  · rw [List.getElem?_append_right (by omega), hl, List.getElem?_drop] at hx
    exact a.hi _ x (by omega) hx
/-- without those that have this window: it is cut out -/
theorem filter_cut {L : List Pn} (h : Rises L) {s e : Int} {k : Nat} (a : At L s e k) {x : Pn} (hx : L[k]? = some x) (he : Eq2 x s e) (q : Pn → Bool) (hq : ∀ y ∈ L, q y = true ↔ ¬ Eq2 y s e) : L.filter q = L.take k ++ L.drop (k + 1) := by
  have hk := lt_of_at hx
  have e1 : L = L.take k ++ x :: L.drop (k + 1) := by
    obtain ⟨h1, h2⟩ := List.getElem?_eq_some_iff.1 hx
    conv => lhs; rw [← List.take_append_drop k L, List.drop_eq_getElem_cons h1, h2]
  have ht : (L.take k).filter q = L.take k := List.filter_eq_self.2 fun y hy => (hq y (List.mem_of_mem_take hy)).2 fun ey => by
    obtain ⟨i, hi⟩ := List.mem_iff_getElem?.1 hy
    rw [List.getElem?_take] at hi
    split at hi
    · have := a.lo i y (by assumption) hi
      simp only [Ah, Eq2] at this ey
      omega
    · cases hi
  have hd : (L.drop (k + 1)).filter q = L.drop (k + 1) := List.filter_eq_self.2 fun y hy => (hq y (List.mem_of_mem_drop hy)).2 fun ey => by
    obtain ⟨i, hi⟩ := List.mem_iff_getElem?.1 hy
    rw [List.getElem?_drop] at hi
    have := h.at (i := k) (j := k + 1 + i) (by omega) hx hi
    simp only [Ah, Eq2] at this ey he
    omega
  have hqx : q x = false := by
    cases hc : q x
    · rfl
    · exact absurd he ((hq x (List.mem_of_getElem? hx)).1 hc)
  conv => lhs; rw [e1]
  rw [List.filter_append, List.filter_cons, hqx, ht, hd]
  simp
theorem set_cut {L : List Pn} {k : Nat} (hk : k < L.length) (p : Pn) : (L.take k ++ L.drop (k + 1)).take k ++ p :: (L.take k ++ L.drop (k + 1)).drop k = L.set k p := by
  have hl : (L.take k).length = k := by rw [List.length_take]; omega
  rw [List.take_left' hl, List.drop_left' hl]
  exact (List.set_eq_take_append_cons_drop ..).symm ▸ (by simp [hk])
end Pane
end Go.Proofs.Ytnheehodgkagfaa
