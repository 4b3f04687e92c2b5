/-
  Contracts of the layer-7 statements' own helpers: easelref06.Of and Same, easellaw07.set and sums.
-/
import Derived.Test.YtbdocnkpjlpfmaaPaneAt
import Derived.Test.YtbdocnkpjlpfmaaRefSpan
import Derived.Test.YtbdocnkpjlpfmaaDrawn
import Derived.Test.YtbdocnkpjlpfmaaPaneList
namespace Go.Proofs.Ytbdocnkpjlpfmaa
open Go.ChangeShapes Go.WideShapes Go.ChangeAt Go.RowKit Small
set_option linter.unusedVariables false
namespace Pane



theorem is_take {w : World} {b off cap : Nat} {L : List Pn} (h : Sl.Is Pn.k w (.slice (some ⟨b, off, none⟩) L.length cap) L b) {m : Nat} (hm : m ≤ L.length) : Sl.Is Pn.k w (.slice (some ⟨b, off, none⟩) m cap) (L.take m) b := by
  rcases h with ⟨q, _⟩ | ⟨off', cap', q, h2, h3, h4, h5⟩
  · simp at q
  · obtain ⟨rfl, rfl⟩ : off = off' ∧ cap = cap' := by simpa using q
    refine .inr ⟨off, cap, by rw [List.length_take, Nat.min_eq_left hm], by rw [List.length_take]; omega, h3, h4, fun j u hj => h5 j u ?_⟩
    rw [Sl.flat_take Pn.ok, List.getElem?_take] at hj
    split at hj
    · exact hj
    · cases hj
theorem is_drop {w : World} {b off cap : Nat} {L : List Pn} (h : Sl.Is Pn.k w (.slice (some ⟨b, off, none⟩) L.length cap) L b) {m : Nat} (hm : m ≤ L.length) : Sl.Is Pn.k w (.slice (some ⟨b, if cap = m then off else off + m * 7, none⟩) (L.length - m) (cap - m)) (L.drop m) b := by
  rcases h with ⟨q, _⟩ | ⟨off', cap', q, h2, h3, h4, h5⟩
  · simp at q
  · obtain ⟨rfl, rfl⟩ : off = off' ∧ cap = cap' := by simpa using q
    refine .inr ⟨_, cap - m, by rw [List.length_drop], by rw [List.length_drop]; omega, by omega, h4, fun j u hj => ?_⟩
    rw [Sl.flat_drop Pn.ok, List.getElem?_drop] at hj
    split
    · have hl : m * Pn.k.k + j < (Sl.flat Pn.k L).length := (List.getElem?_eq_some_iff.1 hj).1
      rw [Sl.flat_len Pn.ok] at hl
      have : L.length * Pn.k.k ≤ m * Pn.k.k := Nat.mul_le_mul_right _ (by omega)
      omega
    · rw [Nat.add_assoc]; exact h5 _ u hj
theorem own_base2 {base base' : Nat} {w : World} {v : Value} {L : List Pn} (h : Sl.Own Pn.k base w v L) (hb : base' ≤ base) : Sl.Own Pn.k base' w v L := by
  refine ⟨h.1, ?_⟩
  rcases h.2 with q | ⟨g, cap, cur, h1, h2, h3⟩
  · exact .inl q
  · exact .inr ⟨g, cap, cur, h1, by omega, h3⟩


def sumC (L : List Pn) : Int := (L.map (·.c)).sum
def sumM (L : List Pn) : Int := (L.map (·.m)).sum
theorem wrap_add (a b : Int) : wrap64 (wrap64 a + b) = wrap64 (a + b) := by unfold wrap64; omega

end Pane
end Go.Proofs.Ytbdocnkpjlpfmaa
