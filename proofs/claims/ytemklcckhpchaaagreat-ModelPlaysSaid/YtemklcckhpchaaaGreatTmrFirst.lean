/-
  Contracts of the layer-6 statements' own helpers: Pick, and first (the place of the least of some panes).
-/
import Derived.Test.YtemklcckhpchaaaGreatPn
import Derived.Test.YtemklcckhpchaaaGreatSmall
namespace Go.Proofs.YtemklcckhpchaaaGreat
open Go.ChangeShapes Go.WideShapes Go.ChangeAt Go.RowKit Small
set_option linter.unusedVariables false
namespace Tmr

/-- the place of the least one; below 0: there is none -/
def IsFirst (L : List Pn) (i : Int) : Prop := (i = -1 ∧ L = []) ∨ ∃ k x, i = (k : Nat) ∧ L[k]? = some x ∧ ∀ y ∈ L, le x.tm y.tm
/-- .. of the first n -/
def FirstOf (L : List Pn) (n : Nat) (i : Int) : Prop := (i = -1 ∧ n = 0) ∨ ∃ k x, i = (k : Nat) ∧ k < n ∧ L[k]? = some x ∧ ∀ j y, j < n → L[j]? = some y → le x.tm y.tm

theorem FirstOf.zero {L : List Pn} {y : Pn} (hy : L[0]? = some y) : FirstOf L 1 0 := .inr ⟨0, y, rfl, by omega, hy, fun j z hj hz => by
  obtain rfl : j = 0 := by omega
  rw [hy] at hz
  obtain rfl := Option.some.inj hz
  exact le_refl _⟩
theorem FirstOf.stay {L : List Pn} {y x : Pn} {i k : Nat} (hy : L[i]? = some y) (hk : k < i) (hx : L[k]? = some x) (hle : ∀ j y, j < i → L[j]? = some y → le x.tm y.tm) (hl : lt y.tm x.tm = false) : FirstOf L (i + 1) k :=
  .inr ⟨k, x, rfl, by omega, hx, fun j z hj hz => by
    by_cases e : j = i
    · subst e
      rw [hy] at hz
      obtain rfl := Option.some.inj hz
      exact hl
    · exact hle j z (by omega) hz⟩
theorem FirstOf.step {L : List Pn} {y x : Pn} {i : Nat} (hy : L[i]? = some y) (hle : ∀ j y, j < i → L[j]? = some y → le x.tm y.tm) (hl : lt y.tm x.tm = true) : FirstOf L (i + 1) i :=
  .inr ⟨i, y, rfl, by omega, hy, fun j z hj hz => by
    by_cases e : j = i
    · subst e
      rw [hy] at hz
      obtain rfl := Option.some.inj hz
      exact le_refl _
    · exact le_trans (le_of_lt hl) (hle j z (by omega) hz)⟩

theorem pane_cells {w : World} {b off : Nat} {L : List Pn} {i : Nat} {x : Pn} (hx : L[i]? = some x) (hc : ∀ i x, L[i]? = some x → ∀ j u, (Pn.cl x)[j]? = some u → w.cell? ⟨b, off + (i * 7 + j), none⟩ = some u) :
    w.cell? ⟨b, off + i * 7, none⟩ = some (.string x.key) ∧ w.cell? ⟨b, off + i * 7 + 1, none⟩ = some (.int .i64 x.s) ∧ w.cell? ⟨b, off + i * 7 + 2, none⟩ = some (.int .i64 x.e) ∧ w.cell? ⟨b, off + i * 7 + 3, none⟩ = some (.int .i64 x.c) ∧
      w.cell? ⟨b, off + i * 7 + 4, none⟩ = some (.int .i64 x.m) ∧ w.cell? ⟨b, off + i * 7 + 5, none⟩ = some (.int .i64 x.l) ∧ w.cell? ⟨b, off + i * 7 + 6, none⟩ = some (.int .i64 x.u) := by
  have h := hc i x hx
  simp only [← Nat.add_assoc] at h
  exact ⟨h 0 _ rfl, h 1 _ rfl, h 2 _ rfl, h 3 _ rfl, h 4 _ rfl, h 5 _ rfl, h 6 _ rfl⟩


end Tmr
end Go.Proofs.YtemklcckhpchaaaGreat
