/-
  Arguments, opened: a value of a struct type that came in, written out, its numbers in their kinds' ranges.
-/
import Derived.Test.YtfblbhncjcicpaaRows
import Derived.WalkKit
import Derived.ProofKit
import Derived.OpenShut
import Derived.Lib.SmallJoins
namespace Go.Proofs.Ytfblbhncjcicpaa
open Go.RowKit Go.WideShapes Go.ChangeShapes
namespace Opens



theorem cells_agg : Try.prog.cellsOf 23 = 4 := by kernel_rfl
theorem open_agg {H : Type} {enc : TypeId × Value → H} {w : World} {base : Nat} {spare : Nat → Bool} {held : Bool} {r : Reach} {b0 : Nat} {v : Value} {d : DataW H} {p : List MemPlace}
    (hv : Value.okWide Try.prog w r b0 23 v) (h : DataW.Trod enc Try.prog w base spare held 23 v d p) :
    ∃ x : Int × Int × Int × Int, v = .agg #[.int .i64 x.1, .int .i64 x.2.1, .int .i64 x.2.2.1, .int .i64 x.2.2.2] ∧
      ((Lit.int .i64 x.1).wf = true ∧ (Lit.int .i64 x.2.1).wf = true ∧ (Lit.int .i64 x.2.2.1).wf = true ∧ (Lit.int .i64 x.2.2.2).wf = true) := by
  obtain ⟨c0, c1, c2, c3, y0, y1, y2, y3, m, rfl, rfl, rfl, h0, h1, h2, h3⟩ := Joins.open_agg4 Try.underlying23 (by kernel_rfl) cells_agg hv h
  obtain ⟨a0, e0, -, w0⟩ := DataW.trod_int Try.underlying3 h0
  obtain ⟨a1, e1, -, w1⟩ := DataW.trod_int Try.underlying2 h1
  obtain ⟨a2, e2, -, w2⟩ := DataW.trod_int Try.underlying2 h2
  obtain ⟨a3, e3, -, w3⟩ := DataW.trod_int Try.underlying2 h3
  simp at e0 e1 e2 e3
  subst e0 e1 e2 e3
  exact ⟨(a0, a1, a2, a3), rfl, w0, w1, w2, w3⟩

theorem cells_i64 : Try.prog.cellsOf 2 = 1 := by kernel_rfl
/-- a slice of numbers: its address, length, capacity, and the numbers; where there is one, its cells hold them -/
def IsInts (w : World) (x : Option Addr × Nat × Nat × List Int) : Prop :=
  x.2.1 ≤ maxLen ∧ x.2.2.2.length = x.2.1 ∧ (∀ z ∈ x.2.2.2, (Lit.int .i64 z).wf = true) ∧
    (0 < x.2.1 → ∃ b off, x.1 = some ⟨b, off, none⟩ ∧ ∀ j, j < x.2.1 → w.cell? ⟨b, off + j, none⟩ = some (.int .i64 (x.2.2.2.getD j 0)))
theorem open_ints {H : Type} {enc : TypeId × Value → H} {w : World} {base : Nat} {held : Bool} {spare : Nat → Bool} {r : Reach} {b0 : Nat} {v : Value} {d : DataW H} {p : List MemPlace}
    (hv : Value.okWide Try.prog w r b0 29 v) (h : DataW.Trod enc Try.prog w base spare held 29 v d p) :
    ∃ x : Option Addr × Nat × Nat × List Int, v = .slice x.1 x.2.1 x.2.2.1 ∧ IsInts w x := by
  obtain ⟨A, len, cap, rfl⟩ := okWide_slice Try.underlying29 hv
  obtain ⟨fuel, hf⟩ := h
  rcases ChangeShapes.open_ints Try.underlying29 Try.underlying2 cells_i64 hf with ⟨hcs, hx⟩ | ⟨a, len', cap', zs, hcs, _, hl, hm, hz, hx, hcell, hwz⟩
  · simp [Value.cells] at hcs
    obtain ⟨rfl, rfl, rfl⟩ := hcs
    exact ⟨(none, 0, 0, []), rfl, by simp, rfl, by simp, by simp⟩
  · simp [Value.cells] at hcs
    obtain ⟨rfl, rfl, rfl⟩ := hcs
    have hlen : len ≤ zs.length := by rw [hz]; split <;> omega
    refine ⟨(some a, len, cap, zs.take len), rfl, by simp only; omega, by simp [hlen], fun z hz => hwz z (List.mem_of_mem_take hz), fun h0 => ?_⟩
    simp only at h0 ⊢
    obtain ⟨b, off, spot⟩ := a
    have hspot : spot = none := by simpa [Addr.add] using World.cell?_spot (hcell 0 (by omega))
    subst hspot
    refine ⟨b, off, rfl, fun j hj => ?_⟩
    have := hcell j (by omega)
    rw [add_plain] at this
    rw [this]
    simp [List.getD, hj]
end Opens
end Go.Proofs.Ytfblbhncjcicpaa
