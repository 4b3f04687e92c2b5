/-
  Arguments, opened: a value of a struct type that came in, written out, its numbers in their kinds' ranges.
  A slice of structs that came in: its elements by their index, each one's cells in memory.
-/
import Derived.Test.YtomdgeenmmgmaaaRows
import Derived.WalkKit
import Derived.ProofKit
import Derived.OpenShut
import Derived.Lib.SmallJoins
import Derived.Deep.Slices
namespace Go.Proofs.Ytomdgeenmmgmaaa
open Go.RowKit Go.WideShapes Go.ChangeShapes
set_option maxRecDepth 100000
namespace Opens

theorem cells_win : Try.prog.cellsOf 64 = 2 := by kernel_rfl
theorem open_win {H : Type} {enc : TypeId × Value → H} {w : World} {base : Nat} {spare : Nat → Bool} {held : Bool} {r : Reach} {b0 : Nat} {v : Value} {d : DataW H} {p : List MemPlace}
    (hv : Value.okWide Try.prog w r b0 64 v) (h : DataW.Trod enc Try.prog w base spare held 64 v d p) :
    ∃ a b : Int, v = .agg #[.int .i64 a, .int .i64 b] ∧ (Lit.int .i64 a).wf = true ∧ (Lit.int .i64 b).wf = true := by
  obtain ⟨c0, c1, y0, y1, m, rfl, rfl, rfl, hy0, hy1⟩ := Joins.open_agg2 Try.underlying64 (by kernel_rfl) cells_win hv h
  obtain ⟨a, e0, rfl, wa⟩ := DataW.trod_int Try.underlying2 hy0
  obtain ⟨b, e1, rfl, wb⟩ := DataW.trod_int Try.underlying2 hy1
  simp at e0 e1
  subst e0 e1
  exact ⟨a, b, rfl, wa, wb⟩


theorem cells_agg : Try.prog.cellsOf 66 = 4 := by kernel_rfl
theorem open_agg {H : Type} {enc : TypeId × Value → H} {w : World} {base : Nat} {spare : Nat → Bool} {held : Bool} {r : Reach} {b0 : Nat} {v : Value} {d : DataW H} {p : List MemPlace}
    (hv : Value.okWide Try.prog w r b0 66 v) (h : DataW.Trod enc Try.prog w base spare held 66 v d p) :
    ∃ x : Int × Int × Int × Int, v = .agg #[.int .i64 x.1, .int .i64 x.2.1, .int .i64 x.2.2.1, .int .i64 x.2.2.2] ∧
      ((Lit.int .i64 x.1).wf = true ∧ (Lit.int .i64 x.2.1).wf = true ∧ (Lit.int .i64 x.2.2.1).wf = true ∧ (Lit.int .i64 x.2.2.2).wf = true) := by
  obtain ⟨c0, c1, c2, c3, y0, y1, y2, y3, m, rfl, rfl, rfl, h0, h1, h2, h3⟩ := Joins.open_agg4 Try.underlying66 (by kernel_rfl) cells_agg hv h
  obtain ⟨a0, e0, -, w0⟩ := DataW.trod_int Try.underlying3 h0
  obtain ⟨a1, e1, -, w1⟩ := DataW.trod_int Try.underlying2 h1
  obtain ⟨a2, e2, -, w2⟩ := DataW.trod_int Try.underlying2 h2
  obtain ⟨a3, e3, -, w3⟩ := DataW.trod_int Try.underlying2 h3
  simp at e0 e1 e2 e3
  subst e0 e1 e2 e3
  exact ⟨(a0, a1, a2, a3), rfl, w0, w1, w2, w3⟩


/-- a text that came in -/
theorem open_str {H : Type} {enc : TypeId × Value → H} {w : World} {base : Nat} {spare : Nat → Bool} {held : Bool} {r : Reach} {b0 : Nat} {v : Value} {d : DataW H} {p : List MemPlace}
    (hv : Value.okWide Try.prog w r b0 9 v) (h : DataW.Trod enc Try.prog w base spare held 9 v d p) : ∃ s : ByteArray, v = .string s ∧ s.size ≤ 9223372036854775807 := by
  obtain ⟨s, rfl, -, -, hs⟩ := ChangeMaps.open_string Try.underlying9 hv h
  exact ⟨s, rfl, hs⟩
/-- a byte that came in -/
theorem open_byte {H : Type} {enc : TypeId × Value → H} {w : World} {base : Nat} {spare : Nat → Bool} {held : Bool} {r : Reach} {b0 : Nat} {v : Value} {d : DataW H} {p : List MemPlace}
    (hv : Value.okWide Try.prog w r b0 5 v) (h : DataW.Trod enc Try.prog w base spare held 5 v d p) : ∃ n : Nat, v = .int .u8 n ∧ n < 256 := by
  obtain ⟨n, rfl, -, -, hn⟩ := open_int Try.underlying5 hv h
  simp [Lit.wf, IntKind.min, IntKind.max, IntKind.bits, IntKind.signed] at hn
  exact ⟨n.toNat, by rw [Int.toNat_of_nonneg (by omega)], by omega⟩
end Opens
end Go.Proofs.Ytomdgeenmmgmaaa

namespace Go.Proofs.Ytomdgeenmmgmaaa
open Go.RowKit Go.WideShapes Go.ChangeShapes
namespace Opens
set_option linter.unusedVariables false
set_option maxRecDepth 100000

/-- a slice that came in: address, length, capacity, its elements by index (an element's cells are cl, k of them) -/
def IsRows {α : Type} (cl : α → List Value) (k : Nat) (ok : α → Prop) (w : World) (x : Option Addr × Nat × Nat × (Nat → α)) : Prop :=
  x.2.1 ≤ maxLen ∧ (∀ i, i < x.2.1 → ok (x.2.2.2 i)) ∧
    (0 < x.2.1 → ∃ b off, x.1 = some ⟨b, off, none⟩ ∧ ∀ i, i < x.2.1 → ∀ j v, (cl (x.2.2.2 i))[j]? = some v → w.cell? ⟨b, off + (i * k + j), none⟩ = some v)

theorem cells_each {w : World} {base : Nat} {a : Addr} {n : Nat} {cs : List Value} (h : w.cells? base a n = some cs) : cs.length = n ∧ ∀ j v, cs[j]? = some v → w.cell? (a.add j) = some v := by
  obtain ⟨h1, h2, h3⟩ := World.cells?_some h
  refine ⟨h2, fun j v hj => ?_⟩
  have hl : j < cs.length := by
    rcases Nat.lt_or_ge j cs.length with q | q
    · exact q
    · rw [List.getElem?_eq_none q] at hj; cases hj
  rw [h3 j (by omega), hj]

theorem open_rows {α : Type} [Inhabited α] {H : Type} {enc : TypeId × Value → H} {w : World} {base : Nat} {held : Bool} {spare : Nat → Bool} {r : Reach} {b0 : Nat} {v : Value} {d : DataW H} {p : List MemPlace}
    {t e : TypeId} {k : Nat} (cl : α → List Value) (ok : α → Prop) (ht : Try.prog.underlying t = some (.slice e)) (hk : Try.prog.cellsOf e = k) (k0 : 0 < k)
    (each : ∀ (m : Nat) (cs : List Value) (y : DataW H × List MemPlace), DataW.trod enc Try.prog w base spare held m e cs = some y → ∃ x : α, cs = cl x ∧ ok x)
    (hv : Value.okWide Try.prog w r b0 t v) (h : DataW.Trod enc Try.prog w base spare held t v d p) :
    ∃ x : Option Addr × Nat × Nat × (Nat → α), v = .slice x.1 x.2.1 x.2.2.1 ∧ IsRows cl k ok w x := by
  obtain ⟨A, len, cap, rfl⟩ := okWide_slice ht hv
  obtain ⟨fuel, hf⟩ := h
  rcases Deep.open_slice ht hf with ⟨hcs, hx⟩ | ⟨a, len', cap', m, n, D, Pl, hcs, _, hl, hm, hmm, _, hat⟩
  · simp [Value.cells] at hcs
    obtain ⟨rfl, rfl, rfl⟩ := hcs
    exact ⟨(none, 0, 0, fun _ => default), rfl, by simp, fun i hi => absurd hi (by simp), fun h0 => absurd h0 (by simp)⟩
  · simp [Value.cells] at hcs
    obtain ⟨rfl, rfl, rfl⟩ := hcs
    have hlen : len ≤ m := by rw [hmm]; split <;> omega
    have ex : ∀ i, i < len → ∃ x : α, ok x ∧ ∀ j v, (cl x)[j]? = some v → w.cell? ((a.add (i * k)).add j) = some v := fun i hi => by
      obtain ⟨cs, hc, hd⟩ := hat i (by omega)
      obtain ⟨x, rfl, hx⟩ := each _ _ _ hd
      rw [hk] at hc
      exact ⟨x, hx, (cells_each hc).2⟩
    obtain ⟨f, hff⟩ := Deep.choose_lt ex
    refine ⟨(some a, len, cap, f), rfl, by simp only; omega, fun i hi => (hff i hi).1, fun h0 => ?_⟩
    simp only at h0 ⊢
    obtain ⟨b, off, spot⟩ := a
    have hspot : spot = none := by
      obtain ⟨cs, hc, hd⟩ := hat 0 (by omega)
      rw [hk] at hc
      obtain ⟨h1, h2⟩ := cells_each hc
      have c0 : 0 < cs.length := by omega
      have := h2 0 cs[0] (by simp)
      rw [Nat.zero_mul] at this
      simpa [Addr.add] using World.cell?_spot this
    subst hspot
    refine ⟨b, off, rfl, fun i hi j v hj => ?_⟩
    have := (hff i hi).2 j v hj
    rw [Deep.add_add, add_plain] at this
    exact this
end Opens
end Go.Proofs.Ytomdgeenmmgmaaa
