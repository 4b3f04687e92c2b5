/-
  Panes: what one is, a list of them in memory, and which one's timer is ahead (easelref06.Less).
  Contracts of the layer-6 statements' own helpers: Pick, and first (the place of the least of some panes).
-/
import Derived.Test.YtjncogjafljbiaaHeapMath
import Derived.Test.YtjncogjafljbiaaLists
import Derived.Laws.StructEq
import Derived.Test.YtjncogjafljbiaaSmall
namespace Go.Proofs.Ytjncogjafljbiaa
open Go.ChangeShapes Go.WideShapes Go.ChangeAt Go.RowKit Small
set_option linter.unusedVariables false

/-- a pane: key, Start, End, Count, Sum, Min, Max -/
structure Pn where
  key : ByteArray
  s : Int
  e : Int
  c : Int
  m : Int
  l : Int
  u : Int
  deriving DecidableEq
instance : Inhabited Pn := ⟨⟨⟨#[]⟩, 0, 0, 0, 0, 0, 0⟩⟩

namespace Pn
abbrev tm (p : Pn) : Tmr.Tm := ⟨p.key, p.s, p.e⟩
abbrev cl (p : Pn) : List Value := [.string p.key, .int .i64 p.s, .int .i64 p.e, .int .i64 p.c, .int .i64 p.m, .int .i64 p.l, .int .i64 p.u]
abbrev v (p : Pn) : Value := .agg #[.string p.key, .int .i64 p.s, .int .i64 p.e, .int .i64 p.c, .int .i64 p.m, .int .i64 p.l, .int .i64 p.u]
/-- a timer, as a pane with no values -/
abbrev of (x : Tmr.Tm) : Pn := ⟨x.key, x.s, x.e, 0, 0, 0, 0⟩
theorem of_inj {x y : Tmr.Tm} (h : Pn.of x = Pn.of y) : x = y := by
  obtain ⟨a, b, c⟩ := x
  obtain ⟨a', b', c'⟩ := y
  simpa [Pn.of] using h

abbrev k : Kind Pn := ⟨41, 108, 7, 64, .agg #[.string ⟨#[]⟩, .int .i64 0, .int .i64 0, .int .i64 0, .int .i64 0, .int .i64 0, .int .i64 0], Pn.cl⟩
theorem ok : Pn.k.Ok where
  under := Try.underlying41
  elem := by kernel_rfl
  info := by kernel_rfl
  zs := by kernel_rfl
  pos := by decide
  len := fun _ => rfl
  one := fun x u h => by simp at h; rcases h with rfl | rfl | rfl | rfl | rfl | rfl | rfl <;> rfl
  small := by decide

theorem lit1 (p : Pn) (w : World) : (Instr.buildSlice Pn.k.t 1 #[(0, p.v)]).run Try.prog w = .ok (.slice (some ⟨w.heap.size, 0, none⟩) 1 1) (w.alloc (.cells p.cl.toArray Pn.k.e)) := by
  simp [go_sem, Instr.buildSlice, Instr.fill, newRow]
theorem wp_load {w : World} {o : Oper} {a : Act} {Kc : Act → World → Prop} {Q : Exit → Act → World → Prop} (x : Operand) (p : Pn) {b off : Nat} (hop : o.op = Op.load 108 x) (hx : a.eval x = .pointer (some ⟨b, off, none⟩)) 
  (h : ∀ j u, p.cl[j]? = some u → w.cell? ⟨b, off + j, none⟩ = some u) (hK : Kc (a.put o.dst p.v) w) : o.wp Try.prog a w Kc Q := by
  have h0 := h 0 _ rfl
  have h1 := h 1 _ rfl
  have h2 := h 2 _ rfl
  have h3 := h 3 _ rfl
  have h4 := h 4 _ rfl
  have h5 := h 5 _ rfl
  have h6 := h 6 _ rfl
  rw [Nat.add_zero] at h0
  have hr : (execOp a.eval o).run Try.prog w = .ok (.value p.v) w := by
    generalize a.eval = ev at hx
    simp [execOp, hop, hx, go_sem, h0, h1, h2, h3, h4, h5, h6]
  unfold Oper.wp
  rw [hr]
  exact hK
theorem val : Pn.k.Val Pn.v where
  load := fun x w o a Kc Q p b off h1 h2 h3 h4 => wp_load p x h1 h2 h3 h4
  lit1 := lit1

theorem bytes_ext {a b : ByteArray} : a.toList = b.toList ↔ a = b := by
  refine ⟨fun h => ?_, fun h => by rw [h]⟩
  obtain ⟨⟨x⟩⟩ := a
  obtain ⟨⟨y⟩⟩ := b
  have : x = y := by simpa [ByteArray.toList_eq] using h
  rw [this]
set_option maxHeartbeats 1600000 in
theorem eql_ok (a b : Pn) (w : World) : (binOp .eql 108 a.v b.v).run Try.prog w = .ok (.bool (decide (a = b))) w := by
  have h : decide (a = b) = (a.key.toList == b.key.toList && (a.s == b.s && (a.e == b.e && (a.c == b.c && (a.m == b.m && (a.l == b.l && a.u == b.u)))))) := by
    obtain ⟨a0, a1, a2, a3, a4, a5, a6⟩ := a
    obtain ⟨b0, b1, b2, b3, b4, b5, b6⟩ := b
    rw [Bool.eq_iff_iff]
    simp [bytes_ext]
  rw [h]
  cases h0 : (a.key.toList == b.key.toList)
  · simp [go_sem, h0]
  cases h1 : (a.s == b.s)
  · simp [go_sem, h0, h1]
  cases h2 : (a.e == b.e)
  · simp [go_sem, h0, h1, h2]
  cases h3 : (a.c == b.c)
  · simp [go_sem, h0, h1, h2, h3]
  cases h4 : (a.m == b.m)
  · simp [go_sem, h0, h1, h2, h3, h4]
  cases h5 : (a.l == b.l)
  · simp [go_sem, h0, h1, h2, h3, h4, h5]
  cases h6 : (a.u == b.u)
  · simp [go_sem, h0, h1, h2, h3, h4, h5, h6]
  simp [go_sem, h0, h1, h2, h3, h4, h5, h6]

end Pn
end Go.Proofs.Ytjncogjafljbiaa

namespace Go.Proofs.Ytjncogjafljbiaa
open Go.ChangeShapes Go.WideShapes Go.ChangeAt Go.RowKit Small
set_option linter.unusedVariables false
namespace Tmr

/-- the place of the least one; below 0: there is none -/
def IsFirst (L : List Pn) (i : Int) : Prop := (i = -1 ∧ L = []) ∨ ∃ k x, i = (k : Nat) ∧ L[k]? = some x ∧ ∀ y ∈ L, le x.tm y.tm
/-- .. of the first n -/
def FirstOf (L : List Pn) (n : Nat) (i : Int) : Prop := (i = -1 ∧ n = 0) ∨ ∃ k x, i = (k : Nat) ∧ k < n ∧ L[k]? = some x ∧ ∀ j y, j < n → L[j]? = some y → le x.tm y.tm

theorem FirstOf.zero {L : List Pn} {y : Pn} (hy : L[0]? = some y) : FirstOf L 1 0 := .inr ⟨0, y, rfl, by omega, hy, fun j z hj hz => by
  obtain rfl : j = 0 := by omega
  rw [hy] at hz
  obtain rfl := Option.some.inj hz
  exact le_refl _⟩
theorem FirstOf.stay {L : List Pn} {y x : Pn} {i k : Nat} (hy : L[i]? = some y) (hk : k < i) (hx : L[k]? = some x) (hle : ∀ j y, j < i → L[j]? = some y → le x.tm y.tm) (hl : lt y.tm x.tm = false) : FirstOf L (i + 1) k :=
  .inr ⟨k, x, rfl, by omega, hx, fun j z hj hz => by
    by_cases e : j = i
    · subst e
      rw [hy] at hz
      obtain rfl := Option.some.inj hz
      exact hl
    · exact hle j z (by omega) hz⟩
theorem FirstOf.step {L : List Pn} {y x : Pn} {i : Nat} (hy : L[i]? = some y) (hle : ∀ j y, j < i → L[j]? = some y → le x.tm y.tm) (hl : lt y.tm x.tm = true) : FirstOf L (i + 1) i :=
  .inr ⟨i, y, rfl, by omega, hy, fun j z hj hz => by
    by_cases e : j = i
    · subst e
      rw [hy] at hz
      obtain rfl := Option.some.inj hz
      exact le_refl _
    · exact le_trans (le_of_lt hl) (hle j z (by omega) hz)⟩

theorem pane_cells {w : World} {b off : Nat} {L : List Pn} {i : Nat} {x : Pn} (hx : L[i]? = some x) (hc : ∀ i x, L[i]? = some x → ∀ j u, (Pn.cl x)[j]? = some u → w.cell? ⟨b, off + (i * 7 + j), none⟩ = some u) :
    w.cell? ⟨b, off + i * 7, none⟩ = some (.string x.key) ∧ w.cell? ⟨b, off + i * 7 + 1, none⟩ = some (.int .i64 x.s) ∧ w.cell? ⟨b, off + i * 7 + 2, none⟩ = some (.int .i64 x.e) ∧ w.cell? ⟨b, off + i * 7 + 3, none⟩ = some (.int .i64 x.c) ∧
      w.cell? ⟨b, off + i * 7 + 4, none⟩ = some (.int .i64 x.m) ∧ w.cell? ⟨b, off + i * 7 + 5, none⟩ = some (.int .i64 x.l) ∧ w.cell? ⟨b, off + i * 7 + 6, none⟩ = some (.int .i64 x.u) := by
  have h := hc i x hx
  simp only [← Nat.add_assoc] at h
  exact ⟨h 0 _ rfl, h 1 _ rfl, h 2 _ rfl, h 3 _ rfl, h 4 _ rfl, h 5 _ rfl, h 6 _ rfl⟩


end Tmr
end Go.Proofs.Ytjncogjafljbiaa
