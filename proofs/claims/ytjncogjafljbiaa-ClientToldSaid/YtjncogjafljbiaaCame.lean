/-
  Panes and lists of panes that came in.
-/
import Derived.Test.YtjncogjafljbiaaOutList
import Derived.Test.YtjncogjafljbiaaOpens
namespace Go.Proofs.Ytjncogjafljbiaa
open Go.ChangeShapes Go.WideShapes Go.ChangeAt Go.RowKit
set_option maxRecDepth 100000
namespace Out
open Small
set_option linter.unusedVariables false

/-! ### what came in -/
theorem cellsSpan : Try.prog.cellsOf 104 = 2 := by kernel_rfl
theorem cellsI64 : Try.prog.cellsOf 2 = 1 := by kernel_rfl
theorem cellsStr : Try.prog.cellsOf 9 = 1 := by kernel_rfl
theorem cellsP : Try.prog.cellsOf 108 = 7 := by kernel_rfl
theorem cellsA : Try.prog.cellsOf 106 = 4 := by kernel_rfl
theorem cellsN : Try.prog.cellsOf 3 = 1 := by kernel_rfl
theorem cellsL : Try.prog.cellsOf 41 = 1 := by kernel_rfl
section
variable {H : Type} {enc : TypeId × Value → H} {w : World} {base : Nat} {held : Bool} {spare : Nat → Bool}
theorem span_cells (m : Nat) (cs : List Value) (y : DataW H × List MemPlace) (h : DataW.trod enc Try.prog w base spare held m 104 cs = some y) :
    ∃ a b : Int, cs = [.int .i64 a, .int .i64 b] ∧ (Lit.int .i64 a).wf = true ∧ (Lit.int .i64 b).wf = true := by
  obtain ⟨xs, n, _, _, hl, hlen, hat⟩ := DataW.trod_struct Try.underlying104 h
  match cs, hl.trans cellsSpan with
  | [c0, c1], _ =>
    match xs, hlen with
    | [y0, y1], _ =>
      have g0 := hat 0 _ rfl
      have g1 := hat 1 _ rfl
      simp [cellsI64] at g0 g1
      obtain ⟨a0, e0, -, w0⟩ := DataW.trod_int Try.underlying2 g0
      obtain ⟨a1, e1, -, w1⟩ := DataW.trod_int Try.underlying2 g1
      simp at e0 e1
      subst e0 e1
      exact ⟨a0, a1, rfl, w0, w1⟩
theorem agg_cells (m : Nat) (cs : List Value) (y : DataW H × List MemPlace) (h : DataW.trod enc Try.prog w base spare held m 106 cs = some y) :
    ∃ a b c d : Int, cs = [.int .i64 a, .int .i64 b, .int .i64 c, .int .i64 d] := by
  obtain ⟨xs, n, _, _, hl, hlen, hat⟩ := DataW.trod_struct Try.underlying106 h
  match cs, hl.trans cellsA with
  | [c0, c1, c2, c3], _ =>
    match xs, hlen with
    | [y0, y1, y2, y3], _ =>
      have g0 := hat 0 _ rfl
      have g1 := hat 1 _ rfl
      have g2 := hat 2 _ rfl
      have g3 := hat 3 _ rfl
      simp [cellsI64, cellsN] at g0 g1 g2 g3
      obtain ⟨a0, e0, -, -⟩ := DataW.trod_int Try.underlying3 g0
      obtain ⟨a1, e1, -, -⟩ := DataW.trod_int Try.underlying2 g1
      obtain ⟨a2, e2, -, -⟩ := DataW.trod_int Try.underlying2 g2
      obtain ⟨a3, e3, -, -⟩ := DataW.trod_int Try.underlying2 g3
      simp at e0 e1 e2 e3
      subst e0 e1 e2 e3
      exact ⟨a0, a1, a2, a3, rfl⟩
theorem pane_cells_in (m : Nat) (cs : List Value) (y : DataW H × List MemPlace) (h : DataW.trod enc Try.prog w base spare held m 108 cs = some y) : ∃ p : Pn, cs = p.cl ∧ Fits p := by
  obtain ⟨xs, n, _, _, hl, hlen, hat⟩ := DataW.trod_struct Try.underlying108 h
  match cs, hl.trans cellsP with
  | [c0, c1, c2, c3, c4, c5, c6], _ =>
    match xs, hlen with
    | [y0, y1, y2], _ =>
      have g0 := hat 0 _ rfl
      have g1 := hat 1 _ rfl
      have g2 := hat 2 _ rfl
      simp [cellsStr, cellsSpan, cellsA] at g0 g1 g2
      obtain ⟨s, e0, -, w0⟩ := DataW.trod_string Try.underlying9 g0
      obtain ⟨a, b, e1, w1, w2⟩ := span_cells _ _ _ g1
      obtain ⟨c, d, e, f, e2⟩ := agg_cells _ _ _ g2
      simp at e0 e1 e2
      obtain ⟨rfl, rfl⟩ := e1
      obtain ⟨rfl, rfl, rfl, rfl⟩ := e2
      subst e0
      exact ⟨⟨s, a, b, c, d, e, f⟩, rfl, w0, w1, w2⟩
/-- a list of panes that came in -/
theorem list_cells (m : Nat) (cs : List Value) (y : DataW H × List MemPlace) (h : DataW.trod enc Try.prog w base spare held m 41 cs = some y) : ∃ x : Value × List Pn, cs = [x.1] ∧ Rd w x.1 x.2 ∧ ∀ p ∈ x.2, Fits p := by
  rcases Deep.open_slice Try.underlying41 h with ⟨rfl, _⟩ | ⟨a, len, cap, m, n, D, Pl, rfl, _, hl, hm, hmm, _, hat⟩
  · exact ⟨(.slice none 0 0, []), rfl, .inl ⟨0, .inl ⟨rfl, rfl⟩⟩, by simp⟩
  · by_cases h0 : len = 0
    · subst h0
      exact ⟨(.slice (some a) 0 cap, []), rfl, .inr ⟨rfl, a, cap, rfl⟩, by simp⟩
    · have hlen : len ≤ m := by rw [hmm]; split <;> omega
      have ex : ∀ i, i < len → ∃ x : Pn, Fits x ∧ ∀ j v, (Pn.cl x)[j]? = some v → w.cell? ((a.add (i * 7)).add j) = some v := fun i hi => by
        obtain ⟨cs, hc, hd⟩ := hat i (by omega)
        obtain ⟨x, rfl, hx⟩ := pane_cells_in _ _ _ hd
        rw [cellsP] at hc
        exact ⟨x, hx, (Opens.cells_each hc).2⟩
      obtain ⟨f, hff⟩ := Deep.choose_lt ex
      obtain ⟨b, off, spot⟩ := a
      have c0 := (hff 0 (by omega)).2 0 _ rfl
      have hspot : spot = none := by
        rw [Nat.zero_mul] at c0
        simpa [Addr.add] using World.cell?_spot c0
      subst hspot
      have hb : b < w.heap.size := World.block_lt_of_cell? _ _ c0
      have lenL : ((List.range len).map f).length = len := by simp
      refine ⟨(.slice (some ⟨b, off, none⟩) len cap, (List.range len).map f), rfl, .inl ⟨b, .inr ⟨off, cap, by rw [lenL], by rw [lenL]; exact hl, hm, hb, fun j u hj => ?_⟩⟩, fun p hp => ?_⟩
      · have hj' : j < ((List.range len).map f).length * 7 := by
          have := (List.getElem?_eq_some_iff.1 hj).1
          rw [Sl.flat_len Pn.ok] at this
          exact this
        rw [flat_get _ j hj'] at hj
        rw [lenL] at hj'
        have hi : j / 7 < len := by omega
        have e : ((List.range len).map f)[j / 7]! = f (j / 7) := by
          rw [List.getElem!_eq_getElem?_getD, List.getElem?_map, List.getElem?_range hi]; rfl
        rw [e] at hj
        have hk : (Pn.cl (f (j / 7)))[j % 7]? = some u := by
          have h7 : j % 7 < (Pn.cl (f (j / 7))).length := by have := Nat.mod_lt j (show 0 < 7 by decide); simpa using this
          rw [← hj, List.getElem!_eq_getElem?_getD, List.getElem?_eq_getElem h7]; rfl
        have := (hff _ hi).2 _ _ hk
        rw [Deep.add_add, add_plain] at this
        rw [show off + j = off + (j / 7 * 7 + j % 7) by omega]
        exact this
      · obtain ⟨i, hi, rfl⟩ := List.mem_map.1 hp
        exact (hff i (by simpa using hi)).1
end
instance : Inhabited (Value × List Pn) := ⟨(.slice none 0 0, [])⟩
/-- what a list of panes that came in is -/
def Came (w : World) (x : Value × List Pn) : Prop := Rd w x.1 x.2 ∧ ∀ p ∈ x.2, Fits p
end Out
namespace Opens
theorem open_panes {H : Type} {enc : TypeId × Value → H} {w : World} {base : Nat} {held : Bool} {spare : Nat → Bool} {r : Reach} {b0 : Nat} {v : Value} {d : DataW H} {p : List MemPlace}
    (hv : Value.okWide Try.prog w r b0 41 v) (h : DataW.Trod enc Try.prog w base spare held 41 v d p) : ∃ x : Value × List Pn, v = x.1 ∧ Out.Came w x := by
  obtain ⟨A, len, cap, rfl⟩ := okWide_slice Try.underlying41 hv
  obtain ⟨fuel, hf⟩ := h
  obtain ⟨x, h1, h2, h3⟩ := Out.list_cells _ _ _ hf
  simp [Value.cells] at h1
  exact ⟨x, h1, h2, h3⟩
end Opens
end Go.Proofs.Ytjncogjafljbiaa
