/-
  Events that came in.
-/
import Derived.Test.YtomdgeenmmgmaaaHsFine
import Derived.Test.YtomdgeenmmgmaaaOpens
namespace Go.Proofs.Ytomdgeenmmgmaaa
open Go.ChangeShapes Go.WideShapes Go.ChangeAt Go.RowKit
set_option maxRecDepth 100000
set_option linter.unusedVariables false
namespace Hs
open Small
theorem cellsI64 : Try.prog.cellsOf 2 = 1 := by kernel_rfl
theorem cellsStr : Try.prog.cellsOf 9 = 1 := by kernel_rfl
theorem cellsN : Try.prog.cellsOf 3 = 1 := by kernel_rfl
theorem cellsL : Try.prog.cellsOf 29 = 1 := by kernel_rfl
theorem cellsC : Try.prog.cellsOf 28 = 7 := by kernel_rfl
theorem cellsR : Try.prog.cellsOf 31 = 2 := by kernel_rfl
theorem cellsE : Try.prog.cellsOf 33 = 14 := by kernel_rfl
section
variable {H : Type} {enc : TypeId × Value → H} {w : World} {base : Nat} {held : Bool} {spare : Nat → Bool}
theorem call_one (m : Nat) (cs : List Value) (y : DataW H × List MemPlace) (h : DataW.trod enc Try.prog w base spare held m 28 cs = some y) :
    ∃ v0 v1 v2 v3 v4 v5 v6, cs = [v0, v1, v2, v3, v4, v5, v6] ∧ ∀ v ∈ [v0, v1, v2, v3, v4, v5, v6], v.oneCell' = true := by
  obtain ⟨xs, n, _, _, hl, hlen, hat⟩ := DataW.trod_struct Try.underlying28 h
  match cs, hl.trans cellsC with
  | [c0, c1, c2, c3, c4, c5, c6], _ =>
    match xs, hlen with
    | [y0, y1, y2, y3, y4, y5, y6], _ =>
      have g0 := hat 0 _ rfl
      have g1 := hat 1 _ rfl
      have g2 := hat 2 _ rfl
      have g3 := hat 3 _ rfl
      have g4 := hat 4 _ rfl
      have g5 := hat 5 _ rfl
      have g6 := hat 6 _ rfl
      simp [cellsI64, cellsN, cellsStr] at g0 g1 g2 g3 g4 g5 g6
      obtain ⟨a0, e0, -, w0⟩ := DataW.trod_int Try.underlying3 g0
      obtain ⟨a1, e1, -, w1⟩ := DataW.trod_string Try.underlying9 g1
      obtain ⟨a2, e2, -, w2⟩ := DataW.trod_int Try.underlying2 g2
      obtain ⟨a3, e3, -, w3⟩ := DataW.trod_int Try.underlying2 g3
      obtain ⟨a4, e4, -, w4⟩ := DataW.trod_int Try.underlying2 g4
      obtain ⟨a5, e5, -, w5⟩ := DataW.trod_int Try.underlying3 g5
      obtain ⟨a6, e6, -, w6⟩ := DataW.trod_int Try.underlying3 g6
      simp at e0 e1 e2 e3 e4 e5 e6
      subst e0 e1 e2 e3 e4 e5 e6
      exact ⟨_, _, _, _, _, _, _, rfl, by simp [Value.oneCell']⟩
theorem slice_one (m : Nat) (cs : List Value) (y : DataW H × List MemPlace) (h : DataW.trod enc Try.prog w base spare held m 29 cs = some y) : ∃ v, cs = [v] ∧ v.oneCell' = true := by
  rcases Deep.open_slice Try.underlying29 h with ⟨rfl, _⟩ | ⟨a, len, cap, m, n, D, Pl, rfl, _⟩
  · exact ⟨_, rfl, rfl⟩
  · exact ⟨_, rfl, rfl⟩
theorem reply_one (m : Nat) (cs : List Value) (y : DataW H × List MemPlace) (h : DataW.trod enc Try.prog w base spare held m 31 cs = some y) :
    ∃ v0 v1, cs = [v0, v1] ∧ ∀ v ∈ [v0, v1], v.oneCell' = true := by
  obtain ⟨xs, n, _, _, hl, hlen, hat⟩ := DataW.trod_struct Try.underlying31 h
  match cs, hl.trans cellsR with
  | [c0, c1], _ =>
    match xs, hlen with
    | [y0, y1], _ =>
      have g0 := hat 0 _ rfl
      have g1 := hat 1 _ rfl
      simp [cellsN, cellsL] at g0 g1
      obtain ⟨a0, e0, -, w0⟩ := DataW.trod_int Try.underlying3 g0
      obtain ⟨x1, e1, w1⟩ := slice_one _ _ _ g1
      simp at e0 e1
      subst e0 e1
      refine ⟨_, _, rfl, fun v hv => ?_⟩
      simp only [List.mem_cons, List.not_mem_nil, or_false] at hv
      rcases hv with rfl | rfl
      · rfl
      · exact w1
theorem event_cells (m : Nat) (cs : List Value) (y : DataW H × List MemPlace) (h : DataW.trod enc Try.prog w base spare held m 33 cs = some y) : ∃ e : Ev, cs = e.cl ∧ Fit e := by
  obtain ⟨xs, n, _, _, hl, hlen, hat⟩ := DataW.trod_struct Try.underlying33 h
  match cs, hl.trans cellsE with
  | [c0, c1, c2, c3, c4, c5, c6, c7, c8, c9, c10, c11, c12, c13], _ =>
    match xs, hlen with
    | [y0, y1, y2, y3, y4, y5, y6], _ =>
      have g0 := hat 0 _ rfl
      have g1 := hat 1 _ rfl
      have g2 := hat 2 _ rfl
      have g3 := hat 3 _ rfl
      have g4 := hat 4 _ rfl
      have g5 := hat 5 _ rfl
      have g6 := hat 6 _ rfl
      simp [cellsN, cellsC, cellsR] at g0 g1 g2 g3 g4 g5 g6
      obtain ⟨a0, e0, -, w0⟩ := DataW.trod_int Try.underlying3 g0
      obtain ⟨a1, e1, -, w1⟩ := DataW.trod_int Try.underlying3 g1
      obtain ⟨v2, v3, v4, v5, v6, v7, v8, e2, w2⟩ := call_one _ _ _ g2
      obtain ⟨v9, v10, e3, w3⟩ := reply_one _ _ _ g3
      obtain ⟨a4, e4, -, w4⟩ := DataW.trod_int Try.underlying3 g4
      obtain ⟨a5, e5, -, w5⟩ := DataW.trod_int Try.underlying3 g5
      obtain ⟨a6, e6, -, w6⟩ := DataW.trod_int Try.underlying3 g6
      simp at e0 e1 e2 e3 e4 e5 e6
      obtain ⟨rfl, rfl, rfl, rfl, rfl, rfl, rfl⟩ := e2
      obtain ⟨rfl, rfl⟩ := e3
      subst e0 e1 e4 e5 e6
      refine ⟨⟨a0, a1, a4, a5, a6, _, _, _, _, _, _, _, _, _, fun v hv => ?_⟩, rfl, w1, w0, w4, w5, w6⟩
      rcases List.mem_append.1 (show v ∈ [_, _, _, _, _, _, _] ++ [_, _] from hv) with hv | hv
      · exact w2 v hv
      · exact w3 v hv
theorem flat_ev : ∀ (l : List Ev) (t : Nat), t < l.length * 14 → (Sl.flat Ev.k l)[t]? = some ((Ev.cl l[t / 14]!)[t % 14]!)
  | [], t, h => by simp at h
  | x :: l, t, h => by
    have e : Sl.flat Ev.k (x :: l) = x.cl ++ Sl.flat Ev.k l := rfl
    rw [e]
    by_cases ht : t < 14
    · rw [List.getElem?_append_left (by simpa using ht), Nat.div_eq_of_lt ht, Nat.mod_eq_of_lt ht]
      have : t < (Ev.cl x).length := by simpa using ht
      simp only [List.getElem!_cons_zero]
      rw [List.getElem!_eq_getElem?_getD, List.getElem?_eq_getElem this]
      rfl
    · rw [List.getElem?_append_right (by simp; omega)]
      have h1 : t / 14 = (t - 14) / 14 + 1 := by omega
      have h2 : t % 14 = (t - 14) % 14 := by omega
      have := flat_ev l (t - 14) (by simp at h; omega)
      rw [h1, h2, List.getElem!_cons_succ]
      exact this
/-- a list of events that came in -/
structure CameE (w : World) (x : Value × List Ev) : Prop where
  rd : Evs w x.1 x.2
  fit : ∀ e ∈ x.2, Fit e
theorem events_cells (m : Nat) (cs : List Value) (y : DataW H × List MemPlace) (h : DataW.trod enc Try.prog w base spare held m 22 cs = some y) : ∃ x : Value × List Ev, cs = [x.1] ∧ CameE w x := by
  rcases Deep.open_slice Try.underlying22 h with ⟨rfl, _⟩ | ⟨a, len, cap, m, n, D, Pl, rfl, _, hl, hm, hmm, _, hat⟩
  · exact ⟨(.slice none 0 0, []), rfl, .inl ⟨0, .inl ⟨rfl, rfl⟩⟩, by simp⟩
  · by_cases h0 : len = 0
    · subst h0
      exact ⟨(.slice (some a) 0 cap, []), rfl, .inr ⟨rfl, a, cap, rfl⟩, by simp⟩
    · have hlen : len ≤ m := by rw [hmm]; split <;> omega
      have ex : ∀ i, i < len → ∃ x : Ev, Fit x ∧ ∀ j v, (Ev.cl x)[j]? = some v → w.cell? ((a.add (i * 14)).add j) = some v := fun i hi => by
        obtain ⟨cs, hc, hd⟩ := hat i (by omega)
        obtain ⟨x, rfl, hx⟩ := event_cells _ _ _ hd
        rw [cellsE] at hc
        exact ⟨x, hx, (Opens.cells_each hc).2⟩
      obtain ⟨f, hff⟩ := Deep.choose_lt ex
      obtain ⟨b, off, spot⟩ := a
      have c0 := (hff 0 (by omega)).2 0 _ rfl
      have hspot : spot = none := by
        rw [Nat.zero_mul] at c0
        simpa [Addr.add] using World.cell?_spot c0
      subst hspot
      have hb : b < w.heap.size := World.block_lt_of_cell? _ _ c0
      have lenL : ((List.range len).map f).length = len := by simp
      refine ⟨(.slice (some ⟨b, off, none⟩) len cap, (List.range len).map f), rfl, .inl ⟨b, .inr ⟨off, cap, by rw [lenL], by rw [lenL]; exact hl, hm, hb, fun j u hj => ?_⟩⟩, fun p hp => ?_⟩
      · have hj' : j < ((List.range len).map f).length * 14 := by
          have := (List.getElem?_eq_some_iff.1 hj).1
          rw [Sl.flat_len Ev.ok] at this
          exact this
        rw [flat_ev _ j hj'] at hj
        rw [lenL] at hj'
        have hi : j / 14 < len := by omega
        have e : ((List.range len).map f)[j / 14]! = f (j / 14) := by
          rw [List.getElem!_eq_getElem?_getD, List.getElem?_map, List.getElem?_range hi]; rfl
        rw [e] at hj
        have hk : (Ev.cl (f (j / 14)))[j % 14]? = some u := by
          have h7 : j % 14 < (Ev.cl (f (j / 14))).length := by have := Nat.mod_lt j (show 0 < 14 by decide); simpa using this
          rw [← hj, List.getElem!_eq_getElem?_getD, List.getElem?_eq_getElem h7]; rfl
        have := (hff _ hi).2 _ _ hk
        rw [Deep.add_add, add_plain] at this
        rw [show off + j = off + (j / 14 * 14 + j % 14) by omega]
        exact this
      · obtain ⟨i, hi, rfl⟩ := List.mem_map.1 hp
        exact (hff i (by simpa using hi)).1
end
end Hs
namespace Opens
instance : Inhabited (Value × List Ev) := ⟨(.slice none 0 0, [])⟩
theorem open_events {H : Type} {enc : TypeId × Value → H} {w : World} {base : Nat} {held : Bool} {spare : Nat → Bool} {r : Reach} {b0 : Nat} {v : Value} {d : DataW H} {p : List MemPlace}
    (hv : Value.okWide Try.prog w r b0 22 v) (h : DataW.Trod enc Try.prog w base spare held 22 v d p) : ∃ x : Value × List Ev, v = x.1 ∧ Hs.CameE w x := by
  obtain ⟨A, len, cap, rfl⟩ := okWide_slice Try.underlying22 hv
  obtain ⟨fuel, hf⟩ := h
  obtain ⟨x, h1, h2⟩ := Hs.events_cells _ _ _ hf
  simp [Value.cells] at h1
  exact ⟨x, h1, h2⟩
end Opens
end Go.Proofs.Ytomdgeenmmgmaaa
