/-
  The head of the statements of layer 9 (the document's example) answers true; panes and lists of panes that came in.
-/
import Derived.Test.YtdmplcnnoabkaaaOutFine
import Derived.Test.YtdmplcnnoabkaaaOpens
namespace Go.Proofs.Ytdmplcnnoabkaaa
open Go.ChangeShapes Go.WideShapes Go.ChangeAt Go.RowKit
namespace Out
open Small
set_option linter.unusedVariables false

abbrev ka : ByteArray := ⟨#[97]⟩
abbrev pa : Pn := ⟨ka, 0, 10, 0, 0, 0, 0⟩
abbrev pb : Pn := ⟨ka, 0, 5, 0, 0, 0, 0⟩
theorem fits_ab : ∀ p ∈ [pa, pb], Fits p := by
  intro p hp
  simp only [List.mem_cons, List.not_mem_nil, or_false] at hp
  rcases hp with rfl | rfl
  · exact ⟨by decide, by decide, by decide⟩
  · exact ⟨by decide, by decide, by decide⟩
theorem not_ab : ¬ AllFine [pa, pb] := by
  intro h
  have := (List.pairwise_cons.1 h).1 pb (by simp) rfl
  simp at this
theorem of_a : ofKey ka [pa, pb] = [pa, pb] := by simp [ofKey]
theorem of_b : ofKey ⟨#[98]⟩ [pa, pb] = [] := by
  have : ¬ (ka = (⟨#[98]⟩ : ByteArray)) := by decide
  simp [ofKey, this]

set_option maxRecDepth 100000 in
set_option maxHeartbeats 4000000 in
theorem up_ok (w : World) : Calls Try.prog 5 #[] w fun r w' => r = .returned (.bool true) ∧ Below w.heap.size w w' := by
  go_enter Try.func5, Try.ntmps5
  go_wp2_with fail
  refine (new_ok w).mono ?_
  rintro r w1 ⟨rfl, l1, k1⟩
  have L1 := Lib.hid l1
  have K1 := Lib.hid k1
  have hg := Lib.hid l1.lies.lt
  clear l1 k1
  go_wp2_with fail
  refine (fine_ok w.heap.size _ [] w1 L1 (by simp) (Lib.hid (by simp))).mono ?_
  rintro r w2 ⟨x, rfl, hx, k2⟩
  obtain rfl : x = true := hx.2 List.Pairwise.nil
  have L2 := Lib.hid (L1.out.next k2)
  have K2 := Lib.hid (after K1.out k2)
  clear hx k2
  go_wp2_with fail
  refine (put_ok w.heap.size _ _ [] [pa, pb] _ (Lib.hid (L2.out.next (below1 _ _))) (Lib.hid (.inl ⟨w2.heap.size, .inr ⟨0, 2, rfl, by simp, by decide, by simp, fun j u hj => ?_⟩⟩)) (by simp)).mono ?_
  · rw [Nat.zero_add]
    have := Lies.cell (Lies.new w2 32 (pa.cl ++ pb.cl)) (i := j) (v := u) (by simpa [Sl.flat] using hj)
    simpa using this
  rintro r w3 ⟨v3, rfl, l3, -, k3⟩
  have L3 := Lib.hid l3
  have K3 : Hid (Below w.heap.size w w3) := Lib.hid (K2.out.trans ((below1 w2 _).mono K2.out.size |>.trans (k3.below (by have := K2.out.size; simp; omega) (fun i hi => by
    rcases hi with rfl | hi
    · exact Nat.le_refl _
    · simp [Value.ownBlock] at hi))))
  clear l3 k3
  go_wp2_with fail
  refine (fine_ok w.heap.size v3 [pa, pb] w3 L3 (by simp) (Lib.hid fits_ab)).mono ?_
  rintro r w4 ⟨x, rfl, hx, k4⟩
  obtain rfl : x = false := by
    cases x with
    | false => rfl
    | true => exact absurd (hx.1 rfl) not_ab
  have L4 := Lib.hid (L3.out.next k4)
  have K4 := Lib.hid (after K3.out k4)
  clear hx k4
  go_wp2_with fail
  refine (all_ok w.heap.size v3 [pa, pb] w4 L4 (by simp)).mono ?_
  rintro r w5 ⟨v5, rfl, o5, k5⟩
  obtain ⟨A5, c5, rfl⟩ := (Rd.own o5).len
  have L5 := Lib.hid (L4.out.next k5)
  have K5 := Lib.hid (after K4.out k5)
  clear o5 k5
  go_wp2_with fail
  refine (of_ok w.heap.size v3 [pa, pb] ka w5 L5 (by simp)).mono ?_
  rw [of_a]
  rintro r w6 ⟨v6, rfl, o6, k6⟩
  obtain ⟨A6, c6, rfl⟩ := (Rd.own o6).len
  have L6 := Lib.hid (L5.out.next k6)
  have K6 := Lib.hid (after K5.out k6)
  clear o6 k6
  go_wp2_with fail
  refine (of_ok w.heap.size v3 [pa, pb] ⟨#[98]⟩ w6 L6 (by simp)).mono ?_
  rw [of_b]
  rintro r w7 ⟨v7, rfl, o7, k7⟩
  obtain ⟨A7, c7, rfl⟩ := (Rd.own o7).len
  have K7 := Lib.hid (after K6.out k7)
  clear o7 k7
  go_wp2
  go_ret
  exact ⟨rfl, K7.out⟩

/-! ### what came in -/
theorem cellsP : Try.prog.cellsOf 32 = 7 := by kernel_rfl
theorem cellsA : Try.prog.cellsOf 30 = 4 := by kernel_rfl
theorem cellsN : Try.prog.cellsOf 3 = 1 := by kernel_rfl
theorem cellsL : Try.prog.cellsOf 26 = 1 := by kernel_rfl
section
variable {H : Type} {enc : TypeId × Value → H} {w : World} {base : Nat} {held : Bool} {spare : Nat → Bool}
theorem span_cells (m : Nat) (cs : List Value) (y : DataW H × List MemPlace) (h : DataW.trod enc Try.prog w base spare held m 28 cs = some y) :
    ∃ a b : Int, cs = [.int .i64 a, .int .i64 b] ∧ (Lit.int .i64 a).wf = true ∧ (Lit.int .i64 b).wf = true := by
  obtain ⟨xs, n, _, _, hl, hlen, hat⟩ := DataW.trod_struct Try.underlying28 h
  match cs, hl.trans Wm.cellsSp with
  | [c0, c1], _ =>
    match xs, hlen with
    | [y0, y1], _ =>
      have g0 := hat 0 _ rfl
      have g1 := hat 1 _ rfl
      simp [Wm.cellsI] at g0 g1
      obtain ⟨a0, e0, -, w0⟩ := DataW.trod_int Try.underlying2 g0
      obtain ⟨a1, e1, -, w1⟩ := DataW.trod_int Try.underlying2 g1
      simp at e0 e1
      subst e0 e1
      exact ⟨a0, a1, rfl, w0, w1⟩
theorem agg_cells (m : Nat) (cs : List Value) (y : DataW H × List MemPlace) (h : DataW.trod enc Try.prog w base spare held m 30 cs = some y) :
    ∃ a b c d : Int, cs = [.int .i64 a, .int .i64 b, .int .i64 c, .int .i64 d] := by
  obtain ⟨xs, n, _, _, hl, hlen, hat⟩ := DataW.trod_struct Try.underlying30 h
  match cs, hl.trans cellsA with
  | [c0, c1, c2, c3], _ =>
    match xs, hlen with
    | [y0, y1, y2, y3], _ =>
      have g0 := hat 0 _ rfl
      have g1 := hat 1 _ rfl
      have g2 := hat 2 _ rfl
      have g3 := hat 3 _ rfl
      simp [Wm.cellsI, cellsN] at g0 g1 g2 g3
      obtain ⟨a0, e0, -, -⟩ := DataW.trod_int Try.underlying3 g0
      obtain ⟨a1, e1, -, -⟩ := DataW.trod_int Try.underlying2 g1
      obtain ⟨a2, e2, -, -⟩ := DataW.trod_int Try.underlying2 g2
      obtain ⟨a3, e3, -, -⟩ := DataW.trod_int Try.underlying2 g3
      simp at e0 e1 e2 e3
      subst e0 e1 e2 e3
      exact ⟨a0, a1, a2, a3, rfl⟩
theorem pane_cells_in (m : Nat) (cs : List Value) (y : DataW H × List MemPlace) (h : DataW.trod enc Try.prog w base spare held m 32 cs = some y) : ∃ p : Pn, cs = p.cl ∧ Fits p := by
  obtain ⟨xs, n, _, _, hl, hlen, hat⟩ := DataW.trod_struct Try.underlying32 h
  match cs, hl.trans cellsP with
  | [c0, c1, c2, c3, c4, c5, c6], _ =>
    match xs, hlen with
    | [y0, y1, y2], _ =>
      have g0 := hat 0 _ rfl
      have g1 := hat 1 _ rfl
      have g2 := hat 2 _ rfl
      simp [Wm.cellsS, Wm.cellsSp, cellsA] at g0 g1 g2
      obtain ⟨s, e0, -, w0⟩ := DataW.trod_string Try.underlying9 g0
      obtain ⟨a, b, e1, w1, w2⟩ := span_cells _ _ _ g1
      obtain ⟨c, d, e, f, e2⟩ := agg_cells _ _ _ g2
      simp at e0 e1 e2
      obtain ⟨rfl, rfl⟩ := e1
      obtain ⟨rfl, rfl, rfl, rfl⟩ := e2
      subst e0
      exact ⟨⟨s, a, b, c, d, e, f⟩, rfl, w0, w1, w2⟩
/-- a list of panes that came in -/
theorem list_cells (m : Nat) (cs : List Value) (y : DataW H × List MemPlace) (h : DataW.trod enc Try.prog w base spare held m 26 cs = some y) : ∃ x : Value × List Pn, cs = [x.1] ∧ Rd w x.1 x.2 ∧ ∀ p ∈ x.2, Fits p := by
  rcases Deep.open_slice Try.underlying26 h with ⟨rfl, _⟩ | ⟨a, len, cap, m, n, D, Pl, rfl, _, hl, hm, hmm, _, hat⟩
  · exact ⟨(.slice none 0 0, []), rfl, .inl ⟨0, .inl ⟨rfl, rfl⟩⟩, by simp⟩
  · by_cases h0 : len = 0
    · subst h0
      exact ⟨(.slice (some a) 0 cap, []), rfl, .inr ⟨rfl, a, cap, rfl⟩, by simp⟩
    · have hlen : len ≤ m := by rw [hmm]; split <;> omega
      have ex : ∀ i, i < len → ∃ x : Pn, Fits x ∧ ∀ j v, (Pn.cl x)[j]? = some v → w.cell? ((a.add (i * 7)).add j) = some v := fun i hi => by
        obtain ⟨cs, hc, hd⟩ := hat i (by omega)
        obtain ⟨x, rfl, hx⟩ := pane_cells_in _ _ _ hd
        rw [cellsP] at hc
        exact ⟨x, hx, (Opens.cells_each hc).2⟩
      obtain ⟨f, hff⟩ := Deep.choose_lt ex
      obtain ⟨b, off, spot⟩ := a
      have c0 := (hff 0 (by omega)).2 0 _ rfl
      have hspot : spot = none := by
        rw [Nat.zero_mul] at c0
        simpa [Addr.add] using World.cell?_spot c0
      subst hspot
      have hb : b < w.heap.size := World.block_lt_of_cell? _ _ c0
      have lenL : ((List.range len).map f).length = len := by simp
      refine ⟨(.slice (some ⟨b, off, none⟩) len cap, (List.range len).map f), rfl, .inl ⟨b, .inr ⟨off, cap, by rw [lenL], by rw [lenL]; exact hl, hm, hb, fun j u hj => ?_⟩⟩, fun p hp => ?_⟩
      · have hj' : j < ((List.range len).map f).length * 7 := by
          have := (List.getElem?_eq_some_iff.1 hj).1
          rw [Sl.flat_len Pn.ok] at this
          exact this
        rw [flat_get _ j hj'] at hj
        rw [lenL] at hj'
        have hi : j / 7 < len := by omega
        have e : ((List.range len).map f)[j / 7]! = f (j / 7) := by
          rw [List.getElem!_eq_getElem?_getD, List.getElem?_map, List.getElem?_range hi]; rfl
        rw [e] at hj
        have hk : (Pn.cl (f (j / 7)))[j % 7]? = some u := by
          have h7 : j % 7 < (Pn.cl (f (j / 7))).length := by have := Nat.mod_lt j (show 0 < 7 by decide); simpa using this
          rw [← hj, List.getElem!_eq_getElem?_getD, List.getElem?_eq_getElem h7]; rfl
        have := (hff _ hi).2 _ _ hk
        rw [Deep.add_add, add_plain] at this
        rw [show off + j = off + (j / 7 * 7 + j % 7) by omega]
        exact this
      · obtain ⟨i, hi, rfl⟩ := List.mem_map.1 hp
        exact (hff i (by simpa using hi)).1
end
instance : Inhabited (Value × List Pn) := ⟨(.slice none 0 0, [])⟩
/-- what a list of panes that came in is -/
def Came (w : World) (x : Value × List Pn) : Prop := Rd w x.1 x.2 ∧ ∀ p ∈ x.2, Fits p
end Out
namespace Opens
theorem open_panes {H : Type} {enc : TypeId × Value → H} {w : World} {base : Nat} {held : Bool} {spare : Nat → Bool} {r : Reach} {b0 : Nat} {v : Value} {d : DataW H} {p : List MemPlace}
    (hv : Value.okWide Try.prog w r b0 26 v) (h : DataW.Trod enc Try.prog w base spare held 26 v d p) : ∃ x : Value × List Pn, v = x.1 ∧ Out.Came w x := by
  obtain ⟨A, len, cap, rfl⟩ := okWide_slice Try.underlying26 hv
  obtain ⟨fuel, hf⟩ := h
  obtain ⟨x, h1, h2, h3⟩ := Out.list_cells _ _ _ hf
  simp [Value.cells] at h1
  exact ⟨x, h1, h2, h3⟩
theorem open_lists {H : Type} {enc : TypeId × Value → H} {w : World} {base : Nat} {held : Bool} {spare : Nat → Bool} {r : Reach} {b0 : Nat} {v : Value} {d : DataW H} {p : List MemPlace}
    (hv : Value.okWide Try.prog w r b0 22 v) (h : DataW.Trod enc Try.prog w base spare held 22 v d p) :
    ∃ x : Option Addr × Nat × Nat × (Nat → Value × List Pn), v = .slice x.1 x.2.1 x.2.2.1 ∧ IsRows (fun x : Value × List Pn => [x.1]) 1 (Out.Came w) w x :=
  open_rows (fun x : Value × List Pn => [x.1]) (Out.Came w) Try.underlying22 Out.cellsL (by omega) (fun m cs y h => by obtain ⟨x, h1, h2⟩ := Out.list_cells m cs y h; exact ⟨x, h1, h2⟩) hv h
end Opens
end Go.Proofs.Ytdmplcnnoabkaaa
