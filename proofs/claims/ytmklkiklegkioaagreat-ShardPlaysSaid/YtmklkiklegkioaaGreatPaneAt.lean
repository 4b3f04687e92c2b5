/-
  Lists of panes by rising windows: where a window's place is, and what comes of putting one there, or of cutting it out. Plain mathematics, of no memory.
  Where a window's place is in a list of panes: pane.place, slices.BinarySearchFunc.
-/
import Derived.Test.YtmklkiklegkioaaGreatPns
import Derived.Test.YtmklkiklegkioaaGreatSpan
namespace Go.Proofs.YtmklkiklegkioaaGreat
open Go.ChangeShapes Go.WideShapes Go.ChangeAt Go.RowKit Small
set_option linter.unusedVariables false
namespace Pane

/-- is a pane's window ahead of this one: by Start, then by End -/
abbrev Ah (x : Pn) (s e : Int) : Prop := x.s < s ∨ (x.s = s ∧ x.e < e)
abbrev Eq2 (x : Pn) (s e : Int) : Prop := x.s = s ∧ x.e = e
/-- by rising windows, each once -/
def Rises (L : List Pn) : Prop := L.Pairwise fun p q => Ah p q.s q.e

/-- k panes are ahead of the window -/
structure At (L : List Pn) (s e : Int) (k : Nat) : Prop where
  le : k ≤ L.length
  lo : ∀ i x, i < k → L[i]? = some x → Ah x s e
  hi : ∀ i x, k ≤ i → L[i]? = some x → ¬ Ah x s e

theorem at_some {L : List Pn} {i : Nat} (h : i < L.length) : ∃ x, L[i]? = some x := ⟨L[i], by simp [h]⟩
theorem lt_of_at {L : List Pn} {i : Nat} {x : Pn} (h : L[i]? = some x) : i < L.length := (List.getElem?_eq_some_iff.1 h).1

theorem At.uniq {L : List Pn} {s e : Int} {k k' : Nat} (h : At L s e k) (h' : At L s e k') : k = k' := by
  rcases Nat.lt_trichotomy k k' with q | q | q
  · obtain ⟨x, hx⟩ := at_some (L := L) (i := k) (by have := h'.le; omega)
    exact absurd (h'.lo k x q hx) (h.hi k x (Nat.le_refl _) hx)
  · exact q
  · obtain ⟨x, hx⟩ := at_some (L := L) (i := k') (by have := h.le; omega)
    exact absurd (h.lo k' x q hx) (h'.hi k' x (Nat.le_refl _) hx)

theorem Rises.at {L : List Pn} (h : Rises L) {i j : Nat} {x y : Pn} (hij : i < j) (hx : L[i]? = some x) (hy : L[j]? = some y) : Ah x y.s y.e := by
  obtain ⟨h1, rfl⟩ := List.getElem?_eq_some_iff.1 hx
  obtain ⟨h2, rfl⟩ := List.getElem?_eq_some_iff.1 hy
  exact List.pairwise_iff_getElem.1 h i j h1 h2 hij

theorem At.ex {L : List Pn} (h : Rises L) (s e : Int) : ∃ k, At L s e k := by
  induction L with
  | nil => exact ⟨0, Nat.le_refl _, fun i x q _ => absurd q (by omega), fun i x _ hx => by simp at hx⟩
  | cons p L ih =>
    obtain ⟨h1, h2⟩ := List.pairwise_cons.1 h
    by_cases hp : Ah p s e
    · obtain ⟨k, a⟩ := ih h2
      refine ⟨k + 1, by have := a.le; simp; omega, fun i x q hx => ?_, fun i x q hx => ?_⟩
      · cases i with
        | zero => simp at hx; subst hx; exact hp
        | succ i => exact a.lo i x (by omega) (by simpa using hx)
      · cases i with
        | zero => omega
        | succ i => exact a.hi i x (by omega) (by simpa using hx)
    · refine ⟨0, by simp, fun i x q _ => absurd q (by omega), fun i x q hx => ?_⟩
      cases i with
      | zero => simp at hx; subst hx; exact hp
      | succ i =>
        have hm := h1 x (List.mem_of_getElem? (by simpa using hx))
        simp only [Ah] at hp hm ⊢
        omega

theorem At.found {L : List Pn} (h : Rises L) {s e : Int} {k : Nat} (a : At L s e k) {x : Pn} (hx : x ∈ L) (he : Eq2 x s e) : L[k]? = some x := by
  obtain ⟨i, hi⟩ := List.mem_iff_getElem?.1 hx
  rcases Nat.lt_trichotomy i k with q | q | q
  · have := a.lo i x q hi
    simp only [Ah, Eq2] at this he
    omega
  · subst q; exact hi
  · obtain ⟨y, hy⟩ := at_some (L := L) (i := k) (by have := lt_of_at hi; omega)
    have h1 := h.at q hy hi
    have h2 := a.hi k y (Nat.le_refl _) hy
    simp only [Ah, Eq2] at h1 h2 he
    omega

theorem rises_ins {L : List Pn} (h : Rises L) {p : Pn} {k : Nat} (a : At L p.s p.e k) (hn : ∀ x ∈ L, ¬ Eq2 x p.s p.e) : Rises (L.take k ++ p :: L.drop k) := by
  have ht : ∀ x ∈ L.take k, Ah x p.s p.e := fun x hx => by
    obtain ⟨i, hi⟩ := List.mem_iff_getElem?.1 hx
    rw [List.getElem?_take] at hi
    split at hi
    · exact a.lo i x (by assumption) hi
    · cases hi
  have hd : ∀ x ∈ L.drop k, Ah p x.s x.e := fun x hx => by
    obtain ⟨i, hi⟩ := List.mem_iff_getElem?.1 hx
    rw [List.getElem?_drop] at hi
    have h1 := a.hi _ x (by omega) hi
    have h2 := hn x (List.mem_of_mem_drop hx)
    simp only [Ah, Eq2] at h1 h2 ⊢
    omega
  have hw := h
  rw [← List.take_append_drop k L] at hw
  obtain ⟨w1, w2, w3⟩ := List.pairwise_append.1 hw
  refine List.pairwise_append.2 ⟨w1, List.pairwise_cons.2 ⟨hd, w2⟩, fun x hx y hy => ?_⟩
  rcases List.mem_cons.1 hy with rfl | hy
  · exact ht x hx
  · exact w3 x hx y hy
theorem Rises.sub {L L' : List Pn} (h : Rises L) (k : L'.Sublist L) : Rises L' := List.Pairwise.sublist k h
theorem rises_cut {L : List Pn} (h : Rises L) (k : Nat) : Rises (L.take k ++ L.drop (k + 1)) := by
  refine h.sub ?_
  have e : L = L.take k ++ L.drop k := (List.take_append_drop k L).symm
  have : (L.take k ++ L.drop (k + 1)).Sublist (L.take k ++ L.drop k) := by
    refine List.Sublist.append (List.Sublist.refl _) ?_
    rw [← List.drop_drop]
    exact List.drop_sublist _ _
  rwa [← e] at this
theorem at_cut {L : List Pn} {s e : Int} {k : Nat} (a : At L s e k) (hk : k < L.length) : At (L.take k ++ L.drop (k + 1)) s e k := by
  have hl : (L.take k).length = k := by rw [List.length_take]; omega
  refine ⟨by rw [List.length_append, hl]; omega, fun i x q hx => ?_, fun i x q hx => ?_⟩
  · rw [List.getElem?_append_left (by omega), List.getElem?_take_of_lt q] at hx
    exact a.lo i x q hx
  · rw [List.getElem?_append_right (by omega), hl, List.getElem?_drop] at hx
    exact a.hi _ x (by omega) hx
/-- without those that have this window: it is cut out -/
theorem filter_cut {L : List Pn} (h : Rises L) {s e : Int} {k : Nat} (a : At L s e k) {x : Pn} (hx : L[k]? = some x) (he : Eq2 x s e) (q : Pn → Bool) (hq : ∀ y ∈ L, q y = true ↔ ¬ Eq2 y s e) : L.filter q = L.take k ++ L.drop (k + 1) := by
  have hk := lt_of_at hx
  have e1 : L = L.take k ++ x :: L.drop (k + 1) := by
    obtain ⟨h1, h2⟩ := List.getElem?_eq_some_iff.1 hx
    conv => lhs; rw [← List.take_append_drop k L, List.drop_eq_getElem_cons h1, h2]
  have ht : (L.take k).filter q = L.take k := List.filter_eq_self.2 fun y hy => (hq y (List.mem_of_mem_take hy)).2 fun ey => by
    obtain ⟨i, hi⟩ := List.mem_iff_getElem?.1 hy
    rw [List.getElem?_take] at hi
    split at hi
    · have := a.lo i y (by assumption) hi
      simp only [Ah, Eq2] at this ey
      omega
    · cases hi
  have hd : (L.drop (k + 1)).filter q = L.drop (k + 1) := List.filter_eq_self.2 fun y hy => (hq y (List.mem_of_mem_drop hy)).2 fun ey => by
    obtain ⟨i, hi⟩ := List.mem_iff_getElem?.1 hy
    rw [List.getElem?_drop] at hi
    have := h.at (i := k) (j := k + 1 + i) (by omega) hx hi
    simp only [Ah, Eq2] at this ey he
    omega
  have hqx : q x = false := by
    cases hc : q x
    · rfl
    · exact absurd he ((hq x (List.mem_of_getElem? hx)).1 hc)
  conv => lhs; rw [e1]
  rw [List.filter_append, List.filter_cons, hqx, ht, hd]
  simp
theorem set_cut {L : List Pn} {k : Nat} (hk : k < L.length) (p : Pn) : (L.take k ++ L.drop (k + 1)).take k ++ p :: (L.take k ++ L.drop (k + 1)).drop k = L.set k p := by
  have hl : (L.take k).length = k := by rw [List.length_take]; omega
  rw [List.take_left' hl, List.drop_left' hl]
  exact (List.set_eq_take_append_cons_drop ..).symm ▸ (by simp [hk])
end Pane
end Go.Proofs.YtmklkiklegkioaaGreat

namespace Go.Proofs.YtmklkiklegkioaaGreat
open Go.ChangeShapes Go.WideShapes Go.ChangeAt Go.RowKit Small
set_option linter.unusedVariables false
namespace Pane

abbrev win (s e : Int) : Value := .agg #[.int .i64 s, .int .i64 e]
theorem cmp_lt {a b c d : Int} : Spn.cmpW a b c d < 0 ↔ (a < c ∨ (a = c ∧ b < d)) := by
  unfold Spn.cmpW Spn.cmp3
  repeat' split
  all_goals omega
theorem cmp_eq {a b c d : Int} : Spn.cmpW a b c d = 0 ↔ (a = c ∧ b = d) := by
  unfold Spn.cmpW Spn.cmp3
  repeat' split
  all_goals omega

set_option maxHeartbeats 800000 in
theorem close_ok (x : Pn) (s e : Int) (w : World) :
    Calls Tryz.prog 137 #[x.v, win s e] w fun r w' => r = .returned (.int .i64 (Spn.cmpW x.s x.e s e)) ∧ Below w.heap.size w w' := by
  have C := Lib.hid fun w : World => Spn.comp_ok x.s x.e s e w
  generalize Spn.cmpW x.s x.e s e = q at *
  obtain ⟨key, a, b, c, d, f, g⟩ := x
  simp only at C
  go_enter Tryz.func137, Tryz.ntmps137
  go_wp2_with fail
  refine (C.out _).mono ?_
  rintro r w1 ⟨rfl, k1⟩
  have K1 := Lib.hid k1
  clear k1
  go_wp2
  go_ret
  exact ⟨rfl, after (below2 _ _ _) K1.out⟩

set_option maxRecDepth 100000 in
set_option maxHeartbeats 4000000 in
theorem search_ok (v : Value) (L : List Pn) (b k : Nat) (s e : Int) (fd : Bool) (w : World) (H : Hid (Sl.Is Pn.k w v L b)) (hn : L.length ≤ 9000) (A : Hid (At L s e k)) (hf : Hid (fd = true ↔ ∃ x, L[k]? = some x ∧ Eq2 x s e)) :
    Calls Tryz.prog 136 #[v, win s e, .func (.func 137) #[] #[]] w fun r w' => r = .returned (.tuple #[.int .i64 k, .bool fd]) ∧ Below w.heap.size w w' := by
  obtain ⟨AD, cap, rfl⟩ := H.out.len
  have hk := A.out.le
  go_enter Tryz.func136, Tryz.ntmps136
  go_wp2_with fail
  have K0 := Lib.hid (below1 w (Obj.cells #[.int .i64 s, .int .i64 e] 80))
  have H0 := Lib.hid (H.out.next K0.out)
  have Z0 := Lib.hid (Lies.new w 80 [.int .i64 s, .int .i64 e])
  generalize w.alloc (Obj.cells #[.int .i64 s, .int .i64 e] 80) = w0 at *
  go_loopw [9, 10] (fun si sj wr => ∃ (i j : Nat), i ≤ k ∧ k ≤ j ∧ j ≤ L.length ∧ si = .int .i64 i ∧ sj = .int .i64 j ∧ Hid (Below w0.heap.size w0 wr)) (fun si sj _ => (intOf sj - intOf si).toNat)
  case atStart => exact ⟨0, L.length, by omega, hk, Nat.le_refl _, rfl, rfl, Lib.hid (Below.refl _ _)⟩
  case round =>
    obtain ⟨i, j, hi, hj, hjn, rfl, rfl, K⟩ := hrel
    by_cases hlt : i < j
    · obtain ⟨off, cap', he, h2, h3, h4, hcell⟩ := H0.out.some_ Pn.ok (by omega)
      obtain ⟨rfl, rfl⟩ : AD = some ⟨b, off, none⟩ ∧ cap = cap' := by simpa using he
      obtain ⟨m, hm, hm1, hm2⟩ : ∃ m : Nat, ((i : Int) + j) / 2 = m ∧ i ≤ m ∧ m < j := ⟨(i + j) / 2, by omega, by omega, by omega⟩
      obtain ⟨y, hy⟩ := at_some (L := L) (i := m) (by omega)
      have HY := Lib.hid hy
      obtain ⟨c0, c1, c2, c3, c4, c5, c6⟩ := Tmr.pane_cells hy hcell
      have z0 := Z0.out.cell (i := 0) rfl
      have z1 := Z0.out.cell (i := 1) rfl
      have w1 : IntKind.i64.wrap ((i : Int) + j) = (i : Int) + j := by rw [IntKind.wrap_i64]; omega
      have C := Lib.hid fun w : World => close_ok y s e w
      have Q := Lib.hid (cmp_lt (a := y.s) (b := y.e) (c := s) (d := e))
      have HM := Lib.hid hm
      clear hcell he hy h2 h3 h4 hm
      generalize Spn.cmpW y.s y.e s e = cv at *
      go_wp2_with fail
      rw [HM.out]
      have i0 : (m : Int) < L.length := by omega
      have f0 := Later.cell (cell_keep K.out c0)
      have f1 := Later.cell (cell_keep K.out c1)
      have f2 := Later.cell (cell_keep K.out c2)
      have f3 := Later.cell (cell_keep K.out c3)
      have f4 := Later.cell (cell_keep K.out c4)
      have f5 := Later.cell (cell_keep K.out c5)
      have f6 := Later.cell (cell_keep K.out c6)
      have g0 := Later.cell (cell_keep K.out z0)
      have g1 := Later.cell (cell_keep K.out z1)
      clear c0 c1 c2 c3 c4 c5 c6 z0 z1
      refine wp_region_later (by kernel_rfl) (by kernel_rfl) ?_
      repeat (go_big_quiet_step (first | (go_at_call 137; with_reducible exact Later.call _ (C.out _))))
      refine wpQuiet_nil ?_
      rintro _ ⟨u, rfl⟩
      have K2 := Lib.hid (after K.out u.below)
      clear f0 f1 f2 f3 f4 f5 f6 g0 g1
      generalize u.w = w2 at *
      by_cases hc : cv < 0
      · have hd : decide (cv < 0) = true := by simpa using hc
        go_wp2_with fail
        refine ⟨⟨m + 1, j, ?_, hj, hjn, by go_num, rfl, K2⟩, by simp [intOf]; omega⟩
        rcases Nat.lt_or_ge m k with q | q
        · omega
        · exact absurd (Q.out.1 hc) (A.out.hi m y q HY.out)
      · have hd : decide (cv < 0) = false := by simpa using hc
        go_wp2_with fail
        refine ⟨⟨i, m, hi, ?_, by omega, rfl, rfl, K2⟩, by simp [intOf]; omega⟩
        rcases Nat.lt_or_ge m k with q | q
        · exact absurd (Q.out.2 (A.out.lo m y q HY.out)) hc
        · exact q
    · obtain rfl : i = k := by omega
      obtain rfl : i = j := by omega
      by_cases hin : i < L.length
      · obtain ⟨off, cap', he, h2, h3, h4, hcell⟩ := H0.out.some_ Pn.ok (by omega)
        obtain ⟨rfl, rfl⟩ : AD = some ⟨b, off, none⟩ ∧ cap = cap' := by simpa using he
        obtain ⟨y, hy⟩ := at_some (L := L) (i := i) (by omega)
        obtain ⟨c0, c1, c2, c3, c4, c5, c6⟩ := Tmr.pane_cells hy hcell
        have z0 := Z0.out.cell (i := 0) rfl
        have z1 := Z0.out.cell (i := 1) rfl
        have C := Lib.hid fun w : World => close_ok y s e w
        have Q := Lib.hid (cmp_eq (a := y.s) (b := y.e) (c := s) (d := e))
        have hfd : Hid (fd = true ↔ Eq2 y s e) := Lib.hid (hf.out.trans ⟨fun ⟨x, h1, h2⟩ => by rw [hy] at h1; obtain rfl := Option.some.inj h1; exact h2, fun h => ⟨y, hy, h⟩⟩)
        clear hcell he hy h2 h3 h4 hf
        generalize Spn.cmpW y.s y.e s e = cv at *
        have hfd2 : (cv == 0) = fd := by
          rw [Bool.eq_iff_iff, hfd.out]
          simpa using Q.out
        have HF := Lib.hid hfd2
        clear hfd2 hfd Q
        have i0 : (i : Int) < L.length := by omega
        go_wp2_with fail
        have f0 := Later.cell (cell_keep K.out c0)
        have f1 := Later.cell (cell_keep K.out c1)
        have f2 := Later.cell (cell_keep K.out c2)
        have f3 := Later.cell (cell_keep K.out c3)
        have f4 := Later.cell (cell_keep K.out c4)
        have f5 := Later.cell (cell_keep K.out c5)
        have f6 := Later.cell (cell_keep K.out c6)
        have g0 := Later.cell (cell_keep K.out z0)
        have g1 := Later.cell (cell_keep K.out z1)
        clear c0 c1 c2 c3 c4 c5 c6 z0 z1
        refine wp_region_later (by kernel_rfl) (by kernel_rfl) ?_
        repeat (go_big_quiet_step (first | (go_at_call 137; with_reducible exact Later.call _ (C.out _))))
        refine wpQuiet_nil ?_
        rintro _ ⟨u, rfl⟩
        have K2 := Lib.hid (after K.out u.below)
        clear f0 f1 f2 f3 f4 f5 f6 g0 g1
        generalize u.w = w2 at *
        go_wp2
        go_ret2
        refine ⟨?_, after K0.out K2.out⟩
        rw [← HF.out]
        rfl
      · obtain rfl : i = L.length := by omega
        have hfd : fd = false := by
          cases fd
          · rfl
          · obtain ⟨x, h1, _⟩ := hf.out.1 rfl
            have := lt_of_at h1
            omega
        subst hfd
        go_wp2_with fail
        refine wp_region_later (by kernel_rfl) (by kernel_rfl) ?_
        repeat (go_big_quiet_step (fail))
        refine wpQuiet_nil ?_
        rintro _ ⟨u, rfl⟩
        have K2 := Lib.hid (after K.out u.below)
        generalize u.w = w2 at *
        go_wp2
        go_ret2
        exact ⟨rfl, after K0.out K2.out⟩

/-- where a window's place is -/
theorem place_ok (v : Value) (L : List Pn) (b k : Nat) (s e : Int) (fd : Bool) (w : World) (H : Hid (Sl.Is Pn.k w v L b)) (hn : L.length ≤ 9000) (A : Hid (At L s e k)) (hf : Hid (fd = true ↔ ∃ x, L[k]? = some x ∧ Eq2 x s e)) :
    Calls Tryz.prog 112 #[v, win s e] w fun r w' => r = .returned (.tuple #[.int .i64 k, .bool fd]) ∧ Below w.heap.size w w' := by
  go_enter Tryz.func112, Tryz.ntmps112
  go_wp2_with fail
  refine (search_ok v L b k s e fd _ (Lib.hid (H.out.next (below1 _ _))) hn A hf).mono ?_
  rintro r w1 ⟨rfl, k1⟩
  have K1 := Lib.hid (after (below1 _ _) k1)
  clear k1
  go_wp2
  go_ret2
  exact ⟨rfl, K1.out⟩
end Pane
end Go.Proofs.YtmklkiklegkioaaGreat
