/-
  hist.Order: the places of those that have a point, by rising points, in a list of the call's own.
-/
import Derived.Test.YtomdgeenmmgmaaaHsFine
import Derived.Test.YtomdgeenmmgmaaaSiStab
import Derived.Deep.QuietTactic
import Derived.Test.YtomdgeenmmgmaaaDrawn
namespace Go.Proofs.Ytomdgeenmmgmaaa
open Go.ChangeShapes Go.WideShapes Go.ChangeAt Go.RowKit Go.Sort Go.Lib
set_option maxRecDepth 100000
set_option linter.unusedVariables false
/-- numbers of the call's own -/
abbrev Nk : Kind Nat := ⟨25, 3, 1, 8, .int .i64 0, fun i => [.int .i64 (i : Int)]⟩
theorem nok : Nk.Ok where
  under := Try.underlying25
  elem := by kernel_rfl
  info := by kernel_rfl
  zs := rfl
  pos := by decide
  len := fun _ => rfl
  one := by
    intro x u hu
    simp only [List.mem_cons, List.not_mem_nil, or_false] at hu
    rw [hu]; rfl
  small := by decide
namespace Hs
open Small Srt
def c3 (a b : Int) : Int := if a < b then -1 else if b < a then 1 else 0
set_option maxHeartbeats 400000 in
theorem nan_ok (a : Int) (w : World) : Calls Try.prog 24 #[.int .i64 a] w fun r w' => r = .returned (.bool false) ∧ w = w' := by
  go_enter Try.func24, Try.ntmps24
  go_wp2
  go_ret
  exact ⟨ret_bool (by simp), rfl⟩
set_option maxHeartbeats 400000 in
theorem compare_ok (a b : Int) (w : World) : Calls Try.prog 18 #[.int .i64 a, .int .i64 b] w fun r w' => r = .returned (.int .i64 (c3 a b)) ∧ w' = w := by
  go_enter Try.func18, Try.ntmps18
  go_wp2_with fail
  refine (nan_ok _ _).mono ?_
  rintro e w1 ⟨rfl, rfl⟩
  go_wp2_with fail
  refine (nan_ok _ _).mono ?_
  rintro e w1 ⟨rfl, rfl⟩
  go_wp2
  all_goals go_ret
  all_goals exact ⟨ret_int (by unfold c3; omega), rfl⟩

set_option maxHeartbeats 1600000 in
theorem cmp_ok {n : Nat} {g0 b off cap : Nat} {W : World} (h0 : W.cell? ⟨g0, 0, none⟩ = some (.slice (some ⟨b, off, none⟩) n cap)) {x y : Nat} (hx : x < n) (hy : y < n) {px py : Int}
    (h1 : W.cell? ⟨b, off + x * 14 + 12, none⟩ = some (.int .i64 px)) (h2 : W.cell? ⟨b, off + y * 14 + 12, none⟩ = some (.int .i64 py)) :
    Calls Try.prog 17 #[.int .i64 x, .int .i64 y, .pointer (some ⟨g0, 0, none⟩)] W fun r w' => r = .returned (.int .i64 (c3 px py)) ∧ ∃ q os', w' = grow (W.drewN q) os' := by
  have bx : (x : Int) < (n : Int) := by omega
  have by_ : (y : Int) < (n : Int) := by omega
  have hc : ∀ w, Calls Try.prog 18 #[.int .i64 px, .int .i64 py] w fun r w' => r = .returned (.int .i64 (c3 px py)) ∧ ∃ q, w' = w.drewN q := fun w => (compare_ok px py w).mono fun e w' h => ⟨h.1, 0, h.2⟩
  generalize c3 px py = z at hc ⊢
  go_enter Try.func17, Try.ntmps17
  go_wp2_with fail
  go_quiet (first | (go_at_call 18; refine Calls.quiet_of (hc _)))
  go_wp2
  go_ret
  exact ⟨rfl, nq, #[], by rw [grow_empty]⟩

/-! ### the sort -/
abbrev Ix (n : Nat) := {i : Nat // i < n}
abbrev en {n : Nat} (x : Ix n) : Value := .int .i64 (x.1 : Int)
def cf (L : List Ev) {n : Nat} (x y : Ix n) : Int := c3 (E L x.1).p (E L y.1).p
theorem lt_cf (L : List Ev) {n : Nat} (x y : Ix n) : ltOf (cf L) x y = lt L x.1 y.1 := by
  unfold ltOf cf lt c3
  by_cases h : (E L x.1).p < (E L y.1).p
  · simp [h]
  · rw [if_neg h, decide_eq_false h]
    split <;> simp
theorem swoI (L : List Ev) (n : Nat) : SWO (ltOf (cf L (n := n))) where
  irrefl := fun x => by rw [lt_cf]; exact (swo L).irrefl _
  trans := fun x y z h k => by rw [lt_cf] at *; exact (swo L).trans _ _ _ h k
  ntrans := fun x y z h k => by rw [lt_cf] at *; exact (swo L).ntrans _ _ _ h k
theorem mrg_map (L : List Ev) {n : Nat} (a b : List (Ix n)) : (mrg (ltOf (cf L)) a b).map Subtype.val = mrg (lt L) (a.map Subtype.val) (b.map Subtype.val) := by
  unfold mrg
  exact List.map_merge fun x _ y _ => by rw [lt_cf]
theorem srt_map (L : List Ev) {n : Nat} : ∀ a : List (Ix n), (srt (ltOf (cf L)) a).map Subtype.val = srt (lt L) (a.map Subtype.val)
  | [] => rfl
  | x :: a => by
    rw [srt_cons, mrg_map, srt_map L a]
    rfl
theorem up_ix {n : Nat} : ∀ {l : List Nat}, (∀ i ∈ l, i < n) → ∃ d : List (Ix n), d.map Subtype.val = l
  | [], _ => ⟨[], rfl⟩
  | x :: l, h => by
    obtain ⟨d, hd⟩ := up_ix (l := l) fun i hi => h i (by simp [hi])
    exact ⟨⟨x, h x (by simp)⟩ :: d, by rw [List.map_cons, hd]⟩
theorem eC : ∀ args w, (callFunc 17 args).run Try.prog w = .ok (.enter 17 args) w := fun args w => enters Try.func17 (by kernel_rfl) rfl _ _

theorem flat_n (l : List Nat) : Sl.flat Nk l = l.map fun i : Nat => Value.int .i64 (i : Int) := by
  induction l with
  | nil => rfl
  | cons x l ih => simp only [Sl.flat, List.flatMap_cons] at ih ⊢; rw [ih]; rfl
theorem sort_old {α : Type} [Inhabited α] (enc : α → Value) {w : World} {blk off m : Nat} {dk : Array α} {os : Array Obj} {c j : Nat} {v : Value} (h : w.cell? ⟨c, j, none⟩ = some v) (hne : c ≠ blk) : (sortWorld enc w blk off m dk os).cell? ⟨c, j, none⟩ = some v := by
  have hc : c < w.heap.size := World.block_lt_of_cell? _ _ h
  unfold sortWorld
  rw [cell?_grow _ _ _ (by rw [size_putRow]; exact hc), cell?_putRow_other enc _ blk off _ _ (Or.inl hne)]
  exact h
theorem rw_below {α : Type} [Inhabited α] {enc : α → Value} {w0 w : World} {b off base : Nat} {l : List α} (h : Si.Rw enc w0 b off l w) (hb : base ≤ b) (hs : base ≤ w0.heap.size) : Below base w0 w := by
  obtain ⟨n, os, rfl⟩ := h
  refine ⟨rfl, rfl, rfl, ?_, fun i hi => ?_⟩
  · simp [sortWorld, Sort.ahead]
  · unfold sortWorld
    rw [heap_grow_old _ _ (by rw [size_putRow]; show i < w0.heap.size; omega)]
    show (w0.heap.modify b _)[i]? = _
    rw [Array.getElem?_modify, if_neg (by omega)]

set_option maxHeartbeats 800000 in
theorem stab_nil (v : Value) (w : World) (fv : Value) : Calls Try.prog 23 #[v, .int .i64 0, fv] w fun r w' => r = .returned (.tuple #[]) ∧ w' = w := by
  have ins : ∀ w : World, Calls Try.prog 25 #[v, .int .i64 0, .int .i64 0, fv] w fun r w' => r = .returned (.tuple #[]) ∧ w' = w := by
    intro w
    go_enter Try.func25, Try.ntmps25
    go_wp2
    refine wp_loop_rounds 1 ?_
    rw [rounds_succ]
    go_wp2
    go_end0
    exact ⟨rfl, rfl⟩
  go_enter Try.func23, Try.ntmps23
  go_wp2
  refine wp_loop_rounds 1 ?_
  rw [rounds_succ]
  go_wp2_with fail
  refine (ins w).mono ?_
  rintro r w1 ⟨rfl, rfl⟩
  go_wp2
  refine wp_loop_rounds 1 ?_
  rw [rounds_succ]
  go_wp2
  go_end0
  exact ⟨rfl, rfl⟩

/-- what the sort's function is bound to: a cell with the list of events -/
structure Bound (w : World) (g0 : Nat) (L : List Ev) (base : Nat) : Prop where
  cell : ∃ A cap, w.cell? ⟨g0, 0, none⟩ = some (.slice A L.length cap) ∧ ∀ i, i < L.length → ∃ b off, A = some ⟨b, off, none⟩ ∧ b < base ∧ EvAt w b (off + i * 14) (E L i)
  lt : g0 < base

theorem own_nums {base : Nat} {w : World} {v : Value} {l : List Nat} (H : Sl.Own Nk base w v l) (h0 : l ≠ []) : ∃ g cap cur, v = .slice (some ⟨g, 0, none⟩) l.length cap ∧ base ≤ g ∧ w.heap[g]? = some (.cells cur 3 (0, 0)) ∧ l.length ≤ cap ∧ cap ≤ maxLen ∧ cur.toList.take l.length = l.map (fun i : Nat => Value.int .i64 (i : Int)) := by
  obtain ⟨_, h | ⟨g, cap, cur, rfl, h2, h3, h4, h5, h6, h7⟩⟩ := H
  · exact absurd (List.length_eq_zero_iff.1 h.2) h0
  · refine ⟨g, cap, cur, rfl, h2, h3, h4, h5, ?_⟩
    rw [← flat_n]
    simpa using h7

/-- a list of the call's own, sorted by what lies in memory -/
theorem stab_own (v : Value) (l : List Nat) (base g0 : Nat) (L : List Ev) (w : World) (H : Sl.Own Nk base w v l) (hb : base ≤ w.heap.size) (B : Bound w g0 L base) (hl : ∀ i ∈ l, i < L.length) (hn : l.length ≤ 1000) :
    Calls Try.prog 23 #[v, .int .i64 l.length, .func (.func 17) #[] #[.pointer (some ⟨g0, 0, none⟩)]] w fun r w' => r = .returned (.tuple #[]) ∧ (∃ b, base ≤ b ∧ Sl.Is Nk w' v (srt (lt L) l) b) ∧ Below base w w' := by
  by_cases h0 : l = []
  · subst h0
    refine (stab_nil v w _).mono ?_
    rintro r w1 ⟨rfl, rfl⟩
    obtain ⟨b, hb, h⟩ := H.is
    exact ⟨rfl, ⟨b, hb, h⟩, Below.refl _ _⟩
  · obtain ⟨g, cap, cur, rfl, h2, h3, h4, h5, h7⟩ := own_nums H h0
    obtain ⟨D, hD⟩ := up_ix hl
    have hg : g < w.heap.size := Nat.lt_of_not_le fun q => by rw [Array.getElem?_eq_none q] at h3; cases h3
    have hN : 0 < L.length := by
      obtain ⟨x, hx⟩ := List.exists_mem_of_ne_nil l h0
      have := hl x hx; omega
    haveI : Inhabited (Ix L.length) := ⟨⟨0, hN⟩⟩
    have lD : D.length = l.length := by rw [← hD, List.length_map]
    have hh : Holds (en (n := L.length)) w g 0 D.toArray := by
      intro j hj
      have hj' : j < l.length := by rw [← lD]; simpa using hj
      refine ⟨?_, by simp [World.frozen?, h3]⟩
      rw [Nat.zero_add, cell_of_row w g j cur _ (0, 0) h3]
      have e : (cur.toList.take l.length)[j]? = some (.int .i64 (((D.toArray)[j]!).1 : Int)) := by
        rw [h7, ← hD, List.getElem?_map, List.getElem?_map]
        have : j < D.length := by omega
        simp [this]
      rw [List.getElem?_take, if_pos hj'] at e
      simpa using e
    have R0 : Row1 (en (n := L.length)) w g 0 D.toArray := ⟨fun _ => rfl, hh, hg⟩
    have R : Si.Rk (en (n := L.length)) w g 0 l.length := ⟨D.toArray, by simp [lD], R0⟩
    obtain ⟨A, cap0, hc, hat⟩ := B.cell
    have hcmp : Si.Cmps Try.prog 17 #[.pointer (some ⟨g0, 0, none⟩)] (en (n := L.length)) (cf L) w g 0 l.length := by
      intro m os dk hs x y
      obtain ⟨b, off, rfl, hbb, hx⟩ := hat x.1 x.2
      obtain ⟨b', off', e', hbb', hy⟩ := hat y.1 y.2
      simp only [Option.some.injEq, Addr.mk.injEq, and_true] at e'
      obtain ⟨rfl, rfl⟩ := e'
      have := B.lt
      exact cmp_ok (sort_old en hc (by omega)) x.2 y.2 (sort_old en hx.p (by omega)) (sort_old en hy.p (by omega))
    refine (Si.stable_ok Si.sp (swoI L _) hcmp eC R (by omega) D lD (SW.start hh)).mono ?_
    rintro r w' ⟨rfl, hw⟩
    refine ⟨rfl, ⟨g, h2, ?_⟩, rw_below hw h2 hb⟩
    have hH : Holds (en (n := L.length)) w' g 0 (srt (ltOf (cf L)) D).toArray := SW.holds hw hg hh (by simp [srt_len])
    have es : (srt (ltOf (cf L)) D).map Subtype.val = srt (lt L) l := by rw [srt_map, hD]
    have len1 : (srt (lt L) l).length = l.length := srt_len l
    refine .inr ⟨0, cap, by rw [len1], by rw [len1]; exact h4, h5, SW.lt hw hg, fun j u hj => ?_⟩
    rw [flat_n, ← es, List.map_map] at hj
    have hj2 : j < (srt (ltOf (cf L)) D).length := by
      have := (List.getElem?_eq_some_iff.1 hj).1
      simpa using this
    have := (hH j (by simpa using hj2)).1
    rw [this, ← hj]
    simp [hj2]

set_option maxHeartbeats 800000 in
theorem sortf_ok (v : Value) (l : List Nat) (base g0 : Nat) (L : List Ev) (w : World) (H : Hid (Sl.Own Nk base w v l)) (hb : base ≤ w.heap.size) (B : Hid (Bound w g0 L base)) (hl : Hid (∀ i ∈ l, i < L.length)) (hn : l.length ≤ 1000) :
    Calls Try.prog 16 #[v, .func (.func 17) #[] #[.pointer (some ⟨g0, 0, none⟩)]] w fun r w' => r = .returned (.tuple #[]) ∧ (∃ b, base ≤ b ∧ Sl.Is Nk w' v (srt (lt L) l) b) ∧ Below base w w' := by
  obtain ⟨a, cap, rfl⟩ : ∃ a cap, v = .slice a l.length cap := by obtain ⟨b, _, h⟩ := H.out.is; exact h.len
  have hc := stab_own _ l base g0 L w H.out hb B.out hl.out hn
  go_enter Try.func16, Try.ntmps16
  go_wp2_with fail
  refine hc.mono ?_
  rintro r w1 ⟨rfl, h⟩
  go_wp2
  go_end0
  exact ⟨rfl, h⟩
end Hs
end Go.Proofs.Ytomdgeenmmgmaaa
