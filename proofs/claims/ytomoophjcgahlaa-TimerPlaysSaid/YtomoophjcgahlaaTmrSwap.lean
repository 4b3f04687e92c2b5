/-
  Contracts of the heap's own methods Len, Less and Swap.
-/
import Derived.Test.YtomoophjcgahlaaTmrQ
import Derived.BigRegion
import Derived.StillTailTactics
import Derived.BigQuiet
import Derived.Deep.QuietTactic
namespace Go.Proofs.Ytomoophjcgahlaa
open Go.ChangeShapes Go.WideShapes Go.ChangeAt Go.RowKit
namespace Tmr
open Small
set_option linter.unusedVariables false

set_option maxHeartbeats 400000 in
theorem len_ok {g m r n : Nat} {f : Nat → Tm} {v : Value} {p : Tm → Option Nat} (w : World) (H : Hid (Qu w g m r f n v p)) :
    Calls Try.prog 23 #[.pointer (some ⟨g, 0, none⟩)] w fun e w' => e = .returned (.int .i64 n) ∧ w = w' := by
  obtain ⟨a, cap, rfl⟩ := H.out.len
  have c0 := H.out.lies.cell (i := 0) rfl
  go_enter Try.func23, Try.ntmps23
  go_wp2
  go_ret
  exact ⟨rfl, rfl⟩

set_option maxHeartbeats 800000 in
theorem less_ok {g m r n i j : Nat} {f : Nat → Tm} {v : Value} {p : Tm → Option Nat} (w : World) (H : Hid (Qu w g m r f n v p)) (hi : i < n) (hj : j < n) :
    Calls Try.prog 43 #[.pointer (some ⟨g, 0, none⟩), .int .i64 i, .int .i64 j] w fun e w' => e = .returned (.bool (lt (f i) (f j))) ∧ Below w.heap.size w w' := by
  obtain ⟨cap, cur, rfl, hb, _, _, _, ht⟩ := H.out.some_ (by omega)
  obtain ⟨x0, x1, x2⟩ := cells_of_row hb ht hi
  obtain ⟨y0, y1, y2⟩ := cells_of_row hb ht hj
  have few := H.out.few
  have c0 := H.out.lies.cell (i := 0) rfl
  have HN := Lib.hid (cmpT_neg (f i) (f j))
  have i0 : (0 : Int) ≤ i := by omega
  have j0 : (0 : Int) ≤ j := by omega
  have i1 : (i : Int) < n := by omega
  have j1 : (j : Int) < n := by omega
  clear hb ht
  go_enter Try.func43, Try.ntmps43
  go_wp2_with fail
  go_still_tail 14, (by kernel_rfl)
  go_wp2_with fail
  refine (compare_ok (f i) (f j) _).mono ?_
  rintro e w1 ⟨rfl, k1⟩
  go_wp2
  go_ret
  exact ⟨ret_bool HN.out, after (Below.refl _ _).drew k1⟩

/-- one is x from now on -/
def put (f : Nat → Tm) (k : Nat) (x : Tm) : Nat → Tm := fun i => if i = k then x else f i
theorem sw_put (f : Nat → Tm) (i j : Nat) : sw f i j = put (put f i (f j)) j (f i) := by
  funext k
  unfold sw put
  by_cases h1 : k = i
  · by_cases h2 : k = j
    · subst h1; subst h2; simp
    · subst h1; simp [h2]
  · by_cases h2 : k = j
    · subst h2; simp [h1]
    · simp [h1, h2]
theorem rows_put (f : Nat → Tm) {n k : Nat} (x : Tm) (h : k < n) : (((rows f n).set (k * 3) (.string x.key)).set (k * 3 + 1) (.int .i64 x.s)).set (k * 3 + 2) (.int .i64 x.e) = rows (put f k x) n := by
  induction n with
  | zero => omega
  | succ n ih =>
    have hl := rows_len f n
    by_cases hk : k < n
    · rw [rows, rows, List.set_append_left _ _ (by omega), List.set_append_left _ _ (by simp; omega), List.set_append_left _ _ (by simp; omega), ih hk]
      simp [put, show ¬ n = k by omega]
    · obtain rfl : k = n := by omega
      rw [rows, rows, List.set_append_right _ _ (by omega), List.set_append_right _ _ (by omega), List.set_append_right _ _ (by omega), hl, rows_eq (f' := put f k x) (f := f) (fun i hi => by simp [put, show ¬ i = k by omega])]
      rw [show k * 3 - k * 3 = 0 by omega, show k * 3 + 1 - k * 3 = 1 by omega, show k * 3 + 2 - k * 3 = 2 by omega]
      simp [put]

/-- the list's block -/
def Rw (w : World) (r cap n : Nat) (f : Nat → Tm) : Prop := ∃ cs, Lies w r 30 cs ∧ cs.length = cap * 3 ∧ cs.take (n * 3) = rows f n
section
variable {w w' : World} {g m r n cap : Nat} {f : Nat → Tm} {v : Value} {p : Tm → Option Nat}
theorem Qu.rw_ (h : Qu w g m r f n v p) (hn : 0 < n) : ∃ cap, v = .slice (some ⟨r, 0, none⟩) n cap ∧ n ≤ cap ∧ cap ≤ maxLen ∧ Rw w r cap n f := by
  obtain ⟨cap, cur, h1, h2, h3, h4, h5, h6⟩ := h.some_ hn
  exact ⟨cap, h1, h3, h4, cur.toList, by unfold Lies; simpa using h2, by simpa using h5, h6⟩
theorem Rw.own (h : Rw w r cap n f) (h1 : n ≤ cap) (h2 : cap ≤ maxLen) : w.ownsRow 0 30 3 (.slice (some ⟨r, 0, none⟩) n cap) n (rows f n) := by
  obtain ⟨cs, a, b, c⟩ := h
  exact ⟨rows_len f n, .inr ⟨r, cap, cs.toArray, rfl, Nat.zero_le _, a, h1, h2, by simpa using b, by simpa using c⟩⟩
theorem Rw.put3 (h : Rw w r cap n f) {k : Nat} (x : Tm) (hk : k < n) :
    Rw (((w.setCell ⟨r, k * 3, none⟩ (.string x.key)).setCell ⟨r, k * 3 + 1, none⟩ (.int .i64 x.s)).setCell ⟨r, k * 3 + 2, none⟩ (.int .i64 x.e)) r cap n (put f k x) := by
  obtain ⟨cs, a, b, c⟩ := h
  refine ⟨_, ((a.put _ _).put _ _).put _ _, by simp [b], ?_⟩
  rw [List.take_set, List.take_set, List.take_set, c, rows_put f x hk]
theorem Rw.cells (h : Rw w r cap n f) {i : Nat} (hi : i < n) :
    w.cell? ⟨r, i * 3, none⟩ = some (.string (f i).key) ∧ w.cell? ⟨r, i * 3 + 1, none⟩ = some (.int .i64 (f i).s) ∧ w.cell? ⟨r, i * 3 + 2, none⟩ = some (.int .i64 (f i).e) := by
  obtain ⟨cs, a, b, c⟩ := h
  exact cells_of_row (cur := cs.toArray) a (by simpa using c) hi
theorem Rw.frozen (h : Rw w r cap n f) (o : Nat) : w.frozen? ⟨r, o, none⟩ = false := by
  obtain ⟨cs, a, _⟩ := h
  exact a.open_ o
theorem Rw.kept (h : Rw w r cap n f) (k : w'.heap[r]? = w.heap[r]?) : Rw w' r cap n f := by
  obtain ⟨cs, a, b⟩ := h
  exact ⟨cs, k.trans a, b⟩
theorem Rw.lt (h : Rw w r cap n f) : r < w.heap.size := by
  obtain ⟨cs, a, b⟩ := h
  exact a.lt
theorem put3_other (w : World) (r a b c : Nat) (x y z : Value) {k : Nat} (hk : k ≠ r) : (((w.setCell ⟨r, a, none⟩ x).setCell ⟨r, b, none⟩ y).setCell ⟨r, c, none⟩ z).heap[k]? = w.heap[k]? := by
  rw [Below.heap_setCell _ _ _ _ hk, Below.heap_setCell _ _ _ _ hk, Below.heap_setCell _ _ _ _ hk]
theorem put3_mv (w : World) (g m r a b c : Nat) (x y z : Value) : Mv g m r w (((w.setCell ⟨r, a, none⟩ x).setCell ⟨r, b, none⟩ y).setCell ⟨r, c, none⟩ z) :=
  ⟨rfl, rfl, rfl, by simp [World.setCell], fun k _ _ _ hk => put3_other w r a b c x y z hk⟩
end

/-- a store into the map -/
theorem wpList_store {w : World} {ops : Array Oper} {rest : List Oper} {o : Oper} {a : Act} {Q : Exit → Act → World → Prop} (hg : o.guard = none) (mo xo vo : Operand) (hop : o.op = Op.mapUpdate 48 mo xo vo)
    {m c : Nat} {p : Tm → Option Nat} {x : Tm} {i : Nat} (hm : a.eval mo = .map (some m)) (hx : a.eval xo = tv x) (hv : a.eval vo = .int .i64 i) (h : Mp w m p c) (fx : Fits x) (hi : i ≤ 1048576) (hc : c ≤ 1048576) {q : Tm → Option Nat} (hq : upd p x (some i) q)
    (hK : ∀ w', Mp w' m q (if p x = none then c + 1 else c) → w.grownBy w' (some m) → wpList Try.prog ops Q rest (a.put o.dst undef) w') : wpList Try.prog ops Q (o :: rest) a w := by
  refine wpList_plain hg fun K' hK' => ?_
  obtain ⟨w', hrun, r1, r2⟩ := h.store fx hi hc hq
  unfold Oper.wp
  simp [execOp, hop, hm, hx, hv, hrun, Result.andThen]
  exact hK' _ _ (hK w' r1 r2)

open Classical in
/-- where they lie, once the k-th one is x -/
noncomputable def place1 (p : Tm → Option Nat) (x : Tm) (i : Nat) : Tm → Option Nat := fun y => if y = x then some i else p y
theorem place1_upd (p : Tm → Option Nat) (x : Tm) (i : Nat) : upd p x (some i) (place1 p x i) := ⟨by simp [place1], fun y hy => by simp [place1, hy]⟩

theorem place_sw {f : Nat → Tm} {n i j : Nat} {p : Tm → Option Nat} (hp : ∀ x k, p x = some k ↔ k < n ∧ f k = x) (hi : i < n) (hj : j < n) :
    ∀ x k, place1 (place1 p (f j) i) (f i) j x = some k ↔ k < n ∧ sw f i j k = x := by
  have inj : ∀ a b, a < n → b < n → f a = f b → a = b := fun a b ha hb e => by
    have h1 := (hp (f a) a).2 ⟨ha, rfl⟩
    have h2 := (hp (f a) b).2 ⟨hb, e.symm⟩
    rw [h1] at h2
    exact Option.some.inj h2
  intro x k
  unfold place1
  by_cases h1 : x = f i
  · simp only [h1, if_true]
    constructor
    · intro e
      obtain rfl := Option.some.inj e
      exact ⟨hj, sw_right f i j⟩
    · rintro ⟨hk, e⟩
      congr 1
      by_cases a : k = i
      · subst a; rw [sw_left] at e; exact inj _ _ hj hk e
      · by_cases b : k = j
        · exact b.symm
        · rw [sw_other f a b] at e; exact absurd (inj _ _ hk hi e) a
  · simp only [h1, if_false]
    by_cases h2 : x = f j
    · simp only [h2, if_true]
      constructor
      · intro e
        obtain rfl := Option.some.inj e
        exact ⟨hi, sw_left f i j⟩
      · rintro ⟨hk, e⟩
        congr 1
        by_cases a : k = i
        · exact a.symm
        · by_cases b : k = j
          · subst b; rw [sw_right] at e; exact absurd (h2.trans e.symm) h1
          · rw [sw_other f a b] at e; exact absurd (inj _ _ hk hj e) b
    · simp only [h2, if_false]
      rw [hp]
      constructor
      · rintro ⟨hk, rfl⟩
        exact ⟨hk, sw_other f (fun e => h1 (by rw [e])) (fun e => h2 (by rw [e]))⟩
      · rintro ⟨hk, rfl⟩
        refine ⟨hk, ?_⟩
        by_cases a : k = i
        · subst a; rw [sw_left] at h2; exact absurd rfl h2
        · by_cases b : k = j
          · subst b; rw [sw_right] at h1; exact absurd rfl h1
          · exact (sw_other f a b).symm
end Tmr
end Go.Proofs.Ytomoophjcgahlaa
