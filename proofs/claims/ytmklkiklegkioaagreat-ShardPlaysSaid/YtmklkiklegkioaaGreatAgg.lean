/-
  Contracts of package agg (layer 4) and of the document's own answers beside it: Of, Add, Merge; One, Merge.
-/
import Derived.Test.YtmklkiklegkioaaGreatSmall
import Derived.Test.YtmklkiklegkioaaGreatDrawn
namespace Go.Proofs.YtmklkiklegkioaaGreat
open Go.ChangeShapes Go.WideShapes Go.ChangeAt Go.RowKit Small BigFrame
namespace Agg
set_option linter.unusedVariables false

/-- what values come to, as the four numbers that it is held in -/
abbrev agv (c s l h : Int) : Value := .agg #[.int .i64 c, .int .i64 s, .int .i64 l, .int .i64 h]

theorem wrap_u64 (a b : Int) : wrap64 (IntKind.u64.wrap (IntKind.u64.wrap a + IntKind.u64.wrap b)) = wrap64 (a + b) := by
  simp only [IntKind.wrap, IntKind.bits, IntKind.signed]
  unfold wrap64
  simp

set_option maxHeartbeats 400000 in
theorem of_ok (v : Int) (w : World) :
    Calls Tryz.prog 128 #[.int .i64 v] w fun r w' => r = .returned (agv 1 v v v) ∧ Below w.heap.size w w' := by
  go_enter Tryz.func128, Tryz.ntmps128
  go_wp2
  exact bodyPost_ret (v := agv 1 v v v) (by simp [results, Tryz.results128, go_sem]) rfl ⟨rfl, below1 _ _⟩

set_option maxHeartbeats 400000 in
theorem one_ok (v : Int) (w : World) :
    Calls Tryz.prog 62 #[.int .i64 v] w fun r w' => r = .returned (agv 1 v v v) ∧ Below w.heap.size w w' := by
  go_enter Tryz.func62, Tryz.ntmps62
  go_wp2
  exact bodyPost_ret (v := agv 1 v v v) (by simp [results, Tryz.results62, go_sem]) rfl ⟨rfl, below1 _ _⟩

set_option maxHeartbeats 400000 in
theorem merge_left (c s l u c' s' l' u' : Int) (w : World) (hc : c < 1) :
    Calls Tryz.prog 132 #[agv c s l u, agv c' s' l' u'] w fun r w' => r = .returned (agv c' s' l' u') ∧ Below w.heap.size w w' := by
  go_enter Tryz.func132, Tryz.ntmps132
  go_wp2
  exact bodyPost_ret (v := agv c' s' l' u') (by simp [results, Tryz.results132, go_sem]) rfl ⟨rfl, below3 _ _ _ _⟩

set_option maxHeartbeats 400000 in
theorem merge_right (c s l u c' s' l' u' : Int) (w : World) (hc : 1 ≤ c) (hc' : c' < 1) :
    Calls Tryz.prog 132 #[agv c s l u, agv c' s' l' u'] w fun r w' => r = .returned (agv c s l u) ∧ Below w.heap.size w w' := by
  go_enter Tryz.func132, Tryz.ntmps132
  go_wp2
  exact bodyPost_ret (v := agv c s l u) (by simp [results, Tryz.results132, go_sem]) rfl ⟨rfl, below3 _ _ _ _⟩

set_option maxHeartbeats 400000 in
theorem merge_both (c s l u c' s' l' u' : Int) (w : World) (hc : 1 ≤ c) (hc' : 1 ≤ c') :
    Calls Tryz.prog 132 #[agv c s l u, agv c' s' l' u'] w fun r w' => r = .returned (agv (wrap64 (c + c')) (wrap64 (s + s')) (min l l') (max u u')) ∧ Below w.heap.size w w' := by
  go_enter Tryz.func132, Tryz.ntmps132
  go_wp2
  all_goals exact bodyPost_ret (v := agv (wrap64 (c + c')) (wrap64 (s + s')) (min l l') (max u u')) (by simp [results, Tryz.results132, go_sem]; omega) rfl ⟨rfl, below3 _ _ _ _⟩

/-- the four numbers -/
structure A4 where
  c : Int
  s : Int
  l : Int
  u : Int
abbrev A4.val (x : A4) : Value := agv x.c x.s x.l x.u
def one4 (v : Int) : A4 := ⟨1, v, v, v⟩
/-- both, together -/
def mrg (x y : A4) : A4 := if x.c < 1 then y else if y.c < 1 then x else ⟨wrap64 (x.c + y.c), wrap64 (x.s + y.s), min x.l y.l, max x.u y.u⟩

theorem merge_ok (x y : A4) (w : World) : Calls Tryz.prog 132 #[x.val, y.val] w fun r w' => r = .returned (mrg x y).val ∧ Below w.heap.size w w' := by
  unfold mrg
  by_cases h1 : x.c < 1
  · rw [if_pos h1]; exact merge_left _ _ _ _ _ _ _ _ w h1
  · rw [if_neg h1]
    by_cases h2 : y.c < 1
    · rw [if_pos h2]; exact merge_right _ _ _ _ _ _ _ _ w (by omega) h2
    · rw [if_neg h2]; exact merge_both _ _ _ _ _ _ _ _ w (by omega) (by omega)

set_option maxHeartbeats 400000 in
theorem add_ok (x : A4) (v : Int) (w : World) : Calls Tryz.prog 126 #[x.val, .int .i64 v] w fun r w' => r = .returned (mrg x (one4 v)).val ∧ Below w.heap.size w w' := by
  obtain ⟨z, hz⟩ : ∃ z, Hid (z = mrg x (one4 v)) := ⟨_, Lib.hid rfl⟩
  have M := Lib.hid fun w : World => merge_ok x (one4 v) w
  rw [← hz.out] at M ⊢
  obtain ⟨c, s, l, u⟩ := x
  obtain ⟨c', s', l', u'⟩ := z
  simp only [A4.val, one4] at M ⊢
  clear hz
  go_enter Tryz.func126, Tryz.ntmps126
  go_wp2_with fail
  have hb := Lib.hid (below2 w (Obj.cells #[.int .i64 c, .int .i64 s, .int .i64 l, .int .i64 u] 82) (Obj.cells #[.int .i64 0, .int .i64 0, .int .i64 0, .int .i64 0] 82))
  have h1 := Lib.hid ((Lies.new w 82 [.int .i64 c, .int .i64 s, .int .i64 l, .int .i64 u]).alloc (Obj.cells #[.int .i64 0, .int .i64 0, .int .i64 0, .int .i64 0] 82))
  have h2 : Hid (Lies ((w.alloc (Obj.cells #[.int .i64 c, .int .i64 s, .int .i64 l, .int .i64 u] 82)).alloc (Obj.cells #[.int .i64 0, .int .i64 0, .int .i64 0, .int .i64 0] 82)) (w.heap.size + 1) 82 [.int .i64 0, .int .i64 0, .int .i64 0, .int .i64 0]) :=
    Lib.hid (by have := Lies.new (w.alloc (Obj.cells #[.int .i64 c, .int .i64 s, .int .i64 l, .int .i64 u] 82)) 82 [.int .i64 0, .int .i64 0, .int .i64 0, .int .i64 0]; simpa using this)
  generalize (w.alloc (Obj.cells #[.int .i64 c, .int .i64 s, .int .i64 l, .int .i64 u] 82)).alloc (Obj.cells #[.int .i64 0, .int .i64 0, .int .i64 0, .int .i64 0] 82) = w1 at *
  obtain ⟨g0, g1, g2, g3, -⟩ := h1.out.four
  have f0 := Later.cell g0
  have f1 := Later.cell g1
  have f2 := Later.cell g2
  have f3 := Later.cell g3
  clear g0 g1 g2 g3
  refine wp_region_later_tail 4 (by kernel_rfl) (by kernel_rfl) ?_
  simp only [List.take_succ_cons, List.take_zero, List.drop_succ_cons, List.drop_zero]
  repeat (go_big_quiet_step (first
    | (go_at_call 128; with_reducible exact Later.call _ (of_ok _ _))
    | (go_at_call 132; with_reducible exact Later.call _ (M.out _))))
  refine wpQuiet_nil ?_
  rintro _ ⟨u, rfl⟩
  clear f0 f1 f2 f3
  have kb := after hb.out u.below
  have h3 := Lib.hid (h2.out.next u.below)
  obtain ⟨g0, g1, g2, g3, g4, g5, g6, g7⟩ := h3.out.four
  generalize u.w = w2 at *
  go_wp2
  exact bodyPost_ret (v := agv c' s' l' u') (by simp [results, Tryz.results126, go_sem, g0, g1, g2, g3]) rfl
    ⟨rfl, (((kb.setCell (by simp) _).setCell (by simp) _).setCell (by simp) _).setCell (by simp) _⟩

set_option maxHeartbeats 400000 in
theorem ref_left (c s l u c' s' l' u' : Int) (w : World) (hc : c < 1) :
    Calls Tryz.prog 65 #[agv c s l u, agv c' s' l' u'] w fun r w' => r = .returned (agv c' s' l' u') ∧ Below w.heap.size w w' := by
  go_enter Tryz.func65, Tryz.ntmps65
  go_wp2
  exact bodyPost_ret (v := agv c' s' l' u') (by simp [results, Tryz.results65, go_sem]) rfl ⟨rfl, below3 _ _ _ _⟩

set_option maxHeartbeats 400000 in
theorem ref_right (c s l u c' s' l' u' : Int) (w : World) (hc : 1 ≤ c) (hc' : c' < 1) :
    Calls Tryz.prog 65 #[agv c s l u, agv c' s' l' u'] w fun r w' => r = .returned (agv c s l u) ∧ Below w.heap.size w w' := by
  go_enter Tryz.func65, Tryz.ntmps65
  go_wp2
  exact bodyPost_ret (v := agv c s l u) (by simp [results, Tryz.results65, go_sem]) rfl ⟨rfl, below3 _ _ _ _⟩

set_option maxHeartbeats 800000 in
theorem ref_both (c s l u c' s' l' u' : Int) (w : World) (hc : 1 ≤ c) (hc' : 1 ≤ c') :
    Calls Tryz.prog 65 #[agv c s l u, agv c' s' l' u'] w fun r w' => r = .returned (agv (wrap64 (c + c')) (wrap64 (s + s')) (min l l') (max u u')) ∧ Below w.heap.size w w' := by
  go_enter Tryz.func65, Tryz.ntmps65
  go_wp2
  all_goals exact bodyPost_ret (v := agv (wrap64 (c + c')) (wrap64 (s + s')) (min l l') (max u u')) (by simp [results, Tryz.results65, go_sem, wrap_u64]; omega) rfl ⟨rfl, below3 _ _ _ _⟩

theorem ref_ok (x y : A4) (w : World) : Calls Tryz.prog 65 #[x.val, y.val] w fun r w' => r = .returned (mrg x y).val ∧ Below w.heap.size w w' := by
  unfold mrg
  by_cases h1 : x.c < 1
  · rw [if_pos h1]; exact ref_left _ _ _ _ _ _ _ _ w h1
  · rw [if_neg h1]
    by_cases h2 : y.c < 1
    · rw [if_pos h2]; exact ref_right _ _ _ _ _ _ _ _ w (by omega) h2
    · rw [if_neg h2]; exact ref_both _ _ _ _ _ _ _ _ w (by omega) (by omega)

/-- what a row of values comes to -/
def total : List Int → A4
  | [] => ⟨0, 0, 0, 0⟩
  | x :: t => ⟨(t.length : Int) + 1, wrap64 (x + t.sum), t.foldl min x, t.foldl max x⟩
theorem total_count (l : List Int) : (total l).c = l.length := by cases l <;> simp [total]
theorem fold_min (a b : Int) (l : List Int) : l.foldl min (min a b) = min a (l.foldl min b) := by
  induction l generalizing b with
  | nil => rfl
  | cons x t ih => simp only [List.foldl_cons]; rw [← ih, Int.min_assoc]
theorem fold_max (a b : Int) (l : List Int) : l.foldl max (max a b) = max a (l.foldl max b) := by
  induction l generalizing b with
  | nil => rfl
  | cons x t ih => simp only [List.foldl_cons]; rw [← ih, Int.max_assoc]
theorem wrap_wrap (a b : Int) : wrap64 (wrap64 a + wrap64 b) = wrap64 (a + b) := by unfold wrap64; omega
theorem total_one (v : Int) (h0 : -9223372036854775808 ≤ v) (h1 : v ≤ 9223372036854775807) : total [v] = one4 v := by
  simp [total, one4, IntWalk.wrap64_in v ⟨h0, h1⟩]
theorem total_join (xs ys : List Int) (h : ((xs.length + ys.length : Nat) : Int) ≤ 9223372036854775807) : mrg (total xs) (total ys) = total (xs ++ ys) := by
  cases xs with
  | nil => simp [mrg, total]
  | cons x t =>
    cases ys with
    | nil =>
      have h1 : ¬ (t.length : Int) + 1 < 1 := by omega
      simp [mrg, total, h1]
    | cons y r =>
      have h1 : ¬ (t.length : Int) + 1 < 1 := by omega
      have h2 : ¬ (r.length : Int) + 1 < 1 := by omega
      simp only [List.length_cons] at h
      simp only [mrg, total, h1, h2, if_false, List.cons_append, A4.mk.injEq, List.length_append, List.length_cons, List.sum_append, List.sum_cons, List.foldl_append, List.foldl_cons]
      refine ⟨?_, ?_, (fold_min _ _ _).symm, (fold_max _ _ _).symm⟩
      · rw [IntWalk.wrap64_in _ (by omega)]; omega
      · rw [wrap_wrap]; congr 1; omega
theorem mrg_comm {x y : A4} (h : x.c < 1 → y.c < 1 → x = y) : mrg x y = mrg y x := by
  unfold mrg
  by_cases h1 : x.c < 1
  · by_cases h2 : y.c < 1
    · rw [if_pos h1, if_pos h2, h h1 h2]
    · rw [if_pos h1, if_neg h2, if_pos h1]
  · by_cases h2 : y.c < 1
    · rw [if_neg h1, if_pos h2, if_pos h2]
    · rw [if_neg h1, if_neg h2, if_neg h2, if_neg h1, Int.add_comm x.c, Int.add_comm x.s, Int.min_comm x.l, Int.max_comm x.u]
theorem total_comm (xs ys : List Int) : mrg (total xs) (total ys) = mrg (total ys) (total xs) := mrg_comm fun h1 h2 => by
  rw [total_count] at h1 h2
  rw [List.eq_nil_of_length_eq_zero (l := xs) (by omega), List.eq_nil_of_length_eq_zero (l := ys) (by omega)]
theorem total_swap (xs ys : List Int) (h : ((xs.length + ys.length : Nat) : Int) ≤ 9223372036854775807) : total (xs ++ ys) = total (ys ++ xs) := by
  rw [← total_join xs ys h, total_comm, total_join ys xs (by omega)]
theorem total_reverse (l : List Int) (h : ((l.length : Nat) : Int) ≤ 9223372036854775807) : total l.reverse = total l := by
  induction l with
  | nil => rfl
  | cons x t ih =>
    simp only [List.length_cons] at h
    rw [List.reverse_cons, total_swap _ _ (by simp; omega), ← total_join _ _ (by simp; omega), ih (by omega), total_join _ _ (by simp; omega)]
    rfl
theorem fold_le (l : List Int) (a b : Int) (h : a ≤ b) : l.foldl min a ≤ l.foldl max b := by
  induction l generalizing a b with
  | nil => exact h
  | cons x t ih => simp only [List.foldl_cons]; exact ih _ _ (by omega)
theorem total_le (l : List Int) : (total l).l ≤ (total l).u := by
  cases l with
  | nil => simp [total]
  | cons x t => exact fold_le t x x (Int.le_refl _)
end Agg
end Go.Proofs.YtmklkiklegkioaaGreat
