/-
  Contracts of the document's own answers to layer 2 (package easelref01): above, Over, Compare, Meet, Join.
-/
import Derived.Test.YtmklkiklegkioaaGreatRef01
import Derived.Test.YtmklkiklegkioaaGreatSpan
import Derived.Laws.StructEq
namespace Go.Proofs.YtmklkiklegkioaaGreat
open Go.ChangeShapes Go.WideShapes Go.ChangeAt Go.RowKit
namespace RefSpan
open Ref01 Spn
set_option linter.unusedVariables false

set_option maxHeartbeats 400000 in
theorem above_ok (h l k m : Int) (w : World) (c0 : 0 ≤ l) (c1 : l < 4294967296) (d0 : 0 ≤ m) (d1 : m < 4294967296) :
    Calls Tryz.prog 45 #[big h l, big k m] w fun r w' => r = .returned (.bool (decide (k * 4294967296 + m < h * 4294967296 + l))) ∧ Below w.heap.size w w' := by
  by_cases h1 : k < h
  · have hd : (decide (k * 4294967296 + m < h * 4294967296 + l)) = true := by simp; omega
    rw [hd]; clear hd
    go_enter Tryz.func45, Tryz.ntmps45
    go_wp2
    go_ret
    exact ⟨rfl, below2 _ _ _⟩
  · by_cases h2 : h = k
    · subst h2
      have hd : (decide (h * 4294967296 + m < h * 4294967296 + l)) = decide (m < l) := by simp only [decide_eq_decide]; omega
      rw [hd]; clear hd
      go_enter Tryz.func45, Tryz.ntmps45
      go_wp2
      go_ret
      exact ⟨rfl, below2 _ _ _⟩
    · have hd : (decide (k * 4294967296 + m < h * 4294967296 + l)) = false := by simp; omega
      have hq : (h == k) = false := by simp [h2]
      rw [hd]; clear hd
      go_enter Tryz.func45, Tryz.ntmps45
      go_wp2
      go_ret
      exact ⟨rfl, below2 _ _ _⟩

set_option maxHeartbeats 400000 in
theorem over_ok (s e l m : Int) (w : World) (he0 : -9223372036854775808 ≤ e) (he1 : e ≤ 9223372036854775807) (hl0 : -9223372036854775808 ≤ l) (hl1 : l ≤ 9223372036854775807)
    (hm0 : -9223372036854775808 ≤ m) (hm1 : m ≤ 9223372036854775807) :
    Calls Tryz.prog 27 #[win s e, .int .i64 l, .int .i64 m] w fun r w' => r = .returned (.bool (decide (e + l ≤ m))) ∧ Below w.heap.size w w' := by
  go_enter Tryz.func27, Tryz.ntmps27
  go_wp2_with fail
  refine (wide_ok e _ he0 he1).mono ?_
  rintro r w1 ⟨rfl, k1⟩
  go_wp2_with fail
  refine (wide_ok l _ hl0 hl1).mono ?_
  rintro r w2 ⟨rfl, k2⟩
  go_wp2_with fail
  refine (plus_ok (e / 4294967296) (e % 4294967296) (l / 4294967296) (l % 4294967296) ((e + l) / 4294967296) ((e + l) % 4294967296) _
    (by omega) (by omega) (by omega) (by omega) (by omega) (by omega) (by omega) (by omega) (Lib.hid (by omega)) (by omega) (by omega)).mono ?_
  rintro r w3 ⟨rfl, k3⟩
  go_wp2_with fail
  refine (wide_ok m _ hm0 hm1).mono ?_
  rintro r w4 ⟨rfl, k4⟩
  go_wp2_with fail
  refine (above_ok _ _ _ _ _ (by omega) (by omega) (by omega) (by omega)).mono ?_
  rintro r w5 ⟨rfl, k5⟩
  go_wp2
  go_ret
  refine ⟨ret_bool ?_, after (below1 _ _) (after k1 (after k2 (after k3 (after k4 k5))))⟩
  rw [← decide_not]
  simp only [decide_eq_decide]
  omega

set_option maxHeartbeats 400000 in
theorem comp_ok (a b c d : Int) (w : World) :
    Calls Tryz.prog 44 #[win a b, win c d] w fun r w' => r = .returned (.int .i64 (cmpW a b c d)) ∧ Below w.heap.size w w' := by
  by_cases h1 : a < c
  · go_enter Tryz.func44, Tryz.ntmps44
    go_wp2
    go_ret
    exact ⟨ret_int (by unfold cmpW cmp3; split <;> omega), below2 _ _ _⟩
  · by_cases h2 : a = c
    · subst h2
      by_cases h3 : b < d
      · go_enter Tryz.func44, Tryz.ntmps44
        go_wp2
        go_ret
        exact ⟨ret_int (by unfold cmpW cmp3; repeat' split; all_goals omega), below2 _ _ _⟩
      · by_cases h4 : b = d
        · subst h4
          go_enter Tryz.func44, Tryz.ntmps44
          go_wp2
          go_ret
          exact ⟨ret_int (by unfold cmpW cmp3; repeat' split; all_goals omega), below2 _ _ _⟩
        · have hq : (b == d) = false := by simp [h4]
          go_enter Tryz.func44, Tryz.ntmps44
          go_wp2
          go_ret
          exact ⟨ret_int (by unfold cmpW cmp3; repeat' split; all_goals omega), below2 _ _ _⟩
    · have hq : (a == c) = false := by simp [h2]
      go_enter Tryz.func44, Tryz.ntmps44
      go_wp2
      go_ret
      exact ⟨ret_int (by unfold cmpW cmp3; repeat' split; all_goals omega), below2 _ _ _⟩

set_option maxHeartbeats 400000 in
theorem meet_ok (a b c d : Int) (w : World) :
    Calls Tryz.prog 63 #[win a b, win c d] w fun r w' => r = .returned (.bool (decide (max a c < min b d))) ∧ Below w.heap.size w w' := by
  obtain ⟨x, hx⟩ : ∃ x, x = decide (max a c < min b d) := ⟨_, rfl⟩
  rw [← hx]
  have X := Lib.hid hx
  clear hx
  by_cases h1 : a < c
  · by_cases h2 : c < b
    · go_enter Tryz.func63, Tryz.ntmps63
      go_wp2
      go_ret
      exact ⟨ret_bool (by rw [X.out]; simp only [decide_eq_decide]; omega), below2 _ _ _⟩
    · go_enter Tryz.func63, Tryz.ntmps63
      go_wp2
      go_ret
      exact ⟨ret_bool (by rw [X.out]; symm; rw [decide_eq_false_iff_not]; omega), below2 _ _ _⟩
  · by_cases h2 : a < b
    · go_enter Tryz.func63, Tryz.ntmps63
      go_wp2
      go_ret
      exact ⟨ret_bool (by rw [X.out]; simp only [decide_eq_decide]; omega), below2 _ _ _⟩
    · go_enter Tryz.func63, Tryz.ntmps63
      go_wp2
      go_ret
      exact ⟨ret_bool (by rw [X.out]; symm; rw [decide_eq_false_iff_not]; omega), below2 _ _ _⟩

set_option maxHeartbeats 400000 in
theorem join_ok (a b c d x y : Int) (w : World) (hx : Hid (x = min a c)) (hy : Hid (y = max b d)) :
    Calls Tryz.prog 64 #[win a b, win c d] w fun r w' => r = .returned (win x y) ∧ Below w.heap.size w w' := by
  by_cases h1 : c < a
  · by_cases h2 : b < d
    · go_enter Tryz.func64, Tryz.ntmps64
      go_wp2
      refine bodyPost_ret (v := win c d) (by simp [results, Tryz.results64, go_sem]) rfl ⟨ret_win (by rw [hx.out]; omega) (by rw [hy.out]; omega), below3 _ _ _ _⟩
    · go_enter Tryz.func64, Tryz.ntmps64
      go_wp2
      refine bodyPost_ret (v := win c b) (by simp [results, Tryz.results64, go_sem]) rfl ⟨ret_win (by rw [hx.out]; omega) (by rw [hy.out]; omega), below3 _ _ _ _⟩
  · by_cases h2 : b < d
    · go_enter Tryz.func64, Tryz.ntmps64
      go_wp2
      refine bodyPost_ret (v := win a d) (by simp [results, Tryz.results64, go_sem]) rfl ⟨ret_win (by rw [hx.out]; omega) (by rw [hy.out]; omega), below3 _ _ _ _⟩
    · go_enter Tryz.func64, Tryz.ntmps64
      go_wp2
      refine bodyPost_ret (v := win a b) (by simp [results, Tryz.results64, go_sem]) rfl ⟨ret_win (by rw [hx.out]; omega) (by rw [hy.out]; omega), below3 _ _ _ _⟩
end RefSpan
end Go.Proofs.YtmklkiklegkioaaGreat
