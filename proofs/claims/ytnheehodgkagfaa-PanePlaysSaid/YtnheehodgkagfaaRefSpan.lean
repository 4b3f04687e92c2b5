/-
  Contracts of the document's own answers to layer 2 (package easelref01): above, Over, Compare, Meet, Join.
-/
import Derived.Test.YtnheehodgkagfaaRef01
import Derived.Test.YtnheehodgkagfaaSpan
import Derived.Laws.StructEq
namespace Go.Proofs.Ytnheehodgkagfaa
open Go.ChangeShapes Go.WideShapes Go.ChangeAt Go.RowKit
namespace RefSpan
open Ref01 Spn
set_option linter.unusedVariables false



set_option maxHeartbeats 400000 in
theorem comp_ok (a b c d : Int) (w : World) :
    Calls Try.prog 22 #[win a b, win c d] w fun r w' => r = .returned (.int .i64 (cmpW a b c d)) ∧ Below w.heap.size w w' := by
  by_cases h1 : a < c
  · go_enter Try.func22, Try.ntmps22
    go_wp2
    go_ret
    exact ⟨ret_int (by unfold cmpW cmp3; split <;> omega), below2 _ _ _⟩
  · by_cases h2 : a = c
    · subst h2
      by_cases h3 : b < d
      · go_enter Try.func22, Try.ntmps22
        go_wp2
        go_ret
        exact ⟨ret_int (by unfold cmpW cmp3; repeat' split; all_goals omega), below2 _ _ _⟩
      · by_cases h4 : b = d
        · subst h4
          go_enter Try.func22, Try.ntmps22
          go_wp2
          go_ret
          exact ⟨ret_int (by unfold cmpW cmp3; repeat' split; all_goals omega), below2 _ _ _⟩
        · have hq : (b == d) = false := by simp [h4]
          go_enter Try.func22, Try.ntmps22
          go_wp2
          go_ret
          exact ⟨ret_int (by unfold cmpW cmp3; repeat' split; all_goals omega), below2 _ _ _⟩
    · have hq : (a == c) = false := by simp [h2]
      go_enter Try.func22, Try.ntmps22
      go_wp2
      go_ret
      exact ⟨ret_int (by unfold cmpW cmp3; repeat' split; all_goals omega), below2 _ _ _⟩

set_option maxHeartbeats 400000 in
theorem meet_ok (a b c d : Int) (w : World) :
    Calls Try.prog 8 #[win a b, win c d] w fun r w' => r = .returned (.bool (decide (max a c < min b d))) ∧ Below w.heap.size w w' := by
  obtain ⟨x, hx⟩ : ∃ x, x = decide (max a c < min b d) := ⟨_, rfl⟩
  rw [← hx]
  have X := Lib.hid hx
  clear hx
  by_cases h1 : a < c
  · by_cases h2 : c < b
    · go_enter Try.func8, Try.ntmps8
      go_wp2
      go_ret
      exact ⟨ret_bool (by rw [X.out]; simp only [decide_eq_decide]; omega), below2 _ _ _⟩
    · go_enter Try.func8, Try.ntmps8
      go_wp2
      go_ret
      exact ⟨ret_bool (by rw [X.out]; symm; rw [decide_eq_false_iff_not]; omega), below2 _ _ _⟩
  · by_cases h2 : a < b
    · go_enter Try.func8, Try.ntmps8
      go_wp2
      go_ret
      exact ⟨ret_bool (by rw [X.out]; simp only [decide_eq_decide]; omega), below2 _ _ _⟩
    · go_enter Try.func8, Try.ntmps8
      go_wp2
      go_ret
      exact ⟨ret_bool (by rw [X.out]; symm; rw [decide_eq_false_iff_not]; omega), below2 _ _ _⟩

set_option maxHeartbeats 400000 in
theorem join_ok (a b c d x y : Int) (w : World) (hx : Hid (x = min a c)) (hy : Hid (y = max b d)) :
    Calls Try.prog 9 #[win a b, win c d] w fun r w' => r = .returned (win x y) ∧ Below w.heap.size w w' := by
  by_cases h1 : c < a
  · by_cases h2 : b < d
    · go_enter Try.func9, Try.ntmps9
      go_wp2
      refine bodyPost_ret (v := win c d) (by simp [results, Try.results9, go_sem]) rfl ⟨ret_win (by rw [hx.out]; omega) (by rw [hy.out]; omega), below3 _ _ _ _⟩
    · go_enter Try.func9, Try.ntmps9
      go_wp2
      refine bodyPost_ret (v := win c b) (by simp [results, Try.results9, go_sem]) rfl ⟨ret_win (by rw [hx.out]; omega) (by rw [hy.out]; omega), below3 _ _ _ _⟩
  · by_cases h2 : b < d
    · go_enter Try.func9, Try.ntmps9
      go_wp2
      refine bodyPost_ret (v := win a d) (by simp [results, Try.results9, go_sem]) rfl ⟨ret_win (by rw [hx.out]; omega) (by rw [hy.out]; omega), below3 _ _ _ _⟩
    · go_enter Try.func9, Try.ntmps9
      go_wp2
      refine bodyPost_ret (v := win a b) (by simp [results, Try.results9, go_sem]) rfl ⟨ret_win (by rw [hx.out]; omega) (by rw [hy.out]; omega), below3 _ _ _ _⟩
end RefSpan
end Go.Proofs.Ytnheehodgkagfaa
