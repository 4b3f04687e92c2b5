/-
  Contracts of package span (layer 2): May, Has, Meet, Join, Over, Compare, each at any windows and numbers.
-/
import Derived.Test.YtmklkiklegkioaaGreatNum
import Derived.Below
import Derived.StillTailTactics
namespace Go.Proofs.YtmklkiklegkioaaGreat
open Go.ChangeShapes Go.WideShapes Go.ChangeAt Go.RowKit
namespace Spn
set_option linter.unusedVariables false
set_option maxRecDepth 100000

/-- a window, as the two numbers that it is held in -/
abbrev win (s e : Int) : Value := .agg #[.int .i64 s, .int .i64 e]

theorem below1 (w : World) (a : Obj) : Below w.heap.size w (w.alloc a) := (Below.refl _ _).alloc (Nat.le_refl _) _
theorem below2 (w : World) (a b : Obj) : Below w.heap.size w ((w.alloc a).alloc b) := (below1 w a).alloc (by simp) _
theorem below3 (w : World) (a b c : Obj) : Below w.heap.size w (((w.alloc a).alloc b).alloc c) := (below2 w a b).alloc (by simp; omega) _
theorem after {a b c : World} (h : Below a.heap.size a b) (k : Below b.heap.size b c) : Below a.heap.size a c := h.trans (k.mono h.size)
theorem ret_win {a b c d : Int} (h : a = c) (k : b = d) : Ending.returned (win a b) = .returned (win c d) := by rw [h, k]
theorem ret_int {a b : Int} (h : a = b) : Ending.returned (.int .i64 a) = .returned (.int .i64 b) := by rw [h]
theorem turned {f : Nat} {vs : Array Value} {v : Value} {w : World} (h : Calls Tryz.prog f vs w fun e w' => e = .returned v ∧ w = w') : Calls Tryz.prog f vs w fun e w' => e = .returned v ∧ w' = w :=
  h.mono fun _ _ ⟨a, b⟩ => ⟨a, b.symm⟩
theorem ret_bool {a b : Bool} (h : a = b) : Ending.returned (.bool a) = .returned (.bool b) := by rw [h]

set_option maxHeartbeats 400000 in
theorem may_ok (s e : Int) (w : World) :
    Calls Tryz.prog 83 #[win s e] w fun r w' => r = .returned (.bool (decide (s < e))) ∧ Below w.heap.size w w' := by
  go_enter Tryz.func83, Tryz.ntmps83
  go_wp2
  go_ret
  exact ⟨rfl, below1 _ _⟩


set_option maxHeartbeats 400000 in
theorem meet_ok (a b c d : Int) (w : World) :
    Calls Tryz.prog 130 #[win a b, win c d] w fun r w' => r = .returned (.bool (decide (max a c < min b d))) ∧ Below w.heap.size w w' := by
  go_enter Tryz.func130, Tryz.ntmps130
  go_wp2_with fail
  all_goals
    refine (may_ok _ _ _).mono ?_
    rintro e w1 ⟨rfl, k1⟩
    go_wp2
    go_ret
    exact ⟨ret_bool (by simp only [decide_eq_decide]; omega), after (below2 _ _ _) k1⟩

set_option maxHeartbeats 400000 in
theorem join_ok (a b c d : Int) (w : World) :
    Calls Tryz.prog 131 #[win a b, win c d] w fun r w' => r = .returned (win (min a c) (max b d)) ∧ Below w.heap.size w w' := by
  go_enter Tryz.func131, Tryz.ntmps131
  go_wp2
  all_goals exact bodyPost_ret (v := win _ _) (by simp [results, Tryz.results131, go_sem]; exact ⟨rfl, rfl⟩) rfl ⟨ret_win (by omega) (by omega), below3 _ _ _ _⟩

set_option maxHeartbeats 400000 in
theorem over_ok (s e l m : Int) (w : World) (he0 : -9223372036854775808 ≤ e) (he1 : e ≤ 9223372036854775807) (hl0 : -9223372036854775808 ≤ l) (hl1 : l ≤ 9223372036854775807)
    (hm0 : -9223372036854775808 ≤ m) (hm1 : m ≤ 9223372036854775807) :
    Calls Tryz.prog 87 #[win s e, .int .i64 l, .int .i64 m] w fun r w' => r = .returned (.bool (decide (e + l ≤ m))) ∧ Below w.heap.size w w' := by
  by_cases h : -9223372036854775808 ≤ e + l ∧ e + l ≤ 9223372036854775807
  · go_enter Tryz.func87, Tryz.ntmps87
    go_wp2_with fail
    refine (Num.add_ok e l _ he0 he1 hl0 hl1 h.1 h.2).mono ?_
    rintro e w' ⟨rfl, rfl⟩
    go_wp2
    go_ret
    exact ⟨rfl, below1 _ _⟩
  · have hh : decide (e + l ≤ m) = decide (l < 0) := by simp only [decide_eq_decide]; omega
    rw [hh]
    have g : e + l < -9223372036854775808 ∨ 9223372036854775807 < e + l := by omega
    have g' := Lib.hid g
    clear g h hh
    go_enter Tryz.func87, Tryz.ntmps87
    go_wp2_with fail
    refine (Num.add_bad e l _ he0 he1 hl0 hl1 g'.out).mono ?_
    rintro e w' ⟨rfl, rfl⟩
    go_wp2
    go_ret
    exact ⟨rfl, below1 _ _⟩

/-- how two numbers stand to one another -/
abbrev cmp3 (a b : Int) : Int := if a < b then -1 else if b < a then 1 else 0
/-- how two windows do: by Start, then by End -/
abbrev cmpW (a b c d : Int) : Int := if a < c then -1 else if c < a then 1 else cmp3 b d

set_option maxHeartbeats 400000 in
theorem nan_ok (a : Int) (w : World) : Calls Tryz.prog 149 #[.int .i64 a] w fun r w' => r = .returned (.bool false) ∧ w = w' := by
  go_enter Tryz.func149, Tryz.ntmps149
  go_wp2
  go_ret
  exact ⟨ret_bool (by simp), rfl⟩

set_option maxHeartbeats 400000 in
theorem compare_ok (a b : Int) (w : World) : Calls Tryz.prog 147 #[.int .i64 a, .int .i64 b] w fun r w' => r = .returned (.int .i64 (cmp3 a b)) ∧ w = w' := by
  go_enter Tryz.func147, Tryz.ntmps147
  go_wp2_with fail
  refine (nan_ok _ _).mono ?_
  rintro e w1 ⟨rfl, rfl⟩
  go_wp2_with fail
  refine (nan_ok _ _).mono ?_
  rintro e w1 ⟨rfl, rfl⟩
  go_wp2
  all_goals go_ret
  all_goals exact ⟨ret_int (by unfold cmp3; omega), rfl⟩

set_option maxHeartbeats 400000 in
theorem or_ok (a b c : Int) (p : Nat) (w : World) (h0 : w.cell? ⟨p, 0, none⟩ = some (.int .i64 a)) (h1 : w.cell? ⟨p, 1, none⟩ = some (.int .i64 b)) (hc : Hid (c = if a = 0 then b else a)) :
    Calls Tryz.prog 146 #[.slice (some ⟨p, 0, none⟩) 2 2] w fun r w' => r = .returned (.int .i64 c) ∧ w = w' := by
  go_enter Tryz.func146, Tryz.ntmps146
  go_wp2
  go_loop [8] (fun i => i = .int .i64 0 ∨ (i = .int .i64 1 ∧ a = 0) ∨ (i = .int .i64 2 ∧ a = 0 ∧ b = 0)) (fun i => 2 - (intOf i).toNat)
  case atStart => exact .inl rfl
  case round =>
    rcases hrel with rfl | ⟨rfl, rfl⟩ | ⟨rfl, rfl, rfl⟩
    · by_cases ha : a = 0
      · subst ha
        go_wp2
        go_round
        case rel => exact .inr (.inl (by simp))
        case measure => simp [intOf]
      · have hne : (a != 0) = true := by simp [ha]
        go_wp2
        go_ret
        exact ⟨ret_int (by rw [hc.out]; simp [ha]), rfl⟩
    · by_cases hb : b = 0
      · subst hb
        go_wp2
        go_round
        case rel => exact .inr (.inr (by simp))
        case measure => simp [intOf]
      · have hne : (b != 0) = true := by simp [hb]
        go_wp2
        go_ret
        exact ⟨ret_int (by rw [hc.out]; simp), rfl⟩
    · go_wp2
      go_ret
      exact ⟨ret_int (by rw [hc.out]; simp), rfl⟩

set_option maxHeartbeats 400000 in
theorem comp_ok (a b c d : Int) (w : World) :
    Calls Tryz.prog 138 #[win a b, win c d] w fun r w' => r = .returned (.int .i64 (cmpW a b c d)) ∧ Below w.heap.size w w' := by
  go_enter Tryz.func138, Tryz.ntmps138
  go_wp2_with fail
  refine wp_region_still_tail 10 (by kernel_rfl) (by kernel_rfl) ?_
  obtain ⟨wq, hwq⟩ : ∃ wq, wq = (((w.alloc (Obj.cells #[.int .i64 a, .int .i64 b] 80)).alloc (Obj.cells #[.int .i64 c, .int .i64 d] 80)).drew) := ⟨_, rfl⟩
  change wpStill _ _ (World.drew _) _ _ _
  rw [← hwq]
  have k0 : Below w.heap.size w wq := by rw [hwq]; exact (below2 _ _ _).drew
  have c0 : wq.cell? ⟨w.heap.size, 0, none⟩ = some (.int .i64 a) := by rw [hwq]; go_simp
  have c1 : wq.cell? ⟨w.heap.size, 1, none⟩ = some (.int .i64 b) := by rw [hwq]; go_simp
  have c2 : wq.cell? ⟨w.heap.size + 1, 0, none⟩ = some (.int .i64 c) := by rw [hwq]; go_simp
  have c3 : wq.cell? ⟨w.heap.size + 1, 1, none⟩ = some (.int .i64 d) := by rw [hwq]; go_simp
  clear hwq
  simp only [List.take_succ_cons, List.take_zero, List.drop_succ_cons, List.drop_zero]
  still_step
  still_step
  still_step
  still_step
  still_call (turned (compare_ok a c wq))
  still_step
  still_step
  still_step
  still_step
  still_call (turned (compare_ok b d wq))
  refine wpStill_nil ?_
  change wpList _ _ _ _ _ (World.drew _)
  obtain ⟨wp, hwp⟩ : ∃ wp, wp = (((w.alloc (Obj.cells #[.int .i64 a, .int .i64 b] 80)).alloc (Obj.cells #[.int .i64 c, .int .i64 d] 80)).drew) := ⟨_, rfl⟩
  rw [← hwp]
  have kp : Below w.heap.size w wp := by rw [hwp]; exact (below2 _ _ _).drew
  clear hwp k0 c0 c1 c2 c3
  go_wp2_with fail
  refine (or_ok (cmp3 a c) (cmp3 b d) (cmpW a b c d) _ _ (by go_simp) (by go_simp) (Lib.hid (by unfold cmpW cmp3; repeat' split; all_goals omega))).mono ?_
  rintro e w1 ⟨rfl, rfl⟩
  go_wp2
  go_ret
  exact ⟨rfl, kp.alloc kp.size _⟩
end Spn
end Go.Proofs.YtmklkiklegkioaaGreat
