/-
  Contracts of package num (layer 1): Add, Sub, Floor, Down, each at any two int64 numbers; the world stays as it was.
-/
import Derived.Test.YtmklkiklegkioaaGreatRows
import Derived.WalkKit
import Derived.ProofKit
import Derived.OpenShut
import Derived.IntWalk
import Derived.Lib.Hide
namespace Go.Proofs.YtmklkiklegkioaaGreat
open Go.ChangeShapes Go.WideShapes Go.ChangeAt Go.RowKit
namespace Num
set_option linter.unusedVariables false

/-- the two results of a call that went well, and of one that did not -/
abbrev good (n : Int) : Value := .tuple #[.int .i64 n, .nilIface]
abbrev bad (n : Int) : Value := .tuple #[.int .i64 0, .iface 33 (.int .i64 n)]

theorem fit {a : Int} (h : (Lit.int .i64 a).wf = true) : -9223372036854775808 ≤ a ∧ a ≤ 9223372036854775807 := by
  simp [Lit.wf, IntKind.min, IntKind.max, IntKind.bits, IntKind.signed] at h
  omega

set_option maxHeartbeats 400000 in
theorem add_ok (a b : Int) (w : World) (ha0 : -9223372036854775808 ≤ a) (ha1 : a ≤ 9223372036854775807) (hb0 : -9223372036854775808 ≤ b) (hb1 : b ≤ 9223372036854775807)
    (h0 : -9223372036854775808 ≤ a + b) (h1 : a + b ≤ 9223372036854775807) :
    Calls Tryz.prog 107 #[.int .i64 a, .int .i64 b] w fun e w' => e = .returned (good (a + b)) ∧ w = w' := by
  have hq : (decide (a + b < a) == decide (b < 0)) = true := by simp; omega
  go_enter Tryz.func107, Tryz.ntmps107
  go_wp2
  go_ret2
  exact ⟨rfl, rfl⟩

set_option maxHeartbeats 400000 in
theorem add_bad (a b : Int) (w : World) (ha0 : -9223372036854775808 ≤ a) (ha1 : a ≤ 9223372036854775807) (hb0 : -9223372036854775808 ≤ b) (hb1 : b ≤ 9223372036854775807)
    (h : a + b < -9223372036854775808 ∨ 9223372036854775807 < a + b) :
    Calls Tryz.prog 107 #[.int .i64 a, .int .i64 b] w fun e w' => e = .returned (bad 3) ∧ w = w' := by
  have hq : (decide (wrap64 (a + b) < a) == decide (b < 0)) = false := by
    have hv : (wrap64 (a + b) < a ∧ 0 ≤ b) ∨ (¬ wrap64 (a + b) < a ∧ b < 0) := by unfold wrap64; omega
    rcases hv with ⟨h1, h2⟩ | ⟨h1, h2⟩
    · have h3 : ¬ b < 0 := by omega
      simp [h1, h3]
    · simp [h1, h2]
  go_enter Tryz.func107, Tryz.ntmps107
  go_wp2
  go_ret2
  exact ⟨rfl, rfl⟩

set_option maxHeartbeats 400000 in
theorem sub_ok (a b : Int) (w : World) (ha0 : -9223372036854775808 ≤ a) (ha1 : a ≤ 9223372036854775807) (hb0 : -9223372036854775808 ≤ b) (hb1 : b ≤ 9223372036854775807)
    (h0 : -9223372036854775808 ≤ a - b) (h1 : a - b ≤ 9223372036854775807) :
    Calls Tryz.prog 124 #[.int .i64 a, .int .i64 b] w fun e w' => e = .returned (good (a - b)) ∧ w = w' := by
  have hq : (decide (a < a - b) == decide (b < 0)) = true := by simp; omega
  go_enter Tryz.func124, Tryz.ntmps124
  go_wp2
  go_ret2
  exact ⟨rfl, rfl⟩

set_option maxHeartbeats 400000 in
theorem sub_bad (a b : Int) (w : World) (ha0 : -9223372036854775808 ≤ a) (ha1 : a ≤ 9223372036854775807) (hb0 : -9223372036854775808 ≤ b) (hb1 : b ≤ 9223372036854775807)
    (h : a - b < -9223372036854775808 ∨ 9223372036854775807 < a - b) :
    Calls Tryz.prog 124 #[.int .i64 a, .int .i64 b] w fun e w' => e = .returned (bad 3) ∧ w = w' := by
  have hq : (decide (a < wrap64 (a - b)) == decide (b < 0)) = false := by
    have hv : (a < wrap64 (a - b) ∧ 0 ≤ b) ∨ (¬ a < wrap64 (a - b) ∧ b < 0) := by unfold wrap64; omega
    rcases hv with ⟨h1, h2⟩ | ⟨h1, h2⟩
    · have h3 : ¬ b < 0 := by omega
      simp [h1, h3]
    · simp [h1, h2]
  go_enter Tryz.func124, Tryz.ntmps124
  go_wp2
  go_ret2
  exact ⟨rfl, rfl⟩

theorem quo_down (a b : Int) (hb : 1 ≤ b) (h : a.tmod b < 0) : a.tdiv b - 1 = a / b := by
  have e1 := Int.tmod_add_mul_tdiv a b
  have e2 := Int.emod_add_mul_ediv a b
  have e3 := Int.emod_nonneg a (b := b) (by omega)
  have e4 := Int.emod_lt_of_pos a (b := b) (by omega)
  have e5 : -b < a.tmod b := by have := Int.lt_tmod_of_pos a (b := b) (by omega); omega
  have e6 : b * (a.tdiv b - 1 - a / b) = a % b - (a.tmod b + b) := by rw [Int.mul_sub, Int.mul_sub]; omega
  have e7 : a.tdiv b - 1 - a / b < 1 := by
    apply Int.lt_of_mul_lt_mul_left (a := b) _ (by omega); rw [e6]; omega
  have e8 : -1 < a.tdiv b - 1 - a / b := by
    apply Int.lt_of_mul_lt_mul_left (a := b) _ (by omega); rw [e6]; omega
  omega

theorem quo_same (a b : Int) (hb : 1 ≤ b) (h : ¬ a.tmod b < 0) : a.tdiv b = a / b := by
  have e1 := Int.tmod_add_mul_tdiv a b
  have e2 := Int.emod_add_mul_ediv a b
  have e3 := Int.emod_nonneg a (b := b) (by omega)
  have e4 := Int.emod_lt_of_pos a (b := b) (by omega)
  have e5 : a.tmod b < b := Int.tmod_lt_of_pos a (by omega)
  have e6 : b * (a.tdiv b - a / b) = a % b - a.tmod b := by rw [Int.mul_sub]; omega
  have e7 : a.tdiv b - a / b < 1 := by
    apply Int.lt_of_mul_lt_mul_left (a := b) _ (by omega); rw [e6]; omega
  have e8 : -1 < a.tdiv b - a / b := by
    apply Int.lt_of_mul_lt_mul_left (a := b) _ (by omega); rw [e6]; omega
  omega

theorem rem_down (a b : Int) (hb : 1 ≤ b) (h : a.tmod b < 0) : a.tmod b + b = a % b := by
  have e1 := Int.tmod_add_mul_tdiv a b
  have e2 := Int.emod_add_mul_ediv a b
  have e3 := quo_down a b hb h
  have e4 : b * (a.tdiv b - 1) = b * (a / b) := by rw [e3]
  rw [Int.mul_sub] at e4; omega

theorem rem_same (a b : Int) (hb : 1 ≤ b) (h : ¬ a.tmod b < 0) : a.tmod b = a % b := by
  have e1 := Int.tmod_add_mul_tdiv a b
  have e2 := Int.emod_add_mul_ediv a b
  have e3 := quo_same a b hb h
  rw [e3] at e1; omega

theorem floor_lo (a b : Int) (hb : 1 ≤ b) (h : a.tmod b < 0) (ha0 : -9223372036854775808 ≤ a) : -9223372036854775808 ≤ a.tdiv b - 1 := by
  rw [quo_down a b hb h]
  have e2 := Int.emod_add_mul_ediv a b
  have e3 := Int.emod_nonneg a (b := b) (by omega)
  have e4 := Int.emod_lt_of_pos a (b := b) (by omega)
  by_cases h1 : b = 1
  · subst h1; simp at *
  · have hq : a < 0 := by
      rcases Int.lt_or_le a 0 with hl | hl
      · exact hl
      · have := Int.tmod_nonneg b hl; omega
    have h5 : a / b < 0 := Int.ediv_neg_of_neg_of_pos hq (by omega)
    have h6 : b * (a / b) ≤ 2 * (a / b) := Int.mul_le_mul_of_nonpos_right (by omega) (by omega)
    have h7 : a - b < b * (a/b) := by omega
    have h8 : a ≤ b * (a/b) + b := by omega
    have h9 : (b - 2) * (a/b + 1) ≤ 0 := Int.mul_nonpos_of_nonneg_of_nonpos (by omega) (by omega)
    have h10 : (b - 2) * (a/b+1) = b * (a/b) + b - 2 * (a/b) - 2 := by
      rw [Int.mul_add, Int.sub_mul]; omega
    omega

theorem tdiv_bd (a b : Int) (hb : 1 ≤ b) (ha0 : -9223372036854775808 ≤ a) (ha1 : a ≤ 9223372036854775807) :
    -9223372036854775808 ≤ a.tdiv b ∧ a.tdiv b ≤ 9223372036854775807 := by
  have := Int.natAbs_tdiv_le_natAbs a b
  rcases Int.lt_or_le a 0 with hl | hl
  · have h2 := Int.tdiv_nonneg (show 0 ≤ -a by omega) (show 0 ≤ b by omega)
    rw [Int.neg_tdiv] at h2
    omega
  · have := Int.tdiv_nonneg hl (show 0 ≤ b by omega); omega

set_option maxHeartbeats 400000 in
theorem floor_arg (a b : Int) (w : World) (h : b < 1) :
    Calls Tryz.prog 123 #[.int .i64 a, .int .i64 b] w fun e w' => e = .returned (bad 1) ∧ w = w' := by
  go_enter Tryz.func123, Tryz.ntmps123
  go_wp2
  go_ret2
  exact ⟨rfl, rfl⟩

theorem ret_int2 {a b : Int} (v : Value) (h : a = b) : Ending.returned (.tuple #[.int .i64 a, v]) = .returned (.tuple #[.int .i64 b, v]) := by rw [h]

set_option maxHeartbeats 400000 in
theorem floor_ok (a b : Int) (w : World) (ha0 : -9223372036854775808 ≤ a) (ha1 : a ≤ 9223372036854775807) (hb0 : 1 ≤ b) (hb1 : b ≤ 9223372036854775807) :
    Calls Tryz.prog 123 #[.int .i64 a, .int .i64 b] w fun e w' => e = .returned (good (a / b)) ∧ w = w' := by
  have hn : ¬ b < 1 := by omega
  have t := tdiv_bd a b hb0 ha0 ha1
  obtain ⟨t0, t1⟩ := t
  by_cases h0 : 0 ≤ a
  · have hm : ¬ a % b < 0 := by have := Int.emod_nonneg a (b := b) (by omega); omega
    go_enter Tryz.func123, Tryz.ntmps123
    go_wp2
    go_ret2
    exact ⟨ret_int2 _ (Int.tdiv_eq_ediv_of_nonneg h0), rfl⟩
  · by_cases hm : a.tmod b < 0
    · have tl := floor_lo a b hb0 hm ha0
      have e := quo_down a b hb0 hm
      have E := Lib.hid e; clear e
      go_enter Tryz.func123, Tryz.ntmps123
      go_wp2
      go_ret2
      exact ⟨ret_int2 _ E.out, rfl⟩
    · have e := quo_same a b hb0 hm
      have E := Lib.hid e; clear e
      go_enter Tryz.func123, Tryz.ntmps123
      go_wp2
      go_ret2
      exact ⟨ret_int2 _ E.out, rfl⟩

set_option maxHeartbeats 400000 in
theorem down_arg (a b : Int) (w : World) (h : b < 1) :
    Calls Tryz.prog 122 #[.int .i64 a, .int .i64 b] w fun e w' => e = .returned (bad 1) ∧ w = w' := by
  go_enter Tryz.func122, Tryz.ntmps122
  go_wp2
  go_ret2
  exact ⟨rfl, rfl⟩

set_option maxHeartbeats 400000 in
theorem down_of (a b r : Int) (v : Value) (w : World) (hv : v = good (a - r) ∨ v = bad 3) (ha0 : -9223372036854775808 ≤ a) (ha1 : a ≤ 9223372036854775807) (hb0 : 1 ≤ b) (hb1 : b ≤ 9223372036854775807)
    (E : Hid (r = a % b)) (hsub : Hid (Calls Tryz.prog 124 #[.int .i64 a, .int .i64 (a % b)] w fun e w' => e = .returned v ∧ w = w')) :
    Calls Tryz.prog 122 #[.int .i64 a, .int .i64 b] w fun e w' => e = .returned v ∧ w = w' := by
  have hn : ¬ b < 1 := by omega
  have g0 := Int.emod_nonneg a (b := b) (by omega)
  have g1 := Int.emod_lt_of_pos a (b := b) (by omega)
  by_cases h0 : 0 ≤ a
  · have hm : ¬ a % b < 0 := by omega
    rcases hv with rfl | rfl
    all_goals
      go_enter Tryz.func122, Tryz.ntmps122
      go_wp2_with (go_at_call 124; refine (hsub.out).mono ?_; rintro e w' ⟨rfl, rfl⟩)
      go_ret2
      exact ⟨rfl, rfl⟩
  · by_cases hm : a.tmod b < 0
    · have e := rem_down a b hb0 hm
      have hr : -b < a.tmod b := by have := Int.lt_tmod_of_pos a (b := b) (by omega); omega
      have F := Lib.hid e; clear e
      rcases hv with rfl | rfl
      all_goals
        go_enter Tryz.func122, Tryz.ntmps122
        go_wp2_with (go_at_call 124; rw [F.out]; refine (hsub.out).mono ?_; rintro e w' ⟨rfl, rfl⟩)
        go_ret2
        exact ⟨rfl, rfl⟩
    · have e := rem_same a b hb0 hm
      have F := Lib.hid e; clear e
      rcases hv with rfl | rfl
      all_goals
        go_enter Tryz.func122, Tryz.ntmps122
        go_wp2_with (go_at_call 124; rw [F.out]; refine (hsub.out).mono ?_; rintro e w' ⟨rfl, rfl⟩)
        go_ret2
        exact ⟨rfl, rfl⟩

theorem down_ok (a b : Int) (w : World) (ha0 : -9223372036854775808 ≤ a) (ha1 : a ≤ 9223372036854775807) (hb0 : 1 ≤ b) (hb1 : b ≤ 9223372036854775807)
    (h0 : -9223372036854775808 ≤ a - a % b) :
    Calls Tryz.prog 122 #[.int .i64 a, .int .i64 b] w fun e w' => e = .returned (good (a - a % b)) ∧ w = w' := by
  have g0 := Int.emod_nonneg a (b := b) (by omega)
  have g1 := Int.emod_lt_of_pos a (b := b) (by omega)
  exact down_of a b (a % b) _ w (.inl rfl) ha0 ha1 hb0 hb1 (Lib.hid rfl) (Lib.hid (sub_ok a (a % b) w ha0 ha1 (by omega) (by omega) h0 (by omega)))


theorem down_bad (a b : Int) (w : World) (ha0 : -9223372036854775808 ≤ a) (ha1 : a ≤ 9223372036854775807) (hb0 : 1 ≤ b) (hb1 : b ≤ 9223372036854775807)
    (h0 : a - a % b < -9223372036854775808) :
    Calls Tryz.prog 122 #[.int .i64 a, .int .i64 b] w fun e w' => e = .returned (bad 3) ∧ w = w' := by
  have g0 := Int.emod_nonneg a (b := b) (by omega)
  have g1 := Int.emod_lt_of_pos a (b := b) (by omega)
  exact down_of a b (a % b) _ w (.inr rfl) ha0 ha1 hb0 hb1 (Lib.hid rfl) (Lib.hid (sub_bad a (a % b) w ha0 ha1 (by omega) (by omega) (.inl h0)))
end Num
end Go.Proofs.YtmklkiklegkioaaGreat
