/-
  Contracts of the document's own answers to layer 1 (package easelref01): wide, plus, minus, fits, Add, Sub, Floor, Down.
-/
import Derived.Test.YtmklkiklegkioaaGreatNum
import Derived.Below
namespace Go.Proofs.YtmklkiklegkioaaGreat
open Go.ChangeShapes Go.WideShapes Go.ChangeAt Go.RowKit
namespace Ref01
set_option linter.unusedVariables false

/-- an integer of more than 64 bits, as the two numbers that it is held in -/
abbrev big (h l : Int) : Value := .agg #[.int .i64 h, .int .i64 l]

theorem ret_big {h l h' l' : Int} (a : h = h') (b : l = l') : Ending.returned (big h l) = .returned (big h' l') := by rw [a, b]

set_option maxHeartbeats 400000 in
theorem wide_ok (n : Int) (w : World) (h0 : -9223372036854775808 ≤ n) (h1 : n ≤ 9223372036854775807) :
    Calls Tryz.prog 47 #[.int .i64 n] w fun e w' => e = .returned (big (n / 4294967296) (n % 4294967296)) ∧ Below w.heap.size w w' := by
  by_cases hn : 0 ≤ n
  · have hm : ¬ n % 4294967296 < 0 := by omega
    go_enter Tryz.func47, Tryz.ntmps47
    go_wp2
    exact bodyPost_ret (v := big _ _) (by simp [results, Tryz.results47, go_sem]) rfl ⟨rfl, (Below.refl _ _).alloc (Nat.le_refl _) _⟩
  · have hr : -4294967296 < n.tmod 4294967296 := by have := Int.lt_tmod_of_pos n (b := 4294967296) (by omega); omega
    have hd := Num.tdiv_bd n 4294967296 (by omega) h0 h1
    by_cases hm : n.tmod 4294967296 < 0
    · have hl := Num.floor_lo n 4294967296 (by omega) hm h0
      have E := Lib.hid (Num.quo_down n 4294967296 (by omega) hm)
      have F := Lib.hid (Num.rem_down n 4294967296 (by omega) hm)
      go_enter Tryz.func47, Tryz.ntmps47
      go_wp2
      refine bodyPost_ret (v := big _ _) (by simp [results, Tryz.results47, go_sem]) rfl ⟨ret_big E.out F.out, (Below.refl _ _).alloc (Nat.le_refl _) _⟩
    · have E := Lib.hid (Num.quo_same n 4294967296 (by omega) hm)
      have F := Lib.hid (Num.rem_same n 4294967296 (by omega) hm)
      go_enter Tryz.func47, Tryz.ntmps47
      go_wp2
      refine bodyPost_ret (v := big _ _) (by simp [results, Tryz.results47, go_sem]) rfl ⟨ret_big E.out F.out, (Below.refl _ _).alloc (Nat.le_refl _) _⟩


theorem below4 (w : World) (a b c d : Obj) : Below w.heap.size w ((((w.alloc a).alloc b).alloc c).alloc d) :=
  ((((Below.refl _ _).alloc (Nat.le_refl _) _).alloc (by simp) _).alloc (by simp; omega) _).alloc (by simp; omega) _

set_option maxHeartbeats 400000 in
theorem plus_ok (h l k m s t : Int) (w : World) (a0 : -4294967296 ≤ h) (a1 : h ≤ 4294967296) (b0 : -4294967296 ≤ k) (b1 : k ≤ 4294967296)
    (c0 : 0 ≤ l) (c1 : l < 4294967296) (d0 : 0 ≤ m) (d1 : m < 4294967296) (hs : Hid (s * 4294967296 + t = (h + k) * 4294967296 + (l + m))) (t0 : 0 ≤ t) (t1 : t < 4294967296) :
    Calls Tryz.prog 46 #[big h l, big k m] w fun e w' => e = .returned (big s t) ∧ Below w.heap.size w w' := by
  by_cases hc : 4294967296 ≤ l + m
  · go_enter Tryz.func46, Tryz.ntmps46
    go_wp2
    refine bodyPost_ret (v := big s t) ?_ rfl ⟨rfl, below4 _ _ _ _ _⟩
    have e := hs.out
    simp [results, Tryz.results46, go_sem]
    omega
  · go_enter Tryz.func46, Tryz.ntmps46
    go_wp2
    refine bodyPost_ret (v := big s t) ?_ rfl ⟨rfl, below4 _ _ _ _ _⟩
    have e := hs.out
    simp [results, Tryz.results46, go_sem]
    omega

set_option maxHeartbeats 400000 in
theorem minus_ok (h l k m s t : Int) (w : World) (a0 : -4294967296 ≤ h) (a1 : h ≤ 4294967296) (b0 : -4294967296 ≤ k) (b1 : k ≤ 4294967296)
    (c0 : 0 ≤ l) (c1 : l < 4294967296) (d0 : 0 ≤ m) (d1 : m < 4294967296) (hs : Hid (s * 4294967296 + t = (h - k) * 4294967296 + (l - m))) (t0 : 0 ≤ t) (t1 : t < 4294967296) :
    Calls Tryz.prog 81 #[big h l, big k m] w fun e w' => e = .returned (big s t) ∧ Below w.heap.size w w' := by
  by_cases hc : l - m < 0
  · go_enter Tryz.func81, Tryz.ntmps81
    go_wp2
    refine bodyPost_ret (v := big s t) ?_ rfl ⟨rfl, below4 _ _ _ _ _⟩
    have e := hs.out
    simp [results, Tryz.results81, go_sem]
    omega
  · go_enter Tryz.func81, Tryz.ntmps81
    go_wp2
    refine bodyPost_ret (v := big s t) ?_ rfl ⟨rfl, below4 _ _ _ _ _⟩
    have e := hs.out
    simp [results, Tryz.results81, go_sem]
    omega

set_option maxHeartbeats 400000 in
theorem fits_yes (h l : Int) (w : World) (a0 : -2147483648 ≤ h) (a1 : h ≤ 2147483647) (c0 : 0 ≤ l) (c1 : l < 4294967296) :
    Calls Tryz.prog 80 #[big h l] w fun e w' => e = .returned (.tuple #[.int .i64 (h * 4294967296 + l), .bool true]) ∧ Below w.heap.size w w' := by
  go_enter Tryz.func80, Tryz.ntmps80
  go_wp2
  go_ret2
  exact ⟨rfl, (Below.refl _ _).alloc (Nat.le_refl _) _⟩

set_option maxHeartbeats 400000 in
theorem fits_no (h l : Int) (w : World) (a : h < -2147483648 ∨ 2147483647 < h) :
    Calls Tryz.prog 80 #[big h l] w fun e w' => e = .returned (.tuple #[.int .i64 0, .bool false]) ∧ Below w.heap.size w w' := by
  rcases a with a | a
  · go_enter Tryz.func80, Tryz.ntmps80
    go_wp2
    go_ret2
    exact ⟨rfl, (Below.refl _ _).alloc (Nat.le_refl _) _⟩
  · have a' : ¬ h < -2147483648 := by omega
    go_enter Tryz.func80, Tryz.ntmps80
    go_wp2
    go_ret2
    exact ⟨rfl, (Below.refl _ _).alloc (Nat.le_refl _) _⟩

theorem below_after {a b c : World} (h : Below a.heap.size a b) (k : Below b.heap.size b c) : Below a.heap.size a c := h.trans (k.mono h.size)

set_option maxHeartbeats 400000 in
theorem add_yes (a b : Int) (w : World) (ha0 : -9223372036854775808 ≤ a) (ha1 : a ≤ 9223372036854775807) (hb0 : -9223372036854775808 ≤ b) (hb1 : b ≤ 9223372036854775807)
    (h0 : -9223372036854775808 ≤ a + b) (h1 : a + b ≤ 9223372036854775807) :
    Calls Tryz.prog 79 #[.int .i64 a, .int .i64 b] w fun e w' => e = .returned (.tuple #[.int .i64 (a + b), .bool true]) ∧ Below w.heap.size w w' := by
  go_enter Tryz.func79, Tryz.ntmps79
  go_wp2_with fail
  refine (wide_ok a _ ha0 ha1).mono ?_
  rintro e w1 ⟨rfl, k1⟩
  go_wp2_with fail
  refine (wide_ok b _ hb0 hb1).mono ?_
  rintro e w2 ⟨rfl, k2⟩
  go_wp2_with fail
  refine (plus_ok (a / 4294967296) (a % 4294967296) (b / 4294967296) (b % 4294967296) ((a + b) / 4294967296) ((a + b) % 4294967296) _
    (by omega) (by omega) (by omega) (by omega) (by omega) (by omega) (by omega) (by omega) (Lib.hid (by omega)) (by omega) (by omega)).mono ?_
  rintro e w3 ⟨rfl, k3⟩
  go_wp2_with fail
  refine (fits_yes ((a + b) / 4294967296) ((a + b) % 4294967296) _ (by omega) (by omega) (by omega) (by omega)).mono ?_
  rintro e w4 ⟨rfl, k4⟩
  go_wp2
  go_ret2
  exact ⟨Num.ret_int2 _ (by omega), below_after (below_after (below_after k1 k2) k3) k4⟩

set_option maxHeartbeats 400000 in
theorem add_no (a b : Int) (w : World) (ha0 : -9223372036854775808 ≤ a) (ha1 : a ≤ 9223372036854775807) (hb0 : -9223372036854775808 ≤ b) (hb1 : b ≤ 9223372036854775807)
    (h : a + b < -9223372036854775808 ∨ 9223372036854775807 < a + b) :
    Calls Tryz.prog 79 #[.int .i64 a, .int .i64 b] w fun e w' => e = .returned (.tuple #[.int .i64 0, .bool false]) ∧ Below w.heap.size w w' := by
  go_enter Tryz.func79, Tryz.ntmps79
  go_wp2_with fail
  refine (wide_ok a _ ha0 ha1).mono ?_
  rintro e w1 ⟨rfl, k1⟩
  go_wp2_with fail
  refine (wide_ok b _ hb0 hb1).mono ?_
  rintro e w2 ⟨rfl, k2⟩
  go_wp2_with fail
  refine (plus_ok (a / 4294967296) (a % 4294967296) (b / 4294967296) (b % 4294967296) ((a + b) / 4294967296) ((a + b) % 4294967296) _
    (by omega) (by omega) (by omega) (by omega) (by omega) (by omega) (by omega) (by omega) (Lib.hid (by omega)) (by omega) (by omega)).mono ?_
  rintro e w3 ⟨rfl, k3⟩
  go_wp2_with fail
  refine (fits_no ((a + b) / 4294967296) ((a + b) % 4294967296) _ (by omega)).mono ?_
  rintro e w4 ⟨rfl, k4⟩
  go_wp2
  go_ret2
  exact ⟨rfl, below_after (below_after (below_after k1 k2) k3) k4⟩

set_option maxHeartbeats 400000 in
theorem sub_yes (a b : Int) (w : World) (ha0 : -9223372036854775808 ≤ a) (ha1 : a ≤ 9223372036854775807) (hb0 : -9223372036854775808 ≤ b) (hb1 : b ≤ 9223372036854775807)
    (h0 : -9223372036854775808 ≤ a - b) (h1 : a - b ≤ 9223372036854775807) :
    Calls Tryz.prog 61 #[.int .i64 a, .int .i64 b] w fun e w' => e = .returned (.tuple #[.int .i64 (a - b), .bool true]) ∧ Below w.heap.size w w' := by
  go_enter Tryz.func61, Tryz.ntmps61
  go_wp2_with fail
  refine (wide_ok a _ ha0 ha1).mono ?_
  rintro e w1 ⟨rfl, k1⟩
  go_wp2_with fail
  refine (wide_ok b _ hb0 hb1).mono ?_
  rintro e w2 ⟨rfl, k2⟩
  go_wp2_with fail
  refine (minus_ok (a / 4294967296) (a % 4294967296) (b / 4294967296) (b % 4294967296) ((a - b) / 4294967296) ((a - b) % 4294967296) _
    (by omega) (by omega) (by omega) (by omega) (by omega) (by omega) (by omega) (by omega) (Lib.hid (by omega)) (by omega) (by omega)).mono ?_
  rintro e w3 ⟨rfl, k3⟩
  go_wp2_with fail
  refine (fits_yes ((a - b) / 4294967296) ((a - b) % 4294967296) _ (by omega) (by omega) (by omega) (by omega)).mono ?_
  rintro e w4 ⟨rfl, k4⟩
  go_wp2
  go_ret2
  exact ⟨Num.ret_int2 _ (by omega), below_after (below_after (below_after k1 k2) k3) k4⟩

set_option maxHeartbeats 400000 in
theorem sub_no (a b : Int) (w : World) (ha0 : -9223372036854775808 ≤ a) (ha1 : a ≤ 9223372036854775807) (hb0 : -9223372036854775808 ≤ b) (hb1 : b ≤ 9223372036854775807)
    (h : a - b < -9223372036854775808 ∨ 9223372036854775807 < a - b) :
    Calls Tryz.prog 61 #[.int .i64 a, .int .i64 b] w fun e w' => e = .returned (.tuple #[.int .i64 0, .bool false]) ∧ Below w.heap.size w w' := by
  go_enter Tryz.func61, Tryz.ntmps61
  go_wp2_with fail
  refine (wide_ok a _ ha0 ha1).mono ?_
  rintro e w1 ⟨rfl, k1⟩
  go_wp2_with fail
  refine (wide_ok b _ hb0 hb1).mono ?_
  rintro e w2 ⟨rfl, k2⟩
  go_wp2_with fail
  refine (minus_ok (a / 4294967296) (a % 4294967296) (b / 4294967296) (b % 4294967296) ((a - b) / 4294967296) ((a - b) % 4294967296) _
    (by omega) (by omega) (by omega) (by omega) (by omega) (by omega) (by omega) (by omega) (Lib.hid (by omega)) (by omega) (by omega)).mono ?_
  rintro e w3 ⟨rfl, k3⟩
  go_wp2_with fail
  refine (fits_no ((a - b) / 4294967296) ((a - b) % 4294967296) _ (by omega)).mono ?_
  rintro e w4 ⟨rfl, k4⟩
  go_wp2
  go_ret2
  exact ⟨rfl, below_after (below_after (below_after k1 k2) k3) k4⟩

theorem ret_int1 {a b : Int} (h : a = b) : Ending.returned (.int .i64 a) = .returned (.int .i64 b) := by rw [h]


set_option maxHeartbeats 400000 in
theorem down_of (a b n : Int) (ok : Bool) (w : World) (ha0 : -9223372036854775808 ≤ a) (ha1 : a ≤ 9223372036854775807) (hb0 : 1 ≤ b) (hb1 : b ≤ 9223372036854775807)
    (hsub : Hid (Calls Tryz.prog 61 #[.int .i64 a, .int .i64 (a % b)] w fun e w' => e = .returned (.tuple #[.int .i64 n, .bool ok]) ∧ Below w.heap.size w w')) :
    Calls Tryz.prog 60 #[.int .i64 a, .int .i64 b] w fun e w' => e = .returned (.tuple #[.int .i64 n, .bool ok]) ∧ Below w.heap.size w w' := by
  have g0 := Int.emod_nonneg a (b := b) (by omega)
  have g1 := Int.emod_lt_of_pos a (b := b) (by omega)
  by_cases h0 : 0 ≤ a
  · have hm : ¬ a % b < 0 := by omega
    go_enter Tryz.func60, Tryz.ntmps60
    go_wp2_with (go_at_call 61; refine (hsub.out).mono ?_; rintro e w' ⟨rfl, k1⟩)
    go_ret2
    exact ⟨rfl, k1⟩
  · by_cases hm : a.tmod b < 0
    · have hr : -b < a.tmod b := by have := Int.lt_tmod_of_pos a (b := b) (by omega); omega
      have F := Lib.hid (Num.rem_down a b hb0 hm)
      go_enter Tryz.func60, Tryz.ntmps60
      go_wp2_with (go_at_call 61; rw [F.out]; refine (hsub.out).mono ?_; rintro e w' ⟨rfl, k1⟩)
      go_ret2
      exact ⟨rfl, k1⟩
    · have F := Lib.hid (Num.rem_same a b hb0 hm)
      go_enter Tryz.func60, Tryz.ntmps60
      go_wp2_with (go_at_call 61; rw [F.out]; refine (hsub.out).mono ?_; rintro e w' ⟨rfl, k1⟩)
      go_ret2
      exact ⟨rfl, k1⟩

theorem down_yes (a b : Int) (w : World) (ha0 : -9223372036854775808 ≤ a) (ha1 : a ≤ 9223372036854775807) (hb0 : 1 ≤ b) (hb1 : b ≤ 9223372036854775807)
    (h0 : -9223372036854775808 ≤ a - a % b) :
    Calls Tryz.prog 60 #[.int .i64 a, .int .i64 b] w fun e w' => e = .returned (.tuple #[.int .i64 (a - a % b), .bool true]) ∧ Below w.heap.size w w' := by
  have g0 := Int.emod_nonneg a (b := b) (by omega)
  have g1 := Int.emod_lt_of_pos a (b := b) (by omega)
  exact down_of a b _ _ w ha0 ha1 hb0 hb1 (Lib.hid (sub_yes a (a % b) w ha0 ha1 (by omega) (by omega) h0 (by omega)))


theorem down_no (a b : Int) (w : World) (ha0 : -9223372036854775808 ≤ a) (ha1 : a ≤ 9223372036854775807) (hb0 : 1 ≤ b) (hb1 : b ≤ 9223372036854775807)
    (h0 : a - a % b < -9223372036854775808) :
    Calls Tryz.prog 60 #[.int .i64 a, .int .i64 b] w fun e w' => e = .returned (.tuple #[.int .i64 0, .bool false]) ∧ Below w.heap.size w w' := by
  have g0 := Int.emod_nonneg a (b := b) (by omega)
  have g1 := Int.emod_lt_of_pos a (b := b) (by omega)
  exact down_of a b _ _ w ha0 ha1 hb0 hb1 (Lib.hid (sub_no a (a % b) w ha0 ha1 (by omega) (by omega) (.inl h0)))
end Ref01
end Go.Proofs.YtmklkiklegkioaaGreat
