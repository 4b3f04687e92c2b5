/-
  The walks of SpanTells, case by case.
-/
import Derived.Test.YtaacocjkaijceaaUp02
import Derived.Test.YtaacocjkaijceaaRefSpan
import Derived.Deep.RegionHeld3
namespace Go.Proofs.Ytaacocjkaijceaa.spanTells
open Go.ChangeShapes Go.WideShapes Go.ChangeAt Go.RowKit Spn
set_option linter.unusedVariables false

set_option maxHeartbeats 2000000 in
theorem walkA (a b c d t l m : Int) (mt : Bool) (w : World) (ha0 : -9223372036854775808 ≤ a) (ha1 : a ≤ 9223372036854775807) (hb0 : -9223372036854775808 ≤ b) (hb1 : b ≤ 9223372036854775807) (hl0 : -9223372036854775808 ≤ l) (hl1 : l ≤ 9223372036854775807) (hm0 : -9223372036854775808 ≤ m) (hm1 : m ≤ 9223372036854775807) (h1 : ¬ a < b) (hm : mt = false)
    (M : Hid (∀ w : World, Calls Try.prog 9 #[win a b, win c d] w fun r w' => r = .returned (.bool mt) ∧ Below w.heap.size w w'))
    (R : Hid (∀ w : World, Calls Try.prog 8 #[win a b, win c d] w fun r w' => r = .returned (.bool mt) ∧ Below w.heap.size w w')) :
    Calls Try.prog 3 #[win a b, win c d, .int .i64 t, .int .i64 l, .int .i64 m] w fun r w' => r = .returned (.bool true) ∧ Below w.heap.size w w' := by
  subst hm
  have T0 := Lib.hid (two_new w a b c d)
  obtain ⟨x, hx⟩ : ∃ x, Hid (x = min a c) := ⟨_, Lib.hid rfl⟩
  obtain ⟨y, hy⟩ : ∃ y, Hid (y = max b d) := ⟨_, Lib.hid rfl⟩
  have J1 : Hid (∀ w : World, Calls Try.prog 10 #[win a b, win c d] w fun r w' => r = .returned (win x y) ∧ Below w.heap.size w w') := Lib.hid fun w => by rw [hx.out, hy.out]; exact Spn.join_ok a b c d w
  obtain ⟨o, ho⟩ : ∃ o, Hid (o = decide (b + l ≤ m)) := ⟨_, Lib.hid rfl⟩
  have O1 : Hid (∀ w : World, Calls Try.prog 12 #[win a b, .int .i64 l, .int .i64 m] w fun r w' => r = .returned (.bool o) ∧ Below w.heap.size w w') := Lib.hid fun w => by rw [ho.out]; exact Spn.over_ok a b l m w hb0 hb1 hl0 hl1 hm0 hm1
  have O2 : Hid (∀ w : World, Calls Try.prog 13 #[win a b, .int .i64 l, .int .i64 m] w fun r w' => r = .returned (.bool o) ∧ Below w.heap.size w w') := Lib.hid fun w => by rw [ho.out]; exact RefSpan.over_ok a b l m w hb0 hb1 hl0 hl1 hm0 hm1
  obtain ⟨q, hq⟩ : ∃ q, Hid (q = cmpW a b c d) := ⟨_, Lib.hid rfl⟩
  have Q1 : Hid (∀ w : World, Calls Try.prog 14 #[win a b, win c d] w fun r w' => r = .returned (.int .i64 q) ∧ Below w.heap.size w w') := Lib.hid fun w => by rw [hq.out]; exact Spn.comp_ok a b c d w
  have Q2 : Hid (∀ w : World, Calls Try.prog 15 #[win a b, win c d] w fun r w' => r = .returned (.int .i64 q) ∧ Below w.heap.size w w') := Lib.hid fun w => by rw [hq.out]; exact RefSpan.comp_ok a b c d w
  go_enter Try.func3, Try.ntmps3
  go_wp2_with fail
  refine (Spn.up_ok _).mono ?_
  rintro e w1 ⟨rfl, k1⟩
  have T1 := Lib.hid (T0.out.next k1)
  obtain ⟨a1, b1, c1, d1, -⟩ := T1.out
  go_wp2_with fail
  refine (may_ok a b _).mono ?_
  rintro e w2 ⟨rfl, k2⟩
  have T2 := Lib.hid (T1.out.next k2)
  clear a1 b1 c1 d1
  obtain ⟨a2, b2, c2, d2, -⟩ := T2.out
  go_wp2_with fail
  refine (told false (has_ok a b t _) (by simp; omega)).mono ?_
  rintro e w3 ⟨rfl, k3⟩
  have T3 := Lib.hid (T2.out.next k3)
  clear a2 b2 c2 d2
  obtain ⟨a3, b3, c3, d3, -⟩ := T3.out
  go_wp2_with fail
  have hS := T3.out
  simp only [Two] at hS
  clear a3 b3 c3 d3
  go_region_held3 (fun w' => w'.cell? ⟨w.heap.size, 0, none⟩ = some (.int .i64 a) ∧ w'.cell? ⟨w.heap.size, 1, none⟩ = some (.int .i64 b) ∧ w'.cell? ⟨w.heap.size + 1, 0, none⟩ = some (.int .i64 c) ∧ w'.cell? ⟨w.heap.size + 1, 1, none⟩ = some (.int .i64 d) ∧
      Below w.heap.size w w' ∧ w.heap.size + 1 < w'.heap.size) (first | exact Two.drew hS | exact Two.next k9 (by assumption))
    (first
      | (go_at_call 9; refine (M.out _).mono ?_; rintro e w9 ⟨rfl, k9⟩)
      | (go_at_call 10; refine (J1.out _).mono ?_; rintro e w9 ⟨rfl, k9⟩)
      | (go_at_call 11; refine (RefSpan.join_ok a b c d x y _ hx hy).mono ?_; rintro e w9 ⟨rfl, k9⟩)
      | (go_at_call 12; refine (O1.out _).mono ?_; rintro e w9 ⟨rfl, k9⟩)
      | (go_at_call 13; refine (O2.out _).mono ?_; rintro e w9 ⟨rfl, k9⟩)
      | (go_at_call 14; refine (Q1.out _).mono ?_; rintro e w9 ⟨rfl, k9⟩)
      | (go_at_call 15; refine (Q2.out _).mono ?_; rintro e w9 ⟨rfl, k9⟩))
  go_wp2
  go_ret
  exact ⟨rfl, Two.below (a := a) (b := b) (c := c) (d := d) (by assumption)⟩

set_option maxHeartbeats 2000000 in
theorem walkB1 (a b c d t l m : Int) (mt : Bool) (w : World) (ha0 : -9223372036854775808 ≤ a) (ha1 : a ≤ 9223372036854775807) (hb0 : -9223372036854775808 ≤ b) (hb1 : b ≤ 9223372036854775807) (hl0 : -9223372036854775808 ≤ l) (hl1 : l ≤ 9223372036854775807) (hm0 : -9223372036854775808 ≤ m) (hm1 : m ≤ 9223372036854775807) (h1 : a < b) (h2 : a ≤ t) (h3 : c < d)
    (M : Hid (∀ w : World, Calls Try.prog 9 #[win a b, win c d] w fun r w' => r = .returned (.bool mt) ∧ Below w.heap.size w w'))
    (R : Hid (∀ w : World, Calls Try.prog 8 #[win a b, win c d] w fun r w' => r = .returned (.bool mt) ∧ Below w.heap.size w w')) :
    Calls Try.prog 3 #[win a b, win c d, .int .i64 t, .int .i64 l, .int .i64 m] w fun r w' => r = .returned (.bool true) ∧ Below w.heap.size w w' := by
  have T0 := Lib.hid (two_new w a b c d)
  obtain ⟨x, hx⟩ : ∃ x, Hid (x = min a c) := ⟨_, Lib.hid rfl⟩
  obtain ⟨y, hy⟩ : ∃ y, Hid (y = max b d) := ⟨_, Lib.hid rfl⟩
  have J1 : Hid (∀ w : World, Calls Try.prog 10 #[win a b, win c d] w fun r w' => r = .returned (win x y) ∧ Below w.heap.size w w') := Lib.hid fun w => by rw [hx.out, hy.out]; exact Spn.join_ok a b c d w
  obtain ⟨o, ho⟩ : ∃ o, Hid (o = decide (b + l ≤ m)) := ⟨_, Lib.hid rfl⟩
  have O1 : Hid (∀ w : World, Calls Try.prog 12 #[win a b, .int .i64 l, .int .i64 m] w fun r w' => r = .returned (.bool o) ∧ Below w.heap.size w w') := Lib.hid fun w => by rw [ho.out]; exact Spn.over_ok a b l m w hb0 hb1 hl0 hl1 hm0 hm1
  have O2 : Hid (∀ w : World, Calls Try.prog 13 #[win a b, .int .i64 l, .int .i64 m] w fun r w' => r = .returned (.bool o) ∧ Below w.heap.size w w') := Lib.hid fun w => by rw [ho.out]; exact RefSpan.over_ok a b l m w hb0 hb1 hl0 hl1 hm0 hm1
  obtain ⟨q, hq⟩ : ∃ q, Hid (q = cmpW a b c d) := ⟨_, Lib.hid rfl⟩
  have Q1 : Hid (∀ w : World, Calls Try.prog 14 #[win a b, win c d] w fun r w' => r = .returned (.int .i64 q) ∧ Below w.heap.size w w') := Lib.hid fun w => by rw [hq.out]; exact Spn.comp_ok a b c d w
  have Q2 : Hid (∀ w : World, Calls Try.prog 15 #[win a b, win c d] w fun r w' => r = .returned (.int .i64 q) ∧ Below w.heap.size w w') := Lib.hid fun w => by rw [hq.out]; exact RefSpan.comp_ok a b c d w
  go_enter Try.func3, Try.ntmps3
  go_wp2_with fail
  refine (Spn.up_ok _).mono ?_
  rintro e w1 ⟨rfl, k1⟩
  have T1 := Lib.hid (T0.out.next k1)
  obtain ⟨a1, b1, c1, d1, -⟩ := T1.out
  go_wp2_with fail
  refine (may_ok a b _).mono ?_
  rintro e w2 ⟨rfl, k2⟩
  have T2 := Lib.hid (T1.out.next k2)
  clear a1 b1 c1 d1
  obtain ⟨a2, b2, c2, d2, -⟩ := T2.out
  go_wp2_with fail
  refine (told (decide (t < b)) (has_ok a b t _) (by simp [h2])).mono ?_
  rintro e w3 ⟨rfl, k3⟩
  have T3 := Lib.hid (T2.out.next k3)
  clear a2 b2 c2 d2
  obtain ⟨a3, b3, c3, d3, -⟩ := T3.out
  go_wp2_with fail
  refine (R.out _).mono ?_
  rintro e w4 ⟨rfl, k4⟩
  have T4 := Lib.hid (T3.out.next k4)
  clear a3 b3 c3 d3
  obtain ⟨a4, b4, c4, d4, -⟩ := T4.out
  go_wp2_with fail
  have hS := T4.out
  simp only [Two] at hS
  clear a4 b4 c4 d4
  go_region_held3 (fun w' => w'.cell? ⟨w.heap.size, 0, none⟩ = some (.int .i64 a) ∧ w'.cell? ⟨w.heap.size, 1, none⟩ = some (.int .i64 b) ∧ w'.cell? ⟨w.heap.size + 1, 0, none⟩ = some (.int .i64 c) ∧ w'.cell? ⟨w.heap.size + 1, 1, none⟩ = some (.int .i64 d) ∧
      Below w.heap.size w w' ∧ w.heap.size + 1 < w'.heap.size) (first | exact Two.drew hS | exact Two.next k9 (by assumption))
    (first
      | (go_at_call 9; refine (M.out _).mono ?_; rintro e w9 ⟨rfl, k9⟩)
      | (go_at_call 10; refine (J1.out _).mono ?_; rintro e w9 ⟨rfl, k9⟩)
      | (go_at_call 11; refine (RefSpan.join_ok a b c d x y _ hx hy).mono ?_; rintro e w9 ⟨rfl, k9⟩)
      | (go_at_call 12; refine (O1.out _).mono ?_; rintro e w9 ⟨rfl, k9⟩)
      | (go_at_call 13; refine (O2.out _).mono ?_; rintro e w9 ⟨rfl, k9⟩)
      | (go_at_call 14; refine (Q1.out _).mono ?_; rintro e w9 ⟨rfl, k9⟩)
      | (go_at_call 15; refine (Q2.out _).mono ?_; rintro e w9 ⟨rfl, k9⟩))
  go_wp2
  go_ret
  exact ⟨rfl, Two.below (a := a) (b := b) (c := c) (d := d) (by assumption)⟩

set_option maxHeartbeats 2000000 in
theorem walkB0 (a b c d t l m : Int) (mt : Bool) (w : World) (ha0 : -9223372036854775808 ≤ a) (ha1 : a ≤ 9223372036854775807) (hb0 : -9223372036854775808 ≤ b) (hb1 : b ≤ 9223372036854775807) (hl0 : -9223372036854775808 ≤ l) (hl1 : l ≤ 9223372036854775807) (hm0 : -9223372036854775808 ≤ m) (hm1 : m ≤ 9223372036854775807) (h1 : a < b) (h2 : a ≤ t) (h3 : ¬ c < d) (hm : mt = false)
    (M : Hid (∀ w : World, Calls Try.prog 9 #[win a b, win c d] w fun r w' => r = .returned (.bool mt) ∧ Below w.heap.size w w'))
    (R : Hid (∀ w : World, Calls Try.prog 8 #[win a b, win c d] w fun r w' => r = .returned (.bool mt) ∧ Below w.heap.size w w')) :
    Calls Try.prog 3 #[win a b, win c d, .int .i64 t, .int .i64 l, .int .i64 m] w fun r w' => r = .returned (.bool true) ∧ Below w.heap.size w w' := by
  subst hm
  have T0 := Lib.hid (two_new w a b c d)
  obtain ⟨x, hx⟩ : ∃ x, Hid (x = min a c) := ⟨_, Lib.hid rfl⟩
  obtain ⟨y, hy⟩ : ∃ y, Hid (y = max b d) := ⟨_, Lib.hid rfl⟩
  have J1 : Hid (∀ w : World, Calls Try.prog 10 #[win a b, win c d] w fun r w' => r = .returned (win x y) ∧ Below w.heap.size w w') := Lib.hid fun w => by rw [hx.out, hy.out]; exact Spn.join_ok a b c d w
  obtain ⟨o, ho⟩ : ∃ o, Hid (o = decide (b + l ≤ m)) := ⟨_, Lib.hid rfl⟩
  have O1 : Hid (∀ w : World, Calls Try.prog 12 #[win a b, .int .i64 l, .int .i64 m] w fun r w' => r = .returned (.bool o) ∧ Below w.heap.size w w') := Lib.hid fun w => by rw [ho.out]; exact Spn.over_ok a b l m w hb0 hb1 hl0 hl1 hm0 hm1
  have O2 : Hid (∀ w : World, Calls Try.prog 13 #[win a b, .int .i64 l, .int .i64 m] w fun r w' => r = .returned (.bool o) ∧ Below w.heap.size w w') := Lib.hid fun w => by rw [ho.out]; exact RefSpan.over_ok a b l m w hb0 hb1 hl0 hl1 hm0 hm1
  obtain ⟨q, hq⟩ : ∃ q, Hid (q = cmpW a b c d) := ⟨_, Lib.hid rfl⟩
  have Q1 : Hid (∀ w : World, Calls Try.prog 14 #[win a b, win c d] w fun r w' => r = .returned (.int .i64 q) ∧ Below w.heap.size w w') := Lib.hid fun w => by rw [hq.out]; exact Spn.comp_ok a b c d w
  have Q2 : Hid (∀ w : World, Calls Try.prog 15 #[win a b, win c d] w fun r w' => r = .returned (.int .i64 q) ∧ Below w.heap.size w w') := Lib.hid fun w => by rw [hq.out]; exact RefSpan.comp_ok a b c d w
  go_enter Try.func3, Try.ntmps3
  go_wp2_with fail
  refine (Spn.up_ok _).mono ?_
  rintro e w1 ⟨rfl, k1⟩
  have T1 := Lib.hid (T0.out.next k1)
  obtain ⟨a1, b1, c1, d1, -⟩ := T1.out
  go_wp2_with fail
  refine (may_ok a b _).mono ?_
  rintro e w2 ⟨rfl, k2⟩
  have T2 := Lib.hid (T1.out.next k2)
  clear a1 b1 c1 d1
  obtain ⟨a2, b2, c2, d2, -⟩ := T2.out
  go_wp2_with fail
  refine (told (decide (t < b)) (has_ok a b t _) (by simp [h2])).mono ?_
  rintro e w3 ⟨rfl, k3⟩
  have T3 := Lib.hid (T2.out.next k3)
  clear a2 b2 c2 d2
  obtain ⟨a3, b3, c3, d3, -⟩ := T3.out
  go_wp2_with fail
  have hS := T3.out
  simp only [Two] at hS
  clear a3 b3 c3 d3
  go_region_held3 (fun w' => w'.cell? ⟨w.heap.size, 0, none⟩ = some (.int .i64 a) ∧ w'.cell? ⟨w.heap.size, 1, none⟩ = some (.int .i64 b) ∧ w'.cell? ⟨w.heap.size + 1, 0, none⟩ = some (.int .i64 c) ∧ w'.cell? ⟨w.heap.size + 1, 1, none⟩ = some (.int .i64 d) ∧
      Below w.heap.size w w' ∧ w.heap.size + 1 < w'.heap.size) (first | exact Two.drew hS | exact Two.next k9 (by assumption))
    (first
      | (go_at_call 9; refine (M.out _).mono ?_; rintro e w9 ⟨rfl, k9⟩)
      | (go_at_call 10; refine (J1.out _).mono ?_; rintro e w9 ⟨rfl, k9⟩)
      | (go_at_call 11; refine (RefSpan.join_ok a b c d x y _ hx hy).mono ?_; rintro e w9 ⟨rfl, k9⟩)
      | (go_at_call 12; refine (O1.out _).mono ?_; rintro e w9 ⟨rfl, k9⟩)
      | (go_at_call 13; refine (O2.out _).mono ?_; rintro e w9 ⟨rfl, k9⟩)
      | (go_at_call 14; refine (Q1.out _).mono ?_; rintro e w9 ⟨rfl, k9⟩)
      | (go_at_call 15; refine (Q2.out _).mono ?_; rintro e w9 ⟨rfl, k9⟩))
  go_wp2
  go_ret
  exact ⟨rfl, Two.below (a := a) (b := b) (c := c) (d := d) (by assumption)⟩

set_option maxHeartbeats 2000000 in
theorem walkC1 (a b c d t l m : Int) (mt : Bool) (w : World) (ha0 : -9223372036854775808 ≤ a) (ha1 : a ≤ 9223372036854775807) (hb0 : -9223372036854775808 ≤ b) (hb1 : b ≤ 9223372036854775807) (hl0 : -9223372036854775808 ≤ l) (hl1 : l ≤ 9223372036854775807) (hm0 : -9223372036854775808 ≤ m) (hm1 : m ≤ 9223372036854775807) (h1 : a < b) (h2 : ¬ a ≤ t) (h3 : c < d)
    (M : Hid (∀ w : World, Calls Try.prog 9 #[win a b, win c d] w fun r w' => r = .returned (.bool mt) ∧ Below w.heap.size w w'))
    (R : Hid (∀ w : World, Calls Try.prog 8 #[win a b, win c d] w fun r w' => r = .returned (.bool mt) ∧ Below w.heap.size w w')) :
    Calls Try.prog 3 #[win a b, win c d, .int .i64 t, .int .i64 l, .int .i64 m] w fun r w' => r = .returned (.bool true) ∧ Below w.heap.size w w' := by
  have T0 := Lib.hid (two_new w a b c d)
  obtain ⟨x, hx⟩ : ∃ x, Hid (x = min a c) := ⟨_, Lib.hid rfl⟩
  obtain ⟨y, hy⟩ : ∃ y, Hid (y = max b d) := ⟨_, Lib.hid rfl⟩
  have J1 : Hid (∀ w : World, Calls Try.prog 10 #[win a b, win c d] w fun r w' => r = .returned (win x y) ∧ Below w.heap.size w w') := Lib.hid fun w => by rw [hx.out, hy.out]; exact Spn.join_ok a b c d w
  obtain ⟨o, ho⟩ : ∃ o, Hid (o = decide (b + l ≤ m)) := ⟨_, Lib.hid rfl⟩
  have O1 : Hid (∀ w : World, Calls Try.prog 12 #[win a b, .int .i64 l, .int .i64 m] w fun r w' => r = .returned (.bool o) ∧ Below w.heap.size w w') := Lib.hid fun w => by rw [ho.out]; exact Spn.over_ok a b l m w hb0 hb1 hl0 hl1 hm0 hm1
  have O2 : Hid (∀ w : World, Calls Try.prog 13 #[win a b, .int .i64 l, .int .i64 m] w fun r w' => r = .returned (.bool o) ∧ Below w.heap.size w w') := Lib.hid fun w => by rw [ho.out]; exact RefSpan.over_ok a b l m w hb0 hb1 hl0 hl1 hm0 hm1
  obtain ⟨q, hq⟩ : ∃ q, Hid (q = cmpW a b c d) := ⟨_, Lib.hid rfl⟩
  have Q1 : Hid (∀ w : World, Calls Try.prog 14 #[win a b, win c d] w fun r w' => r = .returned (.int .i64 q) ∧ Below w.heap.size w w') := Lib.hid fun w => by rw [hq.out]; exact Spn.comp_ok a b c d w
  have Q2 : Hid (∀ w : World, Calls Try.prog 15 #[win a b, win c d] w fun r w' => r = .returned (.int .i64 q) ∧ Below w.heap.size w w') := Lib.hid fun w => by rw [hq.out]; exact RefSpan.comp_ok a b c d w
  go_enter Try.func3, Try.ntmps3
  go_wp2_with fail
  refine (Spn.up_ok _).mono ?_
  rintro e w1 ⟨rfl, k1⟩
  have T1 := Lib.hid (T0.out.next k1)
  obtain ⟨a1, b1, c1, d1, -⟩ := T1.out
  go_wp2_with fail
  refine (may_ok a b _).mono ?_
  rintro e w2 ⟨rfl, k2⟩
  have T2 := Lib.hid (T1.out.next k2)
  clear a1 b1 c1 d1
  obtain ⟨a2, b2, c2, d2, -⟩ := T2.out
  go_wp2_with fail
  refine (told false (has_ok a b t _) (by simp; omega)).mono ?_
  rintro e w3 ⟨rfl, k3⟩
  have T3 := Lib.hid (T2.out.next k3)
  clear a2 b2 c2 d2
  obtain ⟨a3, b3, c3, d3, -⟩ := T3.out
  go_wp2_with fail
  refine (R.out _).mono ?_
  rintro e w4 ⟨rfl, k4⟩
  have T4 := Lib.hid (T3.out.next k4)
  clear a3 b3 c3 d3
  obtain ⟨a4, b4, c4, d4, -⟩ := T4.out
  go_wp2_with fail
  have hS := T4.out
  simp only [Two] at hS
  clear a4 b4 c4 d4
  go_region_held3 (fun w' => w'.cell? ⟨w.heap.size, 0, none⟩ = some (.int .i64 a) ∧ w'.cell? ⟨w.heap.size, 1, none⟩ = some (.int .i64 b) ∧ w'.cell? ⟨w.heap.size + 1, 0, none⟩ = some (.int .i64 c) ∧ w'.cell? ⟨w.heap.size + 1, 1, none⟩ = some (.int .i64 d) ∧
      Below w.heap.size w w' ∧ w.heap.size + 1 < w'.heap.size) (first | exact Two.drew hS | exact Two.next k9 (by assumption))
    (first
      | (go_at_call 9; refine (M.out _).mono ?_; rintro e w9 ⟨rfl, k9⟩)
      | (go_at_call 10; refine (J1.out _).mono ?_; rintro e w9 ⟨rfl, k9⟩)
      | (go_at_call 11; refine (RefSpan.join_ok a b c d x y _ hx hy).mono ?_; rintro e w9 ⟨rfl, k9⟩)
      | (go_at_call 12; refine (O1.out _).mono ?_; rintro e w9 ⟨rfl, k9⟩)
      | (go_at_call 13; refine (O2.out _).mono ?_; rintro e w9 ⟨rfl, k9⟩)
      | (go_at_call 14; refine (Q1.out _).mono ?_; rintro e w9 ⟨rfl, k9⟩)
      | (go_at_call 15; refine (Q2.out _).mono ?_; rintro e w9 ⟨rfl, k9⟩))
  go_wp2
  go_ret
  exact ⟨rfl, Two.below (a := a) (b := b) (c := c) (d := d) (by assumption)⟩

set_option maxHeartbeats 2000000 in
theorem walkC0 (a b c d t l m : Int) (mt : Bool) (w : World) (ha0 : -9223372036854775808 ≤ a) (ha1 : a ≤ 9223372036854775807) (hb0 : -9223372036854775808 ≤ b) (hb1 : b ≤ 9223372036854775807) (hl0 : -9223372036854775808 ≤ l) (hl1 : l ≤ 9223372036854775807) (hm0 : -9223372036854775808 ≤ m) (hm1 : m ≤ 9223372036854775807) (h1 : a < b) (h2 : ¬ a ≤ t) (h3 : ¬ c < d) (hm : mt = false)
    (M : Hid (∀ w : World, Calls Try.prog 9 #[win a b, win c d] w fun r w' => r = .returned (.bool mt) ∧ Below w.heap.size w w'))
    (R : Hid (∀ w : World, Calls Try.prog 8 #[win a b, win c d] w fun r w' => r = .returned (.bool mt) ∧ Below w.heap.size w w')) :
    Calls Try.prog 3 #[win a b, win c d, .int .i64 t, .int .i64 l, .int .i64 m] w fun r w' => r = .returned (.bool true) ∧ Below w.heap.size w w' := by
  subst hm
  have T0 := Lib.hid (two_new w a b c d)
  obtain ⟨x, hx⟩ : ∃ x, Hid (x = min a c) := ⟨_, Lib.hid rfl⟩
  obtain ⟨y, hy⟩ : ∃ y, Hid (y = max b d) := ⟨_, Lib.hid rfl⟩
  have J1 : Hid (∀ w : World, Calls Try.prog 10 #[win a b, win c d] w fun r w' => r = .returned (win x y) ∧ Below w.heap.size w w') := Lib.hid fun w => by rw [hx.out, hy.out]; exact Spn.join_ok a b c d w
  obtain ⟨o, ho⟩ : ∃ o, Hid (o = decide (b + l ≤ m)) := ⟨_, Lib.hid rfl⟩
  have O1 : Hid (∀ w : World, Calls Try.prog 12 #[win a b, .int .i64 l, .int .i64 m] w fun r w' => r = .returned (.bool o) ∧ Below w.heap.size w w') := Lib.hid fun w => by rw [ho.out]; exact Spn.over_ok a b l m w hb0 hb1 hl0 hl1 hm0 hm1
  have O2 : Hid (∀ w : World, Calls Try.prog 13 #[win a b, .int .i64 l, .int .i64 m] w fun r w' => r = .returned (.bool o) ∧ Below w.heap.size w w') := Lib.hid fun w => by rw [ho.out]; exact RefSpan.over_ok a b l m w hb0 hb1 hl0 hl1 hm0 hm1
  obtain ⟨q, hq⟩ : ∃ q, Hid (q = cmpW a b c d) := ⟨_, Lib.hid rfl⟩
  have Q1 : Hid (∀ w : World, Calls Try.prog 14 #[win a b, win c d] w fun r w' => r = .returned (.int .i64 q) ∧ Below w.heap.size w w') := Lib.hid fun w => by rw [hq.out]; exact Spn.comp_ok a b c d w
  have Q2 : Hid (∀ w : World, Calls Try.prog 15 #[win a b, win c d] w fun r w' => r = .returned (.int .i64 q) ∧ Below w.heap.size w w') := Lib.hid fun w => by rw [hq.out]; exact RefSpan.comp_ok a b c d w
  go_enter Try.func3, Try.ntmps3
  go_wp2_with fail
  refine (Spn.up_ok _).mono ?_
  rintro e w1 ⟨rfl, k1⟩
  have T1 := Lib.hid (T0.out.next k1)
  obtain ⟨a1, b1, c1, d1, -⟩ := T1.out
  go_wp2_with fail
  refine (may_ok a b _).mono ?_
  rintro e w2 ⟨rfl, k2⟩
  have T2 := Lib.hid (T1.out.next k2)
  clear a1 b1 c1 d1
  obtain ⟨a2, b2, c2, d2, -⟩ := T2.out
  go_wp2_with fail
  refine (told false (has_ok a b t _) (by simp; omega)).mono ?_
  rintro e w3 ⟨rfl, k3⟩
  have T3 := Lib.hid (T2.out.next k3)
  clear a2 b2 c2 d2
  obtain ⟨a3, b3, c3, d3, -⟩ := T3.out
  go_wp2_with fail
  have hS := T3.out
  simp only [Two] at hS
  clear a3 b3 c3 d3
  go_region_held3 (fun w' => w'.cell? ⟨w.heap.size, 0, none⟩ = some (.int .i64 a) ∧ w'.cell? ⟨w.heap.size, 1, none⟩ = some (.int .i64 b) ∧ w'.cell? ⟨w.heap.size + 1, 0, none⟩ = some (.int .i64 c) ∧ w'.cell? ⟨w.heap.size + 1, 1, none⟩ = some (.int .i64 d) ∧
      Below w.heap.size w w' ∧ w.heap.size + 1 < w'.heap.size) (first | exact Two.drew hS | exact Two.next k9 (by assumption))
    (first
      | (go_at_call 9; refine (M.out _).mono ?_; rintro e w9 ⟨rfl, k9⟩)
      | (go_at_call 10; refine (J1.out _).mono ?_; rintro e w9 ⟨rfl, k9⟩)
      | (go_at_call 11; refine (RefSpan.join_ok a b c d x y _ hx hy).mono ?_; rintro e w9 ⟨rfl, k9⟩)
      | (go_at_call 12; refine (O1.out _).mono ?_; rintro e w9 ⟨rfl, k9⟩)
      | (go_at_call 13; refine (O2.out _).mono ?_; rintro e w9 ⟨rfl, k9⟩)
      | (go_at_call 14; refine (Q1.out _).mono ?_; rintro e w9 ⟨rfl, k9⟩)
      | (go_at_call 15; refine (Q2.out _).mono ?_; rintro e w9 ⟨rfl, k9⟩))
  go_wp2
  go_ret
  exact ⟨rfl, Two.below (a := a) (b := b) (c := c) (d := d) (by assumption)⟩

end Go.Proofs.Ytaacocjkaijceaa.spanTells
