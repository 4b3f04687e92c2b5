/-
  Contracts of package span (layer 2): May, Has, Meet, Join, Over, Compare, each at any windows and numbers.
-/
import Derived.Test.YtomoophjcgahlaaNum
import Derived.Below
import Derived.StillTailTactics
namespace Go.Proofs.Ytomoophjcgahlaa
open Go.ChangeShapes Go.WideShapes Go.ChangeAt Go.RowKit
namespace Spn
set_option linter.unusedVariables false

/-- a window, as the two numbers that it is held in -/
abbrev win (s e : Int) : Value := .agg #[.int .i64 s, .int .i64 e]

theorem below1 (w : World) (a : Obj) : Below w.heap.size w (w.alloc a) := (Below.refl _ _).alloc (Nat.le_refl _) _
theorem below2 (w : World) (a b : Obj) : Below w.heap.size w ((w.alloc a).alloc b) := (below1 w a).alloc (by simp) _
theorem below3 (w : World) (a b c : Obj) : Below w.heap.size w (((w.alloc a).alloc b).alloc c) := (below2 w a b).alloc (by simp; omega) _
theorem after {a b c : World} (h : Below a.heap.size a b) (k : Below b.heap.size b c) : Below a.heap.size a c := h.trans (k.mono h.size)
theorem ret_win {a b c d : Int} (h : a = c) (k : b = d) : Ending.returned (win a b) = .returned (win c d) := by rw [h, k]
theorem ret_int {a b : Int} (h : a = b) : Ending.returned (.int .i64 a) = .returned (.int .i64 b) := by rw [h]
theorem turned {f : Nat} {vs : Array Value} {v : Value} {w : World} (h : Calls Try.prog f vs w fun e w' => e = .returned v ∧ w = w') : Calls Try.prog f vs w fun e w' => e = .returned v ∧ w' = w :=
  h.mono fun _ _ ⟨a, b⟩ => ⟨a, b.symm⟩
theorem ret_bool {a b : Bool} (h : a = b) : Ending.returned (.bool a) = .returned (.bool b) := by rw [h]





set_option maxHeartbeats 400000 in
theorem over_ok (s e l m : Int) (w : World) (he0 : -9223372036854775808 ≤ e) (he1 : e ≤ 9223372036854775807) (hl0 : -9223372036854775808 ≤ l) (hl1 : l ≤ 9223372036854775807)
    (hm0 : -9223372036854775808 ≤ m) (hm1 : m ≤ 9223372036854775807) :
    Calls Try.prog 18 #[win s e, .int .i64 l, .int .i64 m] w fun r w' => r = .returned (.bool (decide (e + l ≤ m))) ∧ Below w.heap.size w w' := by
  by_cases h : -9223372036854775808 ≤ e + l ∧ e + l ≤ 9223372036854775807
  · go_enter Try.func18, Try.ntmps18
    go_wp2_with fail
    refine (Num.add_ok e l _ he0 he1 hl0 hl1 h.1 h.2).mono ?_
    rintro e w' ⟨rfl, rfl⟩
    go_wp2
    go_ret
    exact ⟨rfl, below1 _ _⟩
  · have hh : decide (e + l ≤ m) = decide (l < 0) := by simp only [decide_eq_decide]; omega
    rw [hh]
    have g : e + l < -9223372036854775808 ∨ 9223372036854775807 < e + l := by omega
    have g' := Lib.hid g
    clear g h hh
    go_enter Try.func18, Try.ntmps18
    go_wp2_with fail
    refine (Num.add_bad e l _ he0 he1 hl0 hl1 g'.out).mono ?_
    rintro e w' ⟨rfl, rfl⟩
    go_wp2
    go_ret
    exact ⟨rfl, below1 _ _⟩

/-- how two numbers stand to one another -/
abbrev cmp3 (a b : Int) : Int := if a < b then -1 else if b < a then 1 else 0
/-- how two windows do: by Start, then by End -/
abbrev cmpW (a b c d : Int) : Int := if a < c then -1 else if c < a then 1 else cmp3 b d

set_option maxHeartbeats 400000 in
theorem nan_ok (a : Int) (w : World) : Calls Try.prog 51 #[.int .i64 a] w fun r w' => r = .returned (.bool false) ∧ w = w' := by
  go_enter Try.func51, Try.ntmps51
  go_wp2
  go_ret
  exact ⟨ret_bool (by simp), rfl⟩

set_option maxHeartbeats 400000 in
theorem compare_ok (a b : Int) (w : World) : Calls Try.prog 49 #[.int .i64 a, .int .i64 b] w fun r w' => r = .returned (.int .i64 (cmp3 a b)) ∧ w = w' := by
  go_enter Try.func49, Try.ntmps49
  go_wp2_with fail
  refine (nan_ok _ _).mono ?_
  rintro e w1 ⟨rfl, rfl⟩
  go_wp2_with fail
  refine (nan_ok _ _).mono ?_
  rintro e w1 ⟨rfl, rfl⟩
  go_wp2
  all_goals go_ret
  all_goals exact ⟨ret_int (by unfold cmp3; omega), rfl⟩

set_option maxHeartbeats 400000 in
theorem or_ok (a b c : Int) (p : Nat) (w : World) (h0 : w.cell? ⟨p, 0, none⟩ = some (.int .i64 a)) (h1 : w.cell? ⟨p, 1, none⟩ = some (.int .i64 b)) (hc : Hid (c = if a = 0 then b else a)) :
    Calls Try.prog 48 #[.slice (some ⟨p, 0, none⟩) 2 2] w fun r w' => r = .returned (.int .i64 c) ∧ w = w' := by
  go_enter Try.func48, Try.ntmps48
  go_wp2
  go_loop [8] (fun i => i = .int .i64 0 ∨ (i = .int .i64 1 ∧ a = 0) ∨ (i = .int .i64 2 ∧ a = 0 ∧ b = 0)) (fun i => 2 - (intOf i).toNat)
  case atStart => exact .inl rfl
  case round =>
    rcases hrel with rfl | ⟨rfl, rfl⟩ | ⟨rfl, rfl, rfl⟩
    · by_cases ha : a = 0
      · subst ha
        go_wp2
        go_round
        case rel => exact .inr (.inl (by simp))
        case measure => simp [intOf]
      · have hne : (a != 0) = true := by simp [ha]
        go_wp2
        go_ret
        exact ⟨ret_int (by rw [hc.out]; simp [ha]), rfl⟩
    · by_cases hb : b = 0
      · subst hb
        go_wp2
        go_round
        case rel => exact .inr (.inr (by simp))
        case measure => simp [intOf]
      · have hne : (b != 0) = true := by simp [hb]
        go_wp2
        go_ret
        exact ⟨ret_int (by rw [hc.out]; simp), rfl⟩
    · go_wp2
      go_ret
      exact ⟨ret_int (by rw [hc.out]; simp), rfl⟩

end Spn
end Go.Proofs.Ytomoophjcgahlaa
