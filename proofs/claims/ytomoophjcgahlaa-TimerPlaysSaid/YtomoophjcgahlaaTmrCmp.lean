/-
  Contracts of cmp.Compare at texts, of cmp.Or at three numbers, and of timer.compare: it is below 0 where the one is ahead of the other one.
-/
import Derived.Test.YtomoophjcgahlaaHeapMath
import Derived.Test.YtomoophjcgahlaaSpan
import Derived.Test.YtomoophjcgahlaaSmall
import Derived.StillTailTactics
import Derived.Laws.Cover1
namespace Go.Proofs.Ytomoophjcgahlaa
open Go.ChangeShapes Go.WideShapes Go.ChangeAt Go.RowKit
namespace Tmr
open Small
set_option linter.unusedVariables false

/-- a timer, as it is handed on -/
abbrev tv (x : Tm) : Value := .agg #[.string x.key, .int .i64 x.s, .int .i64 x.e]
/-- a timer's cells -/
abbrev tcells (x : Tm) : Array Value := #[.string x.key, .int .i64 x.s, .int .i64 x.e]

def cmpS (a b : ByteArray) : Int := if Op.bytesLess a.toList b.toList = true then -1 else if a.toList == b.toList then 0 else 1
def cmpT (a b : Tm) : Int := if lt a b = true then -1 else if lt b a = true then 1 else 0

theorem cmpT_neg (a b : Tm) : decide (cmpT a b < 0) = lt a b := by
  unfold cmpT
  cases lt a b <;> cases lt b a <;> simp

set_option maxHeartbeats 400000 in
theorem nanS_ok (a : ByteArray) (w : World) : Calls Try.prog 52 #[.string a] w fun r w' => r = .returned (.bool false) ∧ w = w' := by
  go_enter Try.func52, Try.ntmps52
  go_wp2
  go_ret
  exact ⟨ret_bool (by simp), rfl⟩

set_option maxHeartbeats 400000 in
theorem compareS_ok (a b : ByteArray) (w : World) : Calls Try.prog 50 #[.string a, .string b] w fun r w' => r = .returned (.int .i64 (cmpS a b)) ∧ w = w' := by
  cases hx : Op.bytesLess a.toList b.toList <;> cases hy : (a.toList == b.toList)
  all_goals
    have H : Hid (cmpS a b = if Op.bytesLess a.toList b.toList = true then -1 else if a.toList == b.toList then 0 else 1) := Lib.hid rfl
    go_enter Try.func50, Try.ntmps50
    go_wp2_with fail
    refine (nanS_ok _ _).mono ?_
    rintro e w1 ⟨rfl, rfl⟩
    go_wp2_with fail
    refine (nanS_ok _ _).mono ?_
    rintro e w1 ⟨rfl, rfl⟩
    go_wp2
    go_ret
    exact ⟨ret_int (by rw [H.out, hx, hy]; rfl), rfl⟩

set_option maxHeartbeats 400000 in
theorem or3_ok (a b c d : Int) (p : Nat) (w : World) (h0 : w.cell? ⟨p, 0, none⟩ = some (.int .i64 a)) (h1 : w.cell? ⟨p, 1, none⟩ = some (.int .i64 b)) (h2 : w.cell? ⟨p, 2, none⟩ = some (.int .i64 c))
    (hd : Hid (d = if a = 0 then (if b = 0 then c else b) else a)) :
    Calls Try.prog 48 #[.slice (some ⟨p, 0, none⟩) 3 3] w fun r w' => r = .returned (.int .i64 d) ∧ w = w' := by
  go_enter Try.func48, Try.ntmps48
  go_wp2
  go_loop [8] (fun i => i = .int .i64 0 ∨ (i = .int .i64 1 ∧ a = 0) ∨ (i = .int .i64 2 ∧ a = 0 ∧ b = 0) ∨ (i = .int .i64 3 ∧ a = 0 ∧ b = 0 ∧ c = 0)) (fun i => 3 - (intOf i).toNat)
  case atStart => exact .inl rfl
  case round =>
    rcases hrel with rfl | ⟨rfl, rfl⟩ | ⟨rfl, rfl, rfl⟩ | ⟨rfl, rfl, rfl, rfl⟩
    · by_cases ha : a = 0
      · subst ha
        go_wp2
        go_round
        case rel => exact .inr (.inl (by simp))
        case measure => simp [intOf]
      · have hne : (a != 0) = true := by simp [ha]
        go_wp2
        go_ret
        exact ⟨ret_int (by rw [hd.out]; simp [ha]), rfl⟩
    · by_cases hb : b = 0
      · subst hb
        go_wp2
        go_round
        case rel => exact .inr (.inr (.inl (by simp)))
        case measure => simp [intOf]
      · have hne : (b != 0) = true := by simp [hb]
        go_wp2
        go_ret
        exact ⟨ret_int (by rw [hd.out]; simp [hb]), rfl⟩
    · by_cases hc : c = 0
      · subst hc
        go_wp2
        go_round
        case rel => exact .inr (.inr (.inr (by simp)))
        case measure => simp [intOf]
      · have hne : (c != 0) = true := by simp [hc]
        go_wp2
        go_ret
        exact ⟨ret_int (by rw [hd.out]; simp), rfl⟩
    · go_wp2
      go_ret
      exact ⟨ret_int (by rw [hd.out]; simp), rfl⟩

theorem cmp_all (a b : Tm) : cmpT a b = if Spn.cmp3 a.e b.e = 0 then (if Spn.cmp3 a.s b.s = 0 then cmpS a.key b.key else Spn.cmp3 a.s b.s) else Spn.cmp3 a.e b.e := by
  unfold cmpT lt Spn.cmp3 cmpS
  by_cases he : a.e = b.e
  · by_cases hs : a.s = b.s
    · simp only [he, hs]
      simp
      cases hx : Op.bytesLess a.key.toList b.key.toList with
      | true => simp
      | false =>
        cases hy : Op.bytesLess b.key.toList a.key.toList with
        | true =>
          have : a.key.toList ≠ b.key.toList := fun e => by rw [e, bl_irrefl] at hy; cases hy
          simp [this]
        | false => simp [bl_total _ _ hx hy]
    · have hs' : ¬ b.s = a.s := fun h => hs h.symm
      simp only [he, hs, hs', if_false]
      simp
      repeat' split
      all_goals omega
  · have he' : ¬ b.e = a.e := fun h => he h.symm
    simp only [he, he', if_false]
    simp
    repeat' split
    all_goals omega

set_option maxHeartbeats 800000 in
theorem compare_ok (a b : Tm) (w : World) :
    Calls Try.prog 47 #[tv a, tv b] w fun r w' => r = .returned (.int .i64 (cmpT a b)) ∧ Below w.heap.size w w' := by
  go_enter Try.func47, Try.ntmps47
  go_wp2_with fail
  refine wp_region_still_tail 19 (by kernel_rfl) (by kernel_rfl) ?_
  obtain ⟨wq, hwq⟩ : ∃ wq, wq = (((w.alloc (Obj.cells (tcells a) 30)).alloc (Obj.cells (tcells b) 30)).drew) := ⟨_, rfl⟩
  change wpStill _ _ (World.drew _) _ _ _
  rw [← hwq]
  have k0 : Below w.heap.size w wq := by rw [hwq]; exact (below2 _ _ _).drew
  have c0 : wq.cell? ⟨w.heap.size, 0, none⟩ = some (.string a.key) := by rw [hwq]; go_simp
  have c1 : wq.cell? ⟨w.heap.size, 1, none⟩ = some (.int .i64 a.s) := by rw [hwq]; go_simp
  have c2 : wq.cell? ⟨w.heap.size, 2, none⟩ = some (.int .i64 a.e) := by rw [hwq]; go_simp
  have d0 : wq.cell? ⟨w.heap.size + 1, 0, none⟩ = some (.string b.key) := by rw [hwq]; go_simp
  have d1 : wq.cell? ⟨w.heap.size + 1, 1, none⟩ = some (.int .i64 b.s) := by rw [hwq]; go_simp
  have d2 : wq.cell? ⟨w.heap.size + 1, 2, none⟩ = some (.int .i64 b.e) := by rw [hwq]; go_simp
  clear hwq
  simp only [List.take_succ_cons, List.take_zero, List.drop_succ_cons, List.drop_zero]
  still_step
  still_step
  still_step
  still_step
  still_step
  still_step
  still_call (Spn.turned (Spn.compare_ok a.e b.e wq))
  still_step
  still_step
  still_step
  still_step
  still_step
  still_step
  still_call (Spn.turned (Spn.compare_ok a.s b.s wq))
  still_step
  still_step
  still_step
  still_step
  still_call (Spn.turned (compareS_ok a.key b.key wq))
  refine wpStill_nil ?_
  change wpList _ _ _ _ _ (World.drew _)
  obtain ⟨wp, hwp⟩ : ∃ wp, wp = (((w.alloc (Obj.cells (tcells a) 30)).alloc (Obj.cells (tcells b) 30)).drew) := ⟨_, rfl⟩
  rw [← hwp]
  have kp : Below w.heap.size w wp := by rw [hwp]; exact (below2 _ _ _).drew
  clear hwp k0 c0 c1 c2 d0 d1 d2
  go_wp2_with fail
  refine (or3_ok (Spn.cmp3 a.e b.e) (Spn.cmp3 a.s b.s) (cmpS a.key b.key) (cmpT a b) _ _ (by go_simp) (by go_simp) (by go_simp) (Lib.hid (cmp_all a b))).mono ?_
  rintro e w1 ⟨rfl, rfl⟩
  go_wp2
  go_ret
  exact ⟨rfl, kp.alloc kp.size _⟩
end Tmr
end Go.Proofs.Ytomoophjcgahlaa
