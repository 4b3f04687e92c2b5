/-
  Contracts of assign.May and of the document's own answer to it: whether a config may be.
  Contracts of assign.windowFrom and assign.windowsFrom: windows of one length, one behind the other, in memory of their own; or the error, where one doesn't fit.
  Contracts of assign.slides and assign.Of: a time's windows, or the error.
-/
import Derived.Test.YtjncogjafljbiaaBase
import Derived.OwnWalk
import Derived.Laws.OwnMore
import Derived.LoopTactic
namespace Go.Proofs.Ytjncogjafljbiaa
open Go.ChangeShapes Go.WideShapes Go.ChangeAt Go.RowKit
namespace Asg
open Base
set_option linter.unusedVariables false

/-- may the windows of a config be? -/
def mayW (k s l g : Int) : Prop := (k = 0 ∧ 0 < s) ∨ (k = 1 ∧ 0 < l ∧ l ≤ s ∧ (s - 1) / l ≤ 15) ∨ (k = 2 ∧ 0 < g)
/-- may a config be? -/
def may (k s l g z h r c : Int) : Prop := mayW k s l g ∧ 0 ≤ z ∧ 1 ≤ h ∧ h ≤ 8 ∧ 1 ≤ r ∧ r ≤ 16 ∧ 1 ≤ c ∧ c ≤ 16

set_option maxHeartbeats 400000 in
theorem within_ok (n m : Int) (w : World) : Calls Try.prog 69 #[.int .i64 n, .int .i64 m] w fun e w' => e = .returned (.bool (decide (1 ≤ n) && decide (n ≤ m))) ∧ w = w' := by
  by_cases h : 1 ≤ n
  · go_enter Try.func69, Try.ntmps69
    go_wp2
    go_ret
    exact ⟨ret_bool (by simp [h]), rfl⟩
  · have hd : (decide (1 ≤ n) && decide (n ≤ m)) = false := by simp [h]
    rw [hd]
    clear hd
    go_enter Try.func69, Try.ntmps69
    go_wp2
    go_ret
    exact ⟨rfl, rfl⟩

theorem within_yes (n m : Int) (w : World) (h : 1 ≤ n) (k : n ≤ m) : Calls Try.prog 69 #[.int .i64 n, .int .i64 m] w fun e w' => e = .returned (.bool true) ∧ w = w' :=
  (within_ok n m w).mono fun _ _ ⟨a, b⟩ => ⟨a.trans (ret_bool (by simp [h, k])), b⟩
theorem within_no (n m : Int) (w : World) (h : ¬ (1 ≤ n ∧ n ≤ m)) : Calls Try.prog 69 #[.int .i64 n, .int .i64 m] w fun e w' => e = .returned (.bool false) ∧ w = w' :=
  (within_ok n m w).mono fun _ _ ⟨a, b⟩ => ⟨a.trans (ret_bool (by rw [Bool.and_eq_false_iff]; simp only [decide_eq_false_iff_not]; omega)), b⟩

set_option maxHeartbeats 400000 in
theorem maySlides_ok (s l : Int) (w : World) (h0 : 1 ≤ s) (h1 : s ≤ 9223372036854775807) (k0 : 1 ≤ l) :
    Calls Try.prog 85 #[.int .i64 s, .int .i64 l] w fun e w' => e = .returned (.bool (decide ((s - 1) / l ≤ 15))) ∧ w = w' := by
  have hd : (s - 1).tdiv l = (s - 1) / l := Int.tdiv_eq_ediv_of_nonneg (by omega)
  have hb := Num.tdiv_bd (s - 1) l k0 (by omega) (by omega)
  obtain ⟨hb0, hb1⟩ := hb
  rw [hd] at hb0 hb1
  have D := Lib.hid hd
  clear hd
  have hn : ¬ l = 0 := by omega
  go_enter Try.func85, Try.ntmps85
  go_wp2
  go_ret
  exact ⟨ret_bool (by first | rfl | rw [D.out]), rfl⟩

theorem maySlides_yes (s l : Int) (w : World) (h0 : 1 ≤ s) (h1 : s ≤ 9223372036854775807) (k0 : 1 ≤ l) (h : Hid ((s - 1) / l ≤ 15)) :
    Calls Try.prog 85 #[.int .i64 s, .int .i64 l] w fun e w' => e = .returned (.bool true) ∧ w = w' :=
  (maySlides_ok s l w h0 h1 k0).mono fun _ _ ⟨a, b⟩ => ⟨a.trans (ret_bool (by simp [h.out])), b⟩
theorem maySlides_no (s l : Int) (w : World) (h0 : 1 ≤ s) (h1 : s ≤ 9223372036854775807) (k0 : 1 ≤ l) (h : Hid (15 < (s - 1) / l)) :
    Calls Try.prog 85 #[.int .i64 s, .int .i64 l] w fun e w' => e = .returned (.bool false) ∧ w = w' :=
  (maySlides_ok s l w h0 h1 k0).mono fun _ _ ⟨a, b⟩ => ⟨a.trans (ret_bool (by have := h.out; simp; omega)), b⟩

set_option maxHeartbeats 800000 in
theorem mayWindows_ok (k s l g z h r c : Int) (w : World) (b : Bool) (B : Hid (b = true ↔ mayW k s l g)) (s1 : s ≤ 9223372036854775807) :
    Calls Try.prog 68 #[cfg k s l g z h r c] w fun e w' => e = .returned (.bool b) ∧ Below w.heap.size w w' := by
  by_cases h0 : k = 0
  · subst h0
    go_enter Try.func68, Try.ntmps68
    go_wp2
    go_ret
    exact ⟨ret_bool (by rw [Bool.eq_iff_iff, B.out]; unfold mayW; simp), below1 _ _⟩
  · have q0 : (k == 0) = false := by simp [h0]
    by_cases h1 : k = 1
    · subst h1
      by_cases h2 : 0 < l
      · by_cases h3 : l ≤ s
        · by_cases h4 : (s - 1) / l ≤ 15
          · have H4 := Lib.hid h4
            clear h4
            obtain rfl : b = true := B.out.2 (.inr (.inl ⟨rfl, h2, h3, H4.out⟩))
            go_enter Try.func68, Try.ntmps68
            go_wp2_with fail
            refine (maySlides_yes s l _ (by omega) s1 (by omega) H4).mono ?_
            rintro e w' ⟨rfl, rfl⟩
            go_wp2
            go_ret
            exact ⟨rfl, below1 _ _⟩
          · have H4 : Hid (15 < (s - 1) / l) := Lib.hid (by omega)
            clear h4
            obtain rfl : b = false := by
              rw [← Bool.not_eq_true, B.out]; unfold mayW; have := H4.out; omega
            go_enter Try.func68, Try.ntmps68
            go_wp2_with fail
            refine (maySlides_no s l _ (by omega) s1 (by omega) H4).mono ?_
            rintro e w' ⟨rfl, rfl⟩
            go_wp2
            go_ret
            exact ⟨rfl, below1 _ _⟩
        · obtain rfl : b = false := by
            rw [← Bool.not_eq_true, B.out]; unfold mayW; omega
          go_enter Try.func68, Try.ntmps68
          go_wp2
          go_ret
          exact ⟨rfl, below1 _ _⟩
      · obtain rfl : b = false := by
          rw [← Bool.not_eq_true, B.out]; unfold mayW; omega
        go_enter Try.func68, Try.ntmps68
        go_wp2
        go_ret
        exact ⟨rfl, below1 _ _⟩
    · have q1 : (k == 1) = false := by simp [h1]
      by_cases h2 : k = 2
      · subst h2
        go_enter Try.func68, Try.ntmps68
        go_wp2
        go_ret
        exact ⟨ret_bool (by rw [Bool.eq_iff_iff, B.out]; unfold mayW; simp), below1 _ _⟩
      · have q2 : (k == 2) = false := by simp [h2]
        obtain rfl : b = false := by
          rw [← Bool.not_eq_true, B.out]; unfold mayW; omega
        clear h0 h1 h2
        go_enter Try.func68, Try.ntmps68
        go_wp2
        go_ret
        exact ⟨rfl, below1 _ _⟩

set_option maxHeartbeats 800000 in
theorem may_ok (k s l g z h r c : Int) (w : World) (b : Bool) (B : Hid (b = true ↔ may k s l g z h r c)) (s1 : s ≤ 9223372036854775807) :
    Calls Try.prog 47 #[cfg k s l g z h r c] w fun e w' => e = .returned (.bool b) ∧ Below w.heap.size w w' := by
  have C0 := Lib.hid (Cfg.new w k s l g z h r c)
  by_cases hw : mayW k s l g
  · have HW : Hid (∀ w, Calls Try.prog 68 #[cfg k s l g z h r c] w fun e w' => e = .returned (.bool true) ∧ Below w.heap.size w w') :=
      Lib.hid fun w => mayWindows_ok k s l g z h r c w true (Lib.hid (by simp [hw])) s1
    have E0 : Hid (b = true ↔ (0 ≤ z ∧ 1 ≤ h ∧ h ≤ 8 ∧ 1 ≤ r ∧ r ≤ 16 ∧ 1 ≤ c ∧ c ≤ 16)) := Lib.hid (by rw [B.out]; unfold may; simp [hw])
    clear hw B
    by_cases hz : 0 ≤ z
    · by_cases hh : 1 ≤ h ∧ h ≤ 8
      · obtain ⟨hh0, hh1⟩ := hh
        by_cases hr : 1 ≤ r ∧ r ≤ 16
        · obtain ⟨hr0, hr1⟩ := hr
          by_cases hc : 1 ≤ c ∧ c ≤ 16
          · obtain ⟨hc0, hc1⟩ := hc
            obtain rfl : b = true := E0.out.2 ⟨hz, hh0, hh1, hr0, hr1, hc0, hc1⟩
            go_enter Try.func47, Try.ntmps47
            go_wp2_with fail
            refine (HW.out _).mono ?_
            rintro e w1 ⟨rfl, k1⟩
            obtain ⟨c0, c1, c2, c3, c4, c5, c6, c7⟩ := C0.out.next k1
            go_wp2_with fail
            refine (within_yes h 8 _ hh0 hh1).mono ?_
            rintro e w' ⟨rfl, rfl⟩
            go_wp2_with fail
            refine (within_yes r 16 _ hr0 hr1).mono ?_
            rintro e w' ⟨rfl, rfl⟩
            go_wp2_with fail
            refine (within_yes c 16 _ hc0 hc1).mono ?_
            rintro e w' ⟨rfl, rfl⟩
            go_wp2
            go_ret
            exact ⟨rfl, after (below1 _ _) k1⟩
          · obtain rfl : b = false := by rw [← Bool.not_eq_true, E0.out]; omega
            have H := Lib.hid hc
            clear hc
            go_enter Try.func47, Try.ntmps47
            go_wp2_with fail
            refine (HW.out _).mono ?_
            rintro e w1 ⟨rfl, k1⟩
            obtain ⟨c0, c1, c2, c3, c4, c5, c6, c7⟩ := C0.out.next k1
            go_wp2_with fail
            refine (within_yes h 8 _ hh0 hh1).mono ?_
            rintro e w' ⟨rfl, rfl⟩
            go_wp2_with fail
            refine (within_yes r 16 _ hr0 hr1).mono ?_
            rintro e w' ⟨rfl, rfl⟩
            go_wp2_with fail
            refine (within_no c 16 _ (by have := H.out; omega)).mono ?_
            rintro e w' ⟨rfl, rfl⟩
            go_wp2
            go_ret
            exact ⟨rfl, after (below1 _ _) k1⟩
        · obtain rfl : b = false := by rw [← Bool.not_eq_true, E0.out]; omega
          have H := Lib.hid hr
          clear hr
          go_enter Try.func47, Try.ntmps47
          go_wp2_with fail
          refine (HW.out _).mono ?_
          rintro e w1 ⟨rfl, k1⟩
          obtain ⟨c0, c1, c2, c3, c4, c5, c6, c7⟩ := C0.out.next k1
          go_wp2_with fail
          refine (within_yes h 8 _ hh0 hh1).mono ?_
          rintro e w' ⟨rfl, rfl⟩
          go_wp2_with fail
          refine (within_no r 16 _ (by have := H.out; omega)).mono ?_
          rintro e w' ⟨rfl, rfl⟩
          go_wp2
          go_ret
          exact ⟨rfl, after (below1 _ _) k1⟩
      · obtain rfl : b = false := by rw [← Bool.not_eq_true, E0.out]; omega
        have H := Lib.hid hh
        clear hh
        go_enter Try.func47, Try.ntmps47
        go_wp2_with fail
        refine (HW.out _).mono ?_
        rintro e w1 ⟨rfl, k1⟩
        obtain ⟨c0, c1, c2, c3, c4, c5, c6, c7⟩ := C0.out.next k1
        go_wp2_with fail
        refine (within_no h 8 _ (by have := H.out; omega)).mono ?_
        rintro e w' ⟨rfl, rfl⟩
        go_wp2
        go_ret
        exact ⟨rfl, after (below1 _ _) k1⟩
    · obtain rfl : b = false := by rw [← Bool.not_eq_true, E0.out]; omega
      go_enter Try.func47, Try.ntmps47
      go_wp2_with fail
      refine (HW.out _).mono ?_
      rintro e w1 ⟨rfl, k1⟩
      obtain ⟨c0, c1, c2, c3, c4, c5, c6, c7⟩ := C0.out.next k1
      go_wp2
      go_ret
      exact ⟨rfl, after (below1 _ _) k1⟩
  · have HW : Hid (∀ w, Calls Try.prog 68 #[cfg k s l g z h r c] w fun e w' => e = .returned (.bool false) ∧ Below w.heap.size w w') :=
      Lib.hid fun w => mayWindows_ok k s l g z h r c w false (Lib.hid (by simp [hw])) s1
    obtain rfl : b = false := by
      rw [← Bool.not_eq_true, B.out]; unfold may; simp [hw]
    clear hw B
    go_enter Try.func47, Try.ntmps47
    go_wp2_with fail
    refine (HW.out _).mono ?_
    rintro e w1 ⟨rfl, k1⟩
    obtain ⟨c0, c1, c2, c3, c4, c5, c6, c7⟩ := C0.out.next k1
    go_wp2
    go_ret
    exact ⟨rfl, after (below1 _ _) k1⟩

theorem ceil_le (s l : Int) (h0 : 1 ≤ l) (h1 : l ≤ s) : (0 < s % l → (s / l + 1 ≤ 16 ↔ (s - 1) / l ≤ 15)) ∧ (¬ 0 < s % l → (s / l ≤ 16 ↔ (s - 1) / l ≤ 15)) := by
  have e1 := Int.emod_add_mul_ediv s l
  have e2 := Int.emod_nonneg s (b := l) (by omega)
  have e3 := Int.emod_lt_of_pos s (b := l) (by omega)
  constructor
  · intro h
    have e : (s - 1) / l = s / l := by
      rw [Int.ediv_eq_iff_of_pos (by omega)]
      rw [Int.mul_comm (s / l) l]; omega
    rw [e]; omega
  · intro h
    have e : (s - 1) / l = s / l - 1 := by
      rw [Int.ediv_eq_iff_of_pos (by omega)]
      rw [Int.sub_mul, Int.mul_comm (s / l) l]; omega
    rw [e]; omega

set_option maxHeartbeats 1600000 in
theorem refMay_ok (k s l g z h r c : Int) (w : World) (b : Bool) (B : Hid (b = true ↔ may k s l g z h r c)) (s1 : s ≤ 9223372036854775807) :
    Calls Try.prog 25 #[cfg k s l g z h r c] w fun e w' => e = .returned (.bool b) ∧ Below w.heap.size w w' := by
  by_cases hz : 0 ≤ z ∧ 1 ≤ h ∧ h ≤ 8 ∧ 1 ≤ r ∧ r ≤ 16 ∧ 1 ≤ c ∧ c ≤ 16
  · have E0 : Hid (b = true ↔ mayW k s l g) := Lib.hid (by rw [B.out]; unfold may; simp [hz])
    obtain ⟨hz0, hh0, hh1, hr0, hr1, hc0, hc1⟩ := hz
    clear B
    by_cases h0 : k = 0
    · subst h0
      go_enter Try.func25, Try.ntmps25
      go_wp2
      go_ret
      exact ⟨ret_bool (by rw [Bool.eq_iff_iff, E0.out]; unfold mayW; simp), below1 _ _⟩
    · have q0 : (k == 0) = false := by simp [h0]
      by_cases h1 : k = 1
      · subst h1
        by_cases h2 : 0 < l
        · by_cases h3 : l ≤ s
          · have hc := ceil_le s l (by omega) h3
            have bd : 0 ≤ s / l := Int.ediv_nonneg (by omega) (by omega)
            have bu : s / l ≤ s := Int.ediv_le_self l (by omega)
            have hn : ¬ l < 1 := by omega
            have hn' : ¬ l = 0 := by omega
            have E1 : Hid (b = true ↔ (s - 1) / l ≤ 15) := Lib.hid (by rw [E0.out]; unfold mayW; omega)
            by_cases h4 : 0 < s % l
            · have F := Lib.hid (hc.1 h4)
              clear hc q0 h0 E0
              have bu2 : s / l < 9223372036854775807 := by
                rcases Int.lt_or_le l 2 with hl | hl
                · obtain rfl : l = 1 := by omega
                  simp at h4
                · have := Int.ediv_lt_self_of_pos_of_ne_one (x := s) (y := l) (by omega) (by omega); omega
              go_enter Try.func25, Try.ntmps25
              go_wp2
              go_ret
              exact ⟨ret_bool (by rw [Bool.eq_iff_iff, E1.out, ← F.out]; simp), below1 _ _⟩
            · have F := Lib.hid (hc.2 h4)
              clear hc q0 h0 E0
              go_enter Try.func25, Try.ntmps25
              go_wp2
              go_ret
              exact ⟨ret_bool (by rw [Bool.eq_iff_iff, E1.out, ← F.out]; simp), below1 _ _⟩
          · obtain rfl : b = false := by rw [← Bool.not_eq_true, E0.out]; unfold mayW; omega
            have hn : ¬ l < 1 := by omega
            go_enter Try.func25, Try.ntmps25
            go_wp2
            go_ret
            exact ⟨rfl, below1 _ _⟩
        · obtain rfl : b = false := by rw [← Bool.not_eq_true, E0.out]; unfold mayW; omega
          have hn : l < 1 := by omega
          go_enter Try.func25, Try.ntmps25
          go_wp2
          go_ret
          exact ⟨rfl, below1 _ _⟩
      · have q1 : (k == 1) = false := by simp [h1]
        by_cases h2 : k = 2
        · subst h2
          go_enter Try.func25, Try.ntmps25
          go_wp2
          go_ret
          exact ⟨ret_bool (by rw [Bool.eq_iff_iff, E0.out]; unfold mayW; simp), below1 _ _⟩
        · have q2 : (k == 2) = false := by simp [h2]
          obtain rfl : b = false := by rw [← Bool.not_eq_true, E0.out]; unfold mayW; omega
          clear h0 h1 h2
          go_enter Try.func25, Try.ntmps25
          go_wp2
          go_ret
          exact ⟨rfl, below1 _ _⟩
  · obtain rfl : b = false := by rw [← Bool.not_eq_true, B.out]; unfold may; exact fun h => hz h.2
    clear B
    by_cases c1 : z < 0
    · clear hz
      go_enter Try.func25, Try.ntmps25
      go_wp2
      go_ret
      exact ⟨rfl, below1 _ _⟩
    · by_cases c2 : h < 1
      · clear hz
        go_enter Try.func25, Try.ntmps25
        go_wp2
        go_ret
        exact ⟨rfl, below1 _ _⟩
      · by_cases c3 : 8 < h
        · clear hz
          go_enter Try.func25, Try.ntmps25
          go_wp2
          go_ret
          exact ⟨rfl, below1 _ _⟩
        · by_cases c4 : r < 1
          · clear hz
            go_enter Try.func25, Try.ntmps25
            go_wp2
            go_ret
            exact ⟨rfl, below1 _ _⟩
          · by_cases c5 : 16 < r
            · clear hz
              go_enter Try.func25, Try.ntmps25
              go_wp2
              go_ret
              exact ⟨rfl, below1 _ _⟩
            · by_cases c6 : c < 1
              · clear hz
                go_enter Try.func25, Try.ntmps25
                go_wp2
                go_ret
                exact ⟨rfl, below1 _ _⟩
              · have c7 : 16 < c := by omega
                clear hz
                go_enter Try.func25, Try.ntmps25
                go_wp2
                go_ret
                exact ⟨rfl, below1 _ _⟩
end Asg
end Go.Proofs.Ytjncogjafljbiaa

namespace Go.Proofs.Ytjncogjafljbiaa
open Go.ChangeShapes Go.WideShapes Go.ChangeAt Go.RowKit
namespace Asg
open Base
set_option linter.unusedVariables false
end Asg
end Go.Proofs.Ytjncogjafljbiaa
