/-
  Contract of container/heap.up over the timers' heap.
-/
import Derived.Test.YtomoophjcgahlaaTmrSwap2
import Derived.LoopTactic
namespace Go.Proofs.Ytomoophjcgahlaa
open Go.ChangeShapes Go.WideShapes Go.ChangeAt Go.RowKit
namespace Tmr
open Small
set_option linter.unusedVariables false

/-- the heap, as it is handed on -/
abbrev hv (g : Nat) : Value := .iface 56 (.pointer (some ⟨g, 0, none⟩))

theorem meth_less (v : Value) (w : World) : (method 200 56 v "Less").run Try.prog w = .ok (43, v) w := by kernel_rfl
theorem meth_swap (v : Value) (w : World) : (method 200 56 v "Swap").run Try.prog w = .ok (46, v) w := by kernel_rfl
theorem meth_len (v : Value) (w : World) : (method 200 56 v "Len").run Try.prog w = .ok (23, v) w := by kernel_rfl
theorem meth_push (v : Value) (w : World) : (method 200 56 v "Push").run Try.prog w = .ok (45, v) w := by kernel_rfl
theorem meth_pop (v : Value) (w : World) : (method 200 56 v "Pop").run Try.prog w = .ok (44, v) w := by kernel_rfl

/-- what the timers at g have become: the same ones -/
def Sorts (g m r n k : Nat) (f : Nat → Tm) (w : World) (f' : Nat → Tm) (w' : World) : Prop := ∃ v p, Qu w' g m r f' n v p ∧ Same k f f' ∧ Mv g m r w w'

def UpRel (g m r l n : Nat) (f : Nat → Tm) (w : World) (j : Nat) (w' : World) : Prop := ∃ f', Sorts g m r l n f w f' w' ∧ UpAt f' n j
def UpDone (g m r l n : Nat) (f : Nat → Tm) (w : World) (e : Ending) (w' : World) : Prop := e = .returned (.tuple #[]) ∧ ∃ f', Sorts g m r l n f w f' w' ∧ Heap f' n

set_option maxHeartbeats 3200000 in
theorem up_ok {g m r l n j : Nat} {f : Nat → Tm} {v : Value} {p : Tm → Option Nat} (w : World) (H : Hid (Qu w g m r f l v p)) (hj : j < n) (hn : n ≤ l) (U : Hid (UpAt f n j)) :
    Calls Try.prog 24 #[hv g, .int .i64 j] w (UpDone g m r l n f w) := by
  have few := H.out.few
  go_enter Try.func24, Try.ntmps24
  go_wp2
  go_loopw [1] (fun sj wr => ∃ j : Nat, j < n ∧ sj = .int .i64 j ∧ Hid (UpRel g m r l n f w j wr)) (fun sj _ => (intOf sj).toNat)
  case atStart => exact ⟨j, hj, rfl, Lib.hid ⟨f, ⟨v, p, H.out, Same.refl _ _, Mv.refl _ _ _ _⟩, U.out⟩⟩
  case round =>
    obtain ⟨j, hj, rfl, REL⟩ := hrel
    obtain ⟨f1, ⟨v1, p1, q1, s1, m1⟩, u1⟩ := REL.out
    have Q1 := Lib.hid q1
    have S1 := Lib.hid s1
    have M1 := Lib.hid m1
    have U1 := Lib.hid u1
    clear q1 s1 m1 u1 REL
    by_cases j0 : j = 0
    · subst j0
      go_wp2
      exact bodyPost_end (v := .tuple #[]) (by simp [results, Try.results24, go_sem]) rfl ⟨rfl, f1, ⟨v1, p1, Q1.out, S1.out, M1.out⟩, up_end U1.out (.inl rfl)⟩
    · obtain ⟨k, hk⟩ : ∃ k, k = (j - 1) / 2 := ⟨_, rfl⟩
      have hq : ((j : Int) - 1) / 2 = (k : Int) := by omega
      have hkj : k < j := by omega
      have hne : ((k : Int) == (j : Int)) = false := by simp; omega
      have j1 : (1 : Int) ≤ j := by omega
      have HK := Lib.hid hk
      clear hk
      have ml := meth_less (.pointer (some ⟨g, 0, none⟩)) wr
      cases hl : lt (f1 j) (f1 k)
      · go_wp2_with fail
        refine (less_ok (i := j) (j := k) wr Q1 (by omega) (by omega)).mono ?_
        rintro e w1 ⟨rfl, k1⟩
        rw [hl]
        go_wp2
        exact bodyPost_end (v := .tuple #[]) (by simp [results, Try.results24, go_sem]) rfl ⟨rfl, f1, ⟨v1, p1, Q1.out.next k1, S1.out, M1.out.then k1⟩, up_end U1.out (.inr (by rw [← HK.out]; exact hl))⟩
      · go_wp2_with fail
        refine (less_ok (i := j) (j := k) wr Q1 (by omega) (by omega)).mono ?_
        rintro e w1 ⟨rfl, k1⟩
        rw [hl]
        have Q2 := Lib.hid (Q1.out.next k1)
        have K1 := Lib.hid k1
        clear ml k1
        have ms := meth_swap (.pointer (some ⟨g, 0, none⟩)) w1
        go_wp2_with fail
        refine (swap_ok (i := k) (j := j) w1 Q2 (by omega) (by omega)).mono ?_
        rintro e w2 ⟨rfl, v3, p3, q3, m3⟩
        have Q3 := Lib.hid q3
        have M3 := Lib.hid m3
        have HL := Lib.hid hl
        clear q3 m3 ms hl
        go_wp2
        go_roundw
        case rel => exact ⟨k, by omega, rfl, Lib.hid ⟨sw f1 k j, ⟨v3, p3, Q3.out, S1.out.trans (same_sw f1 (by omega) hj), (M1.out.then K1.out).trans (.inl rfl) M3.out⟩, by
          have := up_step U1.out (by omega) hj (by rw [← HK.out]; exact HL.out)
          rw [← HK.out] at this
          exact this⟩⟩
        case measure => simp [intOf]; omega
end Tmr
end Go.Proofs.Ytomoophjcgahlaa
