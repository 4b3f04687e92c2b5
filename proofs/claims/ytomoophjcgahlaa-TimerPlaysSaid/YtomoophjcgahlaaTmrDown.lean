/-
  Contract of container/heap.down over the timers' heap.
-/
import Derived.Test.YtomoophjcgahlaaTmrUp
namespace Go.Proofs.Ytomoophjcgahlaa
open Go.ChangeShapes Go.WideShapes Go.ChangeAt Go.RowKit
namespace Tmr
open Small
set_option linter.unusedVariables false

def DnRel (g m r l n i0 : Nat) (f : Nat → Tm) (w : World) (i : Nat) (w' : World) : Prop := ∃ f', Sorts g m r l n f w f' w' ∧ DownAt f' n i0 i
def DnDone (g m r l n i0 : Nat) (f : Nat → Tm) (w : World) (e : Ending) (w' : World) : Prop := ∃ b f', e = .returned (.bool b) ∧ Sorts g m r l n f w f' w' ∧ UpAt f' n i0 ∧ (b = true → Heap f' n)

theorem down_done {g m r l n i0 i : Nat} {f f' : Nat → Tm} {w w' : World} (S : Sorts g m r l n f w f' w') (D : DownAt f' n i0 i) (ho : ∀ k, k = 2 * i + 1 ∨ k = 2 * i + 2 → k < n → le (f' i) (f' k)) (b : Bool) (hb : b = true → i ≠ i0) :
    DnDone g m r l n i0 f w (.returned (.bool b)) w' := by
  obtain ⟨a, c⟩ := down_end D ho
  exact ⟨b, f', rfl, S, a, fun h => c (hb h)⟩

set_option maxHeartbeats 6400000 in
theorem down_ok {g m r l n i0 : Nat} {f : Nat → Tm} {v : Value} {p : Tm → Option Nat} (w : World) (H : Hid (Qu w g m r f l v p)) (hn : n ≤ l) (hi0 : i0 ≤ n) (D : Hid (DownAt f n i0 i0)) :
    Calls Try.prog 25 #[hv g, .int .i64 i0, .int .i64 n] w (DnDone g m r l n i0 f w) := by
  have few := H.out.few
  go_enter Try.func25, Try.ntmps25
  go_wp2
  go_loopw [7] (fun si wr => ∃ i : Nat, i0 ≤ i ∧ i ≤ n ∧ si = .int .i64 i ∧ Hid (DnRel g m r l n i0 f w i wr)) (fun si _ => n - (intOf si).toNat)
  case atStart => exact ⟨i0, Nat.le_refl _, hi0, rfl, Lib.hid ⟨f, ⟨v, p, H.out, Same.refl _ _, Mv.refl _ _ _ _⟩, D.out⟩⟩
  case round =>
    obtain ⟨i, hi, hin, rfl, REL⟩ := hrel
    obtain ⟨f1, ⟨v1, p1, q1, s1, m1⟩, u1⟩ := REL.out
    have Q1 := Lib.hid q1
    have S1 := Lib.hid s1
    have M1 := Lib.hid m1
    have U1 := Lib.hid u1
    clear q1 s1 m1 u1 REL
    by_cases h1 : 2 * i + 1 < n
    · obtain ⟨a, ha⟩ : ∃ a, a = 2 * i + 1 := ⟨_, rfl⟩
      obtain ⟨b, hb⟩ : ∃ b, b = a + 1 := ⟨_, rfl⟩
      have ea : 2 * (i : Int) + 1 = (a : Int) := by omega
      have eb : (a : Int) + 1 = (b : Int) := by omega
      have an : a < n := by omega
      have a0 : ¬ (a : Int) < 0 := by omega
      have i2 : a ≤ 2 * i + 1 ∧ 2 * i + 1 ≤ a ∧ b ≤ a + 1 ∧ a + 1 ≤ b := by omega
      clear ha hb
      by_cases hbn : b < n
      · cases hl : lt (f1 b) (f1 a)
        · skip
          have ml := meth_less (.pointer (some ⟨g, 0, none⟩)) wr
          go_wp2_with fail
          refine (less_ok (i := b) (j := a) wr Q1 (by omega) (by omega)).mono ?_
          rintro e w1 ⟨rfl, k1⟩
          rw [hl]
          have Q2 := Lib.hid (Q1.out.next k1)
          have K1 := Lib.hid k1
          have HL := Lib.hid hl
          clear ml k1 hl
          have LST : Hid (∀ k, k = 2 * i + 1 ∨ k = 2 * i + 2 → k < n → le (f1 a) (f1 k)) := Lib.hid (fun k hk hkn => by rcases hk with rfl | rfl; (· rw [show 2 * i + 1 = a by omega]; exact le_refl _); (· rw [show 2 * i + 2 = b by omega]; exact HL.out))
          have ml := meth_less (.pointer (some ⟨g, 0, none⟩)) w1
          cases ht : lt (f1 a) (f1 i)
          · go_wp2_with fail
            refine (less_ok (i := a) (j := i) w1 Q2 (by omega) (by omega)).mono ?_
            rintro e w2 ⟨rfl, k2⟩
            rw [ht]
            have K2 := Lib.hid k2
            have HT := Lib.hid ht
            clear ml k2 ht
            go_wp2
            go_ret
            exact down_done ⟨v1, p1, Q2.out.next K2.out, S1.out, (M1.out.then K1.out).then K2.out⟩ U1.out (fun k hk hkn => le_trans HT.out (LST.out k hk hkn)) _ (fun h => by simp at h; omega)
          · go_wp2_with fail
            refine (less_ok (i := a) (j := i) w1 Q2 (by omega) (by omega)).mono ?_
            rintro e w2 ⟨rfl, k2⟩
            rw [ht]
            have Q3 := Lib.hid (Q2.out.next k2)
            have K2 := Lib.hid k2
            have HT := Lib.hid ht
            clear ml k2 ht
            have ms := meth_swap (.pointer (some ⟨g, 0, none⟩)) w2
            go_wp2_with fail
            refine (swap_ok (i := i) (j := a) w2 Q3 (by omega) (by omega)).mono ?_
            rintro e w3 ⟨rfl, v4, p4, q4, m4⟩
            have Q4 := Lib.hid q4
            have M4 := Lib.hid m4
            clear q4 m4 ms
            go_wp2
            go_roundw
            case rel => exact ⟨a, by omega, by omega, rfl, Lib.hid ⟨sw f1 i a, ⟨v4, p4, Q4.out, S1.out.trans (same_sw f1 (by omega) (by omega)), ((M1.out.then K1.out).then K2.out).trans (.inl rfl) M4.out⟩, down_step U1.out hi (by omega) (by omega) HT.out LST.out⟩⟩
            case measure => simp [intOf]; omega
        · skip
          have ml := meth_less (.pointer (some ⟨g, 0, none⟩)) wr
          go_wp2_with fail
          refine (less_ok (i := b) (j := a) wr Q1 (by omega) (by omega)).mono ?_
          rintro e w1 ⟨rfl, k1⟩
          rw [hl]
          have Q2 := Lib.hid (Q1.out.next k1)
          have K1 := Lib.hid k1
          have HL := Lib.hid hl
          clear ml k1 hl
          have LST : Hid (∀ k, k = 2 * i + 1 ∨ k = 2 * i + 2 → k < n → le (f1 b) (f1 k)) := Lib.hid (fun k hk hkn => by rcases hk with rfl | rfl; (· rw [show 2 * i + 1 = a by omega]; exact le_of_lt HL.out); (· rw [show 2 * i + 2 = b by omega]; exact le_refl _))
          have ml := meth_less (.pointer (some ⟨g, 0, none⟩)) w1
          cases ht : lt (f1 b) (f1 i)
          · go_wp2_with fail
            refine (less_ok (i := b) (j := i) w1 Q2 (by omega) (by omega)).mono ?_
            rintro e w2 ⟨rfl, k2⟩
            rw [ht]
            have K2 := Lib.hid k2
            have HT := Lib.hid ht
            clear ml k2 ht
            go_wp2
            go_ret
            exact down_done ⟨v1, p1, Q2.out.next K2.out, S1.out, (M1.out.then K1.out).then K2.out⟩ U1.out (fun k hk hkn => le_trans HT.out (LST.out k hk hkn)) _ (fun h => by simp at h; omega)
          · go_wp2_with fail
            refine (less_ok (i := b) (j := i) w1 Q2 (by omega) (by omega)).mono ?_
            rintro e w2 ⟨rfl, k2⟩
            rw [ht]
            have Q3 := Lib.hid (Q2.out.next k2)
            have K2 := Lib.hid k2
            have HT := Lib.hid ht
            clear ml k2 ht
            have ms := meth_swap (.pointer (some ⟨g, 0, none⟩)) w2
            go_wp2_with fail
            refine (swap_ok (i := i) (j := b) w2 Q3 (by omega) (by omega)).mono ?_
            rintro e w3 ⟨rfl, v4, p4, q4, m4⟩
            have Q4 := Lib.hid q4
            have M4 := Lib.hid m4
            clear q4 m4 ms
            go_wp2
            go_roundw
            case rel => exact ⟨b, by omega, by omega, rfl, Lib.hid ⟨sw f1 i b, ⟨v4, p4, Q4.out, S1.out.trans (same_sw f1 (by omega) (by omega)), ((M1.out.then K1.out).then K2.out).trans (.inl rfl) M4.out⟩, down_step U1.out hi (by omega) (by omega) HT.out LST.out⟩⟩
            case measure => simp [intOf]; omega
      · have hbn' : n ≤ b := by omega
        have LST : Hid (∀ k, k = 2 * i + 1 ∨ k = 2 * i + 2 → k < n → le (f1 a) (f1 k)) := Lib.hid (fun k hk hkn => by rcases hk with rfl | rfl; (· rw [show 2 * i + 1 = a by omega]; exact le_refl _); (· omega))
        have ml := meth_less (.pointer (some ⟨g, 0, none⟩)) wr
        cases ht : lt (f1 a) (f1 i)
        · go_wp2_with fail
          refine (less_ok (i := a) (j := i) wr Q1 (by omega) (by omega)).mono ?_
          rintro e w2 ⟨rfl, k2⟩
          rw [ht]
          have K2 := Lib.hid k2
          have HT := Lib.hid ht
          clear ml k2 ht
          go_wp2
          go_ret
          exact down_done ⟨v1, p1, Q1.out.next K2.out, S1.out, M1.out.then K2.out⟩ U1.out (fun k hk hkn => le_trans HT.out (LST.out k hk hkn)) _ (fun h => by simp at h; omega)
        · go_wp2_with fail
          refine (less_ok (i := a) (j := i) wr Q1 (by omega) (by omega)).mono ?_
          rintro e w2 ⟨rfl, k2⟩
          rw [ht]
          have Q3 := Lib.hid (Q1.out.next k2)
          have K2 := Lib.hid k2
          have HT := Lib.hid ht
          clear ml k2 ht
          have ms := meth_swap (.pointer (some ⟨g, 0, none⟩)) w2
          go_wp2_with fail
          refine (swap_ok (i := i) (j := a) w2 Q3 (by omega) (by omega)).mono ?_
          rintro e w3 ⟨rfl, v4, p4, q4, m4⟩
          have Q4 := Lib.hid q4
          have M4 := Lib.hid m4
          clear q4 m4 ms
          go_wp2
          go_roundw
          case rel => exact ⟨a, by omega, by omega, rfl, Lib.hid ⟨sw f1 i a, ⟨v4, p4, Q4.out, S1.out.trans (same_sw f1 (by omega) (by omega)), (M1.out.then K2.out).trans (.inl rfl) M4.out⟩, down_step U1.out hi (by omega) (by omega) HT.out LST.out⟩⟩
          case measure => simp [intOf]; omega
    · have h1' : (n : Int) ≤ 2 * (i : Int) + 1 := by omega
      go_wp2
      go_ret
      exact down_done ⟨v1, p1, Q1.out, S1.out, M1.out⟩ U1.out (fun k hk hkn => by omega) _ (fun h => by simp at h; omega)
end Tmr
end Go.Proofs.Ytomoophjcgahlaa
