/-
  Contracts of container/heap.Push, Pop and Remove over the timers' heap: which ones are there, and which one comes out.
-/
import Derived.Test.YtomoophjcgahlaaTmrDown
import Derived.Test.YtomoophjcgahlaaTmrPush
import Derived.Test.YtomoophjcgahlaaTmrPopQ
namespace Go.Proofs.Ytomoophjcgahlaa
open Go.ChangeShapes Go.WideShapes Go.ChangeAt Go.RowKit
namespace Tmr
open Small
set_option linter.unusedVariables false

/-- the timers at g are n, just those of which M holds, and they are a heap -/
def Tim (w : World) (g m r n : Nat) (M : Tm → Prop) : Prop := ∃ f v p, Qu w g m r f n v p ∧ Heap f n ∧ ∀ y, M y ↔ ∃ k, k < n ∧ f k = y
/-- what they have become -/
def Turns (g m r n : Nat) (M : Tm → Prop) (w w' : World) : Prop := ∃ r', Tim w' g m r' n M ∧ Mv g m r w w' ∧ (r' = r ∨ w.heap.size ≤ r')
def Ends (g m r n : Nat) (M : Tm → Prop) (w : World) (v : Value) (e : Ending) (w' : World) : Prop := e = .returned v ∧ Turns g m r n M w w'

theorem Qu.inj {w : World} {g m r n : Nat} {f : Nat → Tm} {v : Value} {p : Tm → Option Nat} (h : Qu w g m r f n v p) {a b : Nat} (ha : a < n) (hb : b < n) (e : f a = f b) : a = b := by
  have h1 := (h.place (f a) a).2 ⟨ha, rfl⟩
  have h2 := (h.place (f a) b).2 ⟨hb, e.symm⟩
  rw [h1] at h2
  exact Option.some.inj h2

theorem size_mono {a b c : Nat} (h : a ≤ b) (k : c = a ∨ b ≤ c) : c = a ∨ a ≤ c := by omega

set_option maxHeartbeats 1600000 in
theorem hpush_ok {g m r n : Nat} {f : Nat → Tm} {v : Value} {p : Tm → Option Nat} (w : World) (x : Tm) (M : Tm → Prop) (H : Hid (Qu w g m r f n v p)) (hh : Hid (Heap f n)) (hM : Hid (∀ y, M y ↔ ∃ k, k < n ∧ f k = y)) (hx : Hid (p x = none)) (fx : Hid (Fits x)) (hn : n < 1048576) :
    Calls Try.prog 16 #[hv g, .iface 30 (tv x)] w (Ends g m r (n + 1) (fun y => y = x ∨ M y) w (.tuple #[])) := by
  have ml := meth_push (.pointer (some ⟨g, 0, none⟩)) w
  go_enter Try.func16, Try.ntmps16
  go_wp2_with fail
  refine (push_ok w x H hx fx hn).mono ?_
  rintro e w1 ⟨rfl, r1, v1, p1, q1, m1, c1⟩
  have Q1 := Lib.hid q1
  have M1 := Lib.hid m1
  have C1 := Lib.hid c1
  clear q1 m1 c1 ml
  have ml := meth_len (.pointer (some ⟨g, 0, none⟩)) w1
  go_wp2_with fail
  refine (len_ok w1 Q1).mono ?_
  rintro e w2 ⟨rfl, rfl⟩
  clear ml
  have en : ((n + 1 : Nat) : Int) - 1 = (n : Int) := by omega
  go_wp2_with fail
  refine (up_ok (j := n) w1 Q1 (by omega) (Nat.le_refl _) (Lib.hid (heap_push (n := n) ?_))).mono ?_
  · intro k k0 k1
    simp only [put, show ¬ k = n by omega, show ¬ (k - 1) / 2 = n by omega, if_false]
    exact hh.out k k0 k1
  rintro e w2 ⟨rfl, f2, ⟨v2, p2, q2, s2, m2⟩, h2⟩
  have Q2 := Lib.hid q2
  have S2 := Lib.hid s2
  have M2 := Lib.hid m2
  have H2 := Lib.hid h2
  clear q2 s2 m2 h2 en
  go_wp2
  refine bodyPost_end (v := .tuple #[]) (by simp [results, Try.results16, go_sem]) rfl ⟨rfl, r1, ⟨f2, v2, p2, Q2.out, H2.out, fun y => ?_⟩, M1.out.trans C1.out M2.out, C1.out⟩
  show (y = x ∨ M y) ↔ _
  rw [S2.out.2, hM.out]
  constructor
  · rintro (rfl | ⟨k, hk, rfl⟩)
    · exact ⟨n, by omega, by simp [put]⟩
    · exact ⟨k, by omega, by simp [put, show ¬ k = n by omega]⟩
  · rintro ⟨k, hk, rfl⟩
    by_cases e : k = n
    · left; simp [put, e]
    · right; exact ⟨k, by omega, by simp [put, e]⟩

/-- the ones that are left, where the one that goes has been moved behind all -/
theorem left_of {w : World} {g m r k i : Nat} {f f' : Nat → Tm} {v : Value} {p : Tm → Option Nat} {M : Tm → Prop} (H : Qu w g m r f (k + 1) v p) (hi : i < k + 1) (hM : ∀ y, M y ↔ ∃ j, j < k + 1 ∧ f j = y) (S : Same k (sw f i k) f') :
    ∀ y, (y ≠ f i ∧ M y) ↔ ∃ j, j < k ∧ f' j = y := by
  intro y
  rw [S.2, hM]
  constructor
  · rintro ⟨hne, j, hj, rfl⟩
    by_cases e : j = k
    · subst e
      have : i ≠ j := fun e => hne (by rw [e])
      exact ⟨i, by omega, sw_left f i j⟩
    · have : j ≠ i := fun e => hne (by rw [e])
      exact ⟨j, by omega, sw_other f this e⟩
  · rintro ⟨j, hj, rfl⟩
    by_cases e : j = i
    · subst e
      rw [sw_left]
      exact ⟨fun h => by have := H.inj (by omega) hi h; omega, k, by omega, rfl⟩
    · rw [sw_other f e (by omega)]
      exact ⟨fun h => e (H.inj (by omega) hi h), j, by omega, rfl⟩

set_option maxHeartbeats 1600000 in
theorem hpop_ok {g m r k : Nat} {f : Nat → Tm} {v : Value} {p : Tm → Option Nat} (w : World) (M : Tm → Prop) (H : Hid (Qu w g m r f (k + 1) v p)) (hh : Hid (Heap f (k + 1))) (hM : Hid (∀ y, M y ↔ ∃ j, j < k + 1 ∧ f j = y)) :
    Calls Try.prog 19 #[hv g] w (Ends g m r k (fun y => y ≠ f 0 ∧ M y) w (.iface 30 (tv (f 0)))) := by
  have few := H.out.few
  have ml := meth_len (.pointer (some ⟨g, 0, none⟩)) w
  have ms := meth_swap (.pointer (some ⟨g, 0, none⟩)) w
  have en : ((k + 1 : Nat) : Int) - 1 = (k : Int) := by omega
  go_enter Try.func19, Try.ntmps19
  go_wp2_with fail
  refine (len_ok w H).mono ?_
  rintro e w2 ⟨rfl, rfl⟩
  clear ml
  go_wp2_with fail
  refine (swap_ok (i := 0) (j := k) w H (by omega) (by omega)).mono ?_
  rintro e w1 ⟨rfl, v1, p1, q1, m1⟩
  have Q1 := Lib.hid q1
  have M1 := Lib.hid m1
  clear q1 m1 ms en
  go_wp2_with fail
  refine (down_ok (i0 := 0) (n := k) w1 Q1 (by omega) (by omega) (Lib.hid ?_)).mono ?_
  · by_cases k0 : k = 0
    · subst k0; exact ⟨fun _ _ h => by omega, fun _ _ h => by omega⟩
    · exact heap_hole hh.out (by omega)
  rintro e w2 ⟨b2, f2, rfl, ⟨v2, p2, q2, s2, m2⟩, u2, h2⟩
  have Q2 := Lib.hid q2
  have S2 := Lib.hid s2
  have M2 := Lib.hid m2
  have U2 := Lib.hid u2
  clear q2 s2 m2 h2 u2
  have mp := meth_pop (.pointer (some ⟨g, 0, none⟩)) w2
  go_wp2_with fail
  refine (popq_ok w2 Q2).mono ?_
  rintro e w3 ⟨rfl, v3, p3, q3, m3⟩
  have Q3 := Lib.hid q3
  have M3 := Lib.hid m3
  clear q3 m3 mp
  go_wp2
  go_ret
  refine ⟨?_, r, ⟨f2, v3, p3, Q3.out, down_of_zero U2.out, left_of H.out (by omega) hM.out S2.out⟩, (M1.out.trans (.inl rfl) M2.out).trans (.inl rfl) M3.out, .inl rfl⟩
  show Ending.returned (.iface 30 (tv (f2 k))) = _
  rw [S2.out.1 k (Nat.le_refl _), sw_right]

set_option maxHeartbeats 3200000 in
theorem hremove_ok {g m r k i : Nat} {f : Nat → Tm} {v : Value} {p : Tm → Option Nat} (w : World) (M : Tm → Prop) (H : Hid (Qu w g m r f (k + 1) v p)) (hh : Hid (Heap f (k + 1))) (hM : Hid (∀ y, M y ↔ ∃ j, j < k + 1 ∧ f j = y)) (hi : i < k + 1) :
    Calls Try.prog 17 #[hv g, .int .i64 i] w (Ends g m r k (fun y => y ≠ f i ∧ M y) w (.iface 30 (tv (f i)))) := by
  have few := H.out.few
  have ml := meth_len (.pointer (some ⟨g, 0, none⟩)) w
  have en : ((k + 1 : Nat) : Int) - 1 = (k : Int) := by omega
  by_cases ik : i = k
  · obtain rfl := ik
    have mp := meth_pop (.pointer (some ⟨g, 0, none⟩)) w
    have hne : ((i : Int) != (i : Int)) = false := by simp
    go_enter Try.func17, Try.ntmps17
    go_wp2_with fail
    refine (len_ok w H).mono ?_
    rintro e w2 ⟨rfl, rfl⟩
    clear ml
    go_wp2_with fail
    refine (popq_ok w H).mono ?_
    rintro e w3 ⟨rfl, v3, p3, q3, m3⟩
    have Q3 := Lib.hid q3
    have M3 := Lib.hid m3
    clear q3 m3 mp
    go_wp2
    go_ret
    refine ⟨rfl, r, ⟨f, v3, p3, Q3.out, heap_shrink hh.out (by omega), left_of H.out (by omega) hM.out ?_⟩, M3.out, .inl rfl⟩
    have : sw f i i = f := by
      funext j
      unfold sw
      by_cases e : j = i <;> simp [e]
    rw [this]
    exact Same.refl _ _
  · have hne : ((k : Int) != (i : Int)) = true := by simp; omega
    have ms := meth_swap (.pointer (some ⟨g, 0, none⟩)) w
    go_enter Try.func17, Try.ntmps17
    go_wp2_with fail
    refine (len_ok w H).mono ?_
    rintro e w2 ⟨rfl, rfl⟩
    clear ml
    go_wp2_with fail
    refine (swap_ok (i := i) (j := k) w H (by omega) (by omega)).mono ?_
    rintro e w1 ⟨rfl, v1, p1, q1, m1⟩
    have Q1 := Lib.hid q1
    have M1 := Lib.hid m1
    clear q1 m1 ms en
    go_wp2_with fail
    refine (down_ok (i0 := i) (n := k) w1 Q1 (by omega) (by omega) (Lib.hid (heap_hole hh.out (by omega)))).mono ?_
    rintro e w2 ⟨b2, f2, rfl, ⟨v2, p2, q2, s2, m2⟩, u2, h2⟩
    have Q2 := Lib.hid q2
    have S2 := Lib.hid s2
    have M2 := Lib.hid m2
    have U2 := Lib.hid u2
    have H2 := Lib.hid h2
    clear q2 s2 m2 h2 u2
    cases b2
    · go_wp2_with fail
      refine (up_ok (j := i) (n := k) w2 Q2 (by omega) (by omega) U2).mono ?_
      rintro e w4 ⟨rfl, f4, ⟨v4, p4, q4, s4, m4⟩, h4⟩
      have Q4 := Lib.hid q4
      have S4 := Lib.hid s4
      have M4 := Lib.hid m4
      have H4 := Lib.hid h4
      clear q4 s4 m4 h4
      have mp := meth_pop (.pointer (some ⟨g, 0, none⟩)) w4
      go_wp2_with fail
      refine (popq_ok w4 Q4).mono ?_
      rintro e w3 ⟨rfl, v3, p3, q3, m3⟩
      have Q3 := Lib.hid q3
      have M3 := Lib.hid m3
      clear q3 m3 mp
      go_wp2
      go_ret
      refine ⟨?_, r, ⟨f4, v3, p3, Q3.out, H4.out, left_of H.out (by omega) hM.out (S2.out.trans S4.out)⟩, ((M1.out.trans (.inl rfl) M2.out).trans (.inl rfl) M4.out).trans (.inl rfl) M3.out, .inl rfl⟩
      show Ending.returned (.iface 30 (tv (f4 k))) = _
      rw [S4.out.1 k (Nat.le_refl _), S2.out.1 k (Nat.le_refl _), sw_right]
    · have mp := meth_pop (.pointer (some ⟨g, 0, none⟩)) w2
      go_wp2_with fail
      refine (popq_ok w2 Q2).mono ?_
      rintro e w3 ⟨rfl, v3, p3, q3, m3⟩
      have Q3 := Lib.hid q3
      have M3 := Lib.hid m3
      clear q3 m3 mp
      go_wp2
      go_ret
      refine ⟨?_, r, ⟨f2, v3, p3, Q3.out, H2.out (by simp), left_of H.out (by omega) hM.out S2.out⟩, (M1.out.trans (.inl rfl) M2.out).trans (.inl rfl) M3.out, .inl rfl⟩
      show Ending.returned (.iface 30 (tv (f2 k))) = _
      rw [S2.out.1 k (Nat.le_refl _), sw_right]
end Tmr
end Go.Proofs.Ytomoophjcgahlaa
