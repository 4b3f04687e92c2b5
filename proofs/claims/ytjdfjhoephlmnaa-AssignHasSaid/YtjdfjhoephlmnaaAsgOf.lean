/-
  Contracts of assign.slides and assign.Of: a time's windows, or the error.
-/
import Derived.Test.YtjdfjhoephlmnaaAsgWin
namespace Go.Proofs.Ytjdfjhoephlmnaa
open Go.ChangeShapes Go.WideShapes Go.ChangeAt Go.RowKit
namespace Asg
open Base
set_option linter.unusedVariables false

theorem floor_q (a b q : Int) (w : World) (ha0 : -9223372036854775808 ≤ a) (ha1 : a ≤ 9223372036854775807) (hb0 : 1 ≤ b) (hb1 : b ≤ 9223372036854775807) (hq : Hid (a / b = q)) :
    Calls Try.prog 20 #[.int .i64 a, .int .i64 b] w fun e w' => e = .returned (Num.good q) ∧ w = w' := by
  rw [← hq.out]
  exact Num.floor_ok a b w ha0 ha1 hb0 hb1

/-- how many windows lie ahead of the last one -/
theorem ahead (t s l : Int) (l0 : 1 ≤ l) (ls : l ≤ s) (h : (s - 1) / l ≤ 15) :
    ∃ q : Nat, (s - 1 - t % l) / l = q ∧ q ≤ 15 ∧ (q : Int) * l ≤ s - 1 - t % l ∧ s - 1 - t % l < (q : Int) * l + l := by
  have e0 := Int.emod_nonneg t (b := l) (by omega)
  have e1 := Int.emod_lt_of_pos t (b := l) (by omega)
  have n0 : 0 ≤ (s - 1 - t % l) / l := Int.ediv_nonneg (by omega) (by omega)
  have n1 : (s - 1 - t % l) / l ≤ (s - 1) / l := Int.ediv_le_ediv (by omega) (by omega)
  have e3 := Int.emod_add_mul_ediv (s - 1 - t % l) l
  have e4 := Int.emod_nonneg (s - 1 - t % l) (b := l) (by omega)
  have e5 := Int.emod_lt_of_pos (s - 1 - t % l) (b := l) (by omega)
  refine ⟨((s - 1 - t % l) / l).toNat, by omega, by omega, ?_, ?_⟩
  · rw [Int.toNat_of_nonneg n0, Int.mul_comm]; omega
  · rw [Int.toNat_of_nonneg n0, Int.mul_comm]; omega

set_option maxHeartbeats 1600000 in
theorem slides_made (t s l z : Int) (q : Nat) (w : World) (t0 : -9223372036854775808 ≤ t) (t1 : t ≤ 9223372036854775807) (l0 : 1 ≤ l) (ls : l ≤ s) (s1 : s ≤ 9223372036854775807) (z0 : 0 ≤ z) (z1 : z ≤ 9223372036854775807)
    (q1 : q ≤ 15) (E : Hid ((s - 1 - t % l) / l = q)) (b : Hid ((q : Int) * l ≤ s - 1 - t % l)) (f0 : Hid (-9223372036854775808 ≤ t - t % l - q * l)) (h : Hid (t - t % l + s + z ≤ 9223372036854775807)) :
    Calls Try.prog 12 #[.int .i64 t, .int .i64 s, .int .i64 l, .int .i64 z] w (Made w (q + 1) (t - t % l - q * l) l s) := by
  have e0 := Int.emod_nonneg t (b := l) (by omega)
  have e1 := Int.emod_lt_of_pos t (b := l) (by omega)
  have m0 : 0 ≤ (q : Int) * l := Int.mul_nonneg (by omega) (by omega)
  have b' := b.out
  have f := f0.out
  go_enter Try.func12, Try.ntmps12
  go_wp2_with fail
  refine (Num.down_ok t l _ t0 t1 l0 (by omega) (by omega)).mono ?_
  rintro e w' ⟨rfl, rfl⟩
  go_wp2_with fail
  refine (floor_q _ l q _ (by omega) (by omega) l0 (by omega) (Lib.hid (by rw [← E.out]; congr 1; omega))).mono ?_
  rintro e w' ⟨rfl, rfl⟩
  go_wp2_with fail
  refine (Num.sub_ok (t - t % l) (q * l) _ (by omega) (by omega) (by omega) (by omega) f (by omega)).mono ?_
  rintro e w' ⟨rfl, rfl⟩
  go_wp2_with fail
  refine (windowsFrom_made (t - t % l - q * l) l s z _ (q + 1) _ (by omega) (by omega) (by omega) f (by omega) (by omega) (by omega) s1 z0 z1
    (Lib.hid (by rw [show (((q + 1 : Nat) : Int) - 1) = q by omega]; omega)) (Lib.hid (by rw [show (((q + 1 : Nat) : Int) - 1) = q by omega]; have := h.out; omega))).mono ?_
  rintro e w1 ⟨g, c, rfl, W, k⟩
  have W' := Lib.hid W
  clear W
  go_wp2
  go_ret2
  exact ⟨g, c, rfl, W'.out, k⟩

set_option maxHeartbeats 1600000 in
theorem slides_fails (t s l z : Int) (q : Nat) (w : World) (t0 : -9223372036854775808 ≤ t) (t1 : t ≤ 9223372036854775807) (l0 : 1 ≤ l) (ls : l ≤ s) (s1 : s ≤ 9223372036854775807) (z0 : 0 ≤ z) (z1 : z ≤ 9223372036854775807)
    (q1 : q ≤ 15) (E : Hid ((s - 1 - t % l) / l = q)) (b : Hid ((q : Int) * l ≤ s - 1 - t % l)) (h : Hid (t - t % l - q * l < -9223372036854775808 ∨ 9223372036854775807 < t - t % l + s + z)) :
    Calls Try.prog 12 #[.int .i64 t, .int .i64 s, .int .i64 l, .int .i64 z] w (Fails (.iface 31 (.int .i64 3)) w) := by
  have e0 := Int.emod_nonneg t (b := l) (by omega)
  have e1 := Int.emod_lt_of_pos t (b := l) (by omega)
  have m0 : 0 ≤ (q : Int) * l := Int.mul_nonneg (by omega) (by omega)
  have b' := b.out
  by_cases f1 : t - t % l < -9223372036854775808
  · have F := Lib.hid f1
    clear f1
    go_enter Try.func12, Try.ntmps12
    go_wp2_with fail
    refine (Num.down_bad t l _ t0 t1 l0 (by omega) F.out).mono ?_
    rintro e w' ⟨rfl, rfl⟩
    go_wp2
    go_ret2
    exact ⟨rfl, Below.refl _ _⟩
  · by_cases f2 : t - t % l - q * l < -9223372036854775808
    · have F := Lib.hid f2
      clear f2
      go_enter Try.func12, Try.ntmps12
      go_wp2_with fail
      refine (Num.down_ok t l _ t0 t1 l0 (by omega) (by omega)).mono ?_
      rintro e w' ⟨rfl, rfl⟩
      go_wp2_with fail
      refine (floor_q _ l q _ (by omega) (by omega) l0 (by omega) (Lib.hid (by rw [← E.out]; congr 1; omega))).mono ?_
      rintro e w' ⟨rfl, rfl⟩
      go_wp2_with fail
      refine (Num.sub_bad (t - t % l) (q * l) _ (by omega) (by omega) (by omega) (by omega) (.inl F.out)).mono ?_
      rintro e w' ⟨rfl, rfl⟩
      go_wp2
      go_ret2
      exact ⟨rfl, Below.refl _ _⟩
    · have f : -9223372036854775808 ≤ t - t % l - q * l := by omega
      have H := Lib.hid (show 9223372036854775807 < t - t % l + s + z by have := h.out; omega)
      clear f1 f2
      go_enter Try.func12, Try.ntmps12
      go_wp2_with fail
      refine (Num.down_ok t l _ t0 t1 l0 (by omega) (by omega)).mono ?_
      rintro e w' ⟨rfl, rfl⟩
      go_wp2_with fail
      refine (floor_q _ l q _ (by omega) (by omega) l0 (by omega) (Lib.hid (by rw [← E.out]; congr 1; omega))).mono ?_
      rintro e w' ⟨rfl, rfl⟩
      go_wp2_with fail
      refine (Num.sub_ok (t - t % l) (q * l) _ (by omega) (by omega) (by omega) (by omega) f (by omega)).mono ?_
      rintro e w' ⟨rfl, rfl⟩
      go_wp2_with fail
      refine (windowsFrom_fails (t - t % l - q * l) l s z _ (q + 1) _ (by omega) (by omega) (by omega) f (by omega) (by omega) (by omega) s1 z0 z1
        (Lib.hid (by rw [show (((q + 1 : Nat) : Int) - 1) = q by omega]; omega)) (Lib.hid (by rw [show (((q + 1 : Nat) : Int) - 1) = q by omega]; omega))
        (Lib.hid (by rw [show (((q + 1 : Nat) : Int) - 1) = q by omega]; have := H.out; omega))).mono ?_
      rintro e w1 ⟨rfl, k⟩
      go_wp2
      go_ret2
      exact ⟨rfl, k⟩

/-- two results, of which R holds in the world behind -/
def Gives (R : Value → Value → World → Prop) (w : World) (e : Ending) (w' : World) : Prop := ∃ u v : Value, e = .returned (.tuple #[u, v]) ∧ R u v w' ∧ Below w.heap.size w w'
def madeR (last : Value) (n : Nat) (a d l : Int) (u v : Value) (w' : World) : Prop := ∃ g c : Nat, u = .slice (some ⟨g, 0, none⟩) n c ∧ v = last ∧ Wins w' g n a d l
def failsR (x u v : Value) (w' : World) : Prop := u = .slice none 0 0 ∧ v = x

theorem Made.gives {w w' : World} {n : Nat} {a d l : Int} {e : Ending} (h : Made w n a d l e w') : Gives (madeR .nilIface n a d l) w e w' := by
  obtain ⟨g, c, rfl, W, k⟩ := h
  exact ⟨_, _, rfl, ⟨g, c, rfl, rfl, W⟩, k⟩
theorem Fails.gives {w w' : World} {v : Value} {e : Ending} (h : Fails v w e w') : Gives (failsR v) w e w' := by
  obtain ⟨rfl, k⟩ := h
  exact ⟨_, _, rfl, ⟨rfl, rfl⟩, k⟩

set_option maxHeartbeats 800000 in
theorem of_config (k s l g z h r c t : Int) (w : World) (s1 : s ≤ 9223372036854775807) (M : Hid (¬ may k s l g z h r c)) :
    Calls Try.prog 6 #[cfg k s l g z h r c, .int .i64 t] w (Gives (failsR (.iface 31 (.int .i64 2))) w) := by
  go_enter Try.func6, Try.ntmps6
  go_wp2_with fail
  refine (may_ok k s l g z h r c _ false (Lib.hid (by simp [M.out])) s1).mono ?_
  rintro e w1 ⟨rfl, k1⟩
  go_wp2
  go_ret2
  exact ⟨_, _, rfl, ⟨rfl, rfl⟩, after (below1 _ _) k1⟩

set_option maxHeartbeats 800000 in
theorem of_zero (R : Value → Value → World → Prop) (s l g z h r c t : Int) (w : World) (s1 : s ≤ 9223372036854775807) (M : Hid (may 0 s l g z h r c))
    (S : Hid (∀ w, Calls Try.prog 12 #[.int .i64 t, .int .i64 s, .int .i64 s, .int .i64 z] w (Gives R w))) :
    Calls Try.prog 6 #[cfg 0 s l g z h r c, .int .i64 t] w (Gives R w) := by
  have C0 := Lib.hid (Cfg.new w 0 s l g z h r c)
  go_enter Try.func6, Try.ntmps6
  go_wp2_with fail
  refine (may_ok 0 s l g z h r c _ true (Lib.hid (by simp [M.out])) s1).mono ?_
  rintro e w1 ⟨rfl, k1⟩
  obtain ⟨c0, c1, c2, c3, c4, c5, c6, c7⟩ := C0.out.next k1
  go_wp2_with fail
  refine (S.out _).mono ?_
  rintro e w2 ⟨u, v, rfl, hR, k2⟩
  have HR := Lib.hid hR
  clear hR
  go_wp2
  go_ret2
  exact ⟨_, _, rfl, HR.out, after (after (below1 _ _) k1) k2⟩

set_option maxHeartbeats 800000 in
theorem of_one (R : Value → Value → World → Prop) (s l g z h r c t : Int) (w : World) (s1 : s ≤ 9223372036854775807) (M : Hid (may 1 s l g z h r c))
    (S : Hid (∀ w, Calls Try.prog 12 #[.int .i64 t, .int .i64 s, .int .i64 l, .int .i64 z] w (Gives R w))) :
    Calls Try.prog 6 #[cfg 1 s l g z h r c, .int .i64 t] w (Gives R w) := by
  have C0 := Lib.hid (Cfg.new w 1 s l g z h r c)
  go_enter Try.func6, Try.ntmps6
  go_wp2_with fail
  refine (may_ok 1 s l g z h r c _ true (Lib.hid (by simp [M.out])) s1).mono ?_
  rintro e w1 ⟨rfl, k1⟩
  obtain ⟨c0, c1, c2, c3, c4, c5, c6, c7⟩ := C0.out.next k1
  go_wp2_with fail
  refine (S.out _).mono ?_
  rintro e w2 ⟨u, v, rfl, hR, k2⟩
  have HR := Lib.hid hR
  clear hR
  go_wp2
  go_ret2
  exact ⟨_, _, rfl, HR.out, after (after (below1 _ _) k1) k2⟩

set_option maxHeartbeats 800000 in
theorem of_two (R : Value → Value → World → Prop) (s l g z h r c t : Int) (w : World) (s1 : s ≤ 9223372036854775807) (M : Hid (may 2 s l g z h r c))
    (S : Hid (∀ w, Calls Try.prog 13 #[.int .i64 t, .int .i64 0, .int .i64 1, .int .i64 g, .int .i64 z] w (Gives R w))) :
    Calls Try.prog 6 #[cfg 2 s l g z h r c, .int .i64 t] w (Gives R w) := by
  have C0 := Lib.hid (Cfg.new w 2 s l g z h r c)
  go_enter Try.func6, Try.ntmps6
  go_wp2_with fail
  refine (may_ok 2 s l g z h r c _ true (Lib.hid (by simp [M.out])) s1).mono ?_
  rintro e w1 ⟨rfl, k1⟩
  obtain ⟨c0, c1, c2, c3, c4, c5, c6, c7⟩ := C0.out.next k1
  go_wp2_with fail
  refine (S.out _).mono ?_
  rintro e w2 ⟨u, v, rfl, hR, k2⟩
  have HR := Lib.hid hR
  clear hR
  go_wp2
  go_ret2
  exact ⟨_, _, rfl, HR.out, after (after (below1 _ _) k1) k2⟩

/-- the slide that a config's windows go by -/
def slideOf (k s l : Int) : Int := if k = 0 then s else l

/-- what Of comes to, of a config that may be: either some windows, or that they don't fit -/
inductive Told (k s l g z t : Int) : Option (Nat × Int × Int × Int) → Prop
  | slidesYes (q : Nat) (hk : k = 0 ∨ k = 1) (q1 : q ≤ 15) (b : (q : Int) * slideOf k s l ≤ s - 1 - t % slideOf k s l) (b' : s - 1 - t % slideOf k s l < (q : Int) * slideOf k s l + slideOf k s l)
      (f : -9223372036854775808 ≤ t - t % slideOf k s l - q * slideOf k s l) (h : t - t % slideOf k s l + s + z ≤ 9223372036854775807) : Told k s l g z t (some (q + 1, t - t % slideOf k s l - q * slideOf k s l, slideOf k s l, s))
  | slidesNo (q : Nat) (hk : k = 0 ∨ k = 1) (q1 : q ≤ 15) (b : (q : Int) * slideOf k s l ≤ s - 1 - t % slideOf k s l) (b' : s - 1 - t % slideOf k s l < (q : Int) * slideOf k s l + slideOf k s l)
      (f : t - t % slideOf k s l - q * slideOf k s l < -9223372036854775808 ∨ 9223372036854775807 < t - t % slideOf k s l + s + z) : Told k s l g z t none
  | sessionYes (hk : k = 2) (h : t + g + z ≤ 9223372036854775807) : Told k s l g z t (some (1, t, 0, g))
  | sessionNo (hk : k = 2) (h : 9223372036854775807 < t + g + z) : Told k s l g z t none

/-- what Of gives -/
def ofR : Option (Nat × Int × Int × Int) → Value → Value → World → Prop
  | some (n, a, d, l) => madeR .nilIface n a d l
  | none => failsR (.iface 31 (.int .i64 3))

theorem slide_may {k s l g z h r c : Int} (hk : k = 0 ∨ k = 1) (M : may k s l g z h r c) : 1 ≤ slideOf k s l ∧ slideOf k s l ≤ s ∧ (s - 1) / slideOf k s l ≤ 15 := by
  obtain ⟨hw, -⟩ := M
  unfold mayW at hw
  unfold slideOf
  rcases hk with rfl | rfl
  · simp at hw
    simp only [if_pos]
    refine ⟨by omega, by omega, ?_⟩
    rw [Int.ediv_eq_zero_of_lt (by omega) (by omega)]; omega
  · simp at hw
    simp only [if_neg (show ¬ (1 : Int) = 0 by omega)]
    exact ⟨by omega, hw.2.1, hw.2.2⟩

theorem tells (k s l g z h r c t : Int) (t0 : -9223372036854775808 ≤ t) (t1 : t ≤ 9223372036854775807) (M : may k s l g z h r c) : ∃ x, Told k s l g z t x := by
  by_cases h2 : k = 2
  · by_cases hf : t + g + z ≤ 9223372036854775807
    · exact ⟨_, .sessionYes h2 hf⟩
    · exact ⟨_, .sessionNo h2 (by omega)⟩
  · have hk : k = 0 ∨ k = 1 := by obtain ⟨hw, -⟩ := M; unfold mayW at hw; omega
    obtain ⟨a0, a1, a2⟩ := slide_may hk M
    obtain ⟨q, -, q1, b, b'⟩ := ahead t s (slideOf k s l) a0 a1 a2
    by_cases hf : -9223372036854775808 ≤ t - t % slideOf k s l - q * slideOf k s l ∧ t - t % slideOf k s l + s + z ≤ 9223372036854775807
    · exact ⟨_, .slidesYes q hk q1 b b' hf.1 hf.2⟩
    · exact ⟨_, .slidesNo q hk q1 b b' (by omega)⟩

/-- the quotient, out of its bounds -/
theorem quo_of (x l : Int) (q : Nat) (l0 : 1 ≤ l) (b : (q : Int) * l ≤ x) (b' : x < (q : Int) * l + l) : x / l = q := by
  rw [Int.ediv_eq_iff_of_pos (by omega)]
  omega

theorem of_ok (k s l g z h r c t : Int) (x : Option (Nat × Int × Int × Int)) (w : World) (s1 : s ≤ 9223372036854775807) (l1 : l ≤ 9223372036854775807) (g1 : g ≤ 9223372036854775807) (z1 : z ≤ 9223372036854775807)
    (t0 : -9223372036854775808 ≤ t) (t1 : t ≤ 9223372036854775807) (M : may k s l g z h r c) (T : Told k s l g z t x) :
    Calls Try.prog 6 #[cfg k s l g z h r c, .int .i64 t] w (Gives (ofR x) w) := by
  have z0 : 0 ≤ z := M.2.1
  cases T with
  | slidesYes q hk q1 b b' f hh =>
    obtain ⟨a0, a1, a2⟩ := slide_may hk M
    have S : ∀ w, Calls Try.prog 12 #[.int .i64 t, .int .i64 s, .int .i64 (slideOf k s l), .int .i64 z] w (Gives (ofR (some (q + 1, t - t % slideOf k s l - q * slideOf k s l, slideOf k s l, s))) w) := fun w =>
      (slides_made t s (slideOf k s l) z q w t0 t1 a0 a1 s1 z0 z1 q1 (Lib.hid (quo_of _ _ _ a0 b b')) (Lib.hid b) (Lib.hid f) (Lib.hid hh)).mono fun _ _ => Made.gives
    rcases hk with rfl | rfl
    · exact of_zero _ s l g z h r c t w s1 (Lib.hid M) (Lib.hid S)
    · exact of_one _ s l g z h r c t w s1 (Lib.hid M) (Lib.hid S)
  | slidesNo q hk q1 b b' f =>
    obtain ⟨a0, a1, a2⟩ := slide_may hk M
    have S : ∀ w, Calls Try.prog 12 #[.int .i64 t, .int .i64 s, .int .i64 (slideOf k s l), .int .i64 z] w (Gives (ofR none) w) := fun w =>
      (slides_fails t s (slideOf k s l) z q w t0 t1 a0 a1 s1 z0 z1 q1 (Lib.hid (quo_of _ _ _ a0 b b')) (Lib.hid b) (Lib.hid f)).mono fun _ _ => Fails.gives
    rcases hk with rfl | rfl
    · exact of_zero _ s l g z h r c t w s1 (Lib.hid M) (Lib.hid S)
    · exact of_one _ s l g z h r c t w s1 (Lib.hid M) (Lib.hid S)
  | sessionYes hk hh =>
    subst hk
    have g0 : 1 ≤ g := by have := M.1; unfold mayW at this; omega
    refine of_two _ s l g z h r c t w s1 (Lib.hid M) (Lib.hid fun w => ?_)
    exact (windowsFrom_made t 0 g z 1 1 w (by omega) (by omega) (by omega) t0 (by omega) (by omega) g0 g1 z0 z1 (Lib.hid (by omega)) (Lib.hid (by omega))).mono fun _ _ => Made.gives
  | sessionNo hk hh =>
    subst hk
    have g0 : 1 ≤ g := by have := M.1; unfold mayW at this; omega
    refine of_two _ s l g z h r c t w s1 (Lib.hid M) (Lib.hid fun w => ?_)
    exact (windowsFrom_fails t 0 g z 1 1 w (by omega) (by omega) (by omega) t0 (by omega) (by omega) g0 g1 z0 z1 (Lib.hid (by omega)) (Lib.hid (by omega)) (Lib.hid (by omega))).mono fun _ _ => Fails.gives
end Asg
end Go.Proofs.Ytjdfjhoephlmnaa
