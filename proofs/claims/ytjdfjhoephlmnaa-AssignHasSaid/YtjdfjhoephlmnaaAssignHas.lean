/-
  AssignHas: for every config and every two times the statement answers true, and its arguments read as they read before. No condition.
-/
import Derived.Test.YtjdfjhoephlmnaaAsgOf
import Derived.Test.YtjdfjhoephlmnaaUp03
import Derived.Test.YtjdfjhoephlmnaaOpens
import Derived.Test.YtjdfjhoephlmnaaLaid
import Derived.Laws.StructEq
import Derived.Deep.QuietTactic
import Derived.BigQuiet
namespace Go.Proofs.Ytjdfjhoephlmnaa.assignHas
open Go.ChangeShapes Go.WideShapes Go.ChangeAt Go.RowKit
open Base Asg
set_option linter.unusedVariables false

theorem below_drewN (w : World) (n : Nat) : Below w.heap.size w (w.drewN n) := by
  induction n with
  | zero => exact Below.refl _ _
  | succ n ih => exact ih.drew

theorem wrap_step (p d : Int) : IntKind.u64.wrap (IntKind.u64.wrap (p + d) - IntKind.u64.wrap p) = IntKind.u64.wrap d := by
  simp [IntKind.wrap, IntKind.bits, IntKind.signed]
  omega

/-- an error, whatever its number -/
def errR (u v : Value) (w' : World) : Prop := ∃ n : Int, u = .slice none 0 0 ∧ v = .iface 31 (.int .i64 n)

theorem Gives.err {n : Int} {w w' : World} {e : Ending} (h : Gives (failsR (.iface 31 (.int .i64 n))) w e w') : Gives errR w e w' := by
  obtain ⟨u, v, rfl, ⟨rfl, rfl⟩, k⟩ := h
  exact ⟨_, _, rfl, ⟨n, rfl, rfl⟩, k⟩

set_option maxRecDepth 100000 in
set_option maxHeartbeats 1600000 in
theorem walk_first (k s l g z h r c t u : Int) (w : World)
    (O1 : Hid (∀ w, Calls Try.prog 6 #[cfg k s l g z h r c, .int .i64 t] w (Gives errR w)))
    (O2 : Hid (∀ w, Calls Try.prog 6 #[cfg k s l g z h r c, .int .i64 u] w (Gives (fun _ _ _ => True) w))) :
    Calls Try.prog 4 #[cfg k s l g z h r c, .int .i64 t, .int .i64 u] w fun e w' => e = .returned (.bool true) ∧ Below w.heap.size w w' := by
  have C0 := Lib.hid (Cfg.new w k s l g z h r c)
  go_enter Try.func4, Try.ntmps4
  go_wp2_with fail
  refine (up_ok _).mono ?_
  rintro e w1 ⟨rfl, k1⟩
  have C1 := Lib.hid (C0.out.next k1)
  obtain ⟨c0, c1, c2, c3, c4, c5, c6, c7⟩ := C1.out
  go_wp2_with fail
  refine (O1.out _).mono ?_
  rintro e w2 ⟨_, _, rfl, ⟨n, rfl, rfl⟩, k2⟩
  have C2 := Lib.hid (C1.out.next k2)
  clear c0 c1 c2 c3 c4 c5 c6 c7
  obtain ⟨c0, c1, c2, c3, c4, c5, c6, c7⟩ := C2.out
  go_wp2_with fail
  refine (O2.out _).mono ?_
  rintro e w3 ⟨x, y, rfl, -, k3⟩
  go_wp2
  go_ret
  exact ⟨rfl, after (after (after (below1 _ _) k1) k2) k3⟩

set_option maxRecDepth 100000 in
set_option maxHeartbeats 1600000 in
theorem walk_second (k s l g z h r c t u : Int) (n : Nat) (a d m : Int) (w : World)
    (O1 : Hid (∀ w, Calls Try.prog 6 #[cfg k s l g z h r c, .int .i64 t] w (Gives (madeR .nilIface n a d m) w)))
    (O2 : Hid (∀ w, Calls Try.prog 6 #[cfg k s l g z h r c, .int .i64 u] w (Gives errR w))) :
    Calls Try.prog 4 #[cfg k s l g z h r c, .int .i64 t, .int .i64 u] w fun e w' => e = .returned (.bool true) ∧ Below w.heap.size w w' := by
  have C0 := Lib.hid (Cfg.new w k s l g z h r c)
  go_enter Try.func4, Try.ntmps4
  go_wp2_with fail
  refine (up_ok _).mono ?_
  rintro e w1 ⟨rfl, k1⟩
  have C1 := Lib.hid (C0.out.next k1)
  obtain ⟨c0, c1, c2, c3, c4, c5, c6, c7⟩ := C1.out
  go_wp2_with fail
  refine (O1.out _).mono ?_
  rintro e w2 ⟨_, _, rfl, ⟨g1, p1, rfl, rfl, -⟩, k2⟩
  have C2 := Lib.hid (C1.out.next k2)
  clear c0 c1 c2 c3 c4 c5 c6 c7
  obtain ⟨c0, c1, c2, c3, c4, c5, c6, c7⟩ := C2.out
  go_wp2_with fail
  refine (O2.out _).mono ?_
  rintro e w3 ⟨_, _, rfl, ⟨x, rfl, rfl⟩, k3⟩
  go_wp2
  go_ret
  exact ⟨rfl, after (after (after (below1 _ _) k1) k2) k3⟩

theorem one_at {w : World} {g : Nat} {a d l : Int} (h : w.cell? ⟨g, 0 * 2, none⟩ = some (.int .i64 (a + ((0 : Nat) : Int) * d)) ∧ w.cell? ⟨g, 0 * 2 + 1, none⟩ = some (.int .i64 (a + ((0 : Nat) : Int) * d + l))) :
    w.cell? ⟨g, 0, none⟩ = some (.int .i64 a) ∧ w.cell? ⟨g, 1, none⟩ = some (.int .i64 (a + l)) := by simpa using h

set_option maxRecDepth 100000 in
set_option maxHeartbeats 4000000 in
theorem walk_0 (s l g z h r c t u : Int) (n n' : Nat) (a d a' d' : Int) (w : World) (n0 : 1 ≤ n) (n1 : n ≤ 1) (m0 : 1 ≤ n') (m1 : n' ≤ 1)
    (O1 : Hid (∀ w, Calls Try.prog 6 #[cfg 0 s l g z h r c, .int .i64 t] w (Gives (madeR .nilIface n a d s) w)))
    (O2 : Hid (∀ w, Calls Try.prog 6 #[cfg 0 s l g z h r c, .int .i64 u] w (Gives (madeR .nilIface n' a' d' s) w)))
    (F : Hid (∀ i : Nat, i < n → -9223372036854775808 ≤ a + i * d ∧ a + i * d + s ≤ 9223372036854775807 ∧ a + i * d ≤ t ∧ t < a + i * d + s)) (x0 : 1 ≤ s) (x1 : s ≤ 9223372036854775807) (E : Hid (a = a' ∨ a + s ≤ a' ∨ a' + s ≤ a)) :
    Calls Try.prog 4 #[cfg 0 s l g z h r c, .int .i64 t, .int .i64 u] w fun e w' => e = .returned (.bool true) ∧ Below w.heap.size w w' := by
  have C0 := Lib.hid (Cfg.new w 0 s l g z h r c)
  go_enter Try.func4, Try.ntmps4
  go_wp2_with fail
  refine (up_ok _).mono ?_
  rintro e w1 ⟨rfl, k1⟩
  have C1 := Lib.hid (C0.out.next k1)
  obtain ⟨c0, c1, c2, c3, c4, c5, c6, c7⟩ := C1.out
  go_wp2_with fail
  refine (O1.out _).mono ?_
  rintro e w2 ⟨_, _, rfl, ⟨g1, p1, rfl, rfl, W1⟩, k2⟩
  have V1 := Lib.hid W1
  clear W1
  have C2 := Lib.hid (C1.out.next k2)
  clear c0 c1 c2 c3 c4 c5 c6 c7
  obtain ⟨c0, c1, c2, c3, c4, c5, c6, c7⟩ := C2.out
  go_wp2_with fail
  refine (O2.out _).mono ?_
  rintro e w3 ⟨_, _, rfl, ⟨g2, p2, rfl, rfl, W2⟩, k3⟩
  have V3 := Lib.hid W2
  have U3 := Lib.hid (V1.out.next k3)
  clear W2
  have C3 := Lib.hid (C2.out.next k3)
  have K3 := Lib.hid (after (after (after (below1 _ _) k1) k2) k3)
  clear c0 c1 c2 c3 c4 c5 c6 c7 C2 C1 C0 V1 k1 k2 k3
  go_wp2
  go_loopw [12] (fun si wr => ∃ i : Nat, i ≤ n ∧ si = .int .i64 i ∧ Below w3.heap.size w3 wr) (fun si _ => n - (intOf si).toNat)
  case atStart => exact ⟨0, Nat.zero_le _, rfl, Below.refl _ _⟩
  case round =>
    obtain ⟨i, hin, rfl, hnx⟩ := hrel
    obtain ⟨c0, c1, c2, c3, c4, c5, c6, c7⟩ := C3.out.next hnx
    have U := Lib.hid (U3.out.next hnx)
    have V := Lib.hid (V3.out.next hnx)
    by_cases hlt : i < n
    · obtain ⟨y0, y1⟩ := U.out i hlt
      obtain ⟨f0, f1, f2, f3⟩ := F.out i hlt
      have hlt' : (i : Int) < (n : Int) := by omega
      have hi0 : (0 : Int) ≤ (i : Int) := by omega
      obtain ⟨P, hP⟩ : ∃ P, P = a + i * d := ⟨_, rfl⟩
      rw [← hP] at y0 y1 f0 f1 f2 f3
      have HP := Lib.hid hP
      clear hP
      obtain ⟨Q, hQ⟩ : ∃ Q, Q = P + s := ⟨_, rfl⟩
      rw [← hQ] at y1 f1 f3
      have q0 : decide (t < P) = false := by simp; omega
      have q1 : decide (Q ≤ t) = false := by simp; omega
      have q2 : IntKind.i64.wrap (Q - P) = s := by rw [hQ, show P + s - P = s by omega]; exact IntWalk.i64_in _ (by omega)
      have HQ := Lib.hid hQ
      clear hQ
      go_wp2_with fail
      go_quiet (fail)
      clear q0 q1 q2
      rcases Nat.eq_zero_or_pos i with hi | hi
      · have q3 : decide ((0 : Int) < (i : Int)) = false := by simp; omega
        have q4 : decide (0 < i) = false := by simp; omega
        clear hi
        go_wp2_with fail
        go_quiet (fail)
        clear q3 q4
        go_wp2
        go_roundw
        case rel => exact ⟨i + 1, by omega, by go_num, after hnx (below_drewN _ _)⟩
        case measure => simp [intOf]; omega
      · exfalso; omega
    · obtain rfl : n = i := by omega
      have b0 : ((n : Int) == 0) = false := by simp; omega
      have b1 : ((n' : Int) == 0) = false := by simp; omega
      have b2 : decide ((16 : Int) < (n : Int)) = false := by simp; omega
      have b3 : ((n : Int) != 1) = false := by simp; omega
      have b4 : ((n' : Int) != 1) = false := by simp; omega
      obtain ⟨y0, y1⟩ := one_at (U.out 0 (by omega))
      obtain ⟨v0, v1⟩ := one_at (V.out 0 (by omega))
      have n2 : (0 : Int) < (n : Int) := by omega
      have n3 : (0 : Int) < (n' : Int) := by omega
      obtain ⟨x, hx⟩ : ∃ x, x = a + s := ⟨_, rfl⟩
      obtain ⟨x', hx'⟩ : ∃ x', x' = a' + s := ⟨_, rfl⟩
      rw [← hx] at y1
      rw [← hx'] at v1
      have EE := E.out
      rw [← hx, ← hx'] at EE
      have HX := Lib.hid hx
      have HX' := Lib.hid hx'
      clear hx hx'
      go_wp2_with fail
      rcases EE with rfl | h1 | h1
      · obtain rfl : x = x' := by rw [HX.out, HX'.out]
        go_quiet (fail)
        go_wp2
        go_ret
        exact ⟨rfl, after K3.out (after hnx (below_drewN _ _))⟩
      · have q0 : (a == a') = false := by have := HX.out; simp; omega
        have q1 : decide (x ≤ a') = true := by simp; omega
        go_quiet (fail)
        go_wp2
        go_ret
        exact ⟨rfl, after K3.out (after hnx (below_drewN _ _))⟩
      · have q0 : (a == a') = false := by have := HX'.out; simp; omega
        have q1 : decide (x ≤ a') = false := by have := HX.out; have := HX'.out; simp; omega
        have q2 : decide (x' ≤ a) = true := by simp; omega
        go_quiet (fail)
        go_wp2
        go_ret
        exact ⟨rfl, after K3.out (after hnx (below_drewN _ _))⟩

set_option maxRecDepth 100000 in
set_option maxHeartbeats 4000000 in
theorem walk_1 (s l g z h r c t u : Int) (n n' : Nat) (a d a' d' : Int) (w : World) (n0 : 1 ≤ n) (n1 : n ≤ 16) (m0 : 1 ≤ n') (m1 : n' ≤ 16)
    (O1 : Hid (∀ w, Calls Try.prog 6 #[cfg 1 s l g z h r c, .int .i64 t] w (Gives (madeR .nilIface n a d s) w)))
    (O2 : Hid (∀ w, Calls Try.prog 6 #[cfg 1 s l g z h r c, .int .i64 u] w (Gives (madeR .nilIface n' a' d' s) w)))
    (F : Hid (∀ i : Nat, i < n → -9223372036854775808 ≤ a + i * d ∧ a + i * d + s ≤ 9223372036854775807 ∧ a + i * d ≤ t ∧ t < a + i * d + s)) (x0 : 1 ≤ s) (x1 : s ≤ 9223372036854775807) (D : Hid (1 < n → d = l ∧ 0 < d)) (E : Hid ((n : Int) - (n' : Int) ≤ 1 ∧ (n' : Int) - (n : Int) ≤ 1)) :
    Calls Try.prog 4 #[cfg 1 s l g z h r c, .int .i64 t, .int .i64 u] w fun e w' => e = .returned (.bool true) ∧ Below w.heap.size w w' := by
  have C0 := Lib.hid (Cfg.new w 1 s l g z h r c)
  go_enter Try.func4, Try.ntmps4
  go_wp2_with fail
  refine (up_ok _).mono ?_
  rintro e w1 ⟨rfl, k1⟩
  have C1 := Lib.hid (C0.out.next k1)
  obtain ⟨c0, c1, c2, c3, c4, c5, c6, c7⟩ := C1.out
  go_wp2_with fail
  refine (O1.out _).mono ?_
  rintro e w2 ⟨_, _, rfl, ⟨g1, p1, rfl, rfl, W1⟩, k2⟩
  have V1 := Lib.hid W1
  clear W1
  have C2 := Lib.hid (C1.out.next k2)
  clear c0 c1 c2 c3 c4 c5 c6 c7
  obtain ⟨c0, c1, c2, c3, c4, c5, c6, c7⟩ := C2.out
  go_wp2_with fail
  refine (O2.out _).mono ?_
  rintro e w3 ⟨_, _, rfl, ⟨g2, p2, rfl, rfl, W2⟩, k3⟩
  have V3 := Lib.hid W2
  have U3 := Lib.hid (V1.out.next k3)
  clear W2
  have C3 := Lib.hid (C2.out.next k3)
  have K3 := Lib.hid (after (after (after (below1 _ _) k1) k2) k3)
  clear c0 c1 c2 c3 c4 c5 c6 c7 C2 C1 C0 V1 k1 k2 k3
  go_wp2
  go_loopw [12] (fun si wr => ∃ i : Nat, i ≤ n ∧ si = .int .i64 i ∧ Below w3.heap.size w3 wr) (fun si _ => n - (intOf si).toNat)
  case atStart => exact ⟨0, Nat.zero_le _, rfl, Below.refl _ _⟩
  case round =>
    obtain ⟨i, hin, rfl, hnx⟩ := hrel
    obtain ⟨c0, c1, c2, c3, c4, c5, c6, c7⟩ := C3.out.next hnx
    have U := Lib.hid (U3.out.next hnx)
    have V := Lib.hid (V3.out.next hnx)
    by_cases hlt : i < n
    · obtain ⟨y0, y1⟩ := U.out i hlt
      obtain ⟨f0, f1, f2, f3⟩ := F.out i hlt
      have hlt' : (i : Int) < (n : Int) := by omega
      have hi0 : (0 : Int) ≤ (i : Int) := by omega
      obtain ⟨P, hP⟩ : ∃ P, P = a + i * d := ⟨_, rfl⟩
      rw [← hP] at y0 y1 f0 f1 f2 f3
      have HP := Lib.hid hP
      clear hP
      obtain ⟨Q, hQ⟩ : ∃ Q, Q = P + s := ⟨_, rfl⟩
      rw [← hQ] at y1 f1 f3
      have q0 : decide (t < P) = false := by simp; omega
      have q1 : decide (Q ≤ t) = false := by simp; omega
      have q2 : IntKind.i64.wrap (Q - P) = s := by rw [hQ, show P + s - P = s by omega]; exact IntWalk.i64_in _ (by omega)
      have HQ := Lib.hid hQ
      clear hQ
      go_wp2_with fail
      go_quiet (fail)
      clear q0 q1 q2
      rcases Nat.eq_zero_or_pos i with hi | hi
      · have q3 : decide ((0 : Int) < (i : Int)) = false := by simp; omega
        have q4 : decide (0 < i) = false := by simp; omega
        clear hi
        go_wp2_with fail
        go_quiet (fail)
        clear q3 q4
        go_wp2
        go_roundw
        case rel => exact ⟨i + 1, by omega, by go_num, after hnx (below_drewN _ _)⟩
        case measure => simp [intOf]; omega
      · obtain ⟨j, hj⟩ : ∃ j, i = j + 1 := ⟨i - 1, by omega⟩
        have hjn : j < n := by omega
        obtain ⟨v0, -⟩ := U.out j hjn
        obtain ⟨P', hP'⟩ : ∃ P', P' = a + j * d := ⟨_, rfl⟩
        rw [← hP'] at v0
        have hD : P = P' + d := by
          have := HP.out
          rw [this, hP', hj, show ((j + 1 : Nat) : Int) = (j : Int) + 1 by omega, Int.add_mul]; omega
        have hd := D.out (by omega)
        have q5 : decide (P ≤ P') = false := by simp; omega
        have q3 : decide ((0 : Int) < (i : Int)) = true := by simp; omega
        have q4 : decide (0 < i) = true := by simp; omega
        have q6 : IntKind.i64.wrap ((i : Int) - 1) = (j : Int) := by rw [show (i : Int) - 1 = j by omega]; exact IntWalk.i64_in _ (by omega)
        have q7 : (j : Int) < (n : Int) := by omega
        have q8 : (0 : Int) ≤ (j : Int) := by omega
        have q9 : IntKind.u64.wrap (IntKind.u64.wrap P - IntKind.u64.wrap P') = IntKind.u64.wrap l := by rw [hD, hd.1]; exact wrap_step P' l
        clear hi hj hP' hD hd
        go_wp2_with fail
        go_quiet (fail)
        clear q3 q4 q5 q6 q9
        go_wp2
        go_roundw
        case rel => exact ⟨i + 1, by omega, by go_num, after hnx (below_drewN _ _)⟩
        case measure => simp [intOf]; omega
    · obtain rfl : n = i := by omega
      have b0 : ((n : Int) == 0) = false := by simp; omega
      have b1 : ((n' : Int) == 0) = false := by simp; omega
      have b2 : decide ((16 : Int) < (n : Int)) = false := by simp; omega
      have e0 := E.out
      go_wp2
      go_ret
      exact ⟨ret_bool (by simp), after K3.out hnx⟩

set_option maxRecDepth 100000 in
set_option maxHeartbeats 4000000 in
theorem walk_2 (s l g z h r c t u : Int) (n n' : Nat) (a d a' d' : Int) (w : World) (n0 : 1 ≤ n) (n1 : n ≤ 1) (m0 : 1 ≤ n') (m1 : n' ≤ 1)
    (O1 : Hid (∀ w, Calls Try.prog 6 #[cfg 2 s l g z h r c, .int .i64 t] w (Gives (madeR .nilIface n a d g) w)))
    (O2 : Hid (∀ w, Calls Try.prog 6 #[cfg 2 s l g z h r c, .int .i64 u] w (Gives (madeR .nilIface n' a' d' g) w)))
    (F : Hid (∀ i : Nat, i < n → -9223372036854775808 ≤ a + i * d ∧ a + i * d + g ≤ 9223372036854775807 ∧ a + i * d ≤ t ∧ t < a + i * d + g)) (x0 : 1 ≤ g) (x1 : g ≤ 9223372036854775807) (E : Hid (a = t)) :
    Calls Try.prog 4 #[cfg 2 s l g z h r c, .int .i64 t, .int .i64 u] w fun e w' => e = .returned (.bool true) ∧ Below w.heap.size w w' := by
  have C0 := Lib.hid (Cfg.new w 2 s l g z h r c)
  go_enter Try.func4, Try.ntmps4
  go_wp2_with fail
  refine (up_ok _).mono ?_
  rintro e w1 ⟨rfl, k1⟩
  have C1 := Lib.hid (C0.out.next k1)
  obtain ⟨c0, c1, c2, c3, c4, c5, c6, c7⟩ := C1.out
  go_wp2_with fail
  refine (O1.out _).mono ?_
  rintro e w2 ⟨_, _, rfl, ⟨g1, p1, rfl, rfl, W1⟩, k2⟩
  have V1 := Lib.hid W1
  clear W1
  have C2 := Lib.hid (C1.out.next k2)
  clear c0 c1 c2 c3 c4 c5 c6 c7
  obtain ⟨c0, c1, c2, c3, c4, c5, c6, c7⟩ := C2.out
  go_wp2_with fail
  refine (O2.out _).mono ?_
  rintro e w3 ⟨_, _, rfl, ⟨g2, p2, rfl, rfl, W2⟩, k3⟩
  have V3 := Lib.hid W2
  have U3 := Lib.hid (V1.out.next k3)
  clear W2
  have C3 := Lib.hid (C2.out.next k3)
  have K3 := Lib.hid (after (after (after (below1 _ _) k1) k2) k3)
  clear c0 c1 c2 c3 c4 c5 c6 c7 C2 C1 C0 V1 k1 k2 k3
  go_wp2
  go_loopw [12] (fun si wr => ∃ i : Nat, i ≤ n ∧ si = .int .i64 i ∧ Below w3.heap.size w3 wr) (fun si _ => n - (intOf si).toNat)
  case atStart => exact ⟨0, Nat.zero_le _, rfl, Below.refl _ _⟩
  case round =>
    obtain ⟨i, hin, rfl, hnx⟩ := hrel
    obtain ⟨c0, c1, c2, c3, c4, c5, c6, c7⟩ := C3.out.next hnx
    have U := Lib.hid (U3.out.next hnx)
    have V := Lib.hid (V3.out.next hnx)
    by_cases hlt : i < n
    · obtain ⟨y0, y1⟩ := U.out i hlt
      obtain ⟨f0, f1, f2, f3⟩ := F.out i hlt
      have hlt' : (i : Int) < (n : Int) := by omega
      have hi0 : (0 : Int) ≤ (i : Int) := by omega
      obtain ⟨P, hP⟩ : ∃ P, P = a + i * d := ⟨_, rfl⟩
      rw [← hP] at y0 y1 f0 f1 f2 f3
      have HP := Lib.hid hP
      clear hP
      obtain ⟨Q, hQ⟩ : ∃ Q, Q = P + g := ⟨_, rfl⟩
      rw [← hQ] at y1 f1 f3
      have q0 : decide (t < P) = false := by simp; omega
      have q1 : decide (Q ≤ t) = false := by simp; omega
      have q2 : IntKind.i64.wrap (Q - P) = g := by rw [hQ, show P + g - P = g by omega]; exact IntWalk.i64_in _ (by omega)
      have HQ := Lib.hid hQ
      clear hQ
      go_wp2_with fail
      go_quiet (fail)
      clear q0 q1 q2
      rcases Nat.eq_zero_or_pos i with hi | hi
      · have q3 : decide ((0 : Int) < (i : Int)) = false := by simp; omega
        have q4 : decide (0 < i) = false := by simp; omega
        clear hi
        go_wp2_with fail
        go_quiet (fail)
        clear q3 q4
        go_wp2
        go_roundw
        case rel => exact ⟨i + 1, by omega, by go_num, after hnx (below_drewN _ _)⟩
        case measure => simp [intOf]; omega
      · exfalso; omega
    · obtain rfl : n = i := by omega
      have b0 : ((n : Int) == 0) = false := by simp; omega
      have b1 : ((n' : Int) == 0) = false := by simp; omega
      have b2 : decide ((16 : Int) < (n : Int)) = false := by simp; omega
      have b3 : ((n : Int) != 1) = false := by simp; omega
      have b4 : ((n' : Int) != 1) = false := by simp; omega
      obtain ⟨y0, -⟩ := U.out 0 (by omega)
      have y : wr.cell? ⟨g1, 0, none⟩ = some (.int .i64 t) := by rw [← E.out]; simpa using y0
      clear y0
      go_wp2
      go_ret
      exact ⟨ret_bool (by simp), after K3.out hnx⟩

theorem facts {k s l g z h r c t : Int} {n : Nat} {a d m : Int} (M : may k s l g z h r c) (T : Asg.Told k s l g z t (some (n, a, d, m))) (t0 : -9223372036854775808 ≤ t) (t1 : t ≤ 9223372036854775807) :
    1 ≤ n ∧ n ≤ 16 ∧ (∀ i : Nat, i < n → -9223372036854775808 ≤ a + i * d ∧ a + i * d + m ≤ 9223372036854775807 ∧ a + i * d ≤ t ∧ t < a + i * d + m) ∧ 1 ≤ m ∧ (1 < n → d = l ∧ 0 < d) ∧
      (k = 0 → m = s ∧ n = 1 ∧ a = t - t % s) ∧ (k = 1 → m = s ∧ 1 ≤ l ∧ ((n : Int) - 1) * l ≤ s - 1 - t % l ∧ s - 1 - t % l < (n : Int) * l) ∧ (k = 2 → m = g ∧ n = 1 ∧ a = t) := by
  have z0 : 0 ≤ z := M.2.1
  cases T with
  | slidesYes q hk q1 b b' f hh =>
    obtain ⟨a0, a1, a2⟩ := slide_may hk M
    have e0 := Int.emod_nonneg t (b := slideOf k s l) (by omega)
    have e1 := Int.emod_lt_of_pos t (b := slideOf k s l) (by omega)
    have qk : k = 0 → q = 0 := by
      rintro rfl
      have e : slideOf 0 s l = s := rfl
      rw [e] at b e0 a0
      rcases Nat.eq_zero_or_pos q with hq | hq
      · exact hq
      · have := Int.mul_le_mul_of_nonneg_right (show (1 : Int) ≤ q by omega) (show 0 ≤ s by omega)
        omega
    refine ⟨by omega, by omega, ?_, by omega, ?_, ?_, ?_, by omega⟩
    · intro i hi
      have m0 := mul_bd (slideOf k s l) (q + 1) i (by omega) hi
      rw [show (((q + 1 : Nat) : Int) - 1) = q by omega] at m0
      omega
    · intro hn
      have k1 : k = 1 := by rcases hk with rfl | rfl; have := qk rfl; omega; rfl
      subst k1
      exact ⟨rfl, by omega⟩
    · rintro rfl
      have hq := qk rfl
      subst hq
      have e : slideOf 0 s l = s := rfl
      rw [e]
      exact ⟨rfl, rfl, by simp⟩
    · rintro rfl
      have e : slideOf 1 s l = l := rfl
      rw [e] at b b' a0
      refine ⟨rfl, a0, ?_, ?_⟩
      · rw [show (((q + 1 : Nat) : Int) - 1) = q by omega]; exact b
      · rw [show ((q + 1 : Nat) : Int) = (q : Int) + 1 by omega, Int.add_mul]; omega
  | sessionYes hk hh =>
    have g0 : 1 ≤ g := by have := M.1; unfold mayW at this; omega
    refine ⟨by omega, by omega, ?_, g0, by omega, by omega, by omega, fun _ => ⟨rfl, rfl, rfl⟩⟩
    intro i hi
    obtain rfl : i = 0 := by omega
    simp; omega

/-- two counts of the windows of one config are alike, or differ by one -/
theorem counts {l s r r' : Int} {n n' : Nat} (l0 : 1 ≤ l) (r0 : 0 ≤ r) (r1 : r' < l) (h : ((n : Int) - 1) * l ≤ s - 1 - r) (h' : s - 1 - r' < (n' : Int) * l) : (n : Int) - (n' : Int) ≤ 1 := by
  rw [Int.sub_mul] at h
  have : ((n : Int) - n') * l < 2 * l := by rw [Int.sub_mul]; omega
  have := Int.lt_of_mul_lt_mul_right this (by omega)
  omega

/-- two multiples of s are alike, or s apart -/
theorem apart (t u s : Int) (s0 : 1 ≤ s) : t - t % s = u - u % s ∨ t - t % s + s ≤ u - u % s ∨ u - u % s + s ≤ t - t % s := by
  have e1 := Int.emod_add_mul_ediv t s
  have e2 := Int.emod_add_mul_ediv u s
  have h1 : t - t % s = s * (t / s) := by omega
  have h2 : u - u % s = s * (u / s) := by omega
  rw [h1, h2]
  rcases Int.lt_trichotomy (t / s) (u / s) with h | h | h
  · have := Int.mul_le_mul_of_nonneg_left (show t / s + 1 ≤ u / s by omega) (show 0 ≤ s by omega)
    rw [Int.mul_add] at this; omega
  · rw [h]; omega
  · have := Int.mul_le_mul_of_nonneg_left (show u / s + 1 ≤ t / s by omega) (show 0 ≤ s by omega)
    rw [Int.mul_add] at this; omega

theorem walk (x : Int × Int × Int × Int × Int × Int × Int × Int) (wx : (Lit.int .i64 x.1).wf = true ∧ (Lit.int .i64 x.2.1).wf = true ∧ (Lit.int .i64 x.2.2.1).wf = true ∧ (Lit.int .i64 x.2.2.2.1).wf = true ∧ (Lit.int .i64 x.2.2.2.2.1).wf = true ∧ (Lit.int .i64 x.2.2.2.2.2.1).wf = true ∧ (Lit.int .i64 x.2.2.2.2.2.2.1).wf = true ∧ (Lit.int .i64 x.2.2.2.2.2.2.2).wf = true)
    (t : Int) (wt : (Lit.int .i64 t).wf = true) (u : Int) (wu : (Lit.int .i64 u).wf = true) (w : World) :
    Calls Try.prog 4 #[cfg x.1 x.2.1 x.2.2.1 x.2.2.2.1 x.2.2.2.2.1 x.2.2.2.2.2.1 x.2.2.2.2.2.2.1 x.2.2.2.2.2.2.2, .int .i64 t, .int .i64 u] w fun e w' => e = .returned (.bool true) ∧ Below w.heap.size w w' := by
  obtain ⟨k, s, l, g, z, h, r, c⟩ := x
  obtain ⟨wk, ws, wl, wg, wz, wh, wr, wc⟩ := wx
  dsimp only at wk ws wl wg wz wh wr wc ⊢
  obtain ⟨t0, t1⟩ := Num.fit wt
  obtain ⟨u0, u1⟩ := Num.fit wu
  obtain ⟨s0, s1⟩ := Num.fit ws
  obtain ⟨l0, l1⟩ := Num.fit wl
  obtain ⟨g0, g1⟩ := Num.fit wg
  obtain ⟨z0, z1⟩ := Num.fit wz
  by_cases M : may k s l g z h r c
  · obtain ⟨x, T⟩ := tells k s l g z h r c t t0 t1 M
    obtain ⟨y, S⟩ := tells k s l g z h r c u u0 u1 M
    have OT := fun w => Asg.of_ok k s l g z h r c t x w s1 l1 g1 z1 t0 t1 M T
    have OU := fun w => Asg.of_ok k s l g z h r c u y w s1 l1 g1 z1 u0 u1 M S
    cases x with
    | none => exact walk_first k s l g z h r c t u w (Lib.hid fun w => (OT w).mono fun _ _ => Gives.err) (Lib.hid fun w => (OU w).mono fun _ _ ⟨a, b, e, _, k⟩ => ⟨a, b, e, trivial, k⟩)
    | some x =>
      obtain ⟨n, a, d, m⟩ := x
      cases y with
      | none => exact walk_second k s l g z h r c t u n a d m w (Lib.hid OT) (Lib.hid fun w => (OU w).mono fun _ _ => Gives.err)
      | some y =>
        obtain ⟨n', a', d', m'⟩ := y
        obtain ⟨f0, f1, F, x0, D, K0, K1, K2⟩ := facts M T t0 t1
        obtain ⟨f0', f1', F', x0', D', K0', K1', K2'⟩ := facts M S u0 u1
        have hk : k = 0 ∨ k = 1 ∨ k = 2 := by obtain ⟨hw, -⟩ := M; unfold mayW at hw; omega
        rcases hk with rfl | rfl | rfl
        · obtain ⟨rfl, p1, p2⟩ := K0 rfl
          obtain ⟨rfl, p1', p2'⟩ := K0' rfl
          refine walk_0 _ l g z h r c t u n n' a d a' d' w f0 (by omega) f0' (by omega) (Lib.hid OT) (Lib.hid OU) (Lib.hid F) x0 s1 (Lib.hid ?_)
          rw [p2, p2']
          exact apart t u _ x0
        · obtain ⟨rfl, p1, p2, p3⟩ := K1 rfl
          obtain ⟨rfl, p1', p2', p3'⟩ := K1' rfl
          have e0 := Int.emod_nonneg t (b := l) (by omega)
          have e1 := Int.emod_lt_of_pos t (b := l) (by omega)
          have e2 := Int.emod_nonneg u (b := l) (by omega)
          have e3 := Int.emod_lt_of_pos u (b := l) (by omega)
          exact walk_1 _ l g z h r c t u n n' a d a' d' w f0 f1 f0' f1' (Lib.hid OT) (Lib.hid OU) (Lib.hid F) x0 s1 (Lib.hid D) (Lib.hid ⟨counts p1 e0 e3 p2 p3', counts p1 e2 e1 p2' p3⟩)
        · obtain ⟨rfl, p1, p2⟩ := K2 rfl
          obtain ⟨rfl, p1', p2'⟩ := K2' rfl
          exact walk_2 s l _ z h r c t u n n' a d a' d' w f0 (by omega) f0' (by omega) (Lib.hid OT) (Lib.hid OU) (Lib.hid F) x0 g1 (Lib.hid p2)
  · exact walk_first k s l g z h r c t u w (Lib.hid fun w => (of_config k s l g z h r c t w s1 (Lib.hid M)).mono fun _ _ => Gives.err)
      (Lib.hid fun w => (of_config k s l g z h r c u w s1 (Lib.hid M)).mono fun _ _ ⟨a, b, e, _, k⟩ => ⟨a, b, e, trivial, k⟩)

theorem own : ownKnob Try.prog.godebug = none := by kernel_rfl

set_option maxRecDepth 100000 in
theorem lifted (os : Os) (started : os.Started) (H : Type) (enc : TypeId × Value → H) :
    ReturnsInHanded {} Try.checked os 4 .any (Rows.assignHasSpec.pre6 enc Try.prog Try.f4 Rows.assignHasRow.domain false) (Rows.assignHasSpec.post enc Try.prog Try.f4 false true false false) := by
  refine returnsInHanded_of_change (C := Try.checked) own started (by kernel_rfl) Try.func4
    (ChangeSpec.witness6 (enc := enc) (C := Try.checked) false ⟨#[], #[.agg #[.int .i64 0, .int .i64 0, .int .i64 0, .int .i64 0, .int .i64 0, .int .i64 0, .int .i64 0, .int .i64 0], .int .i64 0, .int .i64 0], []⟩ 8 (by kernel_rfl) (by kernel_rfl) (by kernel_rfl) (by kernel_rfl)) ?_
  intro W base args ds gs before hval0 hW hcnd _
  have hval : ∀ (j : Nat) t v, Try.f4.params[j]? = some t → args[j]? = some v → Value.okWide Try.prog W .any base t v := hval0
  have hW' := hW
  obtain ⟨p, q, hA0, hV, rfl, hfz, hnd⟩ := hW
  have hA : DataW.TrodAll enc Try.prog W 0 (fun _ => true) true Try.f4.params.toList args.toList ds p := hA0
  rw [Try.params4] at hA hval
  obtain ⟨v0, vs0, d0, ds0, p0, q0, hargs, rfl, rfl, h0, r0⟩ := trodAll_cons hA
  obtain ⟨v1, vs1, d1, ds1, p1, q1, rfl, rfl, rfl, h1, r1⟩ := trodAll_cons r0
  obtain ⟨v2, vs2, d2, ds2, p2, q2, rfl, rfl, rfl, h2, r2⟩ := trodAll_cons r1
  obtain ⟨rfl, rfl, rfl⟩ := trodAll_nil r2
  obtain rfl : args = #[v0, v1, v2] := by cases args; simp_all
  obtain ⟨rfl, rfl⟩ := trodVars_none hV
  obtain ⟨x00, x01, x02, x03, x04, x05, x06, x07, rfl, w0⟩ := Opens.open_cfg (hval 0 23 v0 rfl rfl) h0
  obtain ⟨a1, rfl, rfl, rfl, w1⟩ := open_int Try.underlying2 (hval 1 2 v1 rfl rfl) h1
  obtain ⟨a2, rfl, rfl, rfl, w2⟩ := open_int Try.underlying2 (hval 2 2 v2 rfl rfl) h2
  clear hA0 hval0
  refine (walk (x00, x01, x02, x03, x04, x05, x06, x07) w0 a1 w1 a2 w2 W).mono fun e W' ⟨he, hg⟩ => ?_
  subst he
  exact ⟨_, rfl, Laid.post Laid.laidOut (by kernel_rfl) rfl (by kernel_rfl) Try.underlying4 hW' ⟨rfl, rfl, rfl⟩ hg⟩

theorem over : Rows.assignHasRow.holds Try.pinned (OpenSpec.ofChange Rows.assignHasSpec) :=
  OpenClaim.holds_of_wide 4 Try.f4 rfl rfl rfl rfl rfl rfl rfl ⟨rfl, rfl, rfl, rfl, rfl⟩ rfl rfl rfl rfl rfl (by kernel_rfl) Try.func4 (by kernel_rfl)
    (of_decide_eq_true (by kernel_rfl)) (by unfold Func.isWrapper; first | (rw [if_pos (by decide +kernel)]; kernel_rfl) | (rw [if_neg (by decide +kernel)]; exact ⟨rfl, rfl⟩))
    (fun os started H enc _ => lifted os started H enc)

/-- ████ THE STATEMENT ████ -/
theorem proved : Rows.AssignHasSaid :=
  over
#print axioms proved
end Go.Proofs.Ytjdfjhoephlmnaa.assignHas
