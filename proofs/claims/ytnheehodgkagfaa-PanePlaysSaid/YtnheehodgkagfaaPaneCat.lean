/-
  slices.Grow of none, slices.Concat of two lists of panes.
-/
import Derived.Test.YtnheehodgkagfaaPaneIns
import Derived.Test.YtnheehodgkagfaaLater
namespace Go.Proofs.Ytnheehodgkagfaa
open Go.ChangeShapes Go.WideShapes Go.ChangeAt Go.RowKit Small
set_option linter.unusedVariables false
namespace Pane

set_option maxRecDepth 100000 in
set_option maxHeartbeats 4000000 in
theorem grow_ok (n : Nat) (w : World) (hn : n ≤ 2000) :
    Calls Try.prog 34 #[.slice none 0 0, .int .i64 n] w fun r w' => ∃ v', r = .returned v' ∧ Sl.Own Pn.k w.heap.size w' v' [] ∧ Below w.heap.size w w' := by
  by_cases h0 : n = 0
  · subst h0
    go_enter Try.func34, Try.ntmps34
    go_wp2
    go_ret
    exact ⟨_, rfl, Sl.Own.nil _ _ _, Below.refl _ _⟩
  · obtain ⟨i0, hi0, hz0, hz1, hz2⟩ := info_parts Pn.ok.info
    have hby : i0.bytes = 64 := hz2
    have hfit : Builtin.nextslicecap (0 + n) 0 * i0.bytes ≤ 281474976710656 := growslice_fits (by omega) (by rw [hby]; omega)
    obtain ⟨G, hG⟩ : ∃ G, G = grownCap w (0 + n) 0 33 := ⟨_, rfl⟩
    have hGn : n ≤ G := by rw [hG]; have := grownCap_ge w (0 + n) 0 33; omega
    have hGm : G ≤ maxLen := by rw [hG]; exact grownCap_le_maxLen w _ _ _ (by unfold maxLen; omega)
    obtain ⟨R, hR⟩ : ∃ R : Array Value, Hid (R = ([] : List Value).toArray ++ Builtin.zeroCells (Pn.k.zero).cells n ++ Builtin.zeroCells (Pn.k.zero).cells (G - (0 + n))) := ⟨_, Lib.hid rfl⟩
    obtain ⟨W1, hW1⟩ : ∃ W1, Hid (W1 = w.drew.alloc (.cells R 33)) := ⟨_, Lib.hid rfl⟩
    have hrz : ∀ ty, (Builtin.append_ #[24, 3] ty #[.slice none 0 0, .int .i64 n]).run Try.prog w = .ok (.slice (some ⟨w.heap.size, 0, none⟩) n G) W1 := fun ty => by
      have h := Lib.run_append_grow_zeros w 24 3 ty 33 i0 _ .i64 .i64 Try.underlying24 Try.underlying3 hi0 hz0 none 0 0 [] (by rw [hz1]; exact run_firstCells_none w.drew 7 0 0 0) n (by omega) (by rw [hz1]; decide) (by omega) (by omega) (by rw [hby]; omega) hfit
      rw [← hG, ← hR.out, ← hW1.out, Nat.zero_add] at h
      exact h
    clear hG
    have hsz : R.size = G * 7 := by
      rw [hR.out]
      simp only [Array.size_append, List.size_toArray, zeros_len, show (Pn.k.zero).cells.size = 7 from rfl, List.length_nil]
      omega
    have hO : Hid (Sl.Own Pn.k w.heap.size W1 (.slice (some ⟨w.heap.size, 0, none⟩) 0 G) []) := Lib.hid (by
      rw [hW1.out]
      exact ⟨by simp [Sl.flat], .inr ⟨w.heap.size, G, R, rfl, Nat.le_refl _, heap_alloc_new w.drew _, Nat.zero_le _, hGm, hsz, by simp [Sl.flat]⟩⟩)
    have hB : Hid (Below w.heap.size w W1) := Lib.hid (by rw [hW1.out]; exact ((Below.refl _ _).drew).alloc (Nat.le_refl _) _)
    have hG2 : G ≤ 9223372036854775807 := by unfold maxLen at hGm; omega
    have n0 : 0 < (n : Int) := by omega
    have n1 : ¬ ((n : Int) < 0) := by omega
    clear hfit hsz
    go_enter Try.func34, Try.ntmps34
    go_wp2_with (at_builtin; refine Slm.wpl_appended _ rfl _ _ 24 3 rfl _ _ rfl rfl (hrz _) ?_)
    all_goals (go_ret; exact ⟨_, rfl, hO.out, hB.out⟩)

set_option maxRecDepth 100000 in
set_option maxHeartbeats 4000000 in
theorem concat_ok (gb b0 b1 : Nat) (v0 v1 : Value) (L0 L1 : List Pn) (w : World) (H0 : Hid (Sl.Is Pn.k w v0 L0 b0)) (H1 : Hid (Sl.Is Pn.k w v1 L1 b1)) (Z : Hid (Lies w gb 24 [v0, v1])) (n0 : L0.length ≤ 1000) (n1 : L1.length ≤ 1000) :
    Calls Try.prog 21 #[.slice (some ⟨gb, 0, none⟩) 2 2] w fun r w' => ∃ v', r = .returned v' ∧ Sl.Own Pn.k w.heap.size w' v' (L0 ++ L1) ∧ Below w.heap.size w w' := by
  obtain ⟨A0, c0, e0⟩ := H0.out.len
  obtain ⟨A1, c1, e1⟩ := H1.out.len
  have z0 := Z.out.cell (i := 0) rfl
  have z1 := Z.out.cell (i := 1) rfl
  rw [e0] at z0
  rw [e1] at z1
  go_enter Try.func21, Try.ntmps21
  go_wp2_with fail
  have N0 : Hid (L0.length ≤ 1000) := Lib.hid n0
  go_loopw [3, 11] (fun ss si wr => ∃ (i n : Nat), ((i = 0 ∧ n = 0) ∨ (i = 1 ∧ n = L0.length) ∨ (i = 2 ∧ n = L0.length + L1.length)) ∧ ss = .int .i64 n ∧ si = .int .i64 i ∧ w = wr) (fun ss si _ => 2 - (intOf si).toNat)
  case atStart => exact ⟨0, 0, .inl ⟨rfl, rfl⟩, rfl, rfl, rfl⟩
  case round =>
    obtain ⟨i, n, hi, rfl, rfl, rfl⟩ := hrel
    rcases hi with ⟨rfl, rfl⟩ | ⟨rfl, rfl⟩ | ⟨rfl, rfl⟩
    · go_wp2_with fail
      exact ⟨⟨1, L0.length, .inr (.inl ⟨rfl, rfl⟩), rfl, rfl, trivial⟩, by simp [intOf]⟩
    · have w1 : IntKind.i64.wrap ((L0.length : Int) + L1.length) = (L0.length : Int) + L1.length := by rw [IntKind.wrap_i64]; omega
      have w2 : ¬ ((L0.length : Int) + L1.length < 0) := by omega
      go_wp2_with fail
      exact ⟨⟨2, L0.length + L1.length, .inr (.inr ⟨rfl, rfl⟩), by rw [Int.natCast_add], rfl, trivial⟩, by simp [intOf]⟩
    · go_wp2_with fail
      refine (grow_ok (L0.length + L1.length) _ (by omega)).mono ?_
      rintro r w1 ⟨v', rfl, o1, k1⟩
      have O1 := Lib.hid o1
      have K1 := Lib.hid k1
      clear o1 k1
      go_wp2_with fail
      go_loopw [6, 27] (fun sv si wx => ∃ (i : Nat), i ≤ 2 ∧ si = .int .i64 i ∧ Hid (Sl.Own Pn.k w.heap.size wx sv ((if 1 ≤ i then L0 else []) ++ (if 2 ≤ i then L1 else []))) ∧ Hid (Below w.heap.size w wx)) (fun sv si _ => 2 - (intOf si).toNat)
      case atStart => exact ⟨0, by omega, rfl, O1, K1⟩
      case round =>
        obtain ⟨i, hi, rfl, O2, K2⟩ := hrel
        have y0 := cell_keep K2.out z0
        have y1 := cell_keep K2.out z1
        have I0 := Lib.hid (H0.out.next K2.out)
        have I1 := Lib.hid (H1.out.next K2.out)
        have sz := Lib.hid K2.out.size
        clear z0 z1
        obtain rfl | rfl | rfl : i = 0 ∨ i = 1 ∨ i = 2 := by omega
        · have O2 : Hid (Sl.Own Pn.k w.heap.size _ _ []) := O2
          go_wp2_with (at_builtin; refine wpList_plain rfl fun K' hK' => Sl.wp_append (K := Pn.k) Pn.ok (.tmp 31) (.tmp 32) rfl (base := w.heap.size) (l := []) (l2 := L0) (b2 := b0) (by exact O2.out) (by have := I0.out; rw [e0] at this; exact this) (by simp; omega) sz.out (fun v' w' q1 q2 q3 => hK' _ _ ?_))
          have Q1 := Lib.hid q1
          have Q2 : Hid (Below w.heap.size w w') := Lib.hid (K2.out.grown q2 sz.out (fun k hk => (O2.out.lt k hk).1))
          clear q1 q2 q3
          go_wp2_with fail
          exact ⟨⟨1, by omega, rfl, Lib.hid (by simpa using Q1.out), Q2⟩, by simp [intOf]⟩
        · have O2 : Hid (Sl.Own Pn.k w.heap.size _ _ L0) := Lib.hid (by simpa using O2.out)
          go_wp2_with (at_builtin; refine wpList_plain rfl fun K' hK' => Sl.wp_append (K := Pn.k) Pn.ok (.tmp 31) (.tmp 32) rfl (base := w.heap.size) (l := L0) (l2 := L1) (b2 := b1) (by exact O2.out) (by have := I1.out; rw [e1] at this; exact this) (by have := N0.out; omega) sz.out (fun v' w' q1 q2 q3 => hK' _ _ ?_))
          have Q1 := Lib.hid q1
          have Q2 : Hid (Below w.heap.size w w') := Lib.hid (K2.out.grown q2 sz.out (fun k hk => (O2.out.lt k hk).1))
          clear q1 q2 q3
          go_wp2_with fail
          exact ⟨⟨2, by omega, rfl, Lib.hid (by simpa using Q1.out), Q2⟩, by simp [intOf]⟩
        · go_wp2
          go_ret
          exact ⟨_, rfl, by simpa using O2.out, K2.out⟩
end Pane
end Go.Proofs.Ytnheehodgkagfaa
