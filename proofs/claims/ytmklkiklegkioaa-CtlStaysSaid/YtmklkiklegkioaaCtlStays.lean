/-
  CtlStays: the watermark never falls; what is closed stays so; whoever holds it does, till they drop it.
  (No premise: at every list of deeds.)
-/
import Derived.Test.YtmklkiklegkioaaUp16
import Derived.Test.YtmklkiklegkioaaLaid
import Derived.Deep.RegionHeld3
namespace Go.Proofs.Ytmklkiklegkioaa.ctlStays
open Go.ChangeShapes Go.WideShapes Go.ChangeAt Go.RowKit Small Foot Ct
set_option linter.unusedVariables false
set_option maxRecDepth 100000

/-- the control at g -/
structure St (w0 : World) (g : Nat) (m k : Int) (h c : Bool) (w : World) : Prop where
  tab : Is w g m k h c
  far : w0.heap.size ≤ g
  below : Below w0.heap.size w0 w
section
variable {w0 w w' : World} {g : Nat} {m k m' k' : Int} {h c h' c' : Bool}
theorem St.next (H : St w0 g m k h c w) (e : Below w.heap.size w w') : St w0 g m k h c w' := ⟨H.tab.next e, H.far, after H.below e⟩
theorem St.call (H : St w0 g m k h c w) (t : Is w' g m' k' h' c') (e : Moves (Fp g) (Fp g) w w') : St w0 g m' k' h' c' w' :=
  ⟨t, H.far, H.below.trans (e.below (fun i hi => by rw [hi]; exact H.far) H.below.size)⟩
end

set_option maxHeartbeats 16000000 in
theorem walk (x : Option Addr × Nat × Nat × (Nat → Deed)) (w : World) (hx : Opens.IsRows dl 3 DFits w x) :
    Calls Try.prog 4 #[.slice x.1 x.2.1 x.2.2.1] w fun r w' => r = .returned (.bool true) ∧ Below w.heap.size w w' := by
  obtain ⟨AL, ln, cp, f⟩ := x
  obtain ⟨hm, hf, hc⟩ := hx
  simp only at hm hf hc ⊢
  have HF := Lib.hid hf
  have HC := Lib.hid hc
  clear hf hc
  go_enter Try.func4, Try.ntmps4
  go_wp2_with fail
  refine (up_ok w).mono ?_
  rintro r w1 ⟨rfl, k1⟩
  have K1 := Lib.hid k1
  clear k1
  go_wp2_with fail
  refine (new_ok w1).mono ?_
  rintro r w2 ⟨rfl, b2, k2⟩
  have T2 : Hid (St w w1.heap.size (-9223372036854775808) 0 false false w2) := Lib.hid ⟨b2, K1.out.size, after K1.out k2⟩
  generalize w1.heap.size = g at *
  clear b2 k2 K1
  by_cases hn : 150 < ln
  · have hnz : (150 : Int) < (ln : Int) := by omega
    go_wp2
    go_ret
    exact ⟨rfl, T2.out.below⟩
  have hnz : ¬ (150 : Int) < (ln : Int) := by omega
  clear hn
  go_wp2_with fail
  go_loopw [5] (fun si wr => ∃ (jx : Nat) (m k : Int) (h c : Bool), jx ≤ ln ∧ si = .int .i64 jx ∧ Hid (St w g m k h c wr)) (fun si _ => ln - (intOf si).toNat)
  case atStart => exact ⟨0, _, _, _, _, by omega, rfl, T2⟩
  case round =>
    clear T2
    obtain ⟨jx, m, k, h, c, hi, rfl, T⟩ := hrel
    by_cases hlt : jx < ln
    · obtain ⟨lb, lo, rfl, hcell⟩ := HC.out (by omega)
      have c0 := hcell jx hlt 0 _ rfl
      have c1 := hcell jx hlt 1 _ rfl
      have c2 := hcell jx hlt 2 _ rfl
      rw [Nat.add_zero] at c0
      rw [← Nat.add_assoc] at c1 c2
      have fx := Lib.hid (HF.out jx hlt)
      obtain ⟨y, hy⟩ : ∃ y, y = f jx := ⟨_, rfl⟩
      rw [← hy] at c0 c1 c2 fx
      clear hy hcell
      obtain ⟨p, q, r⟩ := y
      have c0 := cell_keep T.out.below c0
      have c1 := cell_keep T.out.below c1
      have c2 := cell_keep T.out.below c2
      have i0 : (jx : Int) < (ln : Int) := by omega
      have j0 : (jx : Int) ≤ 150 := by omega
      have j1 : (0 : Int) ≤ (jx : Int) := by omega
      simp only at c0 c1 c2
      have T5 := Lib.hid (T.out.next (below1 wr (Obj.cells #[.int .i64 p, .int .i64 q, .int .i64 r] 27)))
      have D5 : Hid (Lies (wr.alloc (Obj.cells #[.int .i64 p, .int .i64 q, .int .i64 r] 27)) wr.heap.size 27 [.int .i64 p, .int .i64 q, .int .i64 r]) := Lib.hid (Lies.new _ _ _)
      have NE : Hid (¬ wr.heap.size = g) := Lib.hid (by have := T.out.tab.lt; omega)
      go_wp2_with fail
      clear c0 c1 c2
      generalize wr.alloc (Obj.cells #[.int .i64 p, .int .i64 q, .int .i64 r] 27) = w4 at *
      generalize wr.heap.size = bd at *
      refine (holder_ok (Lib.hid T5.out.tab)).mono ?_
      rintro r' w5 ⟨rfl, k5⟩
      have T6 := Lib.hid (T5.out.next k5)
      have D6 := Lib.hid (D5.out.next k5)
      clear k5 T5 D5 T
      have e0 := D6.out.cell (i := 0) rfl
      have e1 := D6.out.cell (i := 1) rfl
      have e2 := D6.out.cell (i := 2) rfl
      go_wp2_with fail
      refine (mark_ok (Lib.hid T6.out.tab)).mono ?_
      rintro r' _ ⟨rfl, rfl⟩
      go_wp2_with fail
      refine (closed_ok (Lib.hid T6.out.tab)).mono ?_
      rintro r' _ ⟨rfl, rfl⟩
      go_wp2_with fail
      refine (pick_det p 8 _ fx.out.1 (by decide) (by decide)).mono ?_
      rintro r' _ ⟨rfl, rfl⟩
      obtain ⟨v, hv⟩ : ∃ v, v = pk p 8 := ⟨_, rfl⟩
      have hv8 := pk_in (c := p) (n := 8) (by decide)
      rw [← hv] at hv8
      rw [← hv]
      clear hv
      have hvv : v = 0 ∨ v = 1 ∨ v = 2 ∨ v = 3 ∨ v = 7 ∨ (4 ≤ v ∧ v < 7) := by omega
      have hm0 : ¬ m < m := by omega
      clear hv8
      rcases hvv with hw | hw | hw | hw | hw | hw
      · obtain rfl : v = 0 := hw
        cases c with
        | false =>
          as_aux_lemma =>
            cases h with
            | false =>
              go_wp2_with fail
              refine (hold_free (Lib.hid T6.out.tab) q).mono ?_
              rintro r' w7 ⟨rfl, b7, m7⟩
              clear e0 e1 e2
              have T7 := Lib.hid (T6.out.call b7 m7)
              have D7 := Lib.hid (m7.lies NE.out D6.out)
              have e0 := D7.out.cell (i := 0) rfl
              have e1 := D7.out.cell (i := 1) rfl
              have e2 := D7.out.cell (i := 2) rfl
              clear b7 m7 T6 D6
              go_wp2_with fail
              refine (holder_ok (Lib.hid T7.out.tab)).mono ?_
              rintro r' w8 ⟨rfl, k8⟩
              have T8 := Lib.hid (T7.out.next k8)
              clear k8
              go_wp2_with fail
              refine (mark_ok (Lib.hid T8.out.tab)).mono ?_
              rintro r' _ ⟨rfl, rfl⟩
              go_wp2_with (first | (go_at_call 14; refine (closed_ok (Lib.hid T8.out.tab)).mono ?_; rintro r' _ ⟨rfl, rfl⟩) | fail)
              exact ⟨⟨jx + 1, m, q, true, false, by omega, by go_num, T8⟩, by first | (simp [intOf]; done) | (simp [intOf]; omega)⟩
            | true =>
              go_wp2_with fail
              refine (hold_held (Lib.hid T6.out.tab) q).mono ?_
              rintro r' _ ⟨rfl, rfl⟩
              go_wp2_with fail
              refine (holder_ok (Lib.hid T6.out.tab)).mono ?_
              rintro r' w8 ⟨rfl, k8⟩
              have T8 := Lib.hid (T6.out.next k8)
              clear k8
              go_wp2_with fail
              refine (mark_ok (Lib.hid T8.out.tab)).mono ?_
              rintro r' _ ⟨rfl, rfl⟩
              go_wp2_with (first | (go_at_call 14; refine (closed_ok (Lib.hid T8.out.tab)).mono ?_; rintro r' _ ⟨rfl, rfl⟩) | fail)
              exact ⟨⟨jx + 1, m, k, true, false, by omega, by go_num, T8⟩, by first | (simp [intOf]; done) | (simp [intOf]; omega)⟩
        | true =>
          as_aux_lemma =>
            cases h with
            | false =>
              go_wp2_with fail
              refine (hold_free (Lib.hid T6.out.tab) q).mono ?_
              rintro r' w7 ⟨rfl, b7, m7⟩
              clear e0 e1 e2
              have T7 := Lib.hid (T6.out.call b7 m7)
              have D7 := Lib.hid (m7.lies NE.out D6.out)
              have e0 := D7.out.cell (i := 0) rfl
              have e1 := D7.out.cell (i := 1) rfl
              have e2 := D7.out.cell (i := 2) rfl
              clear b7 m7 T6 D6
              go_wp2_with fail
              refine (holder_ok (Lib.hid T7.out.tab)).mono ?_
              rintro r' w8 ⟨rfl, k8⟩
              have T8 := Lib.hid (T7.out.next k8)
              clear k8
              go_wp2_with fail
              refine (mark_ok (Lib.hid T8.out.tab)).mono ?_
              rintro r' _ ⟨rfl, rfl⟩
              go_wp2_with (first | (go_at_call 14; refine (closed_ok (Lib.hid T8.out.tab)).mono ?_; rintro r' _ ⟨rfl, rfl⟩) | fail)
              exact ⟨⟨jx + 1, m, q, true, true, by omega, by go_num, T8⟩, by first | (simp [intOf]; done) | (simp [intOf]; omega)⟩
            | true =>
              go_wp2_with fail
              refine (hold_held (Lib.hid T6.out.tab) q).mono ?_
              rintro r' _ ⟨rfl, rfl⟩
              go_wp2_with fail
              refine (holder_ok (Lib.hid T6.out.tab)).mono ?_
              rintro r' w8 ⟨rfl, k8⟩
              have T8 := Lib.hid (T6.out.next k8)
              clear k8
              go_wp2_with fail
              refine (mark_ok (Lib.hid T8.out.tab)).mono ?_
              rintro r' _ ⟨rfl, rfl⟩
              go_wp2_with (first | (go_at_call 14; refine (closed_ok (Lib.hid T8.out.tab)).mono ?_; rintro r' _ ⟨rfl, rfl⟩) | fail)
              exact ⟨⟨jx + 1, m, k, true, true, by omega, by go_num, T8⟩, by first | (simp [intOf]; done) | (simp [intOf]; omega)⟩
      · obtain rfl : v = 1 := hw
        cases c with
        | false =>
          as_aux_lemma =>
            cases h with
            | false =>
              go_wp2_with fail
              refine (hold_free (Lib.hid T6.out.tab) q).mono ?_
              rintro r' w7 ⟨rfl, b7, m7⟩
              clear e0 e1 e2
              have T7 := Lib.hid (T6.out.call b7 m7)
              have D7 := Lib.hid (m7.lies NE.out D6.out)
              have e0 := D7.out.cell (i := 0) rfl
              have e1 := D7.out.cell (i := 1) rfl
              have e2 := D7.out.cell (i := 2) rfl
              clear b7 m7 T6 D6
              go_wp2_with fail
              refine (holder_ok (Lib.hid T7.out.tab)).mono ?_
              rintro r' w8 ⟨rfl, k8⟩
              have T8 := Lib.hid (T7.out.next k8)
              clear k8
              go_wp2_with fail
              refine (mark_ok (Lib.hid T8.out.tab)).mono ?_
              rintro r' _ ⟨rfl, rfl⟩
              go_wp2_with (first | (go_at_call 14; refine (closed_ok (Lib.hid T8.out.tab)).mono ?_; rintro r' _ ⟨rfl, rfl⟩) | fail)
              exact ⟨⟨jx + 1, m, q, true, false, by omega, by go_num, T8⟩, by first | (simp [intOf]; done) | (simp [intOf]; omega)⟩
            | true =>
              go_wp2_with fail
              refine (hold_held (Lib.hid T6.out.tab) q).mono ?_
              rintro r' _ ⟨rfl, rfl⟩
              go_wp2_with fail
              refine (holder_ok (Lib.hid T6.out.tab)).mono ?_
              rintro r' w8 ⟨rfl, k8⟩
              have T8 := Lib.hid (T6.out.next k8)
              clear k8
              go_wp2_with fail
              refine (mark_ok (Lib.hid T8.out.tab)).mono ?_
              rintro r' _ ⟨rfl, rfl⟩
              go_wp2_with (first | (go_at_call 14; refine (closed_ok (Lib.hid T8.out.tab)).mono ?_; rintro r' _ ⟨rfl, rfl⟩) | fail)
              exact ⟨⟨jx + 1, m, k, true, false, by omega, by go_num, T8⟩, by first | (simp [intOf]; done) | (simp [intOf]; omega)⟩
        | true =>
          as_aux_lemma =>
            cases h with
            | false =>
              go_wp2_with fail
              refine (hold_free (Lib.hid T6.out.tab) q).mono ?_
              rintro r' w7 ⟨rfl, b7, m7⟩
              clear e0 e1 e2
              have T7 := Lib.hid (T6.out.call b7 m7)
              have D7 := Lib.hid (m7.lies NE.out D6.out)
              have e0 := D7.out.cell (i := 0) rfl
              have e1 := D7.out.cell (i := 1) rfl
              have e2 := D7.out.cell (i := 2) rfl
              clear b7 m7 T6 D6
              go_wp2_with fail
              refine (holder_ok (Lib.hid T7.out.tab)).mono ?_
              rintro r' w8 ⟨rfl, k8⟩
              have T8 := Lib.hid (T7.out.next k8)
              clear k8
              go_wp2_with fail
              refine (mark_ok (Lib.hid T8.out.tab)).mono ?_
              rintro r' _ ⟨rfl, rfl⟩
              go_wp2_with (first | (go_at_call 14; refine (closed_ok (Lib.hid T8.out.tab)).mono ?_; rintro r' _ ⟨rfl, rfl⟩) | fail)
              exact ⟨⟨jx + 1, m, q, true, true, by omega, by go_num, T8⟩, by first | (simp [intOf]; done) | (simp [intOf]; omega)⟩
            | true =>
              go_wp2_with fail
              refine (hold_held (Lib.hid T6.out.tab) q).mono ?_
              rintro r' _ ⟨rfl, rfl⟩
              go_wp2_with fail
              refine (holder_ok (Lib.hid T6.out.tab)).mono ?_
              rintro r' w8 ⟨rfl, k8⟩
              have T8 := Lib.hid (T6.out.next k8)
              clear k8
              go_wp2_with fail
              refine (mark_ok (Lib.hid T8.out.tab)).mono ?_
              rintro r' _ ⟨rfl, rfl⟩
              go_wp2_with (first | (go_at_call 14; refine (closed_ok (Lib.hid T8.out.tab)).mono ?_; rintro r' _ ⟨rfl, rfl⟩) | fail)
              exact ⟨⟨jx + 1, m, k, true, true, by omega, by go_num, T8⟩, by first | (simp [intOf]; done) | (simp [intOf]; omega)⟩
      · obtain rfl : v = 2 := hw
        cases c with
        | false =>
          as_aux_lemma =>
            cases h with
            | false =>
              go_wp2_with fail
              refine (drop_free (Lib.hid T6.out.tab) q).mono ?_
              rintro r' _ ⟨rfl, rfl⟩
              go_wp2_with fail
              refine (holder_ok (Lib.hid T6.out.tab)).mono ?_
              rintro r' w8 ⟨rfl, k8⟩
              have T8 := Lib.hid (T6.out.next k8)
              clear k8
              go_wp2_with fail
              refine (mark_ok (Lib.hid T8.out.tab)).mono ?_
              rintro r' _ ⟨rfl, rfl⟩
              go_wp2_with (first | (go_at_call 14; refine (closed_ok (Lib.hid T8.out.tab)).mono ?_; rintro r' _ ⟨rfl, rfl⟩) | fail)
              exact ⟨⟨jx + 1, m, k, false, false, by omega, by go_num, T8⟩, by first | (simp [intOf]; done) | (simp [intOf]; omega)⟩
            | true =>
              by_cases hq : k = q
              · subst hq
                go_wp2_with fail
                refine (drop_ok (Lib.hid T6.out.tab)).mono ?_
                rintro r' w7 ⟨rfl, b7, m7⟩
                clear e0 e1 e2
                have T7 := Lib.hid (T6.out.call b7 m7)
                have D7 := Lib.hid (m7.lies NE.out D6.out)
                have e0 := D7.out.cell (i := 0) rfl
                have e1 := D7.out.cell (i := 1) rfl
                have e2 := D7.out.cell (i := 2) rfl
                clear b7 m7 T6 D6
                go_wp2_with fail
                refine (holder_ok (Lib.hid T7.out.tab)).mono ?_
                rintro r' w8 ⟨rfl, k8⟩
                have T8 := Lib.hid (T7.out.next k8)
                clear k8
                go_wp2_with fail
                refine (mark_ok (Lib.hid T8.out.tab)).mono ?_
                rintro r' _ ⟨rfl, rfl⟩
                go_wp2_with (first | (go_at_call 14; refine (closed_ok (Lib.hid T8.out.tab)).mono ?_; rintro r' _ ⟨rfl, rfl⟩) | fail)
                exact ⟨⟨jx + 1, m, 0, false, false, by omega, by go_num, T8⟩, by first | (simp [intOf]; done) | (simp [intOf]; omega)⟩
              · have hq2 : (k == q) = false := by simpa using hq
                clear hq
                go_wp2_with fail
                refine (drop_other (Lib.hid T6.out.tab) q hq2).mono ?_
                rintro r' _ ⟨rfl, rfl⟩
                go_wp2_with fail
                refine (holder_ok (Lib.hid T6.out.tab)).mono ?_
                rintro r' w8 ⟨rfl, k8⟩
                have T8 := Lib.hid (T6.out.next k8)
                clear k8
                go_wp2_with fail
                refine (mark_ok (Lib.hid T8.out.tab)).mono ?_
                rintro r' _ ⟨rfl, rfl⟩
                go_wp2_with (first | (go_at_call 14; refine (closed_ok (Lib.hid T8.out.tab)).mono ?_; rintro r' _ ⟨rfl, rfl⟩) | fail)
                exact ⟨⟨jx + 1, m, k, true, false, by omega, by go_num, T8⟩, by first | (simp [intOf]; done) | (simp [intOf]; omega)⟩
        | true =>
          as_aux_lemma =>
            cases h with
            | false =>
              go_wp2_with fail
              refine (drop_free (Lib.hid T6.out.tab) q).mono ?_
              rintro r' _ ⟨rfl, rfl⟩
              go_wp2_with fail
              refine (holder_ok (Lib.hid T6.out.tab)).mono ?_
              rintro r' w8 ⟨rfl, k8⟩
              have T8 := Lib.hid (T6.out.next k8)
              clear k8
              go_wp2_with fail
              refine (mark_ok (Lib.hid T8.out.tab)).mono ?_
              rintro r' _ ⟨rfl, rfl⟩
              go_wp2_with (first | (go_at_call 14; refine (closed_ok (Lib.hid T8.out.tab)).mono ?_; rintro r' _ ⟨rfl, rfl⟩) | fail)
              exact ⟨⟨jx + 1, m, k, false, true, by omega, by go_num, T8⟩, by first | (simp [intOf]; done) | (simp [intOf]; omega)⟩
            | true =>
              by_cases hq : k = q
              · subst hq
                go_wp2_with fail
                refine (drop_ok (Lib.hid T6.out.tab)).mono ?_
                rintro r' w7 ⟨rfl, b7, m7⟩
                clear e0 e1 e2
                have T7 := Lib.hid (T6.out.call b7 m7)
                have D7 := Lib.hid (m7.lies NE.out D6.out)
                have e0 := D7.out.cell (i := 0) rfl
                have e1 := D7.out.cell (i := 1) rfl
                have e2 := D7.out.cell (i := 2) rfl
                clear b7 m7 T6 D6
                go_wp2_with fail
                refine (holder_ok (Lib.hid T7.out.tab)).mono ?_
                rintro r' w8 ⟨rfl, k8⟩
                have T8 := Lib.hid (T7.out.next k8)
                clear k8
                go_wp2_with fail
                refine (mark_ok (Lib.hid T8.out.tab)).mono ?_
                rintro r' _ ⟨rfl, rfl⟩
                go_wp2_with (first | (go_at_call 14; refine (closed_ok (Lib.hid T8.out.tab)).mono ?_; rintro r' _ ⟨rfl, rfl⟩) | fail)
                exact ⟨⟨jx + 1, m, 0, false, true, by omega, by go_num, T8⟩, by first | (simp [intOf]; done) | (simp [intOf]; omega)⟩
              · have hq2 : (k == q) = false := by simpa using hq
                clear hq
                go_wp2_with fail
                refine (drop_other (Lib.hid T6.out.tab) q hq2).mono ?_
                rintro r' _ ⟨rfl, rfl⟩
                go_wp2_with fail
                refine (holder_ok (Lib.hid T6.out.tab)).mono ?_
                rintro r' w8 ⟨rfl, k8⟩
                have T8 := Lib.hid (T6.out.next k8)
                clear k8
                go_wp2_with fail
                refine (mark_ok (Lib.hid T8.out.tab)).mono ?_
                rintro r' _ ⟨rfl, rfl⟩
                go_wp2_with (first | (go_at_call 14; refine (closed_ok (Lib.hid T8.out.tab)).mono ?_; rintro r' _ ⟨rfl, rfl⟩) | fail)
                exact ⟨⟨jx + 1, m, k, true, true, by omega, by go_num, T8⟩, by first | (simp [intOf]; done) | (simp [intOf]; omega)⟩
      · obtain rfl : v = 3 := hw
        cases c with
        | false =>
          as_aux_lemma =>
            cases h with
            | false =>
              go_wp2_with fail
              refine (drop_free (Lib.hid T6.out.tab) q).mono ?_
              rintro r' _ ⟨rfl, rfl⟩
              go_wp2_with fail
              refine (holder_ok (Lib.hid T6.out.tab)).mono ?_
              rintro r' w8 ⟨rfl, k8⟩
              have T8 := Lib.hid (T6.out.next k8)
              clear k8
              go_wp2_with fail
              refine (mark_ok (Lib.hid T8.out.tab)).mono ?_
              rintro r' _ ⟨rfl, rfl⟩
              go_wp2_with (first | (go_at_call 14; refine (closed_ok (Lib.hid T8.out.tab)).mono ?_; rintro r' _ ⟨rfl, rfl⟩) | fail)
              exact ⟨⟨jx + 1, m, k, false, false, by omega, by go_num, T8⟩, by first | (simp [intOf]; done) | (simp [intOf]; omega)⟩
            | true =>
              by_cases hq : k = q
              · subst hq
                go_wp2_with fail
                refine (drop_ok (Lib.hid T6.out.tab)).mono ?_
                rintro r' w7 ⟨rfl, b7, m7⟩
                clear e0 e1 e2
                have T7 := Lib.hid (T6.out.call b7 m7)
                have D7 := Lib.hid (m7.lies NE.out D6.out)
                have e0 := D7.out.cell (i := 0) rfl
                have e1 := D7.out.cell (i := 1) rfl
                have e2 := D7.out.cell (i := 2) rfl
                clear b7 m7 T6 D6
                go_wp2_with fail
                refine (holder_ok (Lib.hid T7.out.tab)).mono ?_
                rintro r' w8 ⟨rfl, k8⟩
                have T8 := Lib.hid (T7.out.next k8)
                clear k8
                go_wp2_with fail
                refine (mark_ok (Lib.hid T8.out.tab)).mono ?_
                rintro r' _ ⟨rfl, rfl⟩
                go_wp2_with (first | (go_at_call 14; refine (closed_ok (Lib.hid T8.out.tab)).mono ?_; rintro r' _ ⟨rfl, rfl⟩) | fail)
                exact ⟨⟨jx + 1, m, 0, false, false, by omega, by go_num, T8⟩, by first | (simp [intOf]; done) | (simp [intOf]; omega)⟩
              · have hq2 : (k == q) = false := by simpa using hq
                clear hq
                go_wp2_with fail
                refine (drop_other (Lib.hid T6.out.tab) q hq2).mono ?_
                rintro r' _ ⟨rfl, rfl⟩
                go_wp2_with fail
                refine (holder_ok (Lib.hid T6.out.tab)).mono ?_
                rintro r' w8 ⟨rfl, k8⟩
                have T8 := Lib.hid (T6.out.next k8)
                clear k8
                go_wp2_with fail
                refine (mark_ok (Lib.hid T8.out.tab)).mono ?_
                rintro r' _ ⟨rfl, rfl⟩
                go_wp2_with (first | (go_at_call 14; refine (closed_ok (Lib.hid T8.out.tab)).mono ?_; rintro r' _ ⟨rfl, rfl⟩) | fail)
                exact ⟨⟨jx + 1, m, k, true, false, by omega, by go_num, T8⟩, by first | (simp [intOf]; done) | (simp [intOf]; omega)⟩
        | true =>
          as_aux_lemma =>
            cases h with
            | false =>
              go_wp2_with fail
              refine (drop_free (Lib.hid T6.out.tab) q).mono ?_
              rintro r' _ ⟨rfl, rfl⟩
              go_wp2_with fail
              refine (holder_ok (Lib.hid T6.out.tab)).mono ?_
              rintro r' w8 ⟨rfl, k8⟩
              have T8 := Lib.hid (T6.out.next k8)
              clear k8
              go_wp2_with fail
              refine (mark_ok (Lib.hid T8.out.tab)).mono ?_
              rintro r' _ ⟨rfl, rfl⟩
              go_wp2_with (first | (go_at_call 14; refine (closed_ok (Lib.hid T8.out.tab)).mono ?_; rintro r' _ ⟨rfl, rfl⟩) | fail)
              exact ⟨⟨jx + 1, m, k, false, true, by omega, by go_num, T8⟩, by first | (simp [intOf]; done) | (simp [intOf]; omega)⟩
            | true =>
              by_cases hq : k = q
              · subst hq
                go_wp2_with fail
                refine (drop_ok (Lib.hid T6.out.tab)).mono ?_
                rintro r' w7 ⟨rfl, b7, m7⟩
                clear e0 e1 e2
                have T7 := Lib.hid (T6.out.call b7 m7)
                have D7 := Lib.hid (m7.lies NE.out D6.out)
                have e0 := D7.out.cell (i := 0) rfl
                have e1 := D7.out.cell (i := 1) rfl
                have e2 := D7.out.cell (i := 2) rfl
                clear b7 m7 T6 D6
                go_wp2_with fail
                refine (holder_ok (Lib.hid T7.out.tab)).mono ?_
                rintro r' w8 ⟨rfl, k8⟩
                have T8 := Lib.hid (T7.out.next k8)
                clear k8
                go_wp2_with fail
                refine (mark_ok (Lib.hid T8.out.tab)).mono ?_
                rintro r' _ ⟨rfl, rfl⟩
                go_wp2_with (first | (go_at_call 14; refine (closed_ok (Lib.hid T8.out.tab)).mono ?_; rintro r' _ ⟨rfl, rfl⟩) | fail)
                exact ⟨⟨jx + 1, m, 0, false, true, by omega, by go_num, T8⟩, by first | (simp [intOf]; done) | (simp [intOf]; omega)⟩
              · have hq2 : (k == q) = false := by simpa using hq
                clear hq
                go_wp2_with fail
                refine (drop_other (Lib.hid T6.out.tab) q hq2).mono ?_
                rintro r' _ ⟨rfl, rfl⟩
                go_wp2_with fail
                refine (holder_ok (Lib.hid T6.out.tab)).mono ?_
                rintro r' w8 ⟨rfl, k8⟩
                have T8 := Lib.hid (T6.out.next k8)
                clear k8
                go_wp2_with fail
                refine (mark_ok (Lib.hid T8.out.tab)).mono ?_
                rintro r' _ ⟨rfl, rfl⟩
                go_wp2_with (first | (go_at_call 14; refine (closed_ok (Lib.hid T8.out.tab)).mono ?_; rintro r' _ ⟨rfl, rfl⟩) | fail)
                exact ⟨⟨jx + 1, m, k, true, true, by omega, by go_num, T8⟩, by first | (simp [intOf]; done) | (simp [intOf]; omega)⟩
      · obtain rfl : v = 7 := hw
        cases h with
        | false =>
          cases c with
          | false =>
            as_aux_lemma =>
              go_wp2_with fail
              refine (shut_ok (Lib.hid T6.out.tab)).mono ?_
              rintro r' w7 ⟨rfl, b7, m7⟩
              clear e0 e1 e2
              have T7 := Lib.hid (T6.out.call b7 m7)
              have D7 := Lib.hid (m7.lies NE.out D6.out)
              have e0 := D7.out.cell (i := 0) rfl
              have e1 := D7.out.cell (i := 1) rfl
              have e2 := D7.out.cell (i := 2) rfl
              clear b7 m7 T6 D6
              go_wp2_with fail
              refine (holder_ok (Lib.hid T7.out.tab)).mono ?_
              rintro r' w8 ⟨rfl, k8⟩
              have T8 := Lib.hid (T7.out.next k8)
              clear k8
              go_wp2_with fail
              refine (mark_ok (Lib.hid T8.out.tab)).mono ?_
              rintro r' _ ⟨rfl, rfl⟩
              go_wp2_with (first | (go_at_call 14; refine (closed_ok (Lib.hid T8.out.tab)).mono ?_; rintro r' _ ⟨rfl, rfl⟩) | fail)
              exact ⟨⟨jx + 1, m, k, false, true, by omega, by go_num, T8⟩, by first | (simp [intOf]; done) | (simp [intOf]; omega)⟩
          | true =>
            as_aux_lemma =>
              go_wp2_with fail
              refine (shut_ok (Lib.hid T6.out.tab)).mono ?_
              rintro r' w7 ⟨rfl, b7, m7⟩
              clear e0 e1 e2
              have T7 := Lib.hid (T6.out.call b7 m7)
              have D7 := Lib.hid (m7.lies NE.out D6.out)
              have e0 := D7.out.cell (i := 0) rfl
              have e1 := D7.out.cell (i := 1) rfl
              have e2 := D7.out.cell (i := 2) rfl
              clear b7 m7 T6 D6
              go_wp2_with fail
              refine (holder_ok (Lib.hid T7.out.tab)).mono ?_
              rintro r' w8 ⟨rfl, k8⟩
              have T8 := Lib.hid (T7.out.next k8)
              clear k8
              go_wp2_with fail
              refine (mark_ok (Lib.hid T8.out.tab)).mono ?_
              rintro r' _ ⟨rfl, rfl⟩
              go_wp2_with (first | (go_at_call 14; refine (closed_ok (Lib.hid T8.out.tab)).mono ?_; rintro r' _ ⟨rfl, rfl⟩) | fail)
              exact ⟨⟨jx + 1, m, k, false, true, by omega, by go_num, T8⟩, by first | (simp [intOf]; done) | (simp [intOf]; omega)⟩
        | true =>
          cases c with
          | false =>
            as_aux_lemma =>
              go_wp2_with fail
              refine (shut_ok (Lib.hid T6.out.tab)).mono ?_
              rintro r' w7 ⟨rfl, b7, m7⟩
              clear e0 e1 e2
              have T7 := Lib.hid (T6.out.call b7 m7)
              have D7 := Lib.hid (m7.lies NE.out D6.out)
              have e0 := D7.out.cell (i := 0) rfl
              have e1 := D7.out.cell (i := 1) rfl
              have e2 := D7.out.cell (i := 2) rfl
              clear b7 m7 T6 D6
              go_wp2_with fail
              refine (holder_ok (Lib.hid T7.out.tab)).mono ?_
              rintro r' w8 ⟨rfl, k8⟩
              have T8 := Lib.hid (T7.out.next k8)
              clear k8
              go_wp2_with fail
              refine (mark_ok (Lib.hid T8.out.tab)).mono ?_
              rintro r' _ ⟨rfl, rfl⟩
              go_wp2_with (first | (go_at_call 14; refine (closed_ok (Lib.hid T8.out.tab)).mono ?_; rintro r' _ ⟨rfl, rfl⟩) | fail)
              exact ⟨⟨jx + 1, m, k, true, true, by omega, by go_num, T8⟩, by first | (simp [intOf]; done) | (simp [intOf]; omega)⟩
          | true =>
            as_aux_lemma =>
              go_wp2_with fail
              refine (shut_ok (Lib.hid T6.out.tab)).mono ?_
              rintro r' w7 ⟨rfl, b7, m7⟩
              clear e0 e1 e2
              have T7 := Lib.hid (T6.out.call b7 m7)
              have D7 := Lib.hid (m7.lies NE.out D6.out)
              have e0 := D7.out.cell (i := 0) rfl
              have e1 := D7.out.cell (i := 1) rfl
              have e2 := D7.out.cell (i := 2) rfl
              clear b7 m7 T6 D6
              go_wp2_with fail
              refine (holder_ok (Lib.hid T7.out.tab)).mono ?_
              rintro r' w8 ⟨rfl, k8⟩
              have T8 := Lib.hid (T7.out.next k8)
              clear k8
              go_wp2_with fail
              refine (mark_ok (Lib.hid T8.out.tab)).mono ?_
              rintro r' _ ⟨rfl, rfl⟩
              go_wp2_with (first | (go_at_call 14; refine (closed_ok (Lib.hid T8.out.tab)).mono ?_; rintro r' _ ⟨rfl, rfl⟩) | fail)
              exact ⟨⟨jx + 1, m, k, true, true, by omega, by go_num, T8⟩, by first | (simp [intOf]; done) | (simp [intOf]; omega)⟩
      · have g0 : (v == 0) = false := by simp; omega
        have g1 : (v == 1) = false := by simp; omega
        have g2 : (v == 2) = false := by simp; omega
        have g3 : (v == 3) = false := by simp; omega
        have g7 : (v == 7) = false := by simp; omega
        clear hw
        cases h with
        | false =>
          cases c with
          | false =>
            as_aux_lemma =>
              by_cases hx : m < r
              · have hm1 : ¬ r < m := by omega
                go_wp2_with fail
                refine (raise_ok (Lib.hid T6.out.tab) hx).mono ?_
                rintro r' w7 ⟨rfl, b7, m7⟩
                clear e0 e1 e2
                have T7 := Lib.hid (T6.out.call b7 m7)
                have D7 := Lib.hid (m7.lies NE.out D6.out)
                have e0 := D7.out.cell (i := 0) rfl
                have e1 := D7.out.cell (i := 1) rfl
                have e2 := D7.out.cell (i := 2) rfl
                clear b7 m7 T6 D6
                go_wp2_with fail
                refine (holder_ok (Lib.hid T7.out.tab)).mono ?_
                rintro r' w8 ⟨rfl, k8⟩
                have T8 := Lib.hid (T7.out.next k8)
                clear k8
                go_wp2_with fail
                refine (mark_ok (Lib.hid T8.out.tab)).mono ?_
                rintro r' _ ⟨rfl, rfl⟩
                go_wp2_with (first | (go_at_call 14; refine (closed_ok (Lib.hid T8.out.tab)).mono ?_; rintro r' _ ⟨rfl, rfl⟩) | fail)
                exact ⟨⟨jx + 1, r, k, false, false, by omega, by go_num, T8⟩, by first | (simp [intOf]; done) | (simp [intOf]; omega)⟩
              · have hx : r ≤ m := by omega
                go_wp2_with fail
                refine (raise_no (Lib.hid T6.out.tab) hx).mono ?_
                rintro r' _ ⟨rfl, rfl⟩
                go_wp2_with fail
                refine (holder_ok (Lib.hid T6.out.tab)).mono ?_
                rintro r' w8 ⟨rfl, k8⟩
                have T8 := Lib.hid (T6.out.next k8)
                clear k8
                go_wp2_with fail
                refine (mark_ok (Lib.hid T8.out.tab)).mono ?_
                rintro r' _ ⟨rfl, rfl⟩
                go_wp2_with (first | (go_at_call 14; refine (closed_ok (Lib.hid T8.out.tab)).mono ?_; rintro r' _ ⟨rfl, rfl⟩) | fail)
                exact ⟨⟨jx + 1, m, k, false, false, by omega, by go_num, T8⟩, by first | (simp [intOf]; done) | (simp [intOf]; omega)⟩
          | true =>
            as_aux_lemma =>
              by_cases hx : m < r
              · have hm1 : ¬ r < m := by omega
                go_wp2_with fail
                refine (raise_ok (Lib.hid T6.out.tab) hx).mono ?_
                rintro r' w7 ⟨rfl, b7, m7⟩
                clear e0 e1 e2
                have T7 := Lib.hid (T6.out.call b7 m7)
                have D7 := Lib.hid (m7.lies NE.out D6.out)
                have e0 := D7.out.cell (i := 0) rfl
                have e1 := D7.out.cell (i := 1) rfl
                have e2 := D7.out.cell (i := 2) rfl
                clear b7 m7 T6 D6
                go_wp2_with fail
                refine (holder_ok (Lib.hid T7.out.tab)).mono ?_
                rintro r' w8 ⟨rfl, k8⟩
                have T8 := Lib.hid (T7.out.next k8)
                clear k8
                go_wp2_with fail
                refine (mark_ok (Lib.hid T8.out.tab)).mono ?_
                rintro r' _ ⟨rfl, rfl⟩
                go_wp2_with (first | (go_at_call 14; refine (closed_ok (Lib.hid T8.out.tab)).mono ?_; rintro r' _ ⟨rfl, rfl⟩) | fail)
                exact ⟨⟨jx + 1, r, k, false, true, by omega, by go_num, T8⟩, by first | (simp [intOf]; done) | (simp [intOf]; omega)⟩
              · have hx : r ≤ m := by omega
                go_wp2_with fail
                refine (raise_no (Lib.hid T6.out.tab) hx).mono ?_
                rintro r' _ ⟨rfl, rfl⟩
                go_wp2_with fail
                refine (holder_ok (Lib.hid T6.out.tab)).mono ?_
                rintro r' w8 ⟨rfl, k8⟩
                have T8 := Lib.hid (T6.out.next k8)
                clear k8
                go_wp2_with fail
                refine (mark_ok (Lib.hid T8.out.tab)).mono ?_
                rintro r' _ ⟨rfl, rfl⟩
                go_wp2_with (first | (go_at_call 14; refine (closed_ok (Lib.hid T8.out.tab)).mono ?_; rintro r' _ ⟨rfl, rfl⟩) | fail)
                exact ⟨⟨jx + 1, m, k, false, true, by omega, by go_num, T8⟩, by first | (simp [intOf]; done) | (simp [intOf]; omega)⟩
        | true =>
          cases c with
          | false =>
            as_aux_lemma =>
              by_cases hx : m < r
              · have hm1 : ¬ r < m := by omega
                go_wp2_with fail
                refine (raise_ok (Lib.hid T6.out.tab) hx).mono ?_
                rintro r' w7 ⟨rfl, b7, m7⟩
                clear e0 e1 e2
                have T7 := Lib.hid (T6.out.call b7 m7)
                have D7 := Lib.hid (m7.lies NE.out D6.out)
                have e0 := D7.out.cell (i := 0) rfl
                have e1 := D7.out.cell (i := 1) rfl
                have e2 := D7.out.cell (i := 2) rfl
                clear b7 m7 T6 D6
                go_wp2_with fail
                refine (holder_ok (Lib.hid T7.out.tab)).mono ?_
                rintro r' w8 ⟨rfl, k8⟩
                have T8 := Lib.hid (T7.out.next k8)
                clear k8
                go_wp2_with fail
                refine (mark_ok (Lib.hid T8.out.tab)).mono ?_
                rintro r' _ ⟨rfl, rfl⟩
                go_wp2_with (first | (go_at_call 14; refine (closed_ok (Lib.hid T8.out.tab)).mono ?_; rintro r' _ ⟨rfl, rfl⟩) | fail)
                exact ⟨⟨jx + 1, r, k, true, false, by omega, by go_num, T8⟩, by first | (simp [intOf]; done) | (simp [intOf]; omega)⟩
              · have hx : r ≤ m := by omega
                go_wp2_with fail
                refine (raise_no (Lib.hid T6.out.tab) hx).mono ?_
                rintro r' _ ⟨rfl, rfl⟩
                go_wp2_with fail
                refine (holder_ok (Lib.hid T6.out.tab)).mono ?_
                rintro r' w8 ⟨rfl, k8⟩
                have T8 := Lib.hid (T6.out.next k8)
                clear k8
                go_wp2_with fail
                refine (mark_ok (Lib.hid T8.out.tab)).mono ?_
                rintro r' _ ⟨rfl, rfl⟩
                go_wp2_with (first | (go_at_call 14; refine (closed_ok (Lib.hid T8.out.tab)).mono ?_; rintro r' _ ⟨rfl, rfl⟩) | fail)
                exact ⟨⟨jx + 1, m, k, true, false, by omega, by go_num, T8⟩, by first | (simp [intOf]; done) | (simp [intOf]; omega)⟩
          | true =>
            as_aux_lemma =>
              by_cases hx : m < r
              · have hm1 : ¬ r < m := by omega
                go_wp2_with fail
                refine (raise_ok (Lib.hid T6.out.tab) hx).mono ?_
                rintro r' w7 ⟨rfl, b7, m7⟩
                clear e0 e1 e2
                have T7 := Lib.hid (T6.out.call b7 m7)
                have D7 := Lib.hid (m7.lies NE.out D6.out)
                have e0 := D7.out.cell (i := 0) rfl
                have e1 := D7.out.cell (i := 1) rfl
                have e2 := D7.out.cell (i := 2) rfl
                clear b7 m7 T6 D6
                go_wp2_with fail
                refine (holder_ok (Lib.hid T7.out.tab)).mono ?_
                rintro r' w8 ⟨rfl, k8⟩
                have T8 := Lib.hid (T7.out.next k8)
                clear k8
                go_wp2_with fail
                refine (mark_ok (Lib.hid T8.out.tab)).mono ?_
                rintro r' _ ⟨rfl, rfl⟩
                go_wp2_with (first | (go_at_call 14; refine (closed_ok (Lib.hid T8.out.tab)).mono ?_; rintro r' _ ⟨rfl, rfl⟩) | fail)
                exact ⟨⟨jx + 1, r, k, true, true, by omega, by go_num, T8⟩, by first | (simp [intOf]; done) | (simp [intOf]; omega)⟩
              · have hx : r ≤ m := by omega
                go_wp2_with fail
                refine (raise_no (Lib.hid T6.out.tab) hx).mono ?_
                rintro r' _ ⟨rfl, rfl⟩
                go_wp2_with fail
                refine (holder_ok (Lib.hid T6.out.tab)).mono ?_
                rintro r' w8 ⟨rfl, k8⟩
                have T8 := Lib.hid (T6.out.next k8)
                clear k8
                go_wp2_with fail
                refine (mark_ok (Lib.hid T8.out.tab)).mono ?_
                rintro r' _ ⟨rfl, rfl⟩
                go_wp2_with (first | (go_at_call 14; refine (closed_ok (Lib.hid T8.out.tab)).mono ?_; rintro r' _ ⟨rfl, rfl⟩) | fail)
                exact ⟨⟨jx + 1, m, k, true, true, by omega, by go_num, T8⟩, by first | (simp [intOf]; done) | (simp [intOf]; omega)⟩
    · obtain rfl : ln = jx := by omega
      go_wp2
      go_ret
      exact ⟨rfl, T.out.below⟩
theorem own : ownKnob Try.prog.godebug = none := by kernel_rfl

set_option maxRecDepth 100000 in
theorem lifted (os : Os) (started : os.Started) (H : Type) (enc : TypeId × Value → H) :
    ReturnsInHanded {} Try.checked os 4 .any (Rows.ctlStaysSpec.pre6 enc Try.prog Try.f4 Rows.ctlStaysRow.domain false) (Rows.ctlStaysSpec.post enc Try.prog Try.f4 false true false false) := by
  refine returnsInHanded_of_change (C := Try.checked) own started (by kernel_rfl) Try.func4
    (ChangeSpec.witness6 (enc := enc) (C := Try.checked) false ⟨#[], #[.slice none 0 0], []⟩ 8 (by kernel_rfl) (by kernel_rfl) (by kernel_rfl) (by kernel_rfl)) ?_
  intro W base args ds gs before hval0 hW hcnd _
  have hval : ∀ (j : Nat) t v, Try.f4.params[j]? = some t → args[j]? = some v → Value.okWide Try.prog W .any base t v := hval0
  have hW' := hW
  obtain ⟨p, q, hA0, hV, rfl, hfz, hnd⟩ := hW
  have hA : DataW.TrodAll enc Try.prog W 0 (fun _ => true) true Try.f4.params.toList args.toList ds p := hA0
  rw [Try.params4] at hA hval
  obtain ⟨v0, vs0, d0, ds0, p0, q0, hargs, rfl, rfl, h0, r0⟩ := trodAll_cons hA
  obtain ⟨rfl, rfl, rfl⟩ := trodAll_nil r0
  obtain rfl : args = #[v0] := by cases args; simp_all
  obtain ⟨rfl, rfl⟩ := trodVars_none hV
  obtain ⟨a0, rfl, w0⟩ := Opens.open_deeds (hval 0 22 v0 rfl rfl) h0
  clear hA0 hval0
  refine (walk a0 W w0).mono fun e W' ⟨he, hg⟩ => ?_
  subst he
  exact ⟨_, rfl, Laid.post Laid.laidOut (by kernel_rfl) rfl (by kernel_rfl) Try.underlying4 hW' ⟨rfl, rfl, rfl⟩ hg⟩

theorem over : Rows.ctlStaysRow.holds Try.pinned (OpenSpec.ofChange Rows.ctlStaysSpec) :=
  OpenClaim.holds_of_wide 4 Try.f4 rfl rfl rfl rfl rfl rfl rfl ⟨rfl, rfl, rfl, rfl, rfl⟩ rfl rfl rfl rfl rfl (by kernel_rfl) Try.func4 (by kernel_rfl)
    (of_decide_eq_true (by kernel_rfl)) (by unfold Func.isWrapper; first | (rw [if_pos (by decide +kernel)]; kernel_rfl) | (rw [if_neg (by decide +kernel)]; exact ⟨rfl, rfl⟩))
    (fun os started H enc _ => lifted os started H enc)

/-- ████ THE STATEMENT ████ -/
theorem proved : Rows.CtlStaysSaid :=
  over
#print axioms proved
end Go.Proofs.Ytmklkiklegkioaa.ctlStays
