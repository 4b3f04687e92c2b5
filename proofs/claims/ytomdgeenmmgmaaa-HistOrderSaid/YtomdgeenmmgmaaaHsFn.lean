/-
  hist.inTurn and hist.Fine.
-/
import Derived.Test.YtomdgeenmmgmaaaHsTurn
namespace Go.Proofs.Ytomdgeenmmgmaaa
open Go.ChangeShapes Go.WideShapes Go.ChangeAt Go.RowKit
set_option maxRecDepth 100000
set_option linter.unusedVariables false
namespace Hs
open Small
set_option maxHeartbeats 3200000 in
theorem turn_ok (v : Value) (L : List Ev) (w : World) (H : Hid (Evs w v L)) (hn : L.length ≤ 1000) (HF : Hid (∀ e ∈ L, Fit e)) :
    Calls Try.prog 14 #[v] w fun r w' => Tells (Turn L L.length) r ∧ Below w.heap.size w w' := by
  obtain ⟨A, cap, rfl, HA⟩ := H.out.lit
  clear H
  obtain ⟨n, hn2⟩ : ∃ n, L.length = n := ⟨_, rfl⟩
  rw [hn2] at hn ⊢
  have HN : Hid (L.length = n) := hn2
  clear hn2
  have M0 : Hid (Mn (w.alloc (.map #[] 0)) w.heap.size (las L 0) 0) := Lib.hid (Mn.made w)
  have K0 : Hid (Below w.heap.size w (w.alloc (.map #[] 0))) := Lib.hid (below1 w _)
  have hm := run_makeMap (P := Try.prog) 40 w
  go_enter Try.func14, Try.ntmps14
  go_wp2
  clear hm
  generalize w.alloc (.map #[] 0) = w1 at M0 K0 ⊢
  generalize hm0 : w.heap.size = m at M0 ⊢
  have HM0 : Hid (w.heap.size = m) := hm0
  clear hm0
  go_loopg [11] n (fun g s11 wr => ∃ i c : Nat, s11 = .int .i64 i ∧ i ≤ n ∧ n - i ≤ g ∧ c ≤ i ∧ Hid (Turn L i) ∧ Hid (Mn wr m (las L i) c) ∧ Hid (Below w.heap.size w wr))
  case atStart => exact ⟨0, 0, rfl, Nat.zero_le _, Nat.le_refl _, Nat.le_refl _, Lib.hid fun j hj => by omega, M0, K0⟩
  case round =>
    obtain ⟨i, c, rfl, hin, hg, hci, HT, HM, HK⟩ := hrel
    by_cases hlt : i < n
    · have hltz : (i : Int) < (n : Int) := by omega
      obtain ⟨b, off, rfl, hb, h1⟩ := HA.out i (by rw [HN.out]; exact hlt)
      have EA : Hid (EvAt wr b (off + i * 14) (E L i)) := Lib.hid fun j u hj => cell_keep HK.out (h1 j u hj)
      clear h1
      have fc : Hid (Wf (E L i).c) := Lib.hid (HF.out _ (get_mem (by rw [HN.out]; exact hlt))).2.1
      have hmw : Hid (m < wr.heap.size) := Lib.hid HM.out.lt
      cases hl : las L i (E L i).c with
      | none =>
        have HL : Hid (las L i (E L i).c = none) := hl
        clear hl
        by_cases h0 : (E L i).n = 0
        · have hn0 : ((E L i).n != 0) = false := by simp [h0]
          have HT1 : Hid (Turn L (i + 1)) := Lib.hid ((turn_none HT.out HL.out).2 h0)
          clear h0
          go_wp2_with (first | (refine BigFrame.wpList_want rfl fun K' hK' => wp_load _ rfl rfl EA.out (hK' _ _ ?_)) | (refine BigFrame.wpList_want rfl fun K' hK' => wp_store (E L i) _ _ rfl rfl rfl (Lies.new wr 33 ez) rfl (fun W2 z1 z2 => hK' _ _ ?_); have KW := Lib.hid (below_over (below1 wr _) z2 (Nat.le_refl _) (by simp)); have E5 := Lib.hid (EvAt.lies z1); have d1 := E5.out.c; have d2 := E5.out.n; clear z1 z2) | (refine BigFrame.wpList_want rfl fun K' hK' => wp_look _ _ (E L i).c none (.int .i64 0) false rfl rfl rfl (HM.out.next KW.out) fc.out HL.out rfl rfl (hK' _ _ ?_)))
          go_quiet (fail)
          go_wp2_with (first | (refine BigFrame.wpList_want rfl fun K' hK' => wp_keep _ _ _ (E L i).c i rfl rfl rfl rfl ((HM.out.next KW.out).kept rfl) fc.out (by omega) (fun w5 c5 z1 z2 z3 => hK' _ _ ?_)))
          have M5 : Hid (Mn w5 m (las L (i + 1)) c5) := Lib.hid z1
          have K5 : Hid (Below w.heap.size w w5) := Lib.hid (below_over ((HK.out.trans (KW.out.mono HK.out.size)).trans (below_drewN _ _ _)) z3 (by rw [HM0.out]; exact Nat.le_refl _) (by have := KW.out.size; have := hmw.out; have := HM0.out; show w.heap.size ≤ W2.heap.size; omega))
          clear z1 z3
          go_roundg (n - (i + 1))
          case measure => omega
          case rel => exact ⟨i + 1, c5, by go_num, by omega, Nat.le_refl _, by omega, HT1, M5, K5⟩
        · have hn0 : ((E L i).n != 0) = true := by simp [h0]
          have HT1 : Hid (¬ Turn L (i + 1)) := Lib.hid fun h => h0 ((turn_none HT.out HL.out).1 h)
          clear h0
          go_wp2_with (first | (refine BigFrame.wpList_want rfl fun K' hK' => wp_load _ rfl rfl EA.out (hK' _ _ ?_)) | (refine BigFrame.wpList_want rfl fun K' hK' => wp_store (E L i) _ _ rfl rfl rfl (Lies.new wr 33 ez) rfl (fun W2 z1 z2 => hK' _ _ ?_); have KW := Lib.hid (below_over (below1 wr _) z2 (Nat.le_refl _) (by simp)); have E5 := Lib.hid (EvAt.lies z1); have d1 := E5.out.c; have d2 := E5.out.n; clear z1 z2) | (refine BigFrame.wpList_want rfl fun K' hK' => wp_look _ _ (E L i).c none (.int .i64 0) false rfl rfl rfl (HM.out.next KW.out) fc.out HL.out rfl rfl (hK' _ _ ?_)))
          go_quiet (fail)
          go_wp2
          go_ret
          exact ⟨⟨false, rfl, by simp; exact fun h => HT1.out (turn_less h (by have := HN.out; omega))⟩, (HK.out.trans (KW.out.mono HK.out.size)).trans (below_drewN _ _ _)⟩
      | some j =>
        have HL : Hid (las L i (E L i).c = some j) := hl
        have hj := (las_some hl).1
        have bj : (j : Int) < (n : Int) := by omega
        clear hl
        obtain ⟨b', off', e', hb', h2⟩ := HA.out j (by rw [HN.out]; omega)
        obtain ⟨rfl, rfl⟩ : b = b' ∧ off = off' := by injection e' with e'; injection e' with e1 e2; exact ⟨e1, e2⟩
        have EJ : Hid (EvAt wr b (off + j * 14) (E L j)) := Lib.hid fun t u ht => cell_keep HK.out (h2 t u ht)
        clear h2 e' hb'
        have hc : Hid (∀ w', Calls Try.prog 22 #[(E L j).v, (E L i).v] w' fun r w'' => r = .returned (.bool (nx (E L j) (E L i))) ∧ Below w'.heap.size w' w'') := Lib.hid fun w' => next_ok (E L j) (E L i) w'
        cases hx : nx (E L j) (E L i) with
        | true =>
          have HT1 : Hid (Turn L (i + 1)) := Lib.hid ((turn_some HT.out HL.out).2 hx)
          rw [hx] at hc
          clear hx
          go_wp2_with (first | (refine BigFrame.wpList_want rfl fun K' hK' => wp_load _ rfl rfl EA.out (hK' _ _ ?_)) | (refine BigFrame.wpList_want rfl fun K' hK' => wp_store (E L i) _ _ rfl rfl rfl (Lies.new wr 33 ez) rfl (fun W2 z1 z2 => hK' _ _ ?_); have KW := Lib.hid (below_over (below1 wr _) z2 (Nat.le_refl _) (by simp)); have E5 := Lib.hid (EvAt.lies z1); have d1 := E5.out.c; have d2 := E5.out.n; clear z1 z2) | (refine BigFrame.wpList_want rfl fun K' hK' => wp_look _ _ (E L i).c (some j) (.int .i64 j) true rfl rfl rfl (HM.out.next KW.out) fc.out HL.out rfl rfl (hK' _ _ ?_)))
          have EJ2 := Lib.hid (EJ.out.next KW.out)
          refine wp_region_later (by kernel_rfl) (by kernel_rfl) ?_
          have d3 := Later.cell d1
          have d4 := Later.cell d2
          repeat (first | (refine BigFrame.wpQuiet_want rfl fun K hK => quiet_load _ rfl rfl EJ2.out (hK _ ?_); simp only [Act.put, List.setIfInBounds_toArray, List.set_cons_zero, List.set_cons_succ]) | (refine BigFrame.wpQuiet_want rfl fun K hK => quiet_load _ rfl rfl E5.out (hK _ ?_); simp only [Act.put, List.setIfInBounds_toArray, List.set_cons_zero, List.set_cons_succ]) | go_big_quiet_step (with_reducible exact Later.call _ (hc.out _)))
          refine wpQuiet_nil ?_
          rintro w' ⟨u, rfl⟩
          have KU := Lib.hid u.below
          have MU := Lib.hid ((HM.out.next KW.out).next u.below)
          have d5 := Later.cell d1 u
          generalize u.w = w4 at KU MU d5 ⊢
          clear d3 d4 d1 d2 u
          go_wp2_with (first | (refine BigFrame.wpList_want rfl fun K' hK' => wp_keep _ _ _ (E L i).c i rfl rfl rfl rfl MU.out fc.out (by omega) (fun w5 c5 z1 z2 z3 => hK' _ _ ?_)))
          have M5 : Hid (Mn w5 m (las L (i + 1)) c5) := Lib.hid z1
          have K5 : Hid (Below w.heap.size w w5) := Lib.hid (below_over ((HK.out.trans (KW.out.mono HK.out.size)).trans (KU.out.mono (Nat.le_trans HK.out.size KW.out.size))) z3 (by rw [HM0.out]; exact Nat.le_refl _) (Nat.le_trans HK.out.size (Nat.le_trans KW.out.size KU.out.size)))
          clear z1 z3
          go_roundg (n - (i + 1))
          case measure => omega
          case rel => exact ⟨i + 1, c5, by go_num, by omega, Nat.le_refl _, by omega, HT1, M5, K5⟩
        | false =>
          have HT1 : Hid (¬ Turn L (i + 1)) := Lib.hid fun h => absurd ((turn_some HT.out HL.out).1 h) (by rw [hx]; decide)
          rw [hx] at hc
          clear hx
          go_wp2_with (first | (refine BigFrame.wpList_want rfl fun K' hK' => wp_load _ rfl rfl EA.out (hK' _ _ ?_)) | (refine BigFrame.wpList_want rfl fun K' hK' => wp_store (E L i) _ _ rfl rfl rfl (Lies.new wr 33 ez) rfl (fun W2 z1 z2 => hK' _ _ ?_); have KW := Lib.hid (below_over (below1 wr _) z2 (Nat.le_refl _) (by simp)); have E5 := Lib.hid (EvAt.lies z1); have d1 := E5.out.c; have d2 := E5.out.n; clear z1 z2) | (refine BigFrame.wpList_want rfl fun K' hK' => wp_look _ _ (E L i).c (some j) (.int .i64 j) true rfl rfl rfl (HM.out.next KW.out) fc.out HL.out rfl rfl (hK' _ _ ?_)))
          have EJ2 := Lib.hid (EJ.out.next KW.out)
          refine wp_region_later (by kernel_rfl) (by kernel_rfl) ?_
          have d3 := Later.cell d1
          have d4 := Later.cell d2
          repeat (first | (refine BigFrame.wpQuiet_want rfl fun K hK => quiet_load _ rfl rfl EJ2.out (hK _ ?_); simp only [Act.put, List.setIfInBounds_toArray, List.set_cons_zero, List.set_cons_succ]) | (refine BigFrame.wpQuiet_want rfl fun K hK => quiet_load _ rfl rfl E5.out (hK _ ?_); simp only [Act.put, List.setIfInBounds_toArray, List.set_cons_zero, List.set_cons_succ]) | go_big_quiet_step (with_reducible exact Later.call _ (hc.out _)))
          refine wpQuiet_nil ?_
          rintro w' ⟨u, rfl⟩
          have KU := Lib.hid u.below
          generalize u.w = w4 at KU ⊢
          clear d3 d4 d1 d2 u
          go_wp2
          go_ret
          exact ⟨⟨false, rfl, by simp; exact fun h => HT1.out (turn_less h (by have := HN.out; omega))⟩, (HK.out.trans (KW.out.mono HK.out.size)).trans (KU.out.mono (Nat.le_trans HK.out.size KW.out.size))⟩
    · have hltz : ¬ (i : Int) < (n : Int) := by omega
      obtain rfl : i = n := by omega
      go_wp2
      go_ret
      exact ⟨⟨true, rfl, by simp; exact HT.out⟩, HK.out⟩

set_option maxHeartbeats 1600000 in
theorem fine_ok (v : Value) (L : List Ev) (w : World) (H : Hid (Evs w v L)) (hn : L.length ≤ 1000) (HF : Hid (∀ e ∈ L, Fit e)) :
    Calls Try.prog 6 #[v] w fun r w' => Tells (Fine L) r ∧ Below w.heap.size w w' := by
  obtain ⟨A, cap, rfl⟩ := H.out.len
  have h1 : ∀ w', Below w.heap.size w w' → Calls Try.prog 13 #[.slice A L.length cap] w' fun r w'' => Tells (Nb L (ord L L.length)) r ∧ Below w'.heap.size w' w'' := fun w' k => apart_ok _ L w' (Lib.hid (H.out.next k)) hn
  have h2 : ∀ w', Below w.heap.size w w' → Calls Try.prog 14 #[.slice A L.length cap] w' fun r w'' => Tells (Turn L L.length) r ∧ Below w'.heap.size w' w'' := fun w' k => turn_ok _ L w' (Lib.hid (H.out.next k)) hn HF
  have H1 := Lib.hid h1
  have H2 := Lib.hid h2
  clear h1 h2
  go_enter Try.func6, Try.ntmps6
  go_wp2_with fail
  refine (contains_ok _ L w H hn).mono ?_
  rintro r w1 ⟨⟨x, rfl, hx⟩, k1⟩
  have X := Lib.hid hx
  clear hx
  cases x with
  | true =>
    go_wp2
    go_ret
    exact ⟨⟨false, rfl, by simp; intro h; exact absurd h.1 (X.out.1 (by first | rfl | trivial))⟩, k1⟩
  | false =>
    have HA : Hid (Alone L) := Lib.hid (Classical.byContradiction fun h => by have := X.out.2 h; cases this)
    clear X
    go_wp2_with fail
    refine (H1.out _ k1).mono ?_
    rintro r w2 ⟨⟨y, rfl, hy⟩, k2⟩
    have Y := Lib.hid hy
    clear hy
    cases y with
    | false =>
      go_wp2
      go_ret
      exact ⟨⟨false, rfl, by simp; intro h; exact absurd (Y.out.2 h.2.1) (by decide)⟩, after k1 k2⟩
    | true =>
      go_wp2_with fail
      refine (H2.out _ (after k1 k2)).mono ?_
      rintro r w3 ⟨⟨z, rfl, hz⟩, k3⟩
      have Z := Lib.hid hz
      clear hz
      go_wp2
      go_ret
      exact ⟨⟨z, rfl, ⟨fun h => ⟨HA.out, Y.out.1 (by first | rfl | trivial), Z.out.1 h⟩, fun h => Z.out.2 h.2.2⟩⟩, after (after k1 k2) k3⟩
end Hs
end Go.Proofs.Ytomdgeenmmgmaaa
