/-
  The document's Panes (easelref06): a key's panes, by rising windows.
-/
import Derived.Test.YtbdocnkpjlpfmaaGreatRgSettle
namespace Go.Proofs.YtbdocnkpjlpfmaaGreat
open Go.ChangeShapes Go.WideShapes Go.ChangeAt Go.RowKit
namespace Rg
open Small Foot Pane Grp
set_option linter.unusedVariables false

abbrev ofKey (key : ByteArray) (R : List Pn) : List Pn := R.filter fun p => decide (p.key = key)
/-- p's window is ahead of q's -/
abbrev Ahd (p q : Pn) : Prop := p.s < q.s ∨ (p.s = q.s ∧ p.e < q.e)
theorem cmp_neg {p q : Pn} : decide (Spn.cmpW p.s p.e q.s q.e < 0) = decide (Ahd p q) := by
  simp only [Spn.cmpW, Spn.cmp3, Ahd]
  rw [Bool.eq_iff_iff]
  simp only [decide_eq_true_eq]
  split
  · omega
  · split
    · omega
    · split
      · omega
      · split <;> omega
/-- all from k on are behind p -/
def Beh (p : Pn) (P : List Pn) (k : Nat) : Prop := ∀ j q, k ≤ j → P[j]? = some q → Ahd p q
theorem beh_at {p : Pn} {P : List Pn} {k : Nat} (R : Rises P) (hk : k ≤ P.length) (h : Beh p P k) (ne : ∀ x ∈ P, ¬ Eq2 x p.s p.e) (stop : ∀ q, 0 < k → P[k - 1]? = some q → ¬ Ahd p q) : At P p.s p.e k := by
  refine ⟨hk, fun i x hi hx => ?_, fun i x hi hx => ?_⟩
  · obtain ⟨q, hq⟩ := at_some (L := P) (i := k - 1) (by omega)
    have h1 := stop q (by omega) hq
    have h2 := ne q (List.mem_of_getElem? hq)
    by_cases e : i = k - 1
    · subst e
      rw [hx] at hq
      obtain rfl := Option.some.inj hq
      simp only [Ahd, Eq2, Ah] at *
      omega
    · have h3 := R.at (by omega : i < k - 1) hx hq
      simp only [Ahd, Eq2, Ah] at *
      omega
  · have := h i x hi hx
    simp only [Ahd, Ah] at *
    omega
/-- a key's panes among the first i -/
structure PSt (key : ByteArray) (R : List Pn) (i : Nat) (P : List Pn) : Prop where
  perm : P.Perm (ofKey key (R.take i))
  up : Rises P
theorem PSt.not {key : ByteArray} {R P : List Pn} {i : Nat} {p : Pn} (h : PSt key R i P) (hp : R[i]? = some p) (hk : p.key ≠ key) : PSt key R (i + 1) P := by
  refine ⟨?_, h.up⟩
  rw [List.take_add_one, hp]
  simp only [ofKey, List.filter_append, Option.toList_some, List.filter_cons, List.filter_nil]
  simpa [hk] using h.perm
theorem PSt.fresh {key : ByteArray} {R P : List Pn} {i : Nat} {p : Pn} (h : PSt key R i P) (hp : R[i]? = some p) (hk : p.key = key) (D : (ofKey key R).Pairwise fun p q => ¬ Eq2 p q.s q.e) : ∀ x ∈ P, ¬ Eq2 x p.s p.e := by
  intro x hx
  have hx := h.perm.mem_iff.1 hx
  have e : ofKey key R = ofKey key (R.take i) ++ ofKey key (R.drop i) := by rw [ofKey, ofKey, ofKey, ← List.filter_append, List.take_append_drop]
  rw [e] at D
  refine (List.pairwise_append.1 D).2.2 x hx p ?_
  refine List.mem_filter.2 ⟨?_, by simpa using hk⟩
  rw [List.mem_iff_getElem?]
  exact ⟨0, by rw [List.getElem?_drop]; simpa using hp⟩
theorem PSt.yes {key : ByteArray} {R P : List Pn} {i k : Nat} {p : Pn} (h : PSt key R i P) (hp : R[i]? = some p) (hk : p.key = key) (ne : ∀ x ∈ P, ¬ Eq2 x p.s p.e) (a : At P p.s p.e k) : PSt key R (i + 1) (P.take k ++ p :: P.drop k) := by
  refine ⟨?_, rises_ins h.up a ne⟩
  rw [List.take_add_one, hp]
  simp only [ofKey, List.filter_append, Option.toList_some, List.filter_cons, List.filter_nil]
  simp only [hk, decide_true, if_true]
  refine List.perm_middle.trans ((List.Perm.cons p ?_).trans (List.perm_append_singleton p _).symm)
  rw [List.take_append_drop]
  exact h.perm
theorem PSt.len {key : ByteArray} {R P : List Pn} {i : Nat} (h : PSt key R i P) : P.length ≤ R.length := by
  rw [h.perm.length_eq]
  have := List.length_filter_le (fun p : Pn => decide (p.key = key)) (R.take i)
  rw [List.length_take] at this
  simp only [ofKey]
  omega

set_option maxRecDepth 100000 in
set_option maxHeartbeats 8000000 in
theorem panes_ok (gr : Nat) (cf : C8) (lv : Value) (R : List Pn) (b : Nat) (key : ByteArray) (w : World) (H : Hid (Rg w gr cf lv R b)) (hn : R.length ≤ 10000) (D : Hid ((ofKey key R).Pairwise fun p q => ¬ Eq2 p q.s q.e)) :
    Calls Tryz.prog 17 #[gp gr, .string key] w fun r w' => ∃ v' P, r = .returned v' ∧ P.Perm (ofKey key R) ∧ Rises P ∧ Sl.Own Pn.k w.heap.size w' v' P ∧ Below w.heap.size w w' := by
  obtain ⟨AV, cv, hv⟩ := H.out.list.len
  subst hv
  go_enter Tryz.func17, Tryz.ntmps17
  go_wp2_with fail
  go_loopw [5, 6] (fun so si wr => ∃ (i : Nat) (P : List Pn), i ≤ R.length ∧ si = .int .i64 i ∧ Hid (PSt key R i P) ∧ Hid (Sl.Own Pn.k w.heap.size wr so P) ∧ Hid (Below w.heap.size w wr)) (fun _ si _ => R.length - (intOf si).toNat)
  case atStart => exact ⟨0, [], Nat.zero_le _, rfl, Lib.hid ⟨by simp [ofKey], List.Pairwise.nil⟩, Lib.hid (Sl.Own.nil _ _ _), Lib.hid (Below.refl _ _)⟩
  case round =>
    obtain ⟨i, P, hi, rfl, PP, O, K⟩ := hrel
    have G1 := Lib.hid (H.out.next K.out)
    have c8 := G1.out.lies.cell (i := 8) rfl
    obtain ⟨bo, -, io⟩ := O.out.is
    obtain ⟨AO, co, hv⟩ := io.len
    subst hv
    have IO := Lib.hid io
    clear io
    by_cases hlt : i < R.length
    · obtain ⟨off, cap', he, h2, h3, h4, hcell⟩ := G1.out.list.some_ Pn.ok (by omega)
      obtain ⟨rfl, rfl⟩ : AV = some ⟨b, off, none⟩ ∧ cv = cap' := by simpa using he
      obtain ⟨p, hp⟩ := at_some hlt
      have HP := Lib.hid hp
      have CELL := Lib.hid (Tmr.pane_cells hp hcell)
      obtain ⟨x0, -, -, -, -, -, -⟩ := CELL.out
      have i0 : (i : Int) < R.length := by omega
      have hpl := PP.out.len
      clear hcell he h2 h3 h4 hp
      by_cases hk : p.key = key
      · have hkk : (p.key.toList == key.toList) = true := by simp [hk]
        have NE := Lib.hid (PP.out.fresh HP.out hk D.out)
        have HK := Lib.hid hk
        clear hk
        go_wp2_with fail
        go_loopw [7] (fun sa wk => ∃ k : Nat, k ≤ P.length ∧ sa = .int .i64 k ∧ Hid (Beh p P k) ∧ Hid (Below wr.heap.size wr wk)) (fun sa _ => (intOf sa).toNat)
        case atStart => exact ⟨P.length, Nat.le_refl _, rfl, Lib.hid (fun j q hj hq => absurd (lt_of_at hq) (by omega)), Lib.hid (Below.refl _ _)⟩
        case round =>
          obtain ⟨k, hkl, rfl, BH, K2⟩ := hrel
          rcases Nat.eq_zero_or_pos k with hk0 | hk0
          · have STOP : Hid (∀ q, 0 < k → P[k - 1]? = some q → ¬ Ahd p q) := Lib.hid (fun q h => absurd h (by omega))
            subst hk0
            go_upto_region 7 with fail
            have f8 := Later.cell (cell_keep K2.out c8)
            refine wp_region_later (by kernel_rfl) (by kernel_rfl) ?_
            repeat (go_big_quiet_step (fail))
            refine wpQuiet_nil ?_
            rintro _ ⟨u, rfl⟩
            have K2 := Lib.hid (after K2.out u.below)
            clear f8
            generalize u.w = w3 at *
            have AT := Lib.hid (beh_at PP.out.up hkl BH.out NE.out STOP.out)
            have PN := Lib.hid (PP.out.yes HP.out HK.out NE.out AT.out)
            obtain ⟨v1, hr1, i1⟩ := Sl.run_take Pn.ok (IO.out.next K2.out) (m := 0) hkl
            have hr1 : ∀ w1, (Instr.slice Pn.k.t (.slice AO P.length co) none (some (.int .i64 0)) none).run Tryz.prog w1 = .ok v1 w1 := hr1
            obtain ⟨v2, hr2, i2⟩ := Sl.run_drop Pn.ok (IO.out.next K2.out) (m := 0) hkl
            have hr2 : ∀ w1, (Instr.slice Pn.k.t (.slice AO P.length co) (some (.int .i64 0)) none none).run Tryz.prog w1 = .ok v2 w1 := hr2
            have I1 := Lib.hid i1
            have I2 := Lib.hid i2
            obtain ⟨x0, x1, x2, x3, x4, x5, x6⟩ := CELL.out
            have x0 := cell_keep K2.out x0
            have x1 := cell_keep K2.out x1
            have x2 := cell_keep K2.out x2
            have x3 := cell_keep K2.out x3
            have x4 := cell_keep K2.out x4
            have x5 := cell_keep K2.out x5
            have x6 := cell_keep K2.out x6
            have c8 := cell_keep K2.out c8
            have KW := Lib.hid (after K.out K2.out)
            have hlk : Hid ((P.take 0).length ≤ 10000 ∧ (P.drop 0).length ≤ 10000) := Lib.hid (by rw [List.length_take, List.length_drop]; omega)
            clear i1 i2 STOP
            go_wp2_with (at_builtin; first
              | (refine wpList_plain rfl fun K' hK' => Sl.wp_append_empty (K := Pn.k) Pn.ok (.tmp 52) (.tmp 55) rfl (base := w3.heap.size) (b := w3.heap.size) (l2 := P.take 0) rfl (by exact heap_alloc_new _ _) (Nat.le_refl _) (by exact I1.out.next (below1 _ _)) (by have := hlk.out; omega) (by simp) (fun va wa y1 y2 => hK' _ _ ?_); have O1 := Lib.hid y1; have K3 := Lib.hid (after (below1 w3 _) y2); clear y1 y2; have x0 := cell_keep K3.out x0; have x1 := cell_keep K3.out x1; have x2 := cell_keep K3.out x2; have x3 := cell_keep K3.out x3; have x4 := cell_keep K3.out x4; have x5 := cell_keep K3.out x5; have x6 := cell_keep K3.out x6; have c8 := cell_keep K3.out c8)
              | (refine wpList_plain rfl fun K' hK' => Sl.wp_append (K := Pn.k) Pn.ok (.tmp 57) (.tmp 65) rfl (base := w3.heap.size) (l := P.take 0) (l2 := [p]) (by exact O1.out.next (below1 _ _)) (by exact Sl.Is.one Pn.ok (x := p) (Lies.new _ _ _)) (by have := hlk.out; simp only [List.length_singleton]; omega) (by have := K3.out.size; simp; omega) (fun vb wb y1 y2 y3 => hK' _ _ ?_); have O2 := Lib.hid y1; have K4 := Lib.hid ((after K3.out (below1 _ _)).grown y2 (by have := K3.out.size; simp; omega) (fun b hb => (O1.out.lt b hb).1)); clear y1 y2 y3)
              | (refine wpList_plain rfl fun K' hK' => Sl.wp_append (K := Pn.k) Pn.ok (.tmp 67) (.tmp 70) rfl (base := w3.heap.size) (l := P.take 0 ++ [p]) (l2 := P.drop 0) (by exact O2.out) (by exact I2.out.next K4.out) (by have := hlk.out; simp only [List.length_append, List.length_singleton]; omega) (by exact K4.out.size) (fun vc wc y1 y2 y3 => hK' _ _ ?_); have O3 := Lib.hid y1; have K5 := Lib.hid (K4.out.grown y2 K4.out.size (fun b hb => (O2.out.lt b hb).1)); clear y1 y2 y3))
            exact ⟨⟨i + 1, _, by omega, by go_num, PN, Lib.hid (by have := own_base2 O3.out KW.out.size; rwa [List.append_assoc] at this), Lib.hid (after KW.out K5.out)⟩, by simp [intOf]; omega⟩
          · obtain ⟨k, rfl⟩ : ∃ k', k = k' + 1 := ⟨k - 1, by omega⟩
            obtain ⟨q, hq⟩ := at_some (L := P) (i := k) (by omega)
            obtain ⟨offo, capo, heo, -, -, -, hcello⟩ := (IO.out.next K2.out).some_ Pn.ok (by omega)
            obtain ⟨rfl, rfl⟩ : AO = some ⟨bo, offo, none⟩ ∧ co = capo := by simpa using heo
            obtain ⟨-, y1, y2, -, -, -, -⟩ := Tmr.pane_cells hq hcello
            obtain ⟨-, x1, x2, -, -, -, -⟩ := CELL.out
            have f1 := Later.cell (cell_keep K2.out x1)
            have f2 := Later.cell (cell_keep K2.out x2)
            have f8 := Later.cell (cell_keep K2.out c8)
            have g1 := Later.cell y1
            have g2 := Later.cell y2
            obtain ⟨cv2, hcv⟩ : ∃ z, z = Spn.cmpW p.s p.e q.s q.e := ⟨_, rfl⟩
            have CM : Hid (∀ w, Calls Tryz.prog 34 #[win p.s p.e, win q.s q.e] w fun r w' => r = .returned (.int .i64 cv2) ∧ Below w.heap.size w w') := Lib.hid fun w => by rw [hcv]; exact RefSpan.comp_ok p.s p.e q.s q.e w
            have CV := Lib.hid hcv
            have HQ := Lib.hid hq
            have k00 : (0 : Int) ≤ k := by omega
            have k01 : (k : Int) ≤ 10000 := by omega
            have k02 : (k : Int) < P.length := by omega
            have kd : decide ((0 : Int) < (k : Int) + 1) = true := decide_eq_true (by omega)
            clear hcello heo x1 x2 y1 y2 hcv hq hk0
            go_upto_region 7 with fail
            refine wp_region_later (by kernel_rfl) (by kernel_rfl) ?_
            repeat (go_big_quiet_step (with_reducible exact Later.call _ (CM.out _)))
            refine wpQuiet_nil ?_
            rintro _ ⟨u, rfl⟩
            have K2 := Lib.hid (after K2.out u.below)
            clear f1 f2 f8 g1 g2
            generalize u.w = w3 at *
            by_cases hA : Ahd p q
            · have e1 : decide (cv2 < 0) = true := by rw [CV.out, cmp_neg]; exact decide_eq_true hA
              have e2 : cv2 < 0 := of_decide_eq_true e1
              have BH2 : Hid (Beh p P k) := Lib.hid (fun j x hj hx => by
                by_cases e : j = k
                · subst e
                  rw [HQ.out] at hx
                  obtain rfl := Option.some.inj hx
                  exact hA
                · exact BH.out j x (by omega) hx)
              clear hA
              go_wp2_with fail
              exact ⟨⟨k, by omega, by go_num, BH2, K2⟩, by simp [intOf]⟩
            · have e1 : decide (cv2 < 0) = false := by rw [CV.out, cmp_neg]; exact decide_eq_false hA
              have e2 : ¬ cv2 < 0 := of_decide_eq_false e1
              have STOP : Hid (∀ x, 0 < k + 1 → P[k + 1 - 1]? = some x → ¬ Ahd p x) := Lib.hid (fun x _ hx => by
                rw [show k + 1 - 1 = k from rfl, HQ.out] at hx
                obtain rfl := Option.some.inj hx
                exact hA)
              clear hA
              have AT := Lib.hid (beh_at PP.out.up hkl BH.out NE.out STOP.out)
              have PN := Lib.hid (PP.out.yes HP.out HK.out NE.out AT.out)
              obtain ⟨v1, hr1, i1⟩ := Sl.run_take Pn.ok (IO.out.next K2.out) (m := (k + 1)) hkl
              have hr1 : ∀ w1, (Instr.slice Pn.k.t (.slice (some ⟨bo, offo, none⟩) P.length co) none (some (.int .i64 ((k : Int) + 1))) none).run Tryz.prog w1 = .ok v1 w1 := hr1
              obtain ⟨v2, hr2, i2⟩ := Sl.run_drop Pn.ok (IO.out.next K2.out) (m := (k + 1)) hkl
              have hr2 : ∀ w1, (Instr.slice Pn.k.t (.slice (some ⟨bo, offo, none⟩) P.length co) (some (.int .i64 ((k : Int) + 1))) none none).run Tryz.prog w1 = .ok v2 w1 := hr2
              have I1 := Lib.hid i1
              have I2 := Lib.hid i2
              obtain ⟨x0, x1, x2, x3, x4, x5, x6⟩ := CELL.out
              have x0 := cell_keep K2.out x0
              have x1 := cell_keep K2.out x1
              have x2 := cell_keep K2.out x2
              have x3 := cell_keep K2.out x3
              have x4 := cell_keep K2.out x4
              have x5 := cell_keep K2.out x5
              have x6 := cell_keep K2.out x6
              have c8 := cell_keep K2.out c8
              have KW := Lib.hid (after K.out K2.out)
              have hlk : Hid ((P.take (k + 1)).length ≤ 10000 ∧ (P.drop (k + 1)).length ≤ 10000) := Lib.hid (by rw [List.length_take, List.length_drop]; omega)
              clear i1 i2 STOP
              go_wp2_with (at_builtin; first
                | (refine wpList_plain rfl fun K' hK' => Sl.wp_append_empty (K := Pn.k) Pn.ok (.tmp 52) (.tmp 55) rfl (base := w3.heap.size) (b := w3.heap.size) (l2 := P.take (k + 1)) rfl (by exact heap_alloc_new _ _) (Nat.le_refl _) (by exact I1.out.next (below1 _ _)) (by have := hlk.out; omega) (by simp) (fun va wa y1 y2 => hK' _ _ ?_); have O1 := Lib.hid y1; have K3 := Lib.hid (after (below1 w3 _) y2); clear y1 y2; have x0 := cell_keep K3.out x0; have x1 := cell_keep K3.out x1; have x2 := cell_keep K3.out x2; have x3 := cell_keep K3.out x3; have x4 := cell_keep K3.out x4; have x5 := cell_keep K3.out x5; have x6 := cell_keep K3.out x6; have c8 := cell_keep K3.out c8)
                | (refine wpList_plain rfl fun K' hK' => Sl.wp_append (K := Pn.k) Pn.ok (.tmp 57) (.tmp 65) rfl (base := w3.heap.size) (l := P.take (k + 1)) (l2 := [p]) (by exact O1.out.next (below1 _ _)) (by exact Sl.Is.one Pn.ok (x := p) (Lies.new _ _ _)) (by have := hlk.out; simp only [List.length_singleton]; omega) (by have := K3.out.size; simp; omega) (fun vb wb y1 y2 y3 => hK' _ _ ?_); have O2 := Lib.hid y1; have K4 := Lib.hid ((after K3.out (below1 _ _)).grown y2 (by have := K3.out.size; simp; omega) (fun b hb => (O1.out.lt b hb).1)); clear y1 y2 y3)
                | (refine wpList_plain rfl fun K' hK' => Sl.wp_append (K := Pn.k) Pn.ok (.tmp 67) (.tmp 70) rfl (base := w3.heap.size) (l := P.take (k + 1) ++ [p]) (l2 := P.drop (k + 1)) (by exact O2.out) (by exact I2.out.next K4.out) (by have := hlk.out; simp only [List.length_append, List.length_singleton]; omega) (by exact K4.out.size) (fun vc wc y1 y2 y3 => hK' _ _ ?_); have O3 := Lib.hid y1; have K5 := Lib.hid (K4.out.grown y2 K4.out.size (fun b hb => (O2.out.lt b hb).1)); clear y1 y2 y3))
              exact ⟨⟨i + 1, _, by omega, by go_num, PN, Lib.hid (by have := own_base2 O3.out KW.out.size; rwa [List.append_assoc] at this), Lib.hid (after KW.out K5.out)⟩, by simp [intOf]; omega⟩
      · have hkk : (p.key.toList == key.toList) = false := by
          rw [beq_eq_false_iff_ne]
          exact fun q => hk (Pn.bytes_ext.1 q)
        have PN := Lib.hid (PP.out.not HP.out hk)
        clear hk
        go_wp2_with fail
        exact ⟨⟨i + 1, P, by omega, by go_num, PN, O, K⟩, by simp [intOf]; omega⟩
    · obtain rfl : i = R.length := by omega
      go_wp2_with fail
      go_ret
      exact ⟨_, P, rfl, by have := PP.out.perm; rwa [List.take_length] at this, PP.out.up, O.out, K.out⟩
end Rg
end Go.Proofs.YtbdocnkpjlpfmaaGreat
