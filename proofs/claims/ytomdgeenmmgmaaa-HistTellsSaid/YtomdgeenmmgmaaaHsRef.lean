/-
  The document's Fine (easelref12.Fine).
-/
import Derived.Test.YtomdgeenmmgmaaaHsFn
import Derived.Deep.DeepCutAuto
namespace Go.Proofs.Ytomdgeenmmgmaaa
open Go.ChangeShapes Go.WideShapes Go.ChangeAt Go.RowKit
set_option maxRecDepth 100000
set_option linter.unusedVariables false
namespace Hs
open Small
theorem doc_succ {L : List Ev} {i : Nat} : Doc L (i + 1) ↔ Doc L i ∧ At L i := by
  constructor
  · intro h
    exact ⟨fun j hj => h j (by omega), h i (by omega)⟩
  · rintro ⟨h1, h2⟩ j hj
    by_cases e : j = i
    · rw [e]; exact h2
    · exact h1 j (by omega)
theorem doc_less {L : List Ev} {k m : Nat} (h : Doc L m) (hk : k ≤ m) : Doc L k := fun i hi => h i (by omega)
/-- where the i-th is found out to be wrong -/
theorem no_doc {L : List Ev} {i n : Nat} (hi : i < n) (h : ¬ At L i) : ¬ Doc L n := fun H => h (H i hi)

set_option maxHeartbeats 6400000 in
theorem rfine_ok (v : Value) (L : List Ev) (w : World) (H : Hid (Evs w v L)) (hn : L.length ≤ 1000) :
    Calls Try.prog 7 #[v] w fun r w' => Tells (Doc L L.length) r ∧ Below w.heap.size w w' := by
  obtain ⟨A, cap, rfl, HA⟩ := H.out.lit
  clear H
  obtain ⟨n, hn2⟩ : ∃ n, L.length = n := ⟨_, rfl⟩
  rw [hn2] at hn ⊢
  have HN : Hid (L.length = n) := hn2
  clear hn2
  go_enter Try.func7, Try.ntmps7
  go_wp2
  go_loopg [3] n (fun g s3 wr => ∃ i : Nat, s3 = .int .i64 i ∧ i ≤ n ∧ n - i ≤ g ∧ Hid (Doc L i) ∧ Hid (Below w.heap.size w wr))
  case atStart => exact ⟨0, rfl, Nat.zero_le _, Nat.le_refl _, Lib.hid fun j hj => by omega, Lib.hid (Below.refl _ _)⟩
  case round =>
    obtain ⟨i, rfl, hin, hg, HD, HK⟩ := hrel
    by_cases hlt : i < n
    · have hltz : (i : Int) < (n : Int) := by omega
      obtain ⟨b, off, rfl, hb, h1⟩ := HA.out i (by rw [HN.out]; exact hlt)
      have EA : Hid (EvAt wr b (off + i * 14) (E L i)) := Lib.hid fun j u hj => cell_keep HK.out (h1 j u hj)
      clear h1
      go_upto_region 5 with (first | (refine BigFrame.wpList_want rfl fun K' hK' => wp_load _ rfl rfl EA.out (hK' _ _ ?_)) | (refine BigFrame.wpList_want rfl fun K' hK' => wp_store (E L i) _ _ rfl rfl rfl (Lies.new wr 33 ez) rfl (fun W2 z1 z2 => hK' _ _ ?_); have KW := Lib.hid (below_over (below1 wr _) z2 (Nat.le_refl _) (by simp)); have E5 := Lib.hid (EvAt.lies z1); clear z1 z2))
      have K2 : Hid (Below w.heap.size w W2) := Lib.hid (HK.out.trans (KW.out.mono HK.out.size))
      generalize wr.heap.size = g5 at E5 ⊢
      clear EA KW HK
      simp only [Act.put]
      go_cut [39] (fun s wx => s = .bool (bad2 (E L i)) ∧ W2 = wx)
      case first =>
        have d0 := E5.out.c
        have d1 := E5.out.n
        have d2 := E5.out.b
        have d3 := E5.out.p
        have d4 := E5.out.q
        have HB : Hid (bad2 (E L i) = (decide ((E L i).c < 0) || decide ((E L i).n < 0) || decide ((E L i).b < 1) || decide ((E L i).p < 0) || decide ((E L i).q < 0))) := Lib.hid rfl
        generalize (E L i).c = c at d0 HB ⊢
        generalize (E L i).n = m at d1 HB ⊢
        generalize (E L i).b = e at d2 HB ⊢
        generalize (E L i).p = p at d3 HB ⊢
        generalize (E L i).q = q at d4 HB ⊢
        simp only [Nat.zero_add] at d1 d2 d3 d4
        by_cases h1 : c < 0
        · go_wp2
          go_meet
          exact ⟨by rw [HB.out]; simp [h1], rfl⟩
        by_cases h2 : m < 0
        · go_wp2
          go_meet
          exact ⟨by rw [HB.out]; simp [h2], rfl⟩
        by_cases h3 : e < 1
        · go_wp2
          go_meet
          exact ⟨by rw [HB.out]; simp [h3], rfl⟩
        by_cases h4 : p < 0
        · go_wp2
          go_meet
          exact ⟨by rw [HB.out]; simp [h4], rfl⟩
        · go_wp2
          go_meet
          exact ⟨by rw [HB.out, decide_eq_false (show ¬ c < 0 by omega), decide_eq_false (show ¬ m < 0 by omega), decide_eq_false (show ¬ e < 1 by omega), decide_eq_false (show ¬ p < 0 by omega)]; rfl, rfl⟩
      case rest =>
        obtain ⟨rfl, rfl⟩ := hcut
        cases hb2 : bad2 (E L i) with
        | true =>
          have HX : Hid (¬ Doc L n) := Lib.hid (no_doc hlt fun h => by rw [h.1] at hb2; cases hb2)
          clear hb2
          go_wp2
          go_ret
          exact ⟨⟨false, rfl, by simp; exact HX.out⟩, K2.out⟩
        | false =>
          have HB2 : Hid (bad2 (E L i) = false) := hb2
          clear hb2
          go_upto_region 7 with fail
          go_cut [66] (fun s wx => s = .bool (bad3 (E L i)) ∧ W2 = wx)
          case first =>
            have d2 := E5.out.b
            have d3 := E5.out.p
            have d4 := E5.out.q
            have HB : Hid (bad3 (E L i) = ((decide (0 < (E L i).p) && decide ((E L i).p < (E L i).b)) || (decide (0 < (E L i).q) && (decide ((E L i).p = 0) || decide ((E L i).q < (E L i).p))))) := Lib.hid rfl
            generalize (E L i).b = e at d2 HB ⊢
            generalize (E L i).p = p at d3 HB ⊢
            generalize (E L i).q = q at d4 HB ⊢
            simp only [Nat.zero_add] at d2 d3 d4
            by_cases h1 : 0 < p
            · by_cases h2 : p < e
              · go_wp2
                go_meet
                exact ⟨by rw [HB.out]; simp [h1, h2], rfl⟩
              · by_cases h3 : 0 < q
                · have hz : (p == 0) = false := by rw [beq_eq_false_iff_ne]; omega
                  go_wp2
                  go_meet
                  exact ⟨by rw [HB.out, decide_eq_true h1, decide_eq_false (show ¬ p < e by omega), decide_eq_true h3, decide_eq_false (show ¬ p = 0 by omega)]; simp, rfl⟩
                · go_wp2
                  go_meet
                  exact ⟨by rw [HB.out, decide_eq_true h1, decide_eq_false (show ¬ p < e by omega), decide_eq_false (show ¬ 0 < q by omega)]; simp, rfl⟩
            · by_cases h3 : 0 < q
              · by_cases hp : p = 0
                · have hz : (p == 0) = true := by simp [hp]
                  have HP : Hid (p = 0) := hp
                  clear hp
                  go_wp2
                  go_meet
                  exact ⟨by rw [HB.out, decide_eq_false (show ¬ 0 < p by omega), decide_eq_true h3, decide_eq_true HP.out]; simp, rfl⟩
                · have hz : (p == 0) = false := by simp [hp]
                  go_wp2
                  go_meet
                  exact ⟨by rw [HB.out, decide_eq_false (show ¬ 0 < p by omega), decide_eq_true h3, decide_eq_false (show ¬ p = 0 by omega)]; simp, rfl⟩
              · go_wp2
                go_meet
                exact ⟨by rw [HB.out, decide_eq_false (show ¬ 0 < p by omega), decide_eq_false (show ¬ 0 < q by omega)]; simp, rfl⟩
          case rest =>
            obtain ⟨rfl, rfl⟩ := hcut
            cases hb3 : bad3 (E L i) with
            | true =>
              have HX : Hid (¬ Doc L n) := Lib.hid (no_doc hlt fun h => by rw [h.2.1] at hb3; cases hb3)
              clear hb3
              go_wp2
              go_ret
              exact ⟨⟨false, rfl, by simp; exact HX.out⟩, K2.out⟩
            | false =>
              have HB3 : Hid (bad3 (E L i) = false) := hb3
              clear hb3
              go_wp2
              go_loopg [5, 6] i (fun g s5 s6 wr2 => ∃ k : Nat, s5 = .int .i64 (cnt L i k : Int) ∧ s6 = .int .i64 k ∧ k ≤ i ∧ i - k ≤ g ∧ Hid (∀ j, j < k → Pr L i j) ∧ Hid (Below W2.heap.size W2 wr2))
              case atStart => exact ⟨0, rfl, rfl, Nat.zero_le _, Nat.le_refl _, Lib.hid fun j hj => by omega, Lib.hid (Below.refl _ _)⟩
              case round =>
                obtain ⟨k, rfl, rfl, hki, hg2, HPr, KR⟩ := hrel
                have E6 := Lib.hid (E5.out.next KR.out)
                have cle : Hid (cnt L i k ≤ k) := Lib.hid (cnt_le L i k)
                obtain ⟨ct, hct⟩ : ∃ ct, cnt L i k = ct := ⟨_, rfl⟩
                rw [hct] at cle ⊢
                have HC : Hid (cnt L i k = ct) := hct
                clear hct
                have cle2 : ct ≤ 1000 := Nat.le_trans cle.out (by omega)
                by_cases hlt2 : k < i
                · have hltz2 : (k : Int) < (i : Int) := by omega
                  obtain ⟨b', off', e', hb', h2⟩ := HA.out k (by rw [HN.out]; omega)
                  obtain ⟨rfl, rfl⟩ : b = b' ∧ off = off' := by injection e' with e'; injection e' with e1 e2; exact ⟨e1, e2⟩
                  have EK : Hid (EvAt wr b (off + k * 14) (E L k)) := Lib.hid fun t u ht => cell_keep (K2.out.trans (KR.out.mono K2.out.size)) (h2 t u ht)
                  clear h2 e' hb'
                  have bk : (k : Int) < (n : Int) := by omega
                  go_upto_region 13 with fail
                  go_cut [84] (fun s wx => s = .bool (decide (0 < (E L i).p) && decide ((E L k).p = (E L i).p)) ∧ Hid (Below W2.heap.size W2 wx))
                  case first =>
                    have d3 := E6.out.p
                    have k3 := EK.out.p
                    have HB : Hid ((decide (0 < (E L i).p) && decide ((E L k).p = (E L i).p)) = (decide (0 < (E L i).p) && decide ((E L k).p = (E L i).p))) := Lib.hid rfl
                    simp only [Nat.zero_add] at d3
                    by_cases h1 : 0 < (E L i).p
                    · by_cases h2 : (E L k).p = (E L i).p
                      · have hz : ((E L k).p == (E L i).p) = true := by simp [h2]
                        have H2 : Hid ((E L k).p = (E L i).p) := h2
                        have H1 : Hid (0 < (E L i).p) := h1
                        have hx : decide (0 < (E L i).p) = true := by simp [h1]
                        clear h2
                        go_quiet (fail)
                        go_wp2
                        go_meet
                        exact ⟨by rw [decide_eq_true H2.out, hx]; rfl, KR.out.trans (below_drewN _ _ _)⟩
                      · have hz : ((E L k).p == (E L i).p) = false := by simp [h2]
                        have H2 : Hid (¬ (E L k).p = (E L i).p) := h2
                        clear h2
                        go_quiet (fail)
                        go_wp2
                        go_meet
                        exact ⟨by rw [decide_eq_false H2.out, Bool.and_false], KR.out.trans (below_drewN _ _ _)⟩
                    · go_quiet (fail)
                      go_wp2
                      go_meet
                      exact ⟨by rw [decide_eq_false (show ¬ 0 < (E L i).p by omega), Bool.false_and], KR.out.trans (below_drewN _ _ _)⟩
                  case rest =>
                    obtain ⟨rfl, KX⟩ := hcut
                    have E7 := Lib.hid (E5.out.next KX.out)
                    have EK7 : Hid (EvAt wc b (off + k * 14) (E L k)) := Lib.hid fun t u ht => by
                      obtain ⟨b', off', e', hb', h2⟩ := HA.out k (by rw [HN.out]; omega)
                      obtain ⟨rfl, rfl⟩ : b = b' ∧ off = off' := by injection e' with e'; injection e' with e1 e2; exact ⟨e1, e2⟩
                      exact cell_keep (K2.out.trans (KX.out.mono K2.out.size)) (h2 t u ht)
                    clear E6 EK KR
                    by_cases hp : 0 < (E L i).p ∧ (E L k).p = (E L i).p
                    · have hd : (decide (0 < (E L i).p) && decide ((E L k).p = (E L i).p)) = true := by simp [hp.1, hp.2]
                      have HX : Hid (¬ Doc L n) := Lib.hid (no_doc hlt fun h => (h.2.2.1 k hlt2).1 hp)
                      rw [hd]
                      clear hd hp
                      go_wp2
                      go_ret
                      exact ⟨⟨false, rfl, by simp; exact HX.out⟩, K2.out.trans (KX.out.mono K2.out.size)⟩
                    · have hd : (decide (0 < (E L i).p) && decide ((E L k).p = (E L i).p)) = false := by
                        cases hd : (decide (0 < (E L i).p) && decide ((E L k).p = (E L i).p)) with
                        | false => rfl
                        | true => exact absurd (by simpa using hd) hp
                      have HP : Hid (¬ (0 < (E L i).p ∧ (E L k).p = (E L i).p)) := hp
                      rw [hd]
                      clear hd hp
                      have d0 := E7.out.c
                      have d2 := E7.out.b
                      have k0 := EK7.out.c
                      have k4 := EK7.out.q
                      simp only [Nat.zero_add] at d2
                      by_cases hc : (E L k).c = (E L i).c
                      · have hz : ((E L k).c != (E L i).c) = false := by simp [hc]
                        have HCC : Hid ((E L k).c = (E L i).c) := hc
                        clear hc
                        by_cases hq : (E L k).q = 0
                        · have hy : ((E L k).q == 0) = true := by simp [hq]
                          have HX : Hid (¬ Doc L n) := Lib.hid (no_doc hlt fun h => ((h.2.2.1 k hlt2).2 HCC.out).1 hq)
                          clear hq
                          go_wp2_with fail
                          go_quiet (fail)
                          have e0 : (wc.drewN nq).cell? ⟨b, off + k * 14 + 13, none⟩ = some (.int .i64 (E L k).q) := k4
                          go_wp2_with fail
                          go_quiet (fail)
                          go_wp2
                          go_ret
                          exact ⟨⟨false, rfl, by simp; exact HX.out⟩, (K2.out.trans (KX.out.mono K2.out.size)).trans ((below_drewN _ _ _).trans (below_drewN _ _ _))⟩
                        · have hy : ((E L k).q == 0) = false := by simp [hq]
                          have HQ : Hid ((E L k).q ≠ 0) := hq
                          clear hq
                          by_cases hb2 : (E L k).q < (E L i).b
                          · have HT : Hid (Pr L i k) := Lib.hid ⟨HP.out, fun _ => ⟨HQ.out, hb2⟩⟩
                            go_wp2_with fail
                            go_quiet (fail)
                            go_wp2_with fail
                            go_quiet (fail)
                            go_wp2
                            go_roundg (i - (k + 1))
                            case measure => omega
                            case rel => exact ⟨k + 1, by rw [cnt_succ, if_pos HCC.out, HC.out]; go_num, by go_num, by omega, Nat.le_refl _, Lib.hid fun j hj => by by_cases e : j = k; (· rw [e]; exact HT.out); (· exact HPr.out j (by omega)), Lib.hid (KX.out.trans (below_drewN _ _ _))⟩
                          · have HX : Hid (¬ Doc L n) := Lib.hid (no_doc hlt fun h => hb2 ((h.2.2.1 k hlt2).2 HCC.out).2)
                            go_wp2_with fail
                            go_quiet (fail)
                            go_wp2_with fail
                            go_quiet (fail)
                            go_wp2
                            go_ret
                            exact ⟨⟨false, rfl, by simp; exact HX.out⟩, (K2.out.trans (KX.out.mono K2.out.size)).trans ((below_drewN _ _ _).trans (below_drewN _ _ _))⟩
                      · have hz : ((E L k).c != (E L i).c) = true := by simp [hc]
                        have HT : Hid (Pr L i k) := Lib.hid ⟨HP.out, fun h => absurd h hc⟩
                        have HCC : Hid (¬ (E L k).c = (E L i).c) := hc
                        clear hc
                        go_wp2_with fail
                        go_quiet (fail)
                        go_wp2
                        go_roundg (i - (k + 1))
                        case measure => omega
                        case rel => exact ⟨k + 1, by rw [cnt_succ, if_neg HCC.out, HC.out]; rfl, by go_num, by omega, Nat.le_refl _, Lib.hid fun j hj => by by_cases e : j = k; (· rw [e]; exact HT.out); (· exact HPr.out j (by omega)), Lib.hid (KX.out.trans (below_drewN _ _ _))⟩
                · have hltz2 : ¬ (k : Int) < (i : Int) := by omega
                  obtain rfl : k = i := by omega
                  have d1 := E6.out.n
                  simp only [Nat.zero_add] at d1
                  by_cases hnn : (E L k).n = (ct : Int)
                  · have hz : ((E L k).n != (ct : Int)) = false := by simp [hnn]
                    have HT : Hid (Doc L (k + 1)) := Lib.hid (doc_succ.2 ⟨HD.out, HB2.out, HB3.out, HPr.out, by rw [HC.out]; exact hnn⟩)
                    clear hnn
                    go_wp2
                    go_roundg (n - (k + 1))
                    case measure => omega
                    case rel => exact ⟨k + 1, by go_num, by omega, Nat.le_refl _, HT, Lib.hid (K2.out.trans (KR.out.mono K2.out.size))⟩
                  · have hz : ((E L k).n != (ct : Int)) = true := by simp [hnn]
                    have HX : Hid (¬ Doc L n) := Lib.hid (no_doc hlt fun h => hnn (by rw [h.2.2.2, HC.out]))
                    clear hnn
                    go_wp2
                    go_ret
                    exact ⟨⟨false, rfl, by simp; exact HX.out⟩, K2.out.trans (KR.out.mono K2.out.size)⟩
    · have hltz : ¬ (i : Int) < (n : Int) := by omega
      obtain rfl : i = n := by omega
      go_wp2
      go_ret
      exact ⟨⟨true, rfl, by simp; exact HD.out⟩, HK.out⟩
end Hs
end Go.Proofs.Ytomdgeenmmgmaaa
