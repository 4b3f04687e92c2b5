/-
  HistTells holds: for any events the law answers true (no conditions).
-/
import Derived.Test.YtomdgeenmmgmaaaHsUp
import Derived.Test.YtomdgeenmmgmaaaHsRef
import Derived.Test.YtomdgeenmmgmaaaHsRefO
import Derived.Test.YtomdgeenmmgmaaaHsCame
import Derived.Test.YtomdgeenmmgmaaaLaid
namespace Go.Proofs.Ytomdgeenmmgmaaa.histTells
open Go.ChangeShapes Go.WideShapes Go.ChangeAt Go.RowKit Small Hs
set_option linter.unusedVariables false
set_option maxRecDepth 100000
set_option maxHeartbeats 12800000 in
theorem walk (x : Value × List Ev) (w : World) (c : CameE w x) : Calls Try.prog 3 #[x.1] w fun e w' => e = .returned (.bool true) ∧ Below w.heap.size w w' := by
  obtain ⟨v, L⟩ := x
  obtain ⟨rd, ft⟩ := c
  simp only at rd ft ⊢
  have HE := Lib.hid rd
  have HF := Lib.hid ft
  obtain ⟨A, cap, rfl, HA⟩ := rd.lit
  clear rd ft
  go_enter Try.func3, Try.ntmps3
  go_wp2_with fail
  refine (up_ok _).mono ?_
  rintro r w1 ⟨rfl, k1⟩
  have K1 := Lib.hid k1
  clear k1
  by_cases h40 : 40 < L.length
  · have hz : (40 : Int) < (L.length : Int) := by omega
    go_wp2
    go_ret
    exact ⟨rfl, K1.out⟩
  have hz : ¬ (40 : Int) < (L.length : Int) := by omega
  have hn : L.length ≤ 1000 := by omega
  go_wp2_with fail
  refine (fine_ok _ L w1 (Lib.hid (HE.out.next K1.out)) hn HF).mono ?_
  rintro r w2 ⟨⟨x, rfl, hx⟩, k2⟩
  have K2 := Lib.hid (after K1.out k2)
  have HX := Lib.hid hx
  clear k2 hx K1
  dsimp only
  go_wp2_with fail
  refine (rfine_ok _ L w2 (Lib.hid (HE.out.next K2.out)) hn).mono ?_
  rintro r w3 ⟨⟨y, rfl, hy⟩, k3⟩
  have K3 := Lib.hid (after K2.out k3)
  obtain rfl : y = x := by
    have h1 := HX.out.trans (fine_doc HF.out)
    have h2 := h1.trans hy.symm
    cases x <;> cases y <;> simp at h2 ⊢
  clear k3 hy HX K2
  dsimp only
  have hxx : (y != y) = false := by cases y <;> rfl
  go_wp2_with fail
  refine (order_ok _ L w3 (Lib.hid (HE.out.next K3.out)) hn).mono ?_
  rintro r w4 ⟨va, ba, rfl, hba, ia, k4⟩
  have K4 := Lib.hid (after K3.out k4)
  have IA := Lib.hid ia
  clear k4 ia hba K3
  dsimp only
  go_wp2_with fail
  refine (rorder_ok _ L w4 (Lib.hid (HE.out.next K4.out)) hn).mono ?_
  rintro r w5 ⟨vb, bb, rfl, hbb, ib, k5⟩
  have K5 := Lib.hid (after K4.out k5)
  have IA5 := Lib.hid (IA.out.next k5)
  have IB := Lib.hid ib
  clear k5 ib hbb IA K4
  dsimp only
  obtain ⟨o, ho⟩ : ∃ o, ord L L.length = o := ⟨_, rfl⟩
  rw [ho] at IA5 IB
  have hle : o.length ≤ L.length := by rw [← ho]; exact ord_le L _
  clear ho
  obtain ⟨VA, capa, rfl, NA⟩ := nums_at IA5.out
  obtain ⟨VB, capb, rfl, NB⟩ := nums_at IB.out
  clear IA5 IB
  obtain ⟨n, hn2⟩ : ∃ n, L.length = n := ⟨_, rfl⟩
  obtain ⟨m, hm2⟩ : ∃ m, o.length = m := ⟨_, rfl⟩
  rw [hn2] at hn h40 hz hle ⊢
  rw [hm2] at hle ⊢
  have HN : Hid (L.length = n ∧ o.length = m) := ⟨hn2, hm2⟩
  replace HN : Hid (L.length = n) := hn2
  have HM : Hid (o.length = m) := hm2
  clear hn2 hm2 hz HE HF
  go_wp2
  go_loopg [6, 7] n (fun g s6 s7 wr => ∃ i z : Nat, s6 = .int .i64 z ∧ s7 = .int .i64 i ∧ z ≤ i ∧ i ≤ n ∧ n - i ≤ g ∧ wr = w5)
  case atStart => exact ⟨0, 0, rfl, rfl, Nat.le_refl _, Nat.zero_le _, Nat.le_refl _, rfl⟩
  case round =>
    obtain ⟨i, z, rfl, rfl, hzi, hin, hg, rfl⟩ := hrel
    by_cases hlt : i < n
    · have hltz : (i : Int) < (n : Int) := by omega
      obtain ⟨b, off, rfl, hb, h1⟩ := HA.out i (by rw [HN.out]; exact hlt)
      have c0 := cell_keep K5.out h1.p
      clear h1
      by_cases hp : (E L i).p < 0
      · go_wp2
        go_roundg (n - (i + 1))
        case measure => omega
        case rel => exact ⟨i + 1, z + 1, by go_num, by go_num, by omega, by omega, Nat.le_refl _, rfl⟩
      · go_wp2
        go_roundg (n - (i + 1))
        case measure => omega
        case rel => exact ⟨i + 1, z, rfl, by go_num, by omega, by omega, Nat.le_refl _, rfl⟩
    · have hltz : ¬ (i : Int) < (n : Int) := by omega
      by_cases hz0 : z = 0
      · subst hz0
        go_wp2
        go_loopg [8] m (fun g s8 wx => ∃ j : Nat, s8 = .int .i64 j ∧ j ≤ m ∧ m - j ≤ g ∧ Hid (Below wr.heap.size wr wx))
        case atStart => exact ⟨0, rfl, Nat.zero_le _, Nat.le_refl _, Lib.hid (Below.refl _ _)⟩
        case round =>
          obtain ⟨j, rfl, hjm, hg2, HK2⟩ := hrel
          by_cases hlt2 : j < m
          · have hltz2 : (j : Int) < (m : Int) := by omega
            obtain ⟨oa, rfl, hb1, h1⟩ := NA.out j (by rw [HM.out]; exact hlt2)
            obtain ⟨ob, rfl, hb2, h2⟩ := NB.out j (by rw [HM.out]; exact hlt2)
            have c1 := cell_keep HK2.out h1
            have c2 := cell_keep HK2.out h2
            clear h1 h2 hb1 hb2
            generalize O o j = x at c1 c2
            go_wp2_with fail
            go_quiet (fail)
            go_wp2
            go_roundg (m - (j + 1))
            case measure => omega
            case rel => exact ⟨j + 1, by go_num, by omega, Nat.le_refl _, Lib.hid (HK2.out.trans (below_drewN _ _ _))⟩
          · have hltz2 : ¬ (j : Int) < (m : Int) := by omega
            have KS := Lib.hid (after K5.out HK2.out)
            clear HK2
            go_wp2
            go_loopg [9] n (fun g s9 wr => ∃ i : Nat, s9 = .int .i64 i ∧ i ≤ n ∧ n - i ≤ g ∧ Hid (Below w.heap.size w wr))
            case atStart => exact ⟨0, rfl, Nat.zero_le _, Nat.le_refl _, KS⟩
            case round =>
              obtain ⟨i, rfl, hin, hg, HK⟩ := hrel
              by_cases hlt : i < n
              · have hltz : (i : Int) < (n : Int) := by omega
                go_wp2
                go_loopg [10] n (fun g s10 wx => ∃ k : Nat, s10 = .int .i64 k ∧ k ≤ n ∧ n - k ≤ g ∧ Hid (Below w.heap.size w wx))
                case atStart => exact ⟨0, rfl, Nat.zero_le _, Nat.le_refl _, HK⟩
                case round =>
                  obtain ⟨k, rfl, hkn, hg2, HK2⟩ := hrel
                  by_cases hlt2 : k < n
                  · have hltz2 : (k : Int) < (n : Int) := by omega
                    obtain ⟨b, off, rfl, hb, h1⟩ := HA.out i (by rw [HN.out]; exact hlt)
                    obtain ⟨b', off', e', hb', h2⟩ := HA.out k (by rw [HN.out]; exact hlt2)
                    obtain ⟨rfl, rfl⟩ : b = b' ∧ off = off' := by injection e' with e'; injection e' with e1 e2; exact ⟨e1, e2⟩
                    have EI : Hid (EvAt wr b (off + i * 14) (E L i)) := Lib.hid fun t u ht => cell_keep HK2.out (h1 t u ht)
                    have EK : Hid (EvAt wr b (off + k * 14) (E L k)) := Lib.hid fun t u ht => cell_keep HK2.out (h2 t u ht)
                    clear h1 h2 e' hb' hb
                    obtain ⟨oi, hoi⟩ : ∃ t, off + i * 14 = t := ⟨_, rfl⟩
                    obtain ⟨ok, hok⟩ : ∃ t, off + k * 14 = t := ⟨_, rfl⟩
                    rw [hoi] at EI
                    rw [hok] at EK
                    go_wp2_with fail
                    by_cases hq : 0 < (E L i).q
                    · by_cases hqb : (E L i).q < (E L k).b
                      · have hah : ah (E L i) (E L k) = true := ah_yes.2 ⟨hq, hqb⟩
                        have hc : Hid (∀ w', Calls Try.prog 10 #[(E L i).v, (E L k).v] w' fun r w'' => r = .returned (.bool true) ∧ Below w'.heap.size w' w'') := Lib.hid fun w' => by have := ahead_ok (E L i) (E L k) w'; rwa [show ah (E L i) (E L k) = true from hah] at this
                        clear hah
                        refine wp_region_later (by kernel_rfl) (by kernel_rfl) ?_
                        have d1 := Later.cell EI.out.q
                        have d2 := Later.cell EK.out.b
                        repeat (first | go_big_quiet_skip | (refine BigFrame.wpQuiet_want rfl fun K hK => quiet_load _ rfl rfl EI.out (hK _ ?_); simp only [Act.put, List.setIfInBounds_toArray, List.set_cons_zero, List.set_cons_succ]) | (refine BigFrame.wpQuiet_want rfl fun K hK => quiet_load _ rfl rfl EK.out (hK _ ?_); simp only [Act.put, List.setIfInBounds_toArray, List.set_cons_zero, List.set_cons_succ]) | go_big_quiet_step (with_reducible exact Later.call _ (hc.out _)))
                        refine wpQuiet_nil ?_
                        rintro w' ⟨u, rfl⟩
                        have KU := Lib.hid (HK2.out.trans (u.below.mono HK2.out.size))
                        generalize u.w = w9 at KU ⊢
                        clear d1 d2 u
                        go_wp2
                        go_roundg (n - (k + 1))
                        case measure => omega
                        case rel => exact ⟨k + 1, by go_num, by omega, Nat.le_refl _, KU⟩
                      · have hah : ah (E L i) (E L k) = false := by cases e : ah (E L i) (E L k) with | false => rfl | true => exact absurd (ah_yes.1 e).2 hqb
                        have hc : Hid (∀ w', Calls Try.prog 10 #[(E L i).v, (E L k).v] w' fun r w'' => r = .returned (.bool false) ∧ Below w'.heap.size w' w'') := Lib.hid fun w' => by have := ahead_ok (E L i) (E L k) w'; rwa [show ah (E L i) (E L k) = false from hah] at this
                        clear hah
                        refine wp_region_later (by kernel_rfl) (by kernel_rfl) ?_
                        have d1 := Later.cell EI.out.q
                        have d2 := Later.cell EK.out.b
                        repeat (first | go_big_quiet_skip | (refine BigFrame.wpQuiet_want rfl fun K hK => quiet_load _ rfl rfl EI.out (hK _ ?_); simp only [Act.put, List.setIfInBounds_toArray, List.set_cons_zero, List.set_cons_succ]) | (refine BigFrame.wpQuiet_want rfl fun K hK => quiet_load _ rfl rfl EK.out (hK _ ?_); simp only [Act.put, List.setIfInBounds_toArray, List.set_cons_zero, List.set_cons_succ]) | go_big_quiet_step (with_reducible exact Later.call _ (hc.out _)))
                        refine wpQuiet_nil ?_
                        rintro w' ⟨u, rfl⟩
                        have KU := Lib.hid (HK2.out.trans (u.below.mono HK2.out.size))
                        generalize u.w = w9 at KU ⊢
                        clear d1 d2 u
                        go_wp2
                        go_roundg (n - (k + 1))
                        case measure => omega
                        case rel => exact ⟨k + 1, by go_num, by omega, Nat.le_refl _, KU⟩
                    · have hah : ah (E L i) (E L k) = false := by cases e : ah (E L i) (E L k) with | false => rfl | true => exact absurd (ah_yes.1 e).1 hq
                      have hc : Hid (∀ w', Calls Try.prog 10 #[(E L i).v, (E L k).v] w' fun r w'' => r = .returned (.bool false) ∧ Below w'.heap.size w' w'') := Lib.hid fun w' => by have := ahead_ok (E L i) (E L k) w'; rwa [show ah (E L i) (E L k) = false from hah] at this
                      clear hah
                      refine wp_region_later (by kernel_rfl) (by kernel_rfl) ?_
                      have d1 := Later.cell EI.out.q
                      have d2 := Later.cell EK.out.b
                      repeat (first | go_big_quiet_skip | (refine BigFrame.wpQuiet_want rfl fun K hK => quiet_load _ rfl rfl EI.out (hK _ ?_); simp only [Act.put, List.setIfInBounds_toArray, List.set_cons_zero, List.set_cons_succ]) | (refine BigFrame.wpQuiet_want rfl fun K hK => quiet_load _ rfl rfl EK.out (hK _ ?_); simp only [Act.put, List.setIfInBounds_toArray, List.set_cons_zero, List.set_cons_succ]) | go_big_quiet_step (with_reducible exact Later.call _ (hc.out _)))
                      refine wpQuiet_nil ?_
                      rintro w' ⟨u, rfl⟩
                      have KU := Lib.hid (HK2.out.trans (u.below.mono HK2.out.size))
                      generalize u.w = w9 at KU ⊢
                      clear d1 d2 u
                      go_wp2
                      go_roundg (n - (k + 1))
                      case measure => omega
                      case rel => exact ⟨k + 1, by go_num, by omega, Nat.le_refl _, KU⟩
                  · have hltz2 : ¬ (k : Int) < (n : Int) := by omega
                    go_wp2
                    go_roundg (n - (i + 1))
                    case measure => omega
                    case rel => exact ⟨i + 1, by go_num, by omega, Nat.le_refl _, HK2⟩
              · have hltz : ¬ (i : Int) < (n : Int) := by omega
                go_wp2
                go_ret
                exact ⟨rfl, HK.out⟩
      · have KS := K5
        have hz1 : ((z : Int) == 0) = false := by rw [beq_eq_false_iff_ne]; omega
        go_wp2
        go_loopg [9] n (fun g s9 wr => ∃ i : Nat, s9 = .int .i64 i ∧ i ≤ n ∧ n - i ≤ g ∧ Hid (Below w.heap.size w wr))
        case atStart => exact ⟨0, rfl, Nat.zero_le _, Nat.le_refl _, KS⟩
        case round =>
          obtain ⟨i, rfl, hin, hg, HK⟩ := hrel
          by_cases hlt : i < n
          · have hltz : (i : Int) < (n : Int) := by omega
            go_wp2
            go_loopg [10] n (fun g s10 wx => ∃ k : Nat, s10 = .int .i64 k ∧ k ≤ n ∧ n - k ≤ g ∧ Hid (Below w.heap.size w wx))
            case atStart => exact ⟨0, rfl, Nat.zero_le _, Nat.le_refl _, HK⟩
            case round =>
              obtain ⟨k, rfl, hkn, hg2, HK2⟩ := hrel
              by_cases hlt2 : k < n
              · have hltz2 : (k : Int) < (n : Int) := by omega
                obtain ⟨b, off, rfl, hb, h1⟩ := HA.out i (by rw [HN.out]; exact hlt)
                obtain ⟨b', off', e', hb', h2⟩ := HA.out k (by rw [HN.out]; exact hlt2)
                obtain ⟨rfl, rfl⟩ : b = b' ∧ off = off' := by injection e' with e'; injection e' with e1 e2; exact ⟨e1, e2⟩
                have EI : Hid (EvAt wr b (off + i * 14) (E L i)) := Lib.hid fun t u ht => cell_keep HK2.out (h1 t u ht)
                have EK : Hid (EvAt wr b (off + k * 14) (E L k)) := Lib.hid fun t u ht => cell_keep HK2.out (h2 t u ht)
                clear h1 h2 e' hb' hb
                obtain ⟨oi, hoi⟩ : ∃ t, off + i * 14 = t := ⟨_, rfl⟩
                obtain ⟨ok, hok⟩ : ∃ t, off + k * 14 = t := ⟨_, rfl⟩
                rw [hoi] at EI
                rw [hok] at EK
                go_wp2_with fail
                by_cases hq : 0 < (E L i).q
                · by_cases hqb : (E L i).q < (E L k).b
                  · have hah : ah (E L i) (E L k) = true := ah_yes.2 ⟨hq, hqb⟩
                    have hc : Hid (∀ w', Calls Try.prog 10 #[(E L i).v, (E L k).v] w' fun r w'' => r = .returned (.bool true) ∧ Below w'.heap.size w' w'') := Lib.hid fun w' => by have := ahead_ok (E L i) (E L k) w'; rwa [show ah (E L i) (E L k) = true from hah] at this
                    clear hah
                    refine wp_region_later (by kernel_rfl) (by kernel_rfl) ?_
                    have d1 := Later.cell EI.out.q
                    have d2 := Later.cell EK.out.b
                    repeat (first | go_big_quiet_skip | (refine BigFrame.wpQuiet_want rfl fun K hK => quiet_load _ rfl rfl EI.out (hK _ ?_); simp only [Act.put, List.setIfInBounds_toArray, List.set_cons_zero, List.set_cons_succ]) | (refine BigFrame.wpQuiet_want rfl fun K hK => quiet_load _ rfl rfl EK.out (hK _ ?_); simp only [Act.put, List.setIfInBounds_toArray, List.set_cons_zero, List.set_cons_succ]) | go_big_quiet_step (with_reducible exact Later.call _ (hc.out _)))
                    refine wpQuiet_nil ?_
                    rintro w' ⟨u, rfl⟩
                    have KU := Lib.hid (HK2.out.trans (u.below.mono HK2.out.size))
                    generalize u.w = w9 at KU ⊢
                    clear d1 d2 u
                    go_wp2
                    go_roundg (n - (k + 1))
                    case measure => omega
                    case rel => exact ⟨k + 1, by go_num, by omega, Nat.le_refl _, KU⟩
                  · have hah : ah (E L i) (E L k) = false := by cases e : ah (E L i) (E L k) with | false => rfl | true => exact absurd (ah_yes.1 e).2 hqb
                    have hc : Hid (∀ w', Calls Try.prog 10 #[(E L i).v, (E L k).v] w' fun r w'' => r = .returned (.bool false) ∧ Below w'.heap.size w' w'') := Lib.hid fun w' => by have := ahead_ok (E L i) (E L k) w'; rwa [show ah (E L i) (E L k) = false from hah] at this
                    clear hah
                    refine wp_region_later (by kernel_rfl) (by kernel_rfl) ?_
                    have d1 := Later.cell EI.out.q
                    have d2 := Later.cell EK.out.b
                    repeat (first | go_big_quiet_skip | (refine BigFrame.wpQuiet_want rfl fun K hK => quiet_load _ rfl rfl EI.out (hK _ ?_); simp only [Act.put, List.setIfInBounds_toArray, List.set_cons_zero, List.set_cons_succ]) | (refine BigFrame.wpQuiet_want rfl fun K hK => quiet_load _ rfl rfl EK.out (hK _ ?_); simp only [Act.put, List.setIfInBounds_toArray, List.set_cons_zero, List.set_cons_succ]) | go_big_quiet_step (with_reducible exact Later.call _ (hc.out _)))
                    refine wpQuiet_nil ?_
                    rintro w' ⟨u, rfl⟩
                    have KU := Lib.hid (HK2.out.trans (u.below.mono HK2.out.size))
                    generalize u.w = w9 at KU ⊢
                    clear d1 d2 u
                    go_wp2
                    go_roundg (n - (k + 1))
                    case measure => omega
                    case rel => exact ⟨k + 1, by go_num, by omega, Nat.le_refl _, KU⟩
                · have hah : ah (E L i) (E L k) = false := by cases e : ah (E L i) (E L k) with | false => rfl | true => exact absurd (ah_yes.1 e).1 hq
                  have hc : Hid (∀ w', Calls Try.prog 10 #[(E L i).v, (E L k).v] w' fun r w'' => r = .returned (.bool false) ∧ Below w'.heap.size w' w'') := Lib.hid fun w' => by have := ahead_ok (E L i) (E L k) w'; rwa [show ah (E L i) (E L k) = false from hah] at this
                  clear hah
                  refine wp_region_later (by kernel_rfl) (by kernel_rfl) ?_
                  have d1 := Later.cell EI.out.q
                  have d2 := Later.cell EK.out.b
                  repeat (first | go_big_quiet_skip | (refine BigFrame.wpQuiet_want rfl fun K hK => quiet_load _ rfl rfl EI.out (hK _ ?_); simp only [Act.put, List.setIfInBounds_toArray, List.set_cons_zero, List.set_cons_succ]) | (refine BigFrame.wpQuiet_want rfl fun K hK => quiet_load _ rfl rfl EK.out (hK _ ?_); simp only [Act.put, List.setIfInBounds_toArray, List.set_cons_zero, List.set_cons_succ]) | go_big_quiet_step (with_reducible exact Later.call _ (hc.out _)))
                  refine wpQuiet_nil ?_
                  rintro w' ⟨u, rfl⟩
                  have KU := Lib.hid (HK2.out.trans (u.below.mono HK2.out.size))
                  generalize u.w = w9 at KU ⊢
                  clear d1 d2 u
                  go_wp2
                  go_roundg (n - (k + 1))
                  case measure => omega
                  case rel => exact ⟨k + 1, by go_num, by omega, Nat.le_refl _, KU⟩
              · have hltz2 : ¬ (k : Int) < (n : Int) := by omega
                go_wp2
                go_roundg (n - (i + 1))
                case measure => omega
                case rel => exact ⟨i + 1, by go_num, by omega, Nat.le_refl _, HK2⟩
          · have hltz : ¬ (i : Int) < (n : Int) := by omega
            go_wp2
            go_ret
            exact ⟨rfl, HK.out⟩

theorem own : ownKnob Try.prog.godebug = none := by kernel_rfl

set_option maxRecDepth 100000 in
theorem lifted (os : Os) (started : os.Started) (H : Type) (enc : TypeId × Value → H) :
    ReturnsInHanded {} Try.checked os 3 .any (Rows.histTellsSpec.pre6 enc Try.prog Try.f3 Rows.histTellsRow.domain false) (Rows.histTellsSpec.post enc Try.prog Try.f3 false true false false) := by
  refine returnsInHanded_of_change (C := Try.checked) own started (by kernel_rfl) Try.func3
    (ChangeSpec.witness6 (enc := enc) (C := Try.checked) false ⟨#[], #[.slice none 0 0], []⟩ 8 (by kernel_rfl) (by kernel_rfl) (by kernel_rfl) (by kernel_rfl)) ?_
  intro W base args ds gs before hval0 hW hcnd _
  have hval : ∀ (j : Nat) t v, Try.f3.params[j]? = some t → args[j]? = some v → Value.okWide Try.prog W .any base t v := hval0
  have hW' := hW
  obtain ⟨p, q, hA0, hV, rfl, hfz, hnd⟩ := hW
  have hA : DataW.TrodAll enc Try.prog W 0 (fun _ => true) true Try.f3.params.toList args.toList ds p := hA0
  rw [Try.params3] at hA hval
  obtain ⟨v0, vs0, d0, ds0, p0, q0, hargs, rfl, rfl, h0, r0⟩ := trodAll_cons hA
  obtain ⟨rfl, rfl, rfl⟩ := trodAll_nil r0
  obtain rfl : args = #[v0] := by cases args; simp_all
  obtain ⟨rfl, rfl⟩ := trodVars_none hV
  obtain ⟨a0, rfl, w0⟩ := Opens.open_events (hval 0 22 v0 rfl rfl) h0
  clear hA0 hval0
  refine (walk a0 W w0).mono fun e W' ⟨he, hg⟩ => ?_
  subst he
  exact ⟨_, rfl, Laid.post Laid.laidOut (by kernel_rfl) rfl (by kernel_rfl) Try.underlying4 hW' ⟨rfl, rfl, rfl⟩ hg⟩

theorem over : Rows.histTellsRow.holds Try.pinned (OpenSpec.ofChange Rows.histTellsSpec) :=
  OpenClaim.holds_of_wide 3 Try.f3 rfl rfl rfl rfl rfl rfl rfl ⟨rfl, rfl, rfl, rfl, rfl⟩ rfl rfl rfl rfl rfl (by kernel_rfl) Try.func3 (by kernel_rfl)
    (of_decide_eq_true (by kernel_rfl)) (by unfold Func.isWrapper; first | (rw [if_pos (by decide +kernel)]; kernel_rfl) | (rw [if_neg (by decide +kernel)]; exact ⟨rfl, rfl⟩))
    (fun os started H enc _ => lifted os started H enc)

/-- ████ THE STATEMENT ████ -/
theorem proved : Rows.HistTellsSaid :=
  over
#print axioms proved
end Go.Proofs.Ytomdgeenmmgmaaa.histTells
