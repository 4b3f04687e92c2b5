/-
  HistOrder holds: for any events the law answers true (no conditions).
-/
import Derived.Test.YtomdgeenmmgmaaaHsUp
import Derived.Test.YtomdgeenmmgmaaaHsCame
import Derived.Test.YtomdgeenmmgmaaaLaid
namespace Go.Proofs.Ytomdgeenmmgmaaa.histOrder
open Go.ChangeShapes Go.WideShapes Go.ChangeAt Go.RowKit Small Hs
set_option linter.unusedVariables false
set_option maxRecDepth 100000
set_option maxHeartbeats 12800000 in
theorem walk (x : Value × List Ev) (w : World) (c : CameE w x) : Calls Try.prog 4 #[x.1] w fun e w' => e = .returned (.bool true) ∧ Below w.heap.size w w' := by
  obtain ⟨v, L⟩ := x
  obtain ⟨rd, ft⟩ := c
  simp only at rd ft ⊢
  have HE := Lib.hid rd
  have HF := Lib.hid ft
  obtain ⟨A, cap, rfl, HA⟩ := rd.lit
  clear rd ft
  go_enter Try.func4, Try.ntmps4
  go_wp2_with fail
  refine (up_ok _).mono ?_
  rintro r w1 ⟨rfl, k1⟩
  have K1 := Lib.hid k1
  clear k1
  by_cases h40 : 40 < L.length
  · have hz : (40 : Int) < (L.length : Int) := by omega
    go_wp2
    go_ret
    exact ⟨rfl, K1.out⟩
  have hz : ¬ (40 : Int) < (L.length : Int) := by omega
  have hn : L.length ≤ 1000 := by omega
  go_wp2_with fail
  refine (fine_ok _ L w1 (Lib.hid (HE.out.next K1.out)) hn HF).mono ?_
  rintro r w2 ⟨⟨x, rfl, hx⟩, k2⟩
  have K2 := Lib.hid (after K1.out k2)
  have HX := Lib.hid hx
  clear k2 hx K1
  dsimp only
  cases x with
  | false =>
    go_wp2
    go_ret
    exact ⟨rfl, K2.out⟩
  | true =>
  have HFi : Hid (Fine L) := Lib.hid (HX.out.1 (by first | rfl | trivial))
  clear HX
  go_wp2_with fail
  refine (order_ok _ L w2 (Lib.hid (HE.out.next K2.out)) hn).mono ?_
  rintro r w5 ⟨va, ba, rfl, hba, ia, k4⟩
  have K5 := Lib.hid (after K2.out k4)
  have IA := Lib.hid ia
  clear k4 ia hba K2
  dsimp only
  obtain ⟨o, ho⟩ : ∃ o, ord L L.length = o := ⟨_, rfl⟩
  rw [ho] at IA
  have HO : Hid (ord L L.length = o) := ho
  have hle : o.length ≤ L.length := by rw [← ho]; exact ord_le L _
  have hlen : o.length = (pts L L.length).length := by rw [← ho]; exact ord_len L _
  clear ho
  obtain ⟨VA, capa, rfl, NA⟩ := nums_at IA.out
  clear IA
  obtain ⟨n, hn2⟩ : ∃ n, L.length = n := ⟨_, rfl⟩
  obtain ⟨m, hm2⟩ : ∃ m, o.length = m := ⟨_, rfl⟩
  rw [hn2] at hn h40 hz hle hlen ⊢
  rw [hm2] at hle hlen ⊢
  have HN : Hid (L.length = n) := hn2
  have HM : Hid (o.length = m) := hm2
  have HL : Hid ((pts L n).length = m) := hlen.symm
  clear hn2 hm2 hz hlen
  go_wp2
  go_loopg [5, 6] n (fun g s5 s6 wr => ∃ i : Nat, s5 = .int .i64 ((pts L i).length : Int) ∧ s6 = .int .i64 i ∧ i ≤ n ∧ n - i ≤ g ∧ w5 = wr)
  case atStart => exact ⟨0, rfl, rfl, Nat.zero_le _, Nat.le_refl _, rfl⟩
  case round =>
    obtain ⟨i, rfl, rfl, hin, hg, rfl⟩ := hrel
    have HPL : Hid ((pts L i).length ≤ i) := Lib.hid (pts_le L i)
    obtain ⟨z, hz⟩ : ∃ z, (pts L i).length = z := ⟨_, rfl⟩
    rw [hz] at HPL ⊢
    have HZ : Hid ((pts L i).length = z) := hz
    have hzi : z ≤ i := HPL.out
    clear hz
    by_cases hlt : i < n
    · have hltz : (i : Int) < (n : Int) := by omega
      obtain ⟨b, off, rfl, hb, h1⟩ := HA.out i (by rw [HN.out]; exact hlt)
      have c0 := cell_keep K5.out h1.p
      clear h1
      by_cases hp : (E L i).p = 0
      · have hq : ((E L i).p != 0) = false := by simp [hp]
        have HQ : Hid ((pts L (i + 1)).length = z) := Lib.hid (by rw [pts_succ, if_neg (by simp [hp]), List.append_nil]; exact HZ.out)
        clear hp
        go_wp2
        go_roundg (n - (i + 1))
        case measure => omega
        case rel => exact ⟨i + 1, by rw [HQ.out], by go_num, by omega, Nat.le_refl _, rfl⟩
      · have hq : ((E L i).p != 0) = true := by simp [hp]
        have HQ : Hid ((pts L (i + 1)).length = z + 1) := Lib.hid (by rw [pts_succ, if_pos (by simpa using hp), List.length_append, HZ.out]; rfl)
        clear hp
        go_wp2
        go_roundg (n - (i + 1))
        case measure => omega
        case rel => exact ⟨i + 1, by rw [HQ.out]; go_num, by go_num, by omega, Nat.le_refl _, rfl⟩
    · have hltz : ¬ (i : Int) < (n : Int) := by omega
      obtain rfl : i = n := by omega
      obtain rfl : z = m := HZ.out.symm.trans HL.out
      clear HPL HZ hzi hg HL
      go_wp2
      go_loopg [7] z (fun g s7 wx => ∃ j : Nat, s7 = .int .i64 j ∧ j ≤ z ∧ z - j ≤ g ∧ Hid (Below w5.heap.size w5 wx))
      case atStart => exact ⟨0, rfl, Nat.zero_le _, Nat.le_refl _, Lib.hid (Below.refl _ _)⟩
      case round =>
        obtain ⟨j, rfl, hjm, hg2, HK⟩ := hrel
        by_cases hlt2 : j < z
        · have hltz2 : (j : Int) < (z : Int) := by omega
          obtain ⟨oa, rfl, hb1, h1⟩ := NA.out j (by rw [HM.out]; exact hlt2)
          have c1 := cell_keep HK.out h1
          obtain ⟨x, hx⟩ : ∃ x, O o j = x := ⟨_, rfl⟩
          have hxn : x < i := by
            have := get_ord (L := L) (k := L.length) (i := j) (by rw [HO.out, HM.out]; exact hlt2)
            rw [HO.out] at this
            have h2 : O o j ∈ ord L L.length := by rw [HO.out]; exact this
            rw [← hx, ← HN.out]; exact (mem_ord.1 h2).1
          rw [hx] at c1
          have HXJ : Hid (O o j = x) := hx
          clear h1 hx
          have bx : (x : Int) < (i : Int) := by omega
          have bx0 : ¬ (x : Int) < 0 := by omega
          have bx1 : ¬ (i : Int) ≤ (x : Int) := by omega
          go_wp2
          go_loopg [8] j (fun g s8 wy => ∃ k : Nat, s8 = .int .i64 k ∧ k ≤ j ∧ j - k ≤ g ∧ Hid (Below w5.heap.size w5 wy))
          case atStart => exact ⟨0, rfl, Nat.zero_le _, Nat.le_refl _, HK⟩
          case round =>
            obtain ⟨k, rfl, hkj, hg3, HK2⟩ := hrel
            by_cases hlt3 : k < j
            · have hltz3 : (k : Int) < (j : Int) := by omega
              obtain ⟨oa', e', -, h2⟩ := NA.out k (by rw [HM.out]; omega)
              obtain rfl : oa = oa' := by injection e' with e'; injection e'
              have d1 : wr.cell? ⟨ba, oa + j, none⟩ = some (.int .i64 x) := by
                obtain ⟨oa2, e2, -, h1⟩ := NA.out j (by rw [HM.out]; exact hlt2)
                obtain rfl : oa = oa2 := by injection e2 with e2; injection e2
                have := cell_keep HK2.out h1
                rwa [HXJ.out] at this
              have d2 := cell_keep HK2.out h2
              obtain ⟨y, hy⟩ : ∃ y, O o k = y := ⟨_, rfl⟩
              have hne : y ≠ x := by
                have := ord_apart (L := L) (k := L.length) (i := k) (j := j) hlt3 (by rw [HO.out, HM.out]; exact hlt2)
                rw [HO.out] at this
                rw [← hy, ← HXJ.out]; exact this
              have hyn : y < i := by
                have := get_ord (L := L) (k := L.length) (i := k) (by rw [HO.out, HM.out]; omega)
                rw [HO.out] at this
                have h2 : O o k ∈ ord L L.length := by rw [HO.out]; exact this
                rw [← hy, ← HN.out]; exact (mem_ord.1 h2).1
              have hah : ah (E L x) (E L y) = false := by
                have := fine_ahead HFi.out.1 (i := k) (j := j) hlt3 (by rw [HO.out, HM.out]; exact hlt2)
                rw [HO.out, HXJ.out, hy] at this
                exact this
              rw [hy] at d2
              clear h2 hy e'
              obtain ⟨b, off, rfl, hb, e1⟩ := HA.out x (by rw [HN.out]; exact hxn)
              obtain ⟨b', off', e', hb', e2⟩ := HA.out y (by rw [HN.out]; exact hyn)
              obtain ⟨rfl, rfl⟩ : b = b' ∧ off = off' := by injection e' with e'; injection e' with e1 e2; exact ⟨e1, e2⟩
              have EX : Hid (EvAt wr b (off + x * 14) (E L x)) := Lib.hid fun t u ht => cell_keep (after K5.out HK2.out) (e1 t u ht)
              have EY : Hid (EvAt wr b (off + y * 14) (E L y)) := Lib.hid fun t u ht => cell_keep (after K5.out HK2.out) (e2 t u ht)
              clear e1 e2 e' hb' hb
              obtain ⟨ox, hox⟩ : ∃ t, off + x * 14 = t := ⟨_, rfl⟩
              obtain ⟨oy, hoy⟩ : ∃ t, off + y * 14 = t := ⟨_, rfl⟩
              rw [hox] at EX
              rw [hoy] at EY
              have by_ : (y : Int) < (i : Int) := by omega
              have bj : (j : Int) < (z : Int) := by omega
              have bk : (k : Int) < (z : Int) := by omega
              have hne2 : ((y : Int) == (x : Int)) = false := by rw [beq_eq_false_iff_ne]; omega
              have hc : Hid (∀ w', Calls Try.prog 10 #[(E L x).v, (E L y).v] w' fun r w'' => r = .returned (.bool false) ∧ Below w'.heap.size w' w'') := Lib.hid fun w' => by have := ahead_ok (E L x) (E L y) w'; rwa [hah] at this
              clear hah hne
              go_wp2_with fail
              refine wp_region_later (by kernel_rfl) (by kernel_rfl) ?_
              have d3 := Later.cell d1
              have d4 := Later.cell d2
              repeat (first | go_big_quiet_skip | (refine BigFrame.wpQuiet_want rfl fun K hK => quiet_load _ rfl rfl EX.out (hK _ ?_); simp only [Act.put, List.setIfInBounds_toArray, List.set_cons_zero, List.set_cons_succ]) | (refine BigFrame.wpQuiet_want rfl fun K hK => quiet_load _ rfl rfl EY.out (hK _ ?_); simp only [Act.put, List.setIfInBounds_toArray, List.set_cons_zero, List.set_cons_succ]) | go_big_quiet_step (with_reducible exact Later.call _ (hc.out _)))
              refine wpQuiet_nil ?_
              rintro w' ⟨u, rfl⟩
              have KU := Lib.hid (after HK2.out u.below)
              generalize u.w = w9 at KU ⊢
              clear d3 d4 d1 d2 u
              go_wp2
              go_roundg (j - (k + 1))
              case measure => omega
              case rel => exact ⟨k + 1, by go_num, by omega, Nat.le_refl _, KU⟩
            · have hltz3 : ¬ (k : Int) < (j : Int) := by omega
              go_wp2
              go_roundg (z - (j + 1))
              case measure => omega
              case rel => exact ⟨j + 1, by go_num, by omega, Nat.le_refl _, HK2⟩
        · have hltz2 : ¬ (j : Int) < (z : Int) := by omega
          have KF := Lib.hid (after K5.out HK.out)
          by_cases hn0 : i = 0
          · subst hn0
            go_wp2
            go_ret
            exact ⟨rfl, KF.out⟩
          · have hn1 : ((i : Int) == 0) = false := by rw [beq_eq_false_iff_ne]; omega
            obtain ⟨t, rfl⟩ : ∃ t, i = t + 1 := ⟨i - 1, by omega⟩
            have w1 : IntKind.i64.wrap ((t : Int) + 1 - 1) = (t : Int) := by rw [IntKind.wrap_i64]; omega
            have w2 : (t : Int) + 1 - 1 = (t : Int) := by omega
            obtain ⟨bI, II⟩ : ∃ bI, Hid (Sl.Is Ev.k wr (.slice A (t + 1) cap) L bI) := by
              have := HE.out.next KF.out
              rw [HN.out] at this
              rcases this with ⟨bI, h⟩ | ⟨h, _⟩
              · exact ⟨bI, h⟩
              · have := HN.out
                rw [h] at this
                simp at this
            have hl : Hid (t ≤ L.length) := Lib.hid (by rw [HN.out]; omega)
            go_wp2_with (first | (refine BigFrame.wpList_want rfl fun K' hK' => Sl.wp_take Ev.ok (.tmp 96) (.tmp 99) rfl (l := L) (b := bI) (m := t) II.out rfl hl.out (fun vt x1 => hK' _ _ ?_)))
            refine (fine_ok vt (L.take t) wr (Lib.hid (.inl ⟨bI, x1⟩)) (by rw [List.length_take]; omega) (Lib.hid fun e he => HF.out e (List.mem_of_mem_take he))).mono ?_
            rintro r w9 ⟨⟨y, rfl, hy⟩, k9⟩
            obtain rfl : y = true := hy.2 (fine_take HF.out hl.out HFi.out)
            have K9 := Lib.hid (after KF.out k9)
            clear hy k9 x1
            dsimp only
            go_wp2
            go_ret
            exact ⟨rfl, K9.out⟩

theorem own : ownKnob Try.prog.godebug = none := by kernel_rfl

set_option maxRecDepth 100000 in
theorem lifted (os : Os) (started : os.Started) (H : Type) (enc : TypeId × Value → H) :
    ReturnsInHanded {} Try.checked os 4 .any (Rows.histOrderSpec.pre6 enc Try.prog Try.f4 Rows.histOrderRow.domain false) (Rows.histOrderSpec.post enc Try.prog Try.f4 false true false false) := by
  refine returnsInHanded_of_change (C := Try.checked) own started (by kernel_rfl) Try.func4
    (ChangeSpec.witness6 (enc := enc) (C := Try.checked) false ⟨#[], #[.slice none 0 0], []⟩ 8 (by kernel_rfl) (by kernel_rfl) (by kernel_rfl) (by kernel_rfl)) ?_
  intro W base args ds gs before hval0 hW hcnd _
  have hval : ∀ (j : Nat) t v, Try.f4.params[j]? = some t → args[j]? = some v → Value.okWide Try.prog W .any base t v := hval0
  have hW' := hW
  obtain ⟨p, q, hA0, hV, rfl, hfz, hnd⟩ := hW
  have hA : DataW.TrodAll enc Try.prog W 0 (fun _ => true) true Try.f4.params.toList args.toList ds p := hA0
  rw [Try.params4] at hA hval
  obtain ⟨v0, vs0, d0, ds0, p0, q0, hargs, rfl, rfl, h0, r0⟩ := trodAll_cons hA
  obtain ⟨rfl, rfl, rfl⟩ := trodAll_nil r0
  obtain rfl : args = #[v0] := by cases args; simp_all
  obtain ⟨rfl, rfl⟩ := trodVars_none hV
  obtain ⟨a0, rfl, w0⟩ := Opens.open_events (hval 0 22 v0 rfl rfl) h0
  clear hA0 hval0
  refine (walk a0 W w0).mono fun e W' ⟨he, hg⟩ => ?_
  subst he
  exact ⟨_, rfl, Laid.post Laid.laidOut (by kernel_rfl) rfl (by kernel_rfl) Try.underlying4 hW' ⟨rfl, rfl, rfl⟩ hg⟩

theorem over : Rows.histOrderRow.holds Try.pinned (OpenSpec.ofChange Rows.histOrderSpec) :=
  OpenClaim.holds_of_wide 4 Try.f4 rfl rfl rfl rfl rfl rfl rfl ⟨rfl, rfl, rfl, rfl, rfl⟩ rfl rfl rfl rfl rfl (by kernel_rfl) Try.func4 (by kernel_rfl)
    (of_decide_eq_true (by kernel_rfl)) (by unfold Func.isWrapper; first | (rw [if_pos (by decide +kernel)]; kernel_rfl) | (rw [if_neg (by decide +kernel)]; exact ⟨rfl, rfl⟩))
    (fun os started H enc _ => lifted os started H enc)

/-- ████ THE STATEMENT ████ -/
theorem proved : Rows.HistOrderSaid :=
  over
#print axioms proved
end Go.Proofs.Ytomdgeenmmgmaaa.histOrder
