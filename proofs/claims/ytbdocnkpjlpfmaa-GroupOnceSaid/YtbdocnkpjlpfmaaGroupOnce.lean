/-
  GroupOnce holds: for any config, deeds and marks the law answers true (no conditions).
-/
import Derived.Test.YtbdocnkpjlpfmaaGrpOnceSt
import Derived.StillTailTactics
import Derived.Test.YtbdocnkpjlpfmaaDrawn
namespace Go.Proofs.Ytbdocnkpjlpfmaa.groupOnce
open Go.ChangeShapes Go.WideShapes Go.ChangeAt Go.RowKit Small Foot Pane Grp
set_option linter.unusedVariables false

theorem pick_head (w : World) : Calls Try.prog 11 #[.int .i64 (-1), .int .i64 2] w fun r w' => r = .returned (.int .i64 0) ∧ w = w' := by
  go_enter Try.func11, Try.ntmps11
  go_wp2
  go_ret
  exact ⟨rfl, rfl⟩
theorem sum_take {L : List Pn} (h : ∀ p ∈ L, 1 ≤ p.c) (k : Nat) : 0 ≤ sumC (L.take k) ∧ sumC (L.take k) ≤ sumC L := by
  have h1 := (sum_pos (L := L.take k) fun p hp => h p (List.mem_of_mem_take hp)).1
  have h2 := (sum_pos (L := L.drop k) fun p hp => h p (List.mem_of_mem_drop hp)).1
  have := sumC_cut L k
  omega
theorem sum_next {L : List Pn} {k : Nat} {p : Pn} (h : L[k]? = some p) : sumC (L.take (k + 1)) = sumC (L.take k) + p.c := by
  rw [List.take_add_one, h]
  simp only [Option.toList_some]
  rw [sumC_app, sumC_cons]
  have : sumC ([] : List Pn) = 0 := rfl
  omega
theorem live_over {a d l z mark : Int} {j : Nat} (h : a + j * d + l + z ≤ mark) : live a d l z mark (j + 1) = live a d l z mark j := by simp only [live]; rw [if_pos h]; rfl
theorem live_not {a d l z mark : Int} {j : Nat} (h : ¬ a + j * d + l + z ≤ mark) : live a d l z mark (j + 1) = live a d l z mark j + 1 := by simp only [live]; rw [if_neg h]
set_option maxRecDepth 100000 in
set_option maxHeartbeats 16000000 in
theorem walk_on (A : Option Addr) (n cp : Nat) (f : Nat → Deed) (B : Option Addr) (rn rcp : Nat) (zs : List Int) (cf : C8) (w : World) (n1 : n ≤ 50) (n2 : n ≤ rn) (n3 : rn ≤ maxLen) (hf : Hid (∀ i, i < n → DFits (f i)))
    (hc : Hid (0 < n → ∃ b off, A = some ⟨b, off, none⟩ ∧ ∀ i, i < n → ∀ j v, (dl (f i))[j]? = some v → w.cell? ⟨b, off + (i * 5 + j), none⟩ = some v))
    (hz : Hid (zs.length = rn ∧ (∀ z ∈ zs, (Lit.int .i64 z).wf = true) ∧ (0 < rn → ∃ b off, B = some ⟨b, off, none⟩ ∧ ∀ j, j < rn → w.cell? ⟨b, off + j, none⟩ = some (.int .i64 (zs.getD j 0)))))
    (M : Hid (Asg.may cf.k cf.s cf.l cf.g cf.z cf.h cf.r cf.c)) (BC : Hid (cf.s ≤ 9223372036854775807 ∧ cf.l ≤ 9223372036854775807 ∧ cf.g ≤ 9223372036854775807 ∧ cf.z ≤ 9223372036854775807)) :
    Calls Try.prog 3 #[cf.v, .slice A n cp, .slice B rn rcp] w fun r w' => r = .returned (.bool true) ∧ Below w.heap.size w w' := by
  have q1 : decide (50 < (n : Int)) = false := by simp; omega
  have q2 : decide ((rn : Int) < (n : Int)) = false := by simp; omega
  have q3 : decide (rn < n) = false := by simp; omega
  have q4 : decide (50 < n) = false := by simp; omega
  have X0 : Hid (Lies (w.alloc (Obj.cells #[.int .i64 cf.k, .int .i64 cf.s, .int .i64 cf.l, .int .i64 cf.g, .int .i64 cf.z, .int .i64 cf.h, .int .i64 cf.r, .int .i64 cf.c] 23)) w.heap.size 23 cf.cl) := Lib.hid (Lies.new w 23 cf.cl)
  have K0 := Lib.hid (below1 w (Obj.cells #[.int .i64 cf.k, .int .i64 cf.s, .int .i64 cf.l, .int .i64 cf.g, .int .i64 cf.z, .int .i64 cf.h, .int .i64 cf.r, .int .i64 cf.c] 23))
  go_enter Try.func3, Try.ntmps3
  go_upto_region 1 with fail
  obtain ⟨gc, hgc⟩ : ∃ gc, gc = w.heap.size := ⟨_, rfl⟩
  have hc0 : Hid (∀ b off, A = some ⟨b, off, none⟩ → True) := Lib.hid fun _ _ _ => trivial
  clear hc0
  have hc := Lib.hid (fun h0 : 0 < n => by
    obtain ⟨b, off, e, h⟩ := hc.out h0
    exact (⟨b, off, e, fun i hi j v hj => cell_keep K0.out (h i hi j v hj)⟩ : ∃ b off, A = some ⟨b, off, none⟩ ∧ ∀ i, i < n → ∀ j v, (dl (f i))[j]? = some v → (w.alloc (Obj.cells #[.int .i64 cf.k, .int .i64 cf.s, .int .i64 cf.l, .int .i64 cf.g, .int .i64 cf.z, .int .i64 cf.h, .int .i64 cf.r, .int .i64 cf.c] 23)).cell? ⟨b, off + (i * 5 + j), none⟩ = some v))
  have hzw := Lib.hid hz.out.2.1
  have hzl := hz.out.1
  have hz := Lib.hid (fun h0 : 0 < rn => by
    obtain ⟨b, off, e, h⟩ := hz.out.2.2 h0
    exact (⟨b, off, e, fun j hj => cell_keep K0.out (h j hj)⟩ : ∃ b off, B = some ⟨b, off, none⟩ ∧ ∀ j, j < rn → (w.alloc (Obj.cells #[.int .i64 cf.k, .int .i64 cf.s, .int .i64 cf.l, .int .i64 cf.g, .int .i64 cf.z, .int .i64 cf.h, .int .i64 cf.r, .int .i64 cf.c] 23)).cell? ⟨b, off + j, none⟩ = some (.int .i64 (zs.getD j 0))))
  rw [← hgc] at X0 ⊢
  clear hgc
  generalize w.alloc (Obj.cells #[.int .i64 cf.k, .int .i64 cf.s, .int .i64 cf.l, .int .i64 cf.g, .int .i64 cf.z, .int .i64 cf.h, .int .i64 cf.r, .int .i64 cf.c] 23) = w0 at *
  go_wp2_with fail
  refine (head_ok _).mono ?_
  rintro r w1 ⟨rfl, k1⟩
  have K1 := Lib.hid k1
  have X1 := Lib.hid (X0.out.next k1)
  have c0 := X1.out.cell (i := 0) rfl
  have c1 := X1.out.cell (i := 1) rfl
  have c2 := X1.out.cell (i := 2) rfl
  have c3 := X1.out.cell (i := 3) rfl
  have c4 := X1.out.cell (i := 4) rfl
  have c5 := X1.out.cell (i := 5) rfl
  have c6 := X1.out.cell (i := 6) rfl
  have c7 := X1.out.cell (i := 7) rfl
  clear k1
  go_wp2_with fail
  refine (new_ok cf _ M BC.out.1).mono ?_
  rintro r w2 ⟨g, m, tg, FT, rfl, Q2, F2, k2⟩
  have hs1 := K1.out.size
  have S0 : Hid (OS w0 w2 gc g m tg cf 0 (fun _ => []) 0 0 (fun _ => none) FT (fun _ => False) (.slice none 0 0) []) :=
    Lib.hid ⟨Q2.dues dues_empty, Nat.zero_le _, Nat.zero_le _, fun k hk => Nat.le_trans hs1 (F2 k hk), fun b hb => hb.elim, after K1.out k2, Sl.Own.nil _ _ _, fun b hb => (by cases hb)⟩
  clear c0 c1 c2 c3 c4 c5 c6 c7 hs1 Q2 F2 k2 X1 K1
  go_wp2_with fail
  go_loopw [10, 11, 12, 13] (fun sm sn so si wr => ∃ (i : Nat) (mark many : Int) (O : List Pn) (S : Lists) (n' cnt' : Nat) (f' : ByteArray → Option Value) (FT' Bk' : Nat → Prop), i ≤ n ∧ sm = .int .i64 mark ∧ sn = .int .i64 many ∧ si = .int .i64 i ∧ Hid ((Lit.int .i64 mark).wf = true) ∧ Hid (MO cf i mark many O S) ∧ Hid (OS w0 wr gc g m tg cf i S n' cnt' f' FT' Bk' so O)) (fun _ _ _ si _ => n - (intOf si).toNat)
  case atStart => exact ⟨0, _, _, [], _, _, _, _, _, _, Nat.zero_le _, rfl, rfl, rfl, Lib.hid rfl, Lib.hid (MO.start cf _), S0⟩
  case round =>
    obtain ⟨i, mark, many, O, S, n', cnt', f', FT', Bk', hi, rfl, rfl, rfl, fk, MM, Q⟩ := hrel
    clear S0
    obtain ⟨bo, -, io⟩ := Q.out.out.is
    obtain ⟨AO, co, hv⟩ := io.len
    subst hv
    clear io
    by_cases hlt : i < n
    · obtain ⟨zb, zo, rfl, hzc⟩ := hz.out (by omega)
      have z0 := Q.out.below.cell (World.block_lt_of_cell? _ _ (hzc i (by omega))) |>.trans (hzc i (by omega))
      obtain ⟨z, hzz⟩ : ∃ z, z = zs.getD i 0 := ⟨_, rfl⟩
      rw [← hzz] at z0
      have fz : Hid ((Lit.int .i64 z).wf = true) := Lib.hid (by
        have hl : i < zs.length := by omega
        rw [hzz, List.getD_eq_getElem?_getD, List.getElem?_eq_getElem hl]
        exact hzw.out _ (List.getElem_mem hl))
      have i0 : (i : Int) < n := by omega
      have i1 : (i : Int) < rn := by omega
      clear hzc hzz
      go_upto_if 67 with fail
      obtain ⟨mk', hmk⟩ : ∃ mk', mk' = max mark z := ⟨_, rfl⟩
      have fk' : Hid ((Lit.int .i64 mk').wf = true) := Lib.hid (by
        have h1 := fit fk.out
        have h2 := fit fz.out
        exact wf_of (by omega) (by omega))
      have hle : mark ≤ mk' := by omega
      go_cut [10] from 56 to 175 (fun s wx => s = .int .i64 mk' ∧ wx = wr)
      case first =>
        by_cases hm : mark < z
        · have e1 : decide (mark < z) = true := decide_eq_true hm
          have e2 : mk' = z := by omega
          go_wp2_with fail
          go_meet
          case rel => exact ⟨by rw [e2], rfl⟩
        · have e1 : decide (mark < z) = false := decide_eq_false hm
          have e2 : mk' = mark := by omega
          go_wp2_with fail
          go_meet
          case rel => exact ⟨by rw [e2], rfl⟩
      case rest =>
        obtain ⟨rfl, hwc⟩ := hcut
        subst hwc
        clear z0 fz hmk
        obtain ⟨ab, off, rfl, hcell⟩ := hc.out (by omega)
        have fx := Lib.hid (hf.out i hlt)
        have HT := Lib.hid (hcell i hlt 2 _ rfl)
        have c2 := Q.out.below.cell (World.block_lt_of_cell? _ _ (hcell i hlt 2 _ rfl)) |>.trans (hcell i hlt 2 _ rfl)
        have c3 := Q.out.below.cell (World.block_lt_of_cell? _ _ (hcell i hlt 3 _ rfl)) |>.trans (hcell i hlt 3 _ rfl)
        rw [← Nat.add_assoc] at c2 c3
        clear hcell
        go_upto_region 13 with fail
        have g2 := Later.cell c2
        have g3 := Later.cell c3
        clear c2 c3
        refine wp_region_mid 12 (by kernel_rfl) (by kernel_rfl) ?_
        simp only [List.take_succ_cons, List.take_zero, List.drop_succ_cons, List.drop_zero]
        repeat (go_big_quiet_step (fail))
        refine wpQuiet_nil ?_
        rintro _ ⟨u, rfl⟩ o ho
        simp only [List.head?_cons, Option.some.injEq] at ho
        subst ho
        obtain ⟨x, T⟩ := Asg.tells cf.k cf.s cf.l cf.g cf.z cf.h cf.r cf.c (f i).t (fit fx.out.2.1).1 (fit fx.out.2.1).2 M.out
        have T := Lib.hid T
        have Q1 := Lib.hid (Q.out.next u.below)
        clear Q g2 g3
        generalize u.w = w3 at *
        refine wp_call (S := fun v w' => ∃ r, r = Ending.returned v ∧ TakeTo w3 g m tg cf S n' cnt' (16 * i) FT' Bk' kk (f i).v mk' x r w') rfl #[gp g, .string kk, .int .i64 (f i).t, .int .i64 (f i).v, .int .i64 mk'] (by simp; and_intros <;> rfl) (fun _ _ => enters Try.func6 (by kernel_rfl) rfl _ _)
          ((take_ok kk (f i).t (f i).v mk' x w3 (Lib.hid Q1.out.q) (Lib.hid MM.out.ok) (by omega) (Lib.hid fun b hb => (Q1.out.bk b hb).2) (by have := Q1.out.cnt; omega) (by have := Q1.out.n; omega) M BC (Lib.hid fx.out.2.1) fk' (by decide) T).mono (fun r w' h => ?_)) ?_
        · obtain ⟨sv, O', S1, code, c, S', n2, cnt2, f2, FT2, Bk2, rfl, rest⟩ := h
          exact ⟨_, rfl, _, rfl, sv, O', S1, code, c, S', n2, cnt2, f2, FT2, Bk2, rfl, rest⟩
        rintro v w4 ⟨r, rfl, sv1, O1, S1, code, c, S2, n2, cnt2, f2, FT2, Bk2, hr, ho, hno, htk, te⟩
        obtain rfl := Ending.returned.inj hr
        have hst := MM.out.step (by omega) hle ho hno (fun nn a d l e => by
          subst e
          obtain ⟨h1, -, h2, -⟩ := told_fits M.out (fit fx.out.2.1).1 BC.out.1 BC.out.2.2.1 T.out
          exact ⟨h1, h2⟩) htk
        obtain ⟨MM2, c16⟩ := hst
        obtain ⟨Q2, b1, i1, nb1⟩ := Q1.out.take te c16
        have MM2 := Lib.hid MM2
        have Q2 := Lib.hid Q2
        have I1 := Lib.hid i1
        have TK := Lib.hid htk
        clear Q1 ho hno te hr i1 MM htk
        obtain ⟨A1, p1, e1⟩ := I1.out.len
        subst e1
        go_frame
        repeat (go_big_quiet_step (fail))
        refine wpQuiet_nil ?_
        rintro _ ⟨u, rfl⟩
        have Q3 := Lib.hid (Q2.out.next u.below)
        have I3 := Lib.hid (I1.out.next u.below)
        clear Q2 I1
        generalize u.w = w5 at *
        have hol := MM2.out.len
        rw [List.length_append] at hol
        go_upto_region 15 with (at_builtin; refine wpList_plain rfl fun K' hK' => Sl.wp_append (K := Pn.k) Pn.ok (.tmp 88) (.tmp 89) rfl (base := w0.heap.size) (l := O) (l2 := O1) (by exact Q3.out.out) (by exact I3.out) (by omega) (by exact Q3.out.below.size) (fun v' w6 x1 x2 x3 => hK' _ _ ?_))
        have Q4 := Lib.hid (Q3.out.more x1 x2 x3)
        have hb4 := Q4.out.below
        clear x1 x2 x3 Q3 I3
        have c2 := hb4.cell (World.block_lt_of_cell? _ _ HT.out) |>.trans HT.out
        rw [← Nat.add_assoc] at c2
        have X6 : Hid (Lies w6 gc 23 cf.cl) := Lib.hid (X0.out.keep hb4 X0.out.lt)
        have g2 := Later.cell c2
        have d0 := Later.cell (X6.out.cell (i := 0) rfl)
        have d1 := Later.cell (X6.out.cell (i := 1) rfl)
        have d2 := Later.cell (X6.out.cell (i := 2) rfl)
        have d3 := Later.cell (X6.out.cell (i := 3) rfl)
        have d4 := Later.cell (X6.out.cell (i := 4) rfl)
        have d5 := Later.cell (X6.out.cell (i := 5) rfl)
        have d6 := Later.cell (X6.out.cell (i := 6) rfl)
        have d7 := Later.cell (X6.out.cell (i := 7) rfl)
        clear c2 hb4
        refine wp_region_mid 6 (by kernel_rfl) (by kernel_rfl) ?_
        simp only [List.take_succ_cons, List.take_zero, List.drop_succ_cons, List.drop_zero]
        repeat (go_big_quiet_step (fail))
        refine wpQuiet_nil ?_
        rintro _ ⟨u, rfl⟩ o ho
        simp only [List.head?_cons, Option.some.injEq] at ho
        subst ho
        have Q5 := Lib.hid (Q4.out.next u.below)
        have X7 := Lib.hid (X6.out.next u.below)
        clear Q4 X6 g2 d0 d1 d2 d3 d4 d5 d6 d7
        generalize u.w = w7 at *
        refine wp_call (S := fun v w' => ∃ r, r = Ending.returned v ∧ Asg.Gives (RefAsg.refR x) w7 r w') rfl #[cf.v, .int .i64 (f i).t] (by simp; and_intros <;> rfl) (fun _ _ => enters Try.func7 (by kernel_rfl) rfl _ _)
          ((RefAsg.of_ok cf.k cf.s cf.l cf.g cf.z cf.h cf.r cf.c (f i).t x w7 BC.out.1 BC.out.2.1 BC.out.2.2.1 BC.out.2.2.2 (fit fx.out.2.1).1 (fit fx.out.2.1).2 M.out T.out).mono (fun r w' h => ?_)) ?_
        · obtain ⟨u1, u2, rfl, rest⟩ := h
          exact ⟨_, rfl, _, rfl, u1, u2, rfl, rest⟩
        rintro v w8 ⟨r, rfl, u1, u2, hr, hR, k8⟩
        obtain rfl := Ending.returned.inj hr
        obtain ⟨nn, a, d, l, ok, hW, rfl, n16, hfit, hlive, hno, hyes⟩ := uni M.out (fit fx.out.2.1).1 BC.out.1 BC.out.2.2.1 T.out TK.out hR
        obtain ⟨AW, wc, rfl, hWin⟩ := hW
        have Q6 := Lib.hid (Q5.out.next k8)
        have X8 := Lib.hid (X7.out.next k8)
        have WN := Lib.hid hWin
        have FT0 := Lib.hid hfit
        have CO := Lib.hid (And.intro hno hyes)
        have LV := Lib.hid hlive
        clear Q5 X7 hR k8 hr hfit hWin hno hyes hlive TK HT fx
        go_frame
        repeat (go_big_quiet_step (fail))
        refine wpQuiet_nil ?_
        rintro _ ⟨u, rfl⟩
        have Q7 := Lib.hid (Q6.out.next u.below)
        have X9 := Lib.hid (X8.out.next u.below)
        have WN2 : Hid (0 < nn → ∃ gw, AW = some ⟨gw, 0, none⟩ ∧ Asg.Wins u.w gw nn a d l) := Lib.hid fun h0 => by
          obtain ⟨gw, e, h⟩ := WN.out h0
          exact ⟨gw, e, h.next u.below⟩
        clear Q6 X8 WN
        generalize u.w = w9 at *
        go_wp2_with fail
        go_loopw [18, 19] (fun sn sj wr => ∃ j : Nat, j ≤ nn ∧ sn = .int .i64 (live a d l cf.z mk' j) ∧ sj = .int .i64 j ∧ Hid (Below w9.heap.size w9 wr)) (fun _ sj _ => nn - (intOf sj).toNat)
        case atStart => exact ⟨0, Nat.zero_le _, rfl, rfl, Lib.hid (Below.refl _ _)⟩
        case round =>
          obtain ⟨j, hj, rfl, rfl, KJ⟩ := hrel
          by_cases hjl : j < nn
          · obtain ⟨gw, rfl, hw⟩ := WN2.out (by omega)
            obtain ⟨x0, x1⟩ := (hw.next KJ.out) j hjl
            obtain ⟨b0, b1, b2⟩ := FT0.out j hjl
            have j0 : (j : Int) < nn := by omega
            have XJ := X9.out.next KJ.out
            have f0 := Later.cell x0
            have f1 := Later.cell x1
            have f4 := Later.cell (XJ.cell (i := 4) rfl)
            have z0 := M.out.2.1
            have z1 := BC.out.2.2.2
            have hk' := fit fk'.out
            have hl := live_le a d l cf.z mk' j
            obtain ⟨b, hb⟩ : ∃ b, b = decide (a + (j : Int) * d + l + cf.z ≤ mk') := ⟨_, rfl⟩
            have OV : Hid (∀ w, Calls Try.prog 8 #[win (a + j * d) (a + j * d + l), .int .i64 cf.z, .int .i64 mk'] w fun r w' => r = .returned (.bool b) ∧ Below w.heap.size w w') :=
              Lib.hid fun w => by rw [hb]; exact RefSpan.over_ok (a + j * d) (a + j * d + l) cf.z mk' w b2 b1 (by omega) z1 hk'.1 hk'.2
            clear x0 x1 XJ hw hk' b0 b1 b2 z1
            go_upto_region 20 with fail
            refine wp_region_later (by kernel_rfl) (by kernel_rfl) ?_
            repeat (go_big_quiet_step (with_reducible exact Later.call _ (OV.out _)))
            refine wpQuiet_nil ?_
            rintro _ ⟨u, rfl⟩
            have KJ2 := Lib.hid (after KJ.out u.below)
            clear f0 f1 f4 KJ
            generalize u.w = w10 at *
            cases b
            · have ho : ¬ a + (j : Int) * d + l + cf.z ≤ mk' := of_decide_eq_false hb.symm
              clear hb
              go_wp2_with fail
              go_roundw
              case rel => exact ⟨j + 1, by omega, by rw [live_not ho]; go_num, by go_num, KJ2⟩
              case measure => simp [intOf]; omega
            · have ho : a + (j : Int) * d + l + cf.z ≤ mk' := of_decide_eq_true hb.symm
              clear hb
              go_wp2_with fail
              go_roundw
              case rel => exact ⟨j + 1, by omega, by rw [live_over ho], by go_num, KJ2⟩
              case measure => simp [intOf]; omega
          · obtain rfl : j = nn := by omega
            rw [← LV.out]
            have Q8 := Lib.hid (Q7.out.next KJ.out)
            clear Q7 X9 WN2 KJ LV FT0
            go_upto_region 23 with fail
            go_cut [144] from 56 to 175 (fun s wx => s = .bool false ∧ wx = wr)
            case first =>
              cases ok
              · obtain ⟨hc4, -⟩ := CO.out.1 rfl
                subst hc4
                go_wp2_with fail
                go_meet
                case rel => exact ⟨rfl, rfl⟩
              · have hc1 := CO.out.2 rfl
                by_cases hc0 : c = 0
                · rw [if_pos hc0] at hc1
                  subst hc1 hc0
                  go_wp2_with fail
                  go_meet
                  case rel => exact ⟨rfl, rfl⟩
                · rw [if_neg hc0] at hc1
                  subst hc1
                  have e1 : ((c : Int) == 0) = false := by simpa using hc0
                  have e2 : decide (0 < (c : Int)) = true := by simp; omega
                  have e3 : decide (0 < c) = true := by simp; omega
                  have e4 : (c == 0) = false := by simpa using hc0
                  go_wp2_with fail
                  go_meet
                  case rel => exact ⟨rfl, rfl⟩
            case rest =>
              obtain ⟨rfl, hwc⟩ := hcut
              subst hwc
              have hm0 : 0 ≤ many + c := by
                have h1 := (sum_pos fun p hp => (MM2.out.mem p hp).2.1).1
                obtain ⟨n0, c0, -⟩ := MM2.out.ok.cnt kk
                have h2 := (sum_pos c0.pos).1
                have := MM2.out.cnt
                omega
              have hm1 : many + c ≤ 800 := by have := MM2.out.few; omega
              have hlen := MM2.out.len
              obtain ⟨bv, -, iv⟩ := Q8.out.out.is
              obtain ⟨AV, cv, hv⟩ := iv.len
              subst hv
              have IV := Lib.hid iv
              clear iv CO
              have hs8 := Q8.out.below.size
              have HL : Hid ((O ++ O1).length ≤ 800 ∧ (S2 kk).length ≤ 800 ∧ (O ++ O1).length + (S2 kk).length ≤ 800) := Lib.hid (by omega)
              have KA := Lib.hid (below1 wc (Obj.cells #[] 47))
              go_wp2_with (at_builtin; refine wpList_plain rfl fun K' hK' => Sl.wp_append_empty (K := Pn.k) Pn.ok (.tmp 148) (.tmp 149) rfl (base := wc.heap.size) (b := wc.heap.size) (l2 := O ++ O1) rfl (by exact heap_alloc_new _ _) (Nat.le_refl _) (by exact IV.out.next KA.out) (by have := HL.out; omega) (by simp) (fun va wa y1 y2 => hK' _ _ ?_))
              have KB := Lib.hid (after KA.out y2)
              have VA := Lib.hid y1
              have Q9 := Lib.hid (Q8.out.next KB.out)
              clear y1 y2 KA
              refine (panes_ok kk _ (Lib.hid Q9.out.q) (by have := HL.out; omega) (by decide)).mono ?_
              rintro r wb ⟨vp, rfl, op, kp⟩
              have KC := Lib.hid (after KB.out kp)
              have VB := Lib.hid (VA.out.next kp)
              have Q10 := Lib.hid (Q9.out.next kp)
              obtain ⟨bp, -, ip⟩ := op.is
              have IP := Lib.hid ip
              clear Q9 KB VA op kp ip
              go_wp2_with (at_builtin; refine wpList_plain rfl fun K' hK' => Sl.wp_append (K := Pn.k) Pn.ok (.tmp 150) (.tmp 152) rfl (base := wc.heap.size) (l := O ++ O1) (l2 := S2 kk) (by exact VB.out) (by exact IP.out) (by have := HL.out; omega) (by exact KC.out.size) (fun vall wd y1 y2 y3 => hK' _ _ ?_))
              have KD := Lib.hid (KC.out.grown y2 KC.out.size (fun b hb => (VB.out.lt b hb).1))
              have Q11 := Lib.hid (Q8.out.next KD.out)
              have IF := Lib.hid (IV.out.next KD.out)
              obtain ⟨ALL, hALL⟩ : ∃ ALL, ALL = O ++ O1 ++ S2 kk := ⟨_, rfl⟩
              rw [← hALL] at y1
              obtain ⟨ball, -, iall⟩ := y1.is
              obtain ⟨AL, ca, e⟩ := iall.len
              subst e
              have IL := Lib.hid iall
              have hpos : Hid (∀ p ∈ ALL, 1 ≤ p.c) := Lib.hid fun p hp => by
                rw [hALL] at hp
                rcases List.mem_append.1 hp with hp | hp
                · exact (MM2.out.mem p hp).2.1
                · obtain ⟨n0, c0, -⟩ := MM2.out.ok.cnt kk
                  exact c0.pos p hp
              have hsum : sumC ALL = many + c := by
                rw [hALL, sumC_app]
                exact MM2.out.cnt
              have hol2 : (O ++ O1).length ≤ 800 := HL.out.1
              have hal : ALL.length ≤ 800 := by
                rw [hALL, List.length_append]
                exact HL.out.2.2
              clear y1 y2 y3 VB IP Q10 KC KD Q8 iall hALL hlen HL IV
              go_loopw [21, 23] (fun sg sk wr => ∃ k : Nat, k ≤ ALL.length ∧ sg = .int .i64 (sumC (ALL.take k)) ∧ sk = .int .i64 k ∧ Hid (Below wd.heap.size wd wr)) (fun _ sk _ => ALL.length - (intOf sk).toNat)
              case atStart => exact ⟨0, Nat.zero_le _, rfl, rfl, Lib.hid (Below.refl _ _)⟩
              case round =>
                obtain ⟨k, hkl, rfl, rfl, KE⟩ := hrel
                obtain ⟨t0, t1⟩ := sum_take hpos.out k
                by_cases hkk : k < ALL.length
                · obtain ⟨off2, cap', he, h2, h3, h4, hcell⟩ := IL.out.some_ Pn.ok (by omega)
                  obtain ⟨rfl, rfl⟩ : AL = some ⟨ball, off2, none⟩ ∧ ca = cap' := by simpa using he
                  obtain ⟨p, hp⟩ := at_some hkk
                  obtain ⟨-, -, -, x3, -, -, -⟩ := Tmr.pane_cells hp hcell
                  have x3 := cell_keep KE.out x3
                  have hn1 := sum_next hp
                  obtain ⟨t2, t3⟩ := sum_take hpos.out (k + 1)
                  have hp1 := hpos.out p (List.mem_of_getElem? hp)
                  have k0 : (k : Int) < ALL.length := by omega
                  clear hcell he h2 h3 h4 hp
                  go_wp2_with fail
                  go_roundw
                  case rel => exact ⟨k + 1, by omega, by rw [hn1], by go_num, KE⟩
                  case measure => simp [intOf]; omega
                · obtain rfl : k = ALL.length := by omega
                  rw [List.take_length, hsum]
                  clear t0 t1 hsum
                  go_wp2_with fail
                  refine (fine_yes _ (O ++ O1) bv _ (Lib.hid (by rw [← List.length_append]; exact IF.out.next KE.out)) (by omega) (Lib.hid MM2.out.fine)).mono ?_
                  rintro r w12 ⟨rfl, k12⟩
                  have Q12 := Lib.hid (Q11.out.next (after KE.out k12))
                  rw [List.length_append] at Q12
                  clear Q11 k12 IF IL hpos
                  go_wp2_with fail
                  exact ⟨⟨i + 1, mk', many + c, O ++ O1, S2, n2, cnt2, f2, FT2, Bk2, by omega, rfl, rfl, by go_num, fk', MM2, Q12⟩, by simp [intOf]; omega⟩
    · obtain rfl : i = n := by omega
      go_wp2_with fail
      refine (pick_head _).mono ?_
      rintro r w13 ⟨rfl, rfl⟩
      go_wp2
      go_ret
      exact ⟨rfl, after K0.out Q.out.below⟩

set_option maxRecDepth 100000 in
set_option maxHeartbeats 4000000 in
theorem walk_no (A : Option Addr) (n cp : Nat) (B : Option Addr) (rn rcp : Nat) (cf : C8) (w : World) (M : Hid (¬ Asg.may cf.k cf.s cf.l cf.g cf.z cf.h cf.r cf.c)) (s1 : cf.s ≤ 9223372036854775807) :
    Calls Try.prog 3 #[cf.v, .slice A n cp, .slice B rn rcp] w fun r w' => r = .returned (.bool true) ∧ Below w.heap.size w w' := by
  have X0 : Hid (Lies (w.alloc (Obj.cells #[.int .i64 cf.k, .int .i64 cf.s, .int .i64 cf.l, .int .i64 cf.g, .int .i64 cf.z, .int .i64 cf.h, .int .i64 cf.r, .int .i64 cf.c] 23)) w.heap.size 23 cf.cl) := Lib.hid (Lies.new w 23 cf.cl)
  have K0 := Lib.hid (below1 w (Obj.cells #[.int .i64 cf.k, .int .i64 cf.s, .int .i64 cf.l, .int .i64 cf.g, .int .i64 cf.z, .int .i64 cf.h, .int .i64 cf.r, .int .i64 cf.c] 23))
  go_enter Try.func3, Try.ntmps3
  go_wp2_with fail
  refine (head_ok _).mono ?_
  rintro r w1 ⟨rfl, k1⟩
  have K1 := Lib.hid (after K0.out k1)
  have X1 := Lib.hid (X0.out.next k1)
  have c0 := X1.out.cell (i := 0) rfl
  have c1 := X1.out.cell (i := 1) rfl
  have c2 := X1.out.cell (i := 2) rfl
  have c3 := X1.out.cell (i := 3) rfl
  have c4 := X1.out.cell (i := 4) rfl
  have c5 := X1.out.cell (i := 5) rfl
  have c6 := X1.out.cell (i := 6) rfl
  have c7 := X1.out.cell (i := 7) rfl
  clear k1
  go_wp2_with fail
  refine (new_no cf _ M s1).mono ?_
  rintro r w2 ⟨rfl, k2⟩
  have K2 := Lib.hid (after K1.out k2)
  clear c0 c1 c2 c3 c4 c5 c6 c7 k2
  go_wp2
  go_ret
  exact ⟨rfl, K2.out⟩

set_option maxRecDepth 100000 in
set_option maxHeartbeats 4000000 in
theorem walk_far (A : Option Addr) (n cp : Nat) (B : Option Addr) (rn rcp : Nat) (cf : C8) (w : World) (M : Hid (Asg.may cf.k cf.s cf.l cf.g cf.z cf.h cf.r cf.c)) (s1 : cf.s ≤ 9223372036854775807) (hn : n ≤ maxLen) (hrn : rn ≤ maxLen) (far : 50 < n ∨ rn < n) :
    Calls Try.prog 3 #[cf.v, .slice A n cp, .slice B rn rcp] w fun r w' => r = .returned (.bool true) ∧ Below w.heap.size w w' := by
  unfold maxLen at hn hrn
  have X0 : Hid (Lies (w.alloc (Obj.cells #[.int .i64 cf.k, .int .i64 cf.s, .int .i64 cf.l, .int .i64 cf.g, .int .i64 cf.z, .int .i64 cf.h, .int .i64 cf.r, .int .i64 cf.c] 23)) w.heap.size 23 cf.cl) := Lib.hid (Lies.new w 23 cf.cl)
  have K0 := Lib.hid (below1 w (Obj.cells #[.int .i64 cf.k, .int .i64 cf.s, .int .i64 cf.l, .int .i64 cf.g, .int .i64 cf.z, .int .i64 cf.h, .int .i64 cf.r, .int .i64 cf.c] 23))
  by_cases h : 50 < n
  · have q1 : decide (50 < (n : Int)) = true := by simp; omega
    have q3 : decide (50 < n) = true := by simp; omega
    clear far
    go_enter Try.func3, Try.ntmps3
    go_wp2_with fail
    refine (head_ok _).mono ?_
    rintro r w1 ⟨rfl, k1⟩
    have K1 := Lib.hid (after K0.out k1)
    have X1 := Lib.hid (X0.out.next k1)
    have c0 := X1.out.cell (i := 0) rfl
    have c1 := X1.out.cell (i := 1) rfl
    have c2 := X1.out.cell (i := 2) rfl
    have c3 := X1.out.cell (i := 3) rfl
    have c4 := X1.out.cell (i := 4) rfl
    have c5 := X1.out.cell (i := 5) rfl
    have c6 := X1.out.cell (i := 6) rfl
    have c7 := X1.out.cell (i := 7) rfl
    clear k1
    go_wp2_with fail
    refine (new_ok cf _ M s1).mono ?_
    rintro r w2 ⟨g, m, tg, FT, rfl, -, -, k2⟩
    have K2 := Lib.hid (after K1.out k2)
    clear c0 c1 c2 c3 c4 c5 c6 c7 k2
    go_wp2
    go_ret
    exact ⟨rfl, K2.out⟩
  · have q1 : decide (50 < (n : Int)) = false := by simp; omega
    have q3 : decide (50 < n) = false := by simp; omega
    have q2 : decide ((rn : Int) < (n : Int)) = true := by simp; omega
    have q4 : decide (rn < n) = true := by simp; omega
    clear far h
    go_enter Try.func3, Try.ntmps3
    go_wp2_with fail
    refine (head_ok _).mono ?_
    rintro r w1 ⟨rfl, k1⟩
    have K1 := Lib.hid (after K0.out k1)
    have X1 := Lib.hid (X0.out.next k1)
    have c0 := X1.out.cell (i := 0) rfl
    have c1 := X1.out.cell (i := 1) rfl
    have c2 := X1.out.cell (i := 2) rfl
    have c3 := X1.out.cell (i := 3) rfl
    have c4 := X1.out.cell (i := 4) rfl
    have c5 := X1.out.cell (i := 5) rfl
    have c6 := X1.out.cell (i := 6) rfl
    have c7 := X1.out.cell (i := 7) rfl
    clear k1
    go_wp2_with fail
    refine (new_ok cf _ M s1).mono ?_
    rintro r w2 ⟨g, m, tg, FT, rfl, -, -, k2⟩
    have K2 := Lib.hid (after K1.out k2)
    clear c0 c1 c2 c3 c4 c5 c6 c7 k2
    go_wp2
    go_ret
    exact ⟨rfl, K2.out⟩

theorem walk (c : Int × Int × Int × Int × Int × Int × Int × Int) (wc : (Lit.int .i64 c.1).wf = true ∧ (Lit.int .i64 c.2.1).wf = true ∧ (Lit.int .i64 c.2.2.1).wf = true ∧ (Lit.int .i64 c.2.2.2.1).wf = true ∧ (Lit.int .i64 c.2.2.2.2.1).wf = true ∧ (Lit.int .i64 c.2.2.2.2.2.1).wf = true ∧ (Lit.int .i64 c.2.2.2.2.2.2.1).wf = true ∧ (Lit.int .i64 c.2.2.2.2.2.2.2).wf = true)
    (x : Option Addr × Nat × Nat × (Nat → Deed)) (y : Option Addr × Nat × Nat × List Int) (w : World) (hx : Opens.IsRows dl 5 DFits w x) (hy : Opens.IsInts w y) :
    Calls Try.prog 3 #[.agg #[.int .i64 c.1, .int .i64 c.2.1, .int .i64 c.2.2.1, .int .i64 c.2.2.2.1, .int .i64 c.2.2.2.2.1, .int .i64 c.2.2.2.2.2.1, .int .i64 c.2.2.2.2.2.2.1, .int .i64 c.2.2.2.2.2.2.2], .slice x.1 x.2.1 x.2.2.1, .slice y.1 y.2.1 y.2.2.1] w fun r w' => r = .returned (.bool true) ∧ Below w.heap.size w w' := by
  obtain ⟨A, n, cp, f⟩ := x
  obtain ⟨B, rn, rcp, zs⟩ := y
  obtain ⟨k, s, l, g, z, h, r, cc⟩ := c
  obtain ⟨hm, hf, hc⟩ := hx
  obtain ⟨zm, zl, zw, zc⟩ := hy
  obtain ⟨-, w1, w2, w3, w4, -, -, -⟩ := wc
  simp only at hm hf hc zm zl zw zc w1 w2 w3 w4 ⊢
  by_cases M : Asg.may k s l g z h r cc
  · by_cases h2 : n ≤ 50 ∧ n ≤ rn
    · exact walk_on A n cp f B rn rcp zs ⟨k, s, l, g, z, h, r, cc⟩ w h2.1 h2.2 zm (Lib.hid hf) (Lib.hid hc) (Lib.hid ⟨zl, zw, zc⟩) (Lib.hid M) (Lib.hid ⟨(fit w1).2, (fit w2).2, (fit w3).2, (fit w4).2⟩)
    · exact walk_far A n cp B rn rcp ⟨k, s, l, g, z, h, r, cc⟩ w (Lib.hid M) (fit w1).2 hm zm (by omega)
  · exact walk_no A n cp B rn rcp ⟨k, s, l, g, z, h, r, cc⟩ w (Lib.hid M) (fit w1).2

theorem own : ownKnob Try.prog.godebug = none := by kernel_rfl

set_option maxRecDepth 100000 in
theorem lifted (os : Os) (started : os.Started) (H : Type) (enc : TypeId × Value → H) :
    ReturnsInHanded {} Try.checked os 3 .any (Rows.groupOnceSpec.pre6 enc Try.prog Try.f3 Rows.groupOnceRow.domain false) (Rows.groupOnceSpec.post enc Try.prog Try.f3 false true false false) := by
  refine returnsInHanded_of_change (C := Try.checked) own started (by kernel_rfl) Try.func3
    (ChangeSpec.witness6 (enc := enc) (C := Try.checked) false ⟨#[], #[.agg #[.int .i64 0, .int .i64 0, .int .i64 0, .int .i64 0, .int .i64 0, .int .i64 0, .int .i64 0, .int .i64 0], .slice none 0 0, .slice none 0 0], []⟩ 8 (by kernel_rfl) (by kernel_rfl) (by kernel_rfl) (by kernel_rfl)) ?_
  intro W base args ds gs before hval0 hW hcnd _
  have hval : ∀ (j : Nat) t v, Try.f3.params[j]? = some t → args[j]? = some v → Value.okWide Try.prog W .any base t v := hval0
  have hW' := hW
  obtain ⟨p, q, hA0, hV, rfl, hfz, hnd⟩ := hW
  have hA : DataW.TrodAll enc Try.prog W 0 (fun _ => true) true Try.f3.params.toList args.toList ds p := hA0
  rw [Try.params3] at hA hval
  obtain ⟨v0, vs0, d0, ds0, p0, q0, hargs, rfl, rfl, h0, r0⟩ := trodAll_cons hA
  obtain ⟨v1, vs1, d1, ds1, p1, q1, rfl, rfl, rfl, h1, r1⟩ := trodAll_cons r0
  obtain ⟨v2, vs2, d2, ds2, p2, q2, rfl, rfl, rfl, h2, r2⟩ := trodAll_cons r1
  obtain ⟨rfl, rfl, rfl⟩ := trodAll_nil r2
  obtain rfl : args = #[v0, v1, v2] := by cases args; simp_all
  obtain ⟨rfl, rfl⟩ := trodVars_none hV
  obtain ⟨x00, x01, x02, x03, x04, x05, x06, x07, rfl, w0⟩ := Opens.open_cfg (hval 0 23 v0 rfl rfl) h0
  obtain ⟨a1, rfl, w1⟩ := Grp.open_deeds (hval 1 24 v1 rfl rfl) h1
  obtain ⟨a2, rfl, w2⟩ := Opens.open_ints (hval 2 25 v2 rfl rfl) h2
  clear hA0 hval0
  refine (walk (x00, x01, x02, x03, x04, x05, x06, x07) w0 a1 a2 W w1 w2).mono fun e W' ⟨he, hg⟩ => ?_
  subst he
  exact ⟨_, rfl, Laid.post Laid.laidOut (by kernel_rfl) rfl (by kernel_rfl) Try.underlying4 hW' ⟨rfl, rfl, rfl⟩ hg⟩

theorem over : Rows.groupOnceRow.holds Try.pinned (OpenSpec.ofChange Rows.groupOnceSpec) :=
  OpenClaim.holds_of_wide 3 Try.f3 rfl rfl rfl rfl rfl rfl rfl ⟨rfl, rfl, rfl, rfl, rfl⟩ rfl rfl rfl rfl rfl (by kernel_rfl) Try.func3 (by kernel_rfl)
    (of_decide_eq_true (by kernel_rfl)) (by unfold Func.isWrapper; first | (rw [if_pos (by decide +kernel)]; kernel_rfl) | (rw [if_neg (by decide +kernel)]; exact ⟨rfl, rfl⟩))
    (fun os started H enc _ => lifted os started H enc)

/-- ████ THE STATEMENT ████ -/
theorem proved : Rows.GroupOnceSaid :=
  over
#print axioms proved
end Go.Proofs.Ytbdocnkpjlpfmaa.groupOnce
