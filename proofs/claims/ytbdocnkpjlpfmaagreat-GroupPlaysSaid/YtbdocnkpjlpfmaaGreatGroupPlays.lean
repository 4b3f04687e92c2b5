/-
  GroupPlays holds: for any config and deeds the law answers true (no conditions).
-/
import Derived.Test.YtbdocnkpjlpfmaaGreatGrpPlaysArms
import Derived.StillTailTactics
import Derived.Test.YtbdocnkpjlpfmaaGreatLaid
namespace Go.Proofs.YtbdocnkpjlpfmaaGreat.groupPlays
open Go.ChangeShapes Go.WideShapes Go.ChangeAt Go.RowKit Small Foot Pane Grp Rg Rel
set_option linter.unusedVariables false

set_option maxRecDepth 100000 in
set_option maxHeartbeats 16000000 in
theorem walk_on (A : Option Addr) (n cp : Nat) (f : Nat → Deed) (cf : C8) (w : World) (n1 : n ≤ 50) (hf : Hid (∀ i, i < n → DFits (f i)))
    (hc : Hid (0 < n → ∃ b off, A = some ⟨b, off, none⟩ ∧ ∀ i, i < n → ∀ j v, (dl (f i))[j]? = some v → w.cell? ⟨b, off + (i * 5 + j), none⟩ = some v))
    (M : Hid (Asg.may cf.k cf.s cf.l cf.g cf.z cf.h cf.r cf.c)) (BC : Hid (cf.s ≤ 9223372036854775807 ∧ cf.l ≤ 9223372036854775807 ∧ cf.g ≤ 9223372036854775807 ∧ cf.z ≤ 9223372036854775807)) :
    Calls Tryz.prog 3 #[cf.v, .slice A n cp] w fun r w' => r = .returned (.bool true) ∧ Below w.heap.size w w' := by
  have q1 : decide (50 < (n : Int)) = false := by simp; omega
  have q4 : decide (50 < n) = false := by simp; omega
  have fz : Hid ((Lit.int .i64 cf.z).wf = true) := Lib.hid (wf_of (by have := M.out.2.1; omega) BC.out.2.2.2)
  have X0 : Hid (Lies (w.alloc (Obj.cells #[.int .i64 cf.k, .int .i64 cf.s, .int .i64 cf.l, .int .i64 cf.g, .int .i64 cf.z, .int .i64 cf.h, .int .i64 cf.r, .int .i64 cf.c] 23)) w.heap.size 23 cf.cl) := Lib.hid (Lies.new w 23 cf.cl)
  have K0 := Lib.hid (below1 w (Obj.cells #[.int .i64 cf.k, .int .i64 cf.s, .int .i64 cf.l, .int .i64 cf.g, .int .i64 cf.z, .int .i64 cf.h, .int .i64 cf.r, .int .i64 cf.c] 23))
  go_enter Tryz.func3, Tryz.ntmps3
  go_upto_region 1 with fail
  obtain ⟨gc, hgc⟩ : ∃ gc, gc = w.heap.size := ⟨_, rfl⟩
  have hc := Lib.hid (fun h0 : 0 < n => by
    obtain ⟨b, off, e, h⟩ := hc.out h0
    exact (⟨b, off, e, fun i hi j v hj => cell_keep K0.out (h i hi j v hj)⟩ : ∃ b off, A = some ⟨b, off, none⟩ ∧ ∀ i, i < n → ∀ j v, (dl (f i))[j]? = some v → (w.alloc (Obj.cells #[.int .i64 cf.k, .int .i64 cf.s, .int .i64 cf.l, .int .i64 cf.g, .int .i64 cf.z, .int .i64 cf.h, .int .i64 cf.r, .int .i64 cf.c] 23)).cell? ⟨b, off + (i * 5 + j), none⟩ = some v))
  rw [← hgc] at X0 ⊢
  clear hgc
  generalize w.alloc (Obj.cells #[.int .i64 cf.k, .int .i64 cf.s, .int .i64 cf.l, .int .i64 cf.g, .int .i64 cf.z, .int .i64 cf.h, .int .i64 cf.r, .int .i64 cf.c] 23) = w0 at *
  go_wp2_with fail
  refine (head_ok _).mono ?_
  rintro r w1 ⟨rfl, k1⟩
  have K1 := Lib.hid k1
  have X1 := Lib.hid (X0.out.next k1)
  have c0 := X1.out.cell (i := 0) rfl
  have c1 := X1.out.cell (i := 1) rfl
  have c2 := X1.out.cell (i := 2) rfl
  have c3 := X1.out.cell (i := 3) rfl
  have c4 := X1.out.cell (i := 4) rfl
  have c5 := X1.out.cell (i := 5) rfl
  have c6 := X1.out.cell (i := 6) rfl
  have c7 := X1.out.cell (i := 7) rfl
  clear k1
  go_wp2_with fail
  refine (new_ok cf _ M BC.out.1).mono ?_
  rintro r w2 ⟨g, m, tg, FT, rfl, Q2, F2, k2⟩
  have hs1 := K1.out.size
  have Q2 := Lib.hid Q2
  have F2 : Hid (From w0.heap.size (Fp g m FT)) := Lib.hid fun k hk => Nat.le_trans hs1 (F2 k hk)
  have K2 := Lib.hid (after K1.out k2)
  have X2 := Lib.hid (X1.out.next k2)
  clear c0 c1 c2 c3 c4 c5 c6 c7 hs1 k2 X1 K1
  have c0 := X2.out.cell (i := 0) rfl
  have c1 := X2.out.cell (i := 1) rfl
  have c2 := X2.out.cell (i := 2) rfl
  have c3 := X2.out.cell (i := 3) rfl
  have c4 := X2.out.cell (i := 4) rfl
  have c5 := X2.out.cell (i := 5) rfl
  have c6 := X2.out.cell (i := 6) rfl
  have c7 := X2.out.cell (i := 7) rfl
  go_wp2_with fail
  refine (Asg.refMay_ok cf.k cf.s cf.l cf.g cf.z cf.h cf.r cf.c _ true (Lib.hid (by simp [M.out])) BC.out.1).mono ?_
  rintro r w3 ⟨rfl, k3⟩
  have Q3 := Lib.hid (Q2.out.next k3)
  have K3 := Lib.hid (after K2.out k3)
  have X3 := Lib.hid (X2.out.next k3)
  clear c0 c1 c2 c3 c4 c5 c6 c7 k3 X2 K2 Q2
  have c0 := X3.out.cell (i := 0) rfl
  have c1 := X3.out.cell (i := 1) rfl
  have c2 := X3.out.cell (i := 2) rfl
  have c3 := X3.out.cell (i := 3) rfl
  have c4 := X3.out.cell (i := 4) rfl
  have c5 := X3.out.cell (i := 5) rfl
  have c6 := X3.out.cell (i := 6) rfl
  have c7 := X3.out.cell (i := 7) rfl
  go_upto_region 9 with fail
  have LR : Hid (Lies (w3.alloc (Obj.cells #[.int .i64 cf.k, .int .i64 cf.s, .int .i64 cf.l, .int .i64 cf.g, .int .i64 cf.z, .int .i64 cf.h, .int .i64 cf.r, .int .i64 cf.c, .slice none 0 0] 36)) w3.heap.size 36 (rcl cf (.slice none 0 0))) := Lib.hid (Lies.new w3 36 (rcl cf (.slice none 0 0)))
  have B0 := Lib.hid (start Q3.out F2.out K3.out LR.out (Nat.le_refl _) (below1 w3 (Obj.cells #[.int .i64 cf.k, .int .i64 cf.s, .int .i64 cf.l, .int .i64 cf.g, .int .i64 cf.z, .int .i64 cf.h, .int .i64 cf.r, .int .i64 cf.c, .slice none 0 0] 36)))
  obtain ⟨gr, hgr⟩ : ∃ gr, gr = w3.heap.size := ⟨_, rfl⟩
  rw [← hgr] at B0 ⊢
  clear hgr LR Q3 F2 K3 X3 c0 c1 c2 c3 c4 c5 c6 c7
  generalize w3.alloc (Obj.cells #[.int .i64 cf.k, .int .i64 cf.s, .int .i64 cf.l, .int .i64 cf.g, .int .i64 cf.z, .int .i64 cf.h, .int .i64 cf.r, .int .i64 cf.c, .slice none 0 0] 36) = w4 at *
  go_wp2_with fail
  go_loopw [10] (fun si wr => ∃ i : Nat, i ≤ n ∧ si = .int .i64 i ∧ Hid (Bn w0 wr g m tg gr cf (16 * i))) (fun si _ => n - (intOf si).toNat)
  case atStart => exact ⟨0, Nat.zero_le _, rfl, B0⟩
  case round =>
    obtain ⟨i, hi, rfl, Q⟩ := hrel
    clear B0
    by_cases hlt : i < n
    · obtain ⟨ab, off, rfl, hcell⟩ := hc.out (by omega)
      obtain ⟨x, hx⟩ : ∃ x, x = f i := ⟨_, rfl⟩
      have fx : Hid (DFits x) := Lib.hid (hx ▸ hf.out i hlt)
      have hcell := hcell i hlt
      rw [← hx] at hcell
      have hb := Q.out.1
      have d0 := hb.cell (World.block_lt_of_cell? _ _ (hcell 0 _ rfl)) |>.trans (hcell 0 _ rfl)
      have d1 := hb.cell (World.block_lt_of_cell? _ _ (hcell 1 _ rfl)) |>.trans (hcell 1 _ rfl)
      have d2 := hb.cell (World.block_lt_of_cell? _ _ (hcell 2 _ rfl)) |>.trans (hcell 2 _ rfl)
      have d3 := hb.cell (World.block_lt_of_cell? _ _ (hcell 3 _ rfl)) |>.trans (hcell 3 _ rfl)
      have d4 := hb.cell (World.block_lt_of_cell? _ _ (hcell 4 _ rfl)) |>.trans (hcell 4 _ rfl)
      rw [← Nat.add_assoc] at d0 d1 d2 d3 d4
      rw [Nat.add_zero] at d0
      have i0 : (i : Int) < n := by omega
      clear hcell hb hx
      go_upto_region 13 with fail
      have XB : Hid (Lies (wr.alloc (Obj.cells #[.bool x.settle, .string x.key, .int .i64 x.t, .int .i64 x.v, .int .i64 x.mark] 38)) wr.heap.size 38 (dl x)) := Lib.hid (Lies.new wr 38 (dl x))
      obtain ⟨S, ns, cnt, fm, FT, Bk, lv, R, b, rp, hmk⟩ := Q.out.2
      have H0 := Lib.hid (hmk _ _ x (below1 wr (Obj.cells #[.bool x.settle, .string x.key, .int .i64 x.t, .int .i64 x.v, .int .i64 x.mark] 38)) XB.out (Nat.le_refl _))
      have RP := Lib.hid rp
      obtain ⟨gx, hgx⟩ : ∃ gx, gx = wr.heap.size := ⟨_, rfl⟩
      rw [← hgx] at H0 ⊢
      clear hmk rp hgx XB Q d0 d1 d2 d3 d4
      generalize wr.alloc (Obj.cells #[.bool x.settle, .string x.key, .int .i64 x.t, .int .i64 x.v, .int .i64 x.mark] 38) = w5 at *
      have x1 := H0.out.xl.cell (i := 1) rfl
      by_cases hk : 100 < x.key.size
      · have e1 : decide (100 < (x.key.size : Int)) = true := decide_eq_true (by omega)
        have e2 : decide (100 < x.key.size) = true := decide_eq_true hk
        go_wp2_with fail
        go_ret
        exact ⟨rfl, after K0.out H0.out.below⟩
      · have e1 : decide (100 < (x.key.size : Int)) = false := decide_eq_false (by omega)
        have e2 : decide (100 < x.key.size) = false := decide_eq_false hk
        have hk : x.key.size ≤ maxLen := by unfold maxLen; omega
        have x0 := H0.out.xl.cell (i := 0) rfl
        have F := Lib.hid (H0.out.ok.fine (by omega))
        have hR : R.length ≤ 16 * i := by
          have := RP.out.count H0.out.q F.out
          have := H0.out.n
          omega
        have FE := Lib.hid (ends RP.out H0.out.q F.out)
        have fk := Lib.hid fx.out.2.2.2
        have ft := Lib.hid fx.out.2.1
        go_upto_if 78 with fail
        clear x1 e1 e2
        go_cut [12, 13, 14, 15] from 62 to 195 (fun _ _ _ _ wx => Hid (Bo w0 wx g m tg gr gx cf x (16 * (i + 1))))
        case first =>
          cases hs : x.settle
          · rw [hs] at x0
            have x1 := H0.out.xl.cell (i := 1) rfl
            have x2 := H0.out.xl.cell (i := 2) rfl
            have x3 := H0.out.xl.cell (i := 3) rfl
            have x4 := H0.out.xl.cell (i := 4) rfl
            obtain ⟨z, T⟩ := Asg.tells cf.k cf.s cf.l cf.g cf.z cf.h cf.r cf.c x.t (fit ft.out).1 (fit ft.out).2 M.out
            have T := Lib.hid T
            go_wp2_with fail
            refine (Grp.take_ok x.key x.t x.v x.mark z w5 (Lib.hid H0.out.q) (Lib.hid H0.out.ok) (by omega) (Lib.hid H0.out.bk) (by have := H0.out.cnt; omega) (by have := H0.out.n; omega) M BC ft fk hk T).mono ?_
            rintro r w6 ⟨sv, O, S1, code, c, S', n', cnt', f', FT', Bk', rfl, ho, hno, htk, te⟩
            have H1 := Lib.hid (H0.out.mine te)
            have O1 := Lib.hid te.out
            have HO := Lib.hid (And.intro ho (And.intro hno htk))
            clear x0 x1 x2 x3 x4 ho hno htk te
            have x1 := H1.out.xl.cell (i := 1) rfl
            have x2 := H1.out.xl.cell (i := 2) rfl
            have x3 := H1.out.xl.cell (i := 3) rfl
            have x4 := H1.out.xl.cell (i := 4) rfl
            go_wp2_with fail
            refine (Rg.take_ok gr cf lv R b x.key x.t x.v x.mark z w6 (Lib.hid H1.out.rg) (by omega) M BC ft fk FE T).mono ?_
            rintro r w7 ⟨sv', O', R1, R', u, b', code', rfl, ro, rno, rtk, rt, hlen⟩
            obtain ⟨rfl, rfl, rp', c16⟩ := taken_both RP.out H0.out.ok (by omega) HO.out.1 HO.out.2.1 HO.out.2.2 ro rno rtk (fun nn a d l e => by
              subst e
              obtain ⟨h1, -, h2, -⟩ := told_fits M.out (fit ft.out).1 BC.out.1 BC.out.2.2.1 T.out
              exact ⟨h1, h2⟩)
            obtain ⟨b2, h2⟩ := H1.out.theirs rt.grown rt.rg rt.fr
            have H2 := Lib.hid h2
            obtain ⟨b3, -, i3⟩ := (told_m O1.out H0.out.rg.lies.lt rt.grown).is
            obtain ⟨b7, -, i7⟩ := rt.out.is
            have I3 := Lib.hid i3
            have I7 := Lib.hid i7
            have RP2 := Lib.hid rp'
            clear x1 x2 x3 x4 H0 H1 O1 HO RP FE rt rtk ro rno h2 i3 i7 rp'
            go_wp2_with fail
            refine (same_yes _ _ O b3 b7 _ I3 I7 (by omega)).mono ?_
            rintro r w8 ⟨rfl, k8⟩
            have HB := Lib.hid ((H2.out.next k8).bo (N' := 16 * (i + 1)) (by omega) RP2.out)
            clear k8 H2 I3 I7
            go_wp2_with fail
            go_meet
            case rel => exact HB
          · rw [hs] at x0
            go_upto_region 16 with fail
            refine settleArm H0.out rfl RP.out F.out (by omega) (by omega) H0.out.rg.lies.lt FE fz fk ?_
            rintro _ _ _ _ _ _ _ _ _ _ wx ⟨rfl, hb⟩
            have HB := Lib.hid (hb.out.more (N' := 16 * (i + 1)) (by omega))
            clear hb x0
            go_wp2_with fail
            go_meet
            case rel => exact HB
        case rest =>
          rename_i w6
          obtain ⟨S2, ns, cnt2, fm2, FT2, Bk2, lv2, R2, bb, hb, rp⟩ := hcut.out
          clear H0 RP FE hR x0 F
          have F := Lib.hid (hb.ok.fine (by omega))
          obtain rfl : ns = R2.length := rp.count hb.q F.out
          obtain ⟨AV, cv, rfl⟩ := hb.rg.list.len
          have hR2 : R2.length ≤ 16 * (i + 1) := hb.n
          have H1 := Lib.hid hb
          have RP := Lib.hid rp
          clear hb rp hcut
          go_wp2_with fail
          refine (Grp.keys_ok _ (Lib.hid H1.out.q) F (by have := H1.out.cnt; omega)).mono ?_
          rintro r w7 ⟨kv, ks, rfl, hks, ok7, k7⟩
          have H2 := Lib.hid (H1.out.next k7)
          obtain ⟨bk, -, ik⟩ := ok7.is
          obtain ⟨AK, ck, rfl⟩ := ik.len
          have IK := Lib.hid ik
          have KS := Lib.hid hks
          clear ok7 k7 ik H1 hks
          go_wp2_with fail
          refine (Rg.keys_ok gr cf _ R2 bb _ (Lib.hid H2.out.rg) (by omega)).mono ?_
          rintro r w8 ⟨ov, ks', rfl, hks', ok8, k8⟩
          obtain rfl := RP.out.keys F.out KS.out hks'
          have hkl2 : ks.length ≤ R2.length := hks'.len
          have H3 := Lib.hid (H2.out.next k8)
          obtain ⟨bo, -, io⟩ := ok8.is
          obtain ⟨AO, co, rfl⟩ := io.len
          have IO := Lib.hid io
          have IK3 := Lib.hid (IK.out.next k8)
          clear ok8 k8 io H2 hks' IK
          go_upto_region 24 with fail
          refine allArm H3 RP F (by omega) hk rfl (F.out.few x.key) ?_
          rintro _ _ _ _ _ _ _ _ _ _ _ _ _ _ _ _ _ _ _ _ _ _ _ _ _ _ _ _ _ _ _ _ _ _ _ _ _ w9 ⟨rfl, H4, KB⟩
          have IO4 := Lib.hid (IO.out.next KB.out)
          have IK4 := Lib.hid (IK3.out.next KB.out)
          clear H3 IO IK3 KB
          go_wp2_with fail
          go_loopw [18] (fun sk wr => ∃ k : Nat, k ≤ ks.length ∧ sk = .int .i64 k ∧ Hid (Below w9.heap.size w9 wr)) (fun sk _ => ks.length - (intOf sk).toNat)
          case atStart => exact ⟨0, Nat.zero_le _, rfl, Lib.hid (Below.refl _ _)⟩
          case round =>
            obtain ⟨k, hkn, rfl, KJ⟩ := hrel
            by_cases hkl : k < ks.length
            · obtain ⟨key, hkey⟩ : ∃ key, ks[k]? = some key := ⟨_, List.getElem?_eq_getElem hkl⟩
              obtain ⟨fo, cap1, he1, -, -, -, hcell1⟩ := (IK4.out.next KJ.out).some_ Tx.ok (by omega)
              obtain ⟨rfl, rfl⟩ : AK = some ⟨bk, fo, none⟩ ∧ ck = cap1 := by simpa using he1
              obtain ⟨fo2, cap2, he2, -, -, -, hcell2⟩ := (IO4.out.next KJ.out).some_ Tx.ok (by omega)
              obtain ⟨rfl, rfl⟩ : AO = some ⟨bo, fo2, none⟩ ∧ co = cap2 := by simpa using he2
              have CK := Lib.hid (tx_cell (cap := 0) hcell1 hkey)
              have CO := Lib.hid (tx_cell (cap := 0) hcell2 hkey)
              have H5 := Lib.hid (H4.out.next KJ.out)
              have k0 : (k : Int) < ks.length := by omega
              have hkk : key.size ≤ maxLen := by
                obtain ⟨p, hp⟩ := List.exists_mem_of_ne_nil _ ((KS.out.mem key).1 (List.mem_of_getElem? hkey))
                exact keyfit H4.out.q F.out hp
              clear hcell1 hcell2 he1 he2 hkey
              go_upto_region 29 with fail
              refine keyArm H5 RP (by omega) hkk rfl (F.out.few key) hkl CK CO ?_
              rintro _ _ _ _ _ _ _ _ _ _ _ _ _ _ _ _ _ _ _ _ _ _ _ _ _ w10 ⟨rfl, KB⟩
              have KJ2 := Lib.hid (after KJ.out KB.out)
              clear KJ KB H5 CK CO
              go_wp2_with fail
              go_roundw
              case rel => exact ⟨k + 1, by omega, by go_num, KJ2⟩
              case measure => simp [intOf]; omega
            · obtain rfl : k = ks.length := by omega
              have HE := Lib.hid ((H4.out.next KJ.out).bn (Nat.le_refl _) RP.out)
              go_wp2_with fail
              go_roundw
              case rel => exact ⟨i + 1, by omega, by go_num, HE⟩
              case measure => simp [intOf]; omega
    · obtain rfl : i = n := by omega
      go_wp2_with fail
      go_ret
      exact ⟨rfl, after K0.out Q.out.1⟩

set_option maxRecDepth 100000 in
set_option maxHeartbeats 4000000 in
theorem walk_no (A : Option Addr) (n cp : Nat) (cf : C8) (w : World) (M : Hid (¬ Asg.may cf.k cf.s cf.l cf.g cf.z cf.h cf.r cf.c)) (s1 : cf.s ≤ 9223372036854775807) :
    Calls Tryz.prog 3 #[cf.v, .slice A n cp] w fun r w' => r = .returned (.bool true) ∧ Below w.heap.size w w' := by
  have X0 : Hid (Lies (w.alloc (Obj.cells #[.int .i64 cf.k, .int .i64 cf.s, .int .i64 cf.l, .int .i64 cf.g, .int .i64 cf.z, .int .i64 cf.h, .int .i64 cf.r, .int .i64 cf.c] 23)) w.heap.size 23 cf.cl) := Lib.hid (Lies.new w 23 cf.cl)
  have K0 := Lib.hid (below1 w (Obj.cells #[.int .i64 cf.k, .int .i64 cf.s, .int .i64 cf.l, .int .i64 cf.g, .int .i64 cf.z, .int .i64 cf.h, .int .i64 cf.r, .int .i64 cf.c] 23))
  go_enter Tryz.func3, Tryz.ntmps3
  go_wp2_with fail
  refine (head_ok _).mono ?_
  rintro r w1 ⟨rfl, k1⟩
  have K1 := Lib.hid (after K0.out k1)
  have X1 := Lib.hid (X0.out.next k1)
  have c0 := X1.out.cell (i := 0) rfl
  have c1 := X1.out.cell (i := 1) rfl
  have c2 := X1.out.cell (i := 2) rfl
  have c3 := X1.out.cell (i := 3) rfl
  have c4 := X1.out.cell (i := 4) rfl
  have c5 := X1.out.cell (i := 5) rfl
  have c6 := X1.out.cell (i := 6) rfl
  have c7 := X1.out.cell (i := 7) rfl
  clear k1
  go_wp2_with fail
  refine (new_no cf _ M s1).mono ?_
  rintro r w2 ⟨rfl, k2⟩
  have K2 := Lib.hid (after K1.out k2)
  have X2 := Lib.hid (X1.out.next k2)
  clear c0 c1 c2 c3 c4 c5 c6 c7 k2
  have c0 := X2.out.cell (i := 0) rfl
  have c1 := X2.out.cell (i := 1) rfl
  have c2 := X2.out.cell (i := 2) rfl
  have c3 := X2.out.cell (i := 3) rfl
  have c4 := X2.out.cell (i := 4) rfl
  have c5 := X2.out.cell (i := 5) rfl
  have c6 := X2.out.cell (i := 6) rfl
  have c7 := X2.out.cell (i := 7) rfl
  go_wp2_with fail
  refine (Asg.refMay_ok cf.k cf.s cf.l cf.g cf.z cf.h cf.r cf.c _ false (Lib.hid (by simp [M.out])) s1).mono ?_
  rintro r w3 ⟨rfl, k3⟩
  have K3 := Lib.hid (after K2.out k3)
  clear c0 c1 c2 c3 c4 c5 c6 c7 k3
  have qe := Errs.eql_code w3 2 2
  go_wp2
  go_ret
  exact ⟨rfl, K3.out⟩

set_option maxRecDepth 100000 in
set_option maxHeartbeats 4000000 in
theorem walk_far (A : Option Addr) (n cp : Nat) (cf : C8) (w : World) (M : Hid (Asg.may cf.k cf.s cf.l cf.g cf.z cf.h cf.r cf.c)) (hn : n ≤ maxLen) (far : 50 < n) (s1 : cf.s ≤ 9223372036854775807) :
    Calls Tryz.prog 3 #[cf.v, .slice A n cp] w fun r w' => r = .returned (.bool true) ∧ Below w.heap.size w w' := by
  unfold maxLen at hn
  have q1 : decide (50 < (n : Int)) = true := by simp; omega
  have q3 : decide (50 < n) = true := by simp; omega
  have X0 : Hid (Lies (w.alloc (Obj.cells #[.int .i64 cf.k, .int .i64 cf.s, .int .i64 cf.l, .int .i64 cf.g, .int .i64 cf.z, .int .i64 cf.h, .int .i64 cf.r, .int .i64 cf.c] 23)) w.heap.size 23 cf.cl) := Lib.hid (Lies.new w 23 cf.cl)
  have K0 := Lib.hid (below1 w (Obj.cells #[.int .i64 cf.k, .int .i64 cf.s, .int .i64 cf.l, .int .i64 cf.g, .int .i64 cf.z, .int .i64 cf.h, .int .i64 cf.r, .int .i64 cf.c] 23))
  go_enter Tryz.func3, Tryz.ntmps3
  go_wp2_with fail
  refine (head_ok _).mono ?_
  rintro r w1 ⟨rfl, k1⟩
  have K1 := Lib.hid (after K0.out k1)
  have X1 := Lib.hid (X0.out.next k1)
  have c0 := X1.out.cell (i := 0) rfl
  have c1 := X1.out.cell (i := 1) rfl
  have c2 := X1.out.cell (i := 2) rfl
  have c3 := X1.out.cell (i := 3) rfl
  have c4 := X1.out.cell (i := 4) rfl
  have c5 := X1.out.cell (i := 5) rfl
  have c6 := X1.out.cell (i := 6) rfl
  have c7 := X1.out.cell (i := 7) rfl
  clear k1
  go_wp2_with fail
  refine (new_ok cf _ M s1).mono ?_
  rintro r w2 ⟨g, m, tg, FT, rfl, -, -, k2⟩
  have K2 := Lib.hid (after K1.out k2)
  have X2 := Lib.hid (X1.out.next k2)
  clear c0 c1 c2 c3 c4 c5 c6 c7 k2
  have c0 := X2.out.cell (i := 0) rfl
  have c1 := X2.out.cell (i := 1) rfl
  have c2 := X2.out.cell (i := 2) rfl
  have c3 := X2.out.cell (i := 3) rfl
  have c4 := X2.out.cell (i := 4) rfl
  have c5 := X2.out.cell (i := 5) rfl
  have c6 := X2.out.cell (i := 6) rfl
  have c7 := X2.out.cell (i := 7) rfl
  go_wp2_with fail
  refine (Asg.refMay_ok cf.k cf.s cf.l cf.g cf.z cf.h cf.r cf.c _ true (Lib.hid (by simp [M.out])) s1).mono ?_
  rintro r w3 ⟨rfl, k3⟩
  have K3 := Lib.hid (after K2.out k3)
  clear c0 c1 c2 c3 c4 c5 c6 c7 k3
  go_wp2
  go_ret
  exact ⟨rfl, K3.out⟩

theorem walk (c : Int × Int × Int × Int × Int × Int × Int × Int) (wc : (Lit.int .i64 c.1).wf = true ∧ (Lit.int .i64 c.2.1).wf = true ∧ (Lit.int .i64 c.2.2.1).wf = true ∧ (Lit.int .i64 c.2.2.2.1).wf = true ∧ (Lit.int .i64 c.2.2.2.2.1).wf = true ∧ (Lit.int .i64 c.2.2.2.2.2.1).wf = true ∧ (Lit.int .i64 c.2.2.2.2.2.2.1).wf = true ∧ (Lit.int .i64 c.2.2.2.2.2.2.2).wf = true)
    (x : Option Addr × Nat × Nat × (Nat → Deed)) (w : World) (hx : Opens.IsRows dl 5 DFits w x) :
    Calls Tryz.prog 3 #[.agg #[.int .i64 c.1, .int .i64 c.2.1, .int .i64 c.2.2.1, .int .i64 c.2.2.2.1, .int .i64 c.2.2.2.2.1, .int .i64 c.2.2.2.2.2.1, .int .i64 c.2.2.2.2.2.2.1, .int .i64 c.2.2.2.2.2.2.2], .slice x.1 x.2.1 x.2.2.1] w fun r w' => r = .returned (.bool true) ∧ Below w.heap.size w w' := by
  obtain ⟨A, n, cp, f⟩ := x
  obtain ⟨k, s, l, g, z, h, r, cc⟩ := c
  obtain ⟨hm, hf, hc⟩ := hx
  obtain ⟨-, w1, w2, w3, w4, -, -, -⟩ := wc
  simp only at hm hf hc w1 w2 w3 w4 ⊢
  by_cases M : Asg.may k s l g z h r cc
  · by_cases h2 : n ≤ 50
    · exact walk_on A n cp f ⟨k, s, l, g, z, h, r, cc⟩ w h2 (Lib.hid hf) (Lib.hid hc) (Lib.hid M) (Lib.hid ⟨(fit w1).2, (fit w2).2, (fit w3).2, (fit w4).2⟩)
    · exact walk_far A n cp ⟨k, s, l, g, z, h, r, cc⟩ w (Lib.hid M) hm (by omega) (fit w1).2
  · exact walk_no A n cp ⟨k, s, l, g, z, h, r, cc⟩ w (Lib.hid M) (fit w1).2

theorem own : ownKnob Tryz.prog.godebug = none := by kernel_rfl

set_option maxRecDepth 100000 in
theorem lifted (os : Os) (started : os.Started) (H : Type) (enc : TypeId × Value → H) :
    ReturnsInHanded {} Tryz.checked os 3 .any (Rows.groupPlaysSpec.pre6 enc Tryz.prog Tryz.f3 Rows.groupPlaysRow.domain false) (Rows.groupPlaysSpec.post enc Tryz.prog Tryz.f3 false true false false) := by
  refine returnsInHanded_of_change (C := Tryz.checked) own started (by kernel_rfl) Tryz.func3
    (ChangeSpec.witness6 (enc := enc) (C := Tryz.checked) false ⟨#[], #[.agg #[.int .i64 0, .int .i64 0, .int .i64 0, .int .i64 0, .int .i64 0, .int .i64 0, .int .i64 0, .int .i64 0], .slice none 0 0], []⟩ 8 (by kernel_rfl) (by kernel_rfl) (by kernel_rfl) (by kernel_rfl)) ?_
  intro W base args ds gs before hval0 hW hcnd _
  have hval : ∀ (j : Nat) t v, Tryz.f3.params[j]? = some t → args[j]? = some v → Value.okWide Tryz.prog W .any base t v := hval0
  have hW' := hW
  obtain ⟨p, q, hA0, hV, rfl, hfz, hnd⟩ := hW
  have hA : DataW.TrodAll enc Tryz.prog W 0 (fun _ => true) true Tryz.f3.params.toList args.toList ds p := hA0
  rw [Tryz.params3] at hA hval
  obtain ⟨v0, vs0, d0, ds0, p0, q0, hargs, rfl, rfl, h0, r0⟩ := trodAll_cons hA
  obtain ⟨v1, vs1, d1, ds1, p1, q1, rfl, rfl, rfl, h1, r1⟩ := trodAll_cons r0
  obtain ⟨rfl, rfl, rfl⟩ := trodAll_nil r1
  obtain rfl : args = #[v0, v1] := by cases args; simp_all
  obtain ⟨rfl, rfl⟩ := trodVars_none hV
  obtain ⟨x00, x01, x02, x03, x04, x05, x06, x07, rfl, w0⟩ := Opens.open_cfg (hval 0 23 v0 rfl rfl) h0
  obtain ⟨a1, rfl, w1⟩ := Grp.open_deeds (hval 1 24 v1 rfl rfl) h1
  clear hA0 hval0
  refine (walk (x00, x01, x02, x03, x04, x05, x06, x07) w0 a1 W w1).mono fun e W' ⟨he, hg⟩ => ?_
  subst he
  exact ⟨_, rfl, Laid.post Laid.laidOut (by kernel_rfl) rfl (by kernel_rfl) Tryz.underlying4 hW' ⟨rfl, rfl, rfl⟩ hg⟩

theorem over : Rows.groupPlaysRow.holds Tryz.pinned (OpenSpec.ofChange Rows.groupPlaysSpec) :=
  OpenClaim.holds_of_wide 3 Tryz.f3 rfl rfl rfl rfl rfl rfl rfl ⟨rfl, rfl, rfl, rfl, rfl⟩ rfl rfl rfl rfl rfl (by kernel_rfl) Tryz.func3 (by kernel_rfl)
    (of_decide_eq_true (by kernel_rfl)) (by unfold Func.isWrapper; first | (rw [if_pos (by decide +kernel)]; kernel_rfl) | (rw [if_neg (by decide +kernel)]; exact ⟨rfl, rfl⟩))
    (fun os started H enc _ => lifted os started H enc)

/-- ████ THE STATEMENT ████ -/
theorem proved : Rows.GroupPlaysSaid :=
  over
#print axioms proved
end Go.Proofs.YtbdocnkpjlpfmaaGreat.groupPlays
