/-
  ModelStill holds: for any config, calls and key the law answers true (no conditions).
-/
import Derived.Test.YtemklcckhpchaaaMdLaw
import Derived.Test.YtemklcckhpchaaaLaid
namespace Go.Proofs.Ytemklcckhpchaaa
open Go.ChangeShapes Go.WideShapes Go.ChangeAt Go.RowKit
set_option maxRecDepth 100000
namespace modelStill
open Small Foot Pane Grp Ca Md
set_option linter.unusedVariables false

set_option maxRecDepth 100000 in
set_option maxHeartbeats 16000000 in
theorem walk_on (A : Option Addr) (n cp : Nat) (f : Nat → Cl) (key : ByteArray) (cf : C8) (w : World) (hq : Hid (Fw n f 60)) (hf : Hid (∀ i, i < n → (f i).Fit)) (hk100 : key.size ≤ 100) (hnm : n ≤ maxLen)
    (hc : Hid (Row A n f w)) (M : Hid (Asg.may cf.k cf.s cf.l cf.g cf.z cf.h cf.r cf.c)) (CF : Hid (cfOf cf).Fit) :
    Calls Try.prog 3 #[cf.v, .slice A n cp, .string key] w fun r w' => r = .returned (.bool true) ∧ Below w.heap.size w w' := by
  have n60 : n ≤ 60 := hq.out.1
  have hk : key.size ≤ maxLen := by unfold maxLen; omega
  have qk : decide ((100 : Int) < key.size) = false := decide_eq_false (by omega)
  have qk2 : decide (100 < key.size) = false := decide_eq_false (by omega)
  have BC : Hid (cf.s ≤ 9223372036854775807 ∧ cf.l ≤ 9223372036854775807 ∧ cf.g ≤ 9223372036854775807 ∧ cf.z ≤ 9223372036854775807) := Lib.hid ⟨(fit CF.out.2.1).2, (fit CF.out.2.2.1).2, (fit CF.out.2.2.2.1).2, (fit CF.out.2.2.2.2.1).2⟩
  have X0 := Lib.hid (Lies.new w 23 cf.cl)
  have K0 := Lib.hid (below1 w (Obj.cells #[.int .i64 cf.k, .int .i64 cf.s, .int .i64 cf.l, .int .i64 cf.g, .int .i64 cf.z, .int .i64 cf.h, .int .i64 cf.r, .int .i64 cf.c] 23))
  have hc := Lib.hid (hc.out.next K0.out)
  go_enter Try.func3, Try.ntmps3
  go_upto_region 1 with fail
  generalize w.alloc (Obj.cells #[.int .i64 cf.k, .int .i64 cf.s, .int .i64 cf.l, .int .i64 cf.g, .int .i64 cf.z, .int .i64 cf.h, .int .i64 cf.r, .int .i64 cf.c] 23) = w0 at X0 K0 hc ⊢
  go_wp2_with fail
  refine (Md.up_ok _).mono ?_
  rintro r w1 ⟨rfl, k1⟩
  have K1 := Lib.hid k1
  have X1 := Lib.hid (X0.out.next k1)
  clear k1 X0
  have c0 := X1.out.cell (i := 0) rfl
  have c1 := X1.out.cell (i := 1) rfl
  have c2 := X1.out.cell (i := 2) rfl
  have c3 := X1.out.cell (i := 3) rfl
  have c4 := X1.out.cell (i := 4) rfl
  have c5 := X1.out.cell (i := 5) rfl
  have c6 := X1.out.cell (i := 6) rfl
  have c7 := X1.out.cell (i := 7) rfl
  go_wp2_with fail
  refine (Md.new_ok cf w1 M BC.out.1).mono ?_
  rintro r w2 ⟨mo, F, rfl, h2, f2, k2⟩
  have H2 := Lib.hid h2
  have F2 : Hid (From w0.heap.size F) := Lib.hid fun k hk => Nat.le_trans K1.out.size (f2 k hk)
  have K2 := Lib.hid (after K1.out k2)
  have hc2 := Lib.hid (hc.out.next K2.out)
  clear h2 f2 k2 K1 X1
  clear c0 c1 c2 c3 c4 c5 c6 c7
  go_wp2_with fail
  refine (Md.few_ok A n cp f 60 true w2 (Lib.hid (by simpa using hq.out)) (by omega) hnm hc2).mono ?_
  rintro r w3 ⟨rfl, k3⟩
  have H3 := Lib.hid (H2.out.next k3)
  have K3 := Lib.hid (after K2.out k3)
  clear k3 H2 K2 hc2
  go_wp2_with fail
  go_loopw [10] (fun si wr => ∃ (i : Nat) (S : Lists) (mark : Int) (L : List Pn) (cl : Bool) (F : Nat → Prop), i ≤ n ∧ si = .int .i64 i ∧ Hid (Is wr mo F cf S (16 * i) mark L cl) ∧ Hid (From w0.heap.size F) ∧ Hid (Below w0.heap.size w0 wr) ∧ Hid (FineOut cf mark L) ∧ Hid ((Lit.int .i64 mark).wf = true)) (fun si _ => n - (intOf si).toNat)
  case atStart => exact ⟨0, _, _, _, _, _, Nat.zero_le _, rfl, H3, F2, K3, Lib.hid ⟨List.Pairwise.nil, fun p hp => by cases hp⟩, Lib.hid (by decide)⟩
  case round =>
    obtain ⟨i, S, mark, L, cl, F, hi, rfl, H, FR, K, FI, MW⟩ := hrel
    clear H3 F2 K3
    by_cases hlt : i < n
    · obtain ⟨ab, off, rfl, hcell⟩ := hc.out (by omega)
      obtain ⟨x, hx⟩ : ∃ x, x = f i := ⟨_, rfl⟩
      have fx : Hid x.Fit := Lib.hid (hx ▸ hf.out i hlt)
      have hxk : x.key.size ≤ maxLen := by have := hq.out.2 i hlt; rw [← hx] at this; unfold maxLen; omega
      have hcell := hcell i hlt
      rw [← hx] at hcell
      have i0 : (i : Int) < n := by omega
      have hN : 16 * i ≤ 8880 := by omega
      clear hx
      go_wp2_with fail
      refine (Md.out_ok _ H hN).mono ?_
      rintro r w1 ⟨v1, rfl, o1, k1⟩
      have H1 := Lib.hid (H.out.next k1)
      have K1 := Lib.hid (after K.out k1)
      obtain ⟨A1, c1, rfl⟩ := (Out.Rd.own o1).len
      have HA1 := Lib.hid o1
      have FIN := Lib.hid H.out.in
      clear o1 k1
      go_wp2_with fail
      refine (Md.panes_ok key w1 H1 hN hk).mono ?_
      rintro r w2 ⟨v2, rfl, o2, k2⟩
      have H2 := Lib.hid (H1.out.next k2)
      have K2 := Lib.hid (after K1.out k2)
      have HA2 := Lib.hid (HA1.out.next k2)
      have PA2 := Lib.hid o2
      have FIN1 := Lib.hid H1.out.in
      clear o2 k2 H1 K1 HA1
      go_wp2_with fail
      refine (Md.mark_ok w2 H2).mono ?_
      rintro r w3 ⟨rfl, k3⟩
      have H3 := Lib.hid (H2.out.next k3)
      have K3 := Lib.hid (after K2.out k3)
      have HA3 := Lib.hid (HA2.out.next k3)
      have PA3 := Lib.hid (PA2.out.next k3)
      clear k3 H2 K2 HA2 PA2
      have d0 := K3.out.cell (World.block_lt_of_cell? _ _ (hcell 0 _ rfl)) |>.trans (hcell 0 _ rfl)
      have d1 := K3.out.cell (World.block_lt_of_cell? _ _ (hcell 1 _ rfl)) |>.trans (hcell 1 _ rfl)
      have d2 := K3.out.cell (World.block_lt_of_cell? _ _ (hcell 2 _ rfl)) |>.trans (hcell 2 _ rfl)
      have d3 := K3.out.cell (World.block_lt_of_cell? _ _ (hcell 3 _ rfl)) |>.trans (hcell 3 _ rfl)
      have d4 := K3.out.cell (World.block_lt_of_cell? _ _ (hcell 4 _ rfl)) |>.trans (hcell 4 _ rfl)
      have d5 := K3.out.cell (World.block_lt_of_cell? _ _ (hcell 5 _ rfl)) |>.trans (hcell 5 _ rfl)
      have d6 := K3.out.cell (World.block_lt_of_cell? _ _ (hcell 6 _ rfl)) |>.trans (hcell 6 _ rfl)
      rw [← Nat.add_assoc] at d0 d1 d2 d3 d4 d5 d6
      rw [Nat.add_zero] at d0
      obtain ⟨z, T⟩ := Asg.tells cf.k cf.s cf.l cf.g cf.z cf.h cf.r cf.c x.t (fit fx.out.2.2.1).1 (fit fx.out.2.2.1).2 M.out
      have T := Lib.hid T
      have t0 : Hid (-9223372036854775808 ≤ x.t) := Lib.hid (fit fx.out.2.2.1).1
      have HC := Lib.hid hcell
      clear hcell
      go_wp2_with fail
      refine (Md.do_ok x z w3 H3 hN M CF fx hxk MW T).mono ?_
      rintro r w4 ⟨rv, code, P, c, S', mark', L', cl', F', rfl, hd, -, h4, v4, o4⟩
      obtain ⟨A4, n4, c4, rfl⟩ := lit o4
      have hP4 := Lib.hid (lit_len o4)
      have hz := Gr.told16 M.out t0.out BC.out.1 BC.out.2.2.1 T.out
      have MD := Lib.hid hd
      have hc16 := Lib.hid (hd.c16 hz)
      have hN5 : Hid (16 * i + c ≤ 8880) := Lib.hid (by have := hc16.out; omega)
      have G3 := H3.out.grp
      have FN : Fine S := by obtain ⟨g, Fg, nn, G, -⟩ := G3; exact G.fine hN
      have SN := Lib.hid (FN.few key)
      have LN : Hid (L.length ≤ 8880) := Lib.hid (by obtain ⟨g, Fg, nn, G, q⟩ := G3; omega)
      have FI5 := Lib.hid (hd.fine FI.out H3.out.over FN)
      have MW5 := Lib.hid (hd.wf MW.out fx.out.2.2.1)
      have H4 := Lib.hid h4
      have s3 := K3.out.size
      have FR5 := Lib.hid (v4.from FR.out s3)
      have K4 := Lib.hid (K3.out.trans (v4.below FR.out s3))
      have HA4 := Lib.hid (HA3.out.move fun a ha => v4.block a (HA3.out.lt a ha).2 fun q => by have := (HA3.out.lt a ha).1; have := FIN.out a q; omega)
      have PA4 := Lib.hid (PA3.out.move fun a ha => v4.block a (PA3.out.lt a ha).2 fun q => by have := (PA3.out.lt a ha).1; have := FIN1.out a q; omega)
      have x0 := K4.out.cell (World.block_lt_of_cell? _ _ (HC.out 0 _ rfl)) |>.trans (HC.out 0 _ rfl)
      rw [← Nat.add_assoc, Nat.add_zero] at x0
      clear hd h4 v4 o4 hz G3 FN s3 d0 d1 d2 d3 d4 d5 d6 H3 K3 HA3 PA3
      go_upto_region 12 with fail
      have Z5 := Lib.hid (Lies.new w4 37 [.int .i64 code, .slice A4 n4 c4])
      have K45 := below1 w4 (Obj.cells #[.int .i64 code, .slice A4 n4 c4] 37)
      have H5 := Lib.hid (H4.out.next K45)
      have K5 := Lib.hid (after K4.out K45)
      have HA5 := Lib.hid (HA4.out.next K45)
      have PA5 := Lib.hid (PA4.out.next K45)
      have x0 := cell_keep K45 x0
      obtain ⟨gz, hgz⟩ : ∃ gz, gz = w4.heap.size := ⟨_, rfl⟩
      rw [← hgz] at Z5 ⊢
      clear hgz K45 H4 K4 HA4 PA4
      generalize w4.alloc (Obj.cells #[.int .i64 code, .slice A4 n4 c4] 37) = w5 at Z5 H5 K5 HA5 PA5 x0 ⊢
      have z0 := Z5.out.cell (i := 0) rfl
      by_cases hcode : code = 0
      · subst hcode
        by_cases h6 : x.op = 6
        · have e6 : (x.op == 6) = true := by simp [h6]
          have HQ : Hid ((0 : Int) ≠ 0 ∨ x.op = 6) := Lib.hid (.inr h6)
          clear h6
          have ST := Lib.hid (MD.out.still' (Gr.told16 M.out t0.out BC.out.1 BC.out.2.2.1 T.out) HQ.out)
          obtain ⟨rfl, rfl, rfl, rfl⟩ := ST.out
          go_wp2_with fail
          refine (Md.out_ok w5 H5 (by have := hN5.out; omega)).mono ?_
          rintro r w6 ⟨v6, rfl, o6, k6⟩
          have O6 := Lib.hid o6
          have H6 := Lib.hid (H5.out.next k6)
          have HA6 := Lib.hid (HA5.out.next k6)
          have PA6 := Lib.hid (PA5.out.next k6)
          have Z6 := Lib.hid (Z5.out.next k6)
          have K6 := Lib.hid (after K5.out k6)
          clear o6 k6 z0 HA5 PA5
          go_wp2_with fail
          refine (Out.same_ok _ _ L' L' w6 (Lib.hid (Out.Rd.own O6.out)) (Lib.hid (Out.Rd.own HA6.out)) (by have := LN.out; omega) (by have := LN.out; omega)).mono ?_
          rintro r w7 ⟨rfl, k7⟩
          rw [decide_eq_true rfl]
          have H7 := Lib.hid (H6.out.next k7)
          have PA7 := Lib.hid (PA6.out.next k7)
          have HA7 := Lib.hid (HA6.out.next k7)
          have Z7 := Lib.hid (Z6.out.next k7)
          have K7 := Lib.hid (after K6.out k7)
          clear k7 O6 H6 HA6 PA6 Z6
          go_wp2_with fail
          refine (Md.panes_ok key w7 H7 (by have := hN5.out; omega) hk).mono ?_
          rintro r w8 ⟨v8, rfl, o8, k8⟩
          have O8 := Lib.hid o8
          have H8 := Lib.hid (H7.out.next k8)
          have PA8 := Lib.hid (PA7.out.next k8)
          have HA8 := Lib.hid (HA7.out.next k8)
          have Z8 := Lib.hid (Z7.out.next k8)
          have K8 := Lib.hid (after K7.out k8)
          clear o8 k8 H7 PA7 HA7 Z7
          go_wp2_with fail
          refine (Out.same_ok _ _ (S' key) (S' key) w8 (Lib.hid (Out.Rd.own O8.out)) (Lib.hid (Out.Rd.own PA8.out)) (by have := SN.out; omega) (by have := SN.out; omega)).mono ?_
          rintro r w9 ⟨rfl, k9⟩
          rw [decide_eq_true rfl]
          have H9 := Lib.hid (H8.out.next k9)
          have HA9 := Lib.hid (HA8.out.next k9)
          have Z9 := Lib.hid (Z8.out.next k9)
          have K9 := Lib.hid (after K8.out k9)
          clear k9 O8 H8 PA8 HA8 Z8
          go_wp2_with fail
          refine (Md.mark_ok w9 H9).mono ?_
          rintro r w10 ⟨rfl, k10⟩
          have H10 := Lib.hid (H9.out.next k10)
          have HA10 := Lib.hid (HA9.out.next k10)
          have Z10 := Lib.hid (Z9.out.next k10)
          have K10 := Lib.hid (after K9.out k10)
          clear k10 H9 HA9 Z9
          have z1 := Z10.out.cell (i := 1) rfl
          have hn0 : n4 = 0 := by have := hP4.out; simpa using this
          subst hn0
          go_wp2_with fail
          refine (Md.out_ok w10 H10 (by have := hN5.out; omega)).mono ?_
          rintro r w11 ⟨v11, rfl, o11, k11⟩
          obtain ⟨A11, c11, rfl⟩ := (Out.Rd.own o11).len
          have H11 := Lib.hid (H10.out.next k11)
          have K11 := Lib.hid (after K10.out k11)
          clear o11 k11
          have hlen : decide ((L'.length : Int) < L'.length) = false := decide_eq_false (by have := (MD.out.grow).1; omega)
          have hlen2 : decide (L'.length < L'.length) = false := decide_eq_false (by have := (MD.out.grow).1; omega)
          go_wp2_with fail
          refine (Md.mark_ok w11 H11).mono ?_
          rintro r w12 ⟨rfl, k12⟩
          have H12 := Lib.hid (H11.out.next k12)
          have K12 := Lib.hid (after K11.out k12)
          clear k12 H11 K11
          have hmk : decide (mark' < mark') = false := decide_eq_false (by have := (MD.out.grow).2; omega)
          go_wp2_with fail
          exact ⟨⟨i + 1, S', mark', L', cl', F', by omega, by go_num, Lib.hid (H12.out.more (by have := hc16.out; omega)), FR5, K12, FI5, MW5⟩, by simp [intOf]; omega⟩
        · have e6 : (x.op == 6) = false := by simp [h6]
          clear h6
          go_wp2_with fail
          refine (Md.out_ok w5 H5 (by have := hN5.out; omega)).mono ?_
          rintro r w11 ⟨v11, rfl, o11, k11⟩
          obtain ⟨A11, c11, rfl⟩ := (Out.Rd.own o11).len
          have H11 := Lib.hid (H5.out.next k11)
          have K11 := Lib.hid (after K5.out k11)
          clear o11 k11
          have hlen : decide ((L'.length : Int) < L.length) = false := decide_eq_false (by have := (MD.out.grow).1; omega)
          have hlen2 : decide (L'.length < L.length) = false := decide_eq_false (by have := (MD.out.grow).1; omega)
          go_wp2_with fail
          refine (Md.mark_ok w11 H11).mono ?_
          rintro r w12 ⟨rfl, k12⟩
          have H12 := Lib.hid (H11.out.next k12)
          have K12 := Lib.hid (after K11.out k12)
          clear k12 H11 K11
          have hmk : decide (mark' < mark) = false := decide_eq_false (by have := (MD.out.grow).2; omega)
          go_wp2_with fail
          exact ⟨⟨i + 1, S', mark', L', cl', F', by omega, by go_num, Lib.hid (H12.out.more (by have := hc16.out; omega)), FR5, K12, FI5, MW5⟩, by simp [intOf]; omega⟩
      · have ec : (code != 0) = true := by simp [hcode]
        have HQ : Hid (code ≠ 0 ∨ x.op = 6) := Lib.hid (.inl hcode)
        clear hcode
        have ST := Lib.hid (MD.out.still' (Gr.told16 M.out t0.out BC.out.1 BC.out.2.2.1 T.out) HQ.out)
        obtain ⟨rfl, rfl, rfl, rfl⟩ := ST.out
        go_wp2_with fail
        refine (Md.out_ok w5 H5 (by have := hN5.out; omega)).mono ?_
        rintro r w6 ⟨v6, rfl, o6, k6⟩
        have O6 := Lib.hid o6
        have H6 := Lib.hid (H5.out.next k6)
        have HA6 := Lib.hid (HA5.out.next k6)
        have PA6 := Lib.hid (PA5.out.next k6)
        have Z6 := Lib.hid (Z5.out.next k6)
        have K6 := Lib.hid (after K5.out k6)
        clear o6 k6 z0 HA5 PA5
        go_wp2_with fail
        refine (Out.same_ok _ _ L' L' w6 (Lib.hid (Out.Rd.own O6.out)) (Lib.hid (Out.Rd.own HA6.out)) (by have := LN.out; omega) (by have := LN.out; omega)).mono ?_
        rintro r w7 ⟨rfl, k7⟩
        rw [decide_eq_true rfl]
        have H7 := Lib.hid (H6.out.next k7)
        have PA7 := Lib.hid (PA6.out.next k7)
        have HA7 := Lib.hid (HA6.out.next k7)
        have Z7 := Lib.hid (Z6.out.next k7)
        have K7 := Lib.hid (after K6.out k7)
        clear k7 O6 H6 HA6 PA6 Z6
        go_wp2_with fail
        refine (Md.panes_ok key w7 H7 (by have := hN5.out; omega) hk).mono ?_
        rintro r w8 ⟨v8, rfl, o8, k8⟩
        have O8 := Lib.hid o8
        have H8 := Lib.hid (H7.out.next k8)
        have PA8 := Lib.hid (PA7.out.next k8)
        have HA8 := Lib.hid (HA7.out.next k8)
        have Z8 := Lib.hid (Z7.out.next k8)
        have K8 := Lib.hid (after K7.out k8)
        clear o8 k8 H7 PA7 HA7 Z7
        go_wp2_with fail
        refine (Out.same_ok _ _ (S' key) (S' key) w8 (Lib.hid (Out.Rd.own O8.out)) (Lib.hid (Out.Rd.own PA8.out)) (by have := SN.out; omega) (by have := SN.out; omega)).mono ?_
        rintro r w9 ⟨rfl, k9⟩
        rw [decide_eq_true rfl]
        have H9 := Lib.hid (H8.out.next k9)
        have HA9 := Lib.hid (HA8.out.next k9)
        have Z9 := Lib.hid (Z8.out.next k9)
        have K9 := Lib.hid (after K8.out k9)
        clear k9 O8 H8 PA8 HA8 Z8
        go_wp2_with fail
        refine (Md.mark_ok w9 H9).mono ?_
        rintro r w10 ⟨rfl, k10⟩
        have H10 := Lib.hid (H9.out.next k10)
        have HA10 := Lib.hid (HA9.out.next k10)
        have Z10 := Lib.hid (Z9.out.next k10)
        have K10 := Lib.hid (after K9.out k10)
        clear k10 H9 HA9 Z9
        have z1 := Z10.out.cell (i := 1) rfl
        have hn0 : n4 = 0 := by have := hP4.out; simpa using this
        subst hn0
        go_wp2_with fail
        refine (Md.out_ok w10 H10 (by have := hN5.out; omega)).mono ?_
        rintro r w11 ⟨v11, rfl, o11, k11⟩
        obtain ⟨A11, c11, rfl⟩ := (Out.Rd.own o11).len
        have H11 := Lib.hid (H10.out.next k11)
        have K11 := Lib.hid (after K10.out k11)
        clear o11 k11
        have hlen : decide ((L'.length : Int) < L'.length) = false := decide_eq_false (by have := (MD.out.grow).1; omega)
        have hlen2 : decide (L'.length < L'.length) = false := decide_eq_false (by have := (MD.out.grow).1; omega)
        go_wp2_with fail
        refine (Md.mark_ok w11 H11).mono ?_
        rintro r w12 ⟨rfl, k12⟩
        have H12 := Lib.hid (H11.out.next k12)
        have K12 := Lib.hid (after K11.out k12)
        clear k12 H11 K11
        have hmk : decide (mark' < mark') = false := decide_eq_false (by have := (MD.out.grow).2; omega)
        go_wp2_with fail
        exact ⟨⟨i + 1, S', mark', L', cl', F', by omega, by go_num, Lib.hid (H12.out.more (by have := hc16.out; omega)), FR5, K12, FI5, MW5⟩, by simp [intOf]; omega⟩
    · obtain rfl : i = n := by omega
      go_wp2_with fail
      refine (Md.out_ok _ H (by omega)).mono ?_
      rintro r w1 ⟨v1, rfl, o1, k1⟩
      have H1 := Lib.hid (H.out.next k1)
      have K1 := Lib.hid (after K.out k1)
      have LN : Hid (L.length ≤ 8880) := Lib.hid (by obtain ⟨g, Fg, nn, G, q⟩ := H.out.grp; omega)
      obtain ⟨b1, -, i1⟩ := o1.is
      have I1 := Lib.hid i1
      clear o1 k1 i1
      go_wp2_with fail
      refine (fine_yes _ L b1 w1 I1 (by have := LN.out; omega) (Lib.hid FI.out.1)).mono ?_
      rintro r w2 ⟨rfl, k2⟩
      have K2 := Lib.hid (after K1.out k2)
      clear k2
      go_wp2
      go_ret
      exact ⟨rfl, after K0.out K2.out⟩

set_option maxHeartbeats 4000000 in
theorem walk_no (A : Option Addr) (n cp : Nat) (key : ByteArray) (cf : C8) (w : World) (M : Hid (¬ Asg.may cf.k cf.s cf.l cf.g cf.z cf.h cf.r cf.c)) (s1 : cf.s ≤ 9223372036854775807) :
    Calls Try.prog 3 #[cf.v, .slice A n cp, .string key] w fun r w' => r = .returned (.bool true) ∧ Below w.heap.size w w' := by
  have X0 := Lib.hid (Lies.new w 23 cf.cl)
  have K0 := Lib.hid (below1 w (Obj.cells #[.int .i64 cf.k, .int .i64 cf.s, .int .i64 cf.l, .int .i64 cf.g, .int .i64 cf.z, .int .i64 cf.h, .int .i64 cf.r, .int .i64 cf.c] 23))
  go_enter Try.func3, Try.ntmps3
  go_upto_region 1 with fail
  generalize w.alloc (Obj.cells #[.int .i64 cf.k, .int .i64 cf.s, .int .i64 cf.l, .int .i64 cf.g, .int .i64 cf.z, .int .i64 cf.h, .int .i64 cf.r, .int .i64 cf.c] 23) = w0 at X0 K0 ⊢
  go_wp2_with fail
  refine (Md.up_ok _).mono ?_
  rintro r w1 ⟨rfl, k1⟩
  have K1 := Lib.hid (after K0.out k1)
  have X1 := Lib.hid (X0.out.next k1)
  clear k1 X0 K0
  have c0 := X1.out.cell (i := 0) rfl
  have c1 := X1.out.cell (i := 1) rfl
  have c2 := X1.out.cell (i := 2) rfl
  have c3 := X1.out.cell (i := 3) rfl
  have c4 := X1.out.cell (i := 4) rfl
  have c5 := X1.out.cell (i := 5) rfl
  have c6 := X1.out.cell (i := 6) rfl
  have c7 := X1.out.cell (i := 7) rfl
  go_wp2_with fail
  refine (Md.new_no cf w1 M s1).mono ?_
  rintro r w2 ⟨rfl, k2⟩
  have K2 := Lib.hid (after K1.out k2)
  clear k2
  go_wp2
  go_ret
  exact ⟨rfl, K2.out⟩

set_option maxHeartbeats 4000000 in
theorem walk_far (A : Option Addr) (n cp : Nat) (f : Nat → Cl) (key : ByteArray) (cf : C8) (w : World) (b : Bool) (hq : Hid (b = true ↔ Fw n f 60)) (hb : b = false ∨ 100 < key.size) (hnm : n ≤ maxLen)
    (hc : Hid (Row A n f w)) (M : Hid (Asg.may cf.k cf.s cf.l cf.g cf.z cf.h cf.r cf.c)) (s1 : cf.s ≤ 9223372036854775807) :
    Calls Try.prog 3 #[cf.v, .slice A n cp, .string key] w fun r w' => r = .returned (.bool true) ∧ Below w.heap.size w w' := by
  have X0 := Lib.hid (Lies.new w 23 cf.cl)
  have K0 := Lib.hid (below1 w (Obj.cells #[.int .i64 cf.k, .int .i64 cf.s, .int .i64 cf.l, .int .i64 cf.g, .int .i64 cf.z, .int .i64 cf.h, .int .i64 cf.r, .int .i64 cf.c] 23))
  have HB := Lib.hid hb
  clear hb
  go_enter Try.func3, Try.ntmps3
  go_upto_region 1 with fail
  generalize w.alloc (Obj.cells #[.int .i64 cf.k, .int .i64 cf.s, .int .i64 cf.l, .int .i64 cf.g, .int .i64 cf.z, .int .i64 cf.h, .int .i64 cf.r, .int .i64 cf.c] 23) = w0 at X0 K0 ⊢
  go_wp2_with fail
  refine (Md.up_ok _).mono ?_
  rintro r w1 ⟨rfl, k1⟩
  have K1 := Lib.hid (after K0.out k1)
  have X1 := Lib.hid (X0.out.next k1)
  clear k1 X0 K0
  have c0 := X1.out.cell (i := 0) rfl
  have c1 := X1.out.cell (i := 1) rfl
  have c2 := X1.out.cell (i := 2) rfl
  have c3 := X1.out.cell (i := 3) rfl
  have c4 := X1.out.cell (i := 4) rfl
  have c5 := X1.out.cell (i := 5) rfl
  have c6 := X1.out.cell (i := 6) rfl
  have c7 := X1.out.cell (i := 7) rfl
  go_wp2_with fail
  refine (Md.new_ok cf w1 M s1).mono ?_
  rintro r w2 ⟨mo, F, rfl, -, -, k2⟩
  have K2 := Lib.hid (after K1.out k2)
  have hc2 := Lib.hid (hc.out.next K2.out)
  clear k2
  go_wp2_with fail
  refine (Md.few_ok A n cp f 60 b w2 hq (by omega) hnm hc2).mono ?_
  rintro r w3 ⟨rfl, k3⟩
  have K3 := Lib.hid (after K2.out k3)
  clear k3
  cases b with
  | false =>
    go_wp2
    go_ret
    exact ⟨rfl, K3.out⟩
  | true =>
    have hk : 100 < key.size := by
      rcases HB.out with q | q
      · cases q
      · exact q
    have qk : decide ((100 : Int) < key.size) = true := decide_eq_true (by omega)
    have qk2 : decide (100 < key.size) = true := decide_eq_true hk
    go_wp2
    go_ret
    exact ⟨rfl, K3.out⟩

theorem walk (c : Cf) (hc : c.Fit) (x : Option Addr × Nat × Nat × (Nat → Cl)) (key : ByteArray) (w : World) (hx : Opens.IsRows Cl.cl 7 Cl.Fit w x) :
    Calls Try.prog 3 #[c.val, .slice x.1 x.2.1 x.2.2.1, .string key] w fun r w' => r = .returned (.bool true) ∧ Below w.heap.size w w' := by
  obtain ⟨A, n, cp, f⟩ := x
  obtain ⟨hm, hf, hr⟩ := hx
  simp only at hm hf hr ⊢
  obtain ⟨k, s, l, g, z, h, r, cc⟩ := c
  by_cases M : Asg.may k s l g z h r cc
  · by_cases hq : Fw n f 60 ∧ key.size ≤ 100
    · exact walk_on A n cp f key ⟨k, s, l, g, z, h, r, cc⟩ w (Lib.hid hq.1) (Lib.hid hf) hq.2 hm (Lib.hid hr) (Lib.hid M) (Lib.hid hc)
    · obtain ⟨b, hb⟩ : ∃ b : Bool, b = true ↔ Fw n f 60 := by classical exact ⟨decide (Fw n f 60), by simp⟩
      refine walk_far A n cp f key ⟨k, s, l, g, z, h, r, cc⟩ w b (Lib.hid hb) ?_ hm (Lib.hid hr) (Lib.hid M) (fit hc.2.1).2
      cases b with
      | false => exact .inl rfl
      | true => exact .inr (by have := hb.1 rfl; exact Nat.lt_of_not_le fun q => hq ⟨this, q⟩)
  · exact walk_no A n cp key ⟨k, s, l, g, z, h, r, cc⟩ w (Lib.hid M) (fit hc.2.1).2

theorem own : ownKnob Try.prog.godebug = none := by kernel_rfl

set_option maxRecDepth 100000 in
theorem lifted (os : Os) (started : os.Started) (H : Type) (enc : TypeId × Value → H) :
    ReturnsInHanded {} Try.checked os 3 .any (Rows.modelStillSpec.pre6 enc Try.prog Try.f3 Rows.modelStillRow.domain false) (Rows.modelStillSpec.post enc Try.prog Try.f3 false true false false) := by
  refine returnsInHanded_of_change (C := Try.checked) own started (by kernel_rfl) Try.func3
    (ChangeSpec.witness6 (enc := enc) (C := Try.checked) false ⟨#[], #[.agg #[.int .i64 0, .int .i64 0, .int .i64 0, .int .i64 0, .int .i64 0, .int .i64 0, .int .i64 0, .int .i64 0], .slice none 0 0, .string ⟨#[]⟩], []⟩ 8 (by kernel_rfl) (by kernel_rfl) (by kernel_rfl) (by kernel_rfl)) ?_
  intro W base args ds gs before hval0 hW hcnd _
  have hval : ∀ (j : Nat) t v, Try.f3.params[j]? = some t → args[j]? = some v → Value.okWide Try.prog W .any base t v := hval0
  have hW' := hW
  obtain ⟨p, q, hA0, hV, rfl, hfz, hnd⟩ := hW
  have hA : DataW.TrodAll enc Try.prog W 0 (fun _ => true) true Try.f3.params.toList args.toList ds p := hA0
  rw [Try.params3] at hA hval
  obtain ⟨v0, vs0, d0, ds0, p0, q0, hargs, rfl, rfl, h0, r0⟩ := trodAll_cons hA
  obtain ⟨v1, vs1, d1, ds1, p1, q1, rfl, rfl, rfl, h1, r1⟩ := trodAll_cons r0
  obtain ⟨v2, vs2, d2, ds2, p2, q2, rfl, rfl, rfl, h2, r2⟩ := trodAll_cons r1
  obtain ⟨rfl, rfl, rfl⟩ := trodAll_nil r2
  obtain rfl : args = #[v0, v1, v2] := by cases args; simp_all
  obtain ⟨rfl, rfl⟩ := trodVars_none hV
  obtain ⟨a0, rfl, w0⟩ := Opens.open_config (hval 0 23 v0 rfl rfl) h0
  obtain ⟨a1, rfl, w1⟩ := Opens.open_calls (hval 1 24 v1 rfl rfl) h1
  obtain ⟨a2, rfl, w2⟩ := Opens.open_str (hval 2 9 v2 rfl rfl) h2
  clear hA0 hval0
  refine (walk a0 w0 a1 a2 W w1).mono fun e W' ⟨he, hg⟩ => ?_
  subst he
  exact ⟨_, rfl, Laid.post Laid.laidOut (by kernel_rfl) rfl (by kernel_rfl) Try.underlying4 hW' ⟨rfl, rfl, rfl⟩ hg⟩

theorem over : Rows.modelStillRow.holds Try.pinned (OpenSpec.ofChange Rows.modelStillSpec) :=
  OpenClaim.holds_of_wide 3 Try.f3 rfl rfl rfl rfl rfl rfl rfl ⟨rfl, rfl, rfl, rfl, rfl⟩ rfl rfl rfl rfl rfl (by kernel_rfl) Try.func3 (by kernel_rfl)
    (of_decide_eq_true (by kernel_rfl)) (by unfold Func.isWrapper; first | (rw [if_pos (by decide +kernel)]; kernel_rfl) | (rw [if_neg (by decide +kernel)]; exact ⟨rfl, rfl⟩))
    (fun os started H enc _ => lifted os started H enc)

/-- ████ THE STATEMENT ████ -/
theorem proved : Rows.ModelStillSaid :=
  over
#print axioms proved
end Go.Proofs.Ytemklcckhpchaaa.modelStill
