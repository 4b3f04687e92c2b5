/-
  ModelAsks holds: for any config, calls, call and watermark the law answers true (no conditions).
-/
import Derived.Test.YtemklcckhpchaaaGreatRmAll
import Derived.Test.YtemklcckhpchaaaGreatLaid
namespace Go.Proofs.YtemklcckhpchaaaGreat
open Go.ChangeShapes Go.WideShapes Go.ChangeAt Go.RowKit
set_option maxRecDepth 100000
namespace modelAsks
open Small Foot Pane Grp Ca Md Rg
set_option linter.unusedVariables false

/-- both groups, side by side -/
structure AB (w0 w : World) (g gr : Nat) (F G : Nat → Prop) (cf : C8) (S : Lists) (R : List Pn) (N n : Nat) : Prop where
  gi : Gr.Is w g F cf S N n
  ri : Rr.Is w gr G cf R
  ap : Apart F G
  ff : From w0.heap.size F
  fg : From w0.heap.size G
  bl : Below w0.heap.size w0 w
  rp : Rep S R
theorem AB.next {w0 w w' : World} {g gr N n : Nat} {F G : Nat → Prop} {cf : C8} {S : Lists} {R : List Pn} (h : AB w0 w g gr F G cf S R N n) (k : Below w.heap.size w w') : AB w0 w' g gr F G cf S R N n :=
  ⟨h.gi.next k, h.ri.next k, h.ap, h.ff, h.fg, h.bl.trans (k.mono h.bl.size), h.rp⟩

set_option maxHeartbeats 16000000 in
theorem walk_on (A : Option Addr) (n cp : Nat) (f : Nat → Cl) (x : Cl) (mark : Int) (cf : C8) (w : World) (hq : Hid (Fw n f 40)) (hf : Hid (∀ i, i < n → (f i).Fit)) (FX : Hid x.Fit) (hk100 : x.key.size ≤ 100) (FK : Hid ((Lit.int .i64 mark).wf = true)) (hnm : n ≤ maxLen)
    (hc : Hid (Row A n f w)) (M : Hid (Asg.may cf.k cf.s cf.l cf.g cf.z cf.h cf.r cf.c)) (CFI : Hid (cfOf cf).Fit) :
    Calls Tryz.prog 4 #[cf.v, .slice A n cp, x.val, .int .i64 mark] w fun r w' => r = .returned (.bool true) ∧ Below w.heap.size w w' := by
  have n40 : n ≤ 40 := hq.out.1
  have hxk : x.key.size ≤ maxLen := by unfold maxLen; omega
  have qk : decide ((100 : Int) < x.key.size) = false := decide_eq_false (by omega)
  have qk2 : decide (100 < x.key.size) = false := decide_eq_false (by omega)
  have BC : Hid (cf.s ≤ 9223372036854775807 ∧ cf.l ≤ 9223372036854775807 ∧ cf.g ≤ 9223372036854775807 ∧ cf.z ≤ 9223372036854775807) := Lib.hid ⟨(fit CFI.out.2.1).2, (fit CFI.out.2.2.1).2, (fit CFI.out.2.2.2.1).2, (fit CFI.out.2.2.2.2.1).2⟩
  obtain ⟨z, T⟩ := Asg.tells cf.k cf.s cf.l cf.g cf.z cf.h cf.r cf.c x.t (fit FX.out.2.2.1).1 (fit FX.out.2.2.1).2 M.out
  have T := Lib.hid T
  obtain ⟨m, hm⟩ : ∃ m : Bool, m = true ↔ mayC (cfOf cf) x := by classical exact ⟨decide (mayC (cfOf cf) x), by simp⟩
  have MAY := Lib.hid fun w => Ca.rmay_ok (cfOf cf) x w m (Lib.hid hm) CFI.out FX.out
  have KEY := Lib.hid fun w => Ca.rkeyed_ok x w
  have HM := Lib.hid hm
  clear hm
  have X0 := Lib.hid ((Lies.new w 23 cf.cl).next (below1 _ (Obj.cells #[.int .i64 x.op, .string x.key, .int .i64 x.t, .int .i64 x.v, .int .i64 x.e, .int .i64 x.u, .int .i64 x.s] 42)))
  have y00 := Lies.new (w.alloc (Obj.cells #[.int .i64 cf.k, .int .i64 cf.s, .int .i64 cf.l, .int .i64 cf.g, .int .i64 cf.z, .int .i64 cf.h, .int .i64 cf.r, .int .i64 cf.c] 23)) 42 x.cl
  simp only [World.size_alloc] at y00
  have XX0 := Lib.hid y00
  clear y00
  have K0 := Lib.hid (below2 w (Obj.cells #[.int .i64 cf.k, .int .i64 cf.s, .int .i64 cf.l, .int .i64 cf.g, .int .i64 cf.z, .int .i64 cf.h, .int .i64 cf.r, .int .i64 cf.c] 23) (Obj.cells #[.int .i64 x.op, .string x.key, .int .i64 x.t, .int .i64 x.v, .int .i64 x.e, .int .i64 x.u, .int .i64 x.s] 42))
  have hc := Lib.hid (hc.out.next K0.out)
  have s00 : ((w.alloc (Obj.cells #[.int .i64 cf.k, .int .i64 cf.s, .int .i64 cf.l, .int .i64 cf.g, .int .i64 cf.z, .int .i64 cf.h, .int .i64 cf.r, .int .i64 cf.c] 23)).alloc (Obj.cells #[.int .i64 x.op, .string x.key, .int .i64 x.t, .int .i64 x.v, .int .i64 x.e, .int .i64 x.u, .int .i64 x.s] 42)).heap.size = w.heap.size + 1 + 1 := by simp
  have hs0 := Lib.hid s00
  clear s00
  go_enter Tryz.func4, Tryz.ntmps4
  go_upto_region 1 with fail
  have XX0 : Hid (Lies ((w.alloc (Obj.cells #[.int .i64 cf.k, .int .i64 cf.s, .int .i64 cf.l, .int .i64 cf.g, .int .i64 cf.z, .int .i64 cf.h, .int .i64 cf.r, .int .i64 cf.c] 23)).alloc (Obj.cells #[.int .i64 x.op, .string x.key, .int .i64 x.t, .int .i64 x.v, .int .i64 x.e, .int .i64 x.u, .int .i64 x.s] 42)) (w.heap.size + 1) 42 [.int .i64 x.op, .string x.key, .int .i64 x.t, .int .i64 x.v, .int .i64 x.e, .int .i64 x.u, .int .i64 x.s]) := XX0
  have X0 : Hid (Lies ((w.alloc (Obj.cells #[.int .i64 cf.k, .int .i64 cf.s, .int .i64 cf.l, .int .i64 cf.g, .int .i64 cf.z, .int .i64 cf.h, .int .i64 cf.r, .int .i64 cf.c] 23)).alloc (Obj.cells #[.int .i64 x.op, .string x.key, .int .i64 x.t, .int .i64 x.v, .int .i64 x.e, .int .i64 x.u, .int .i64 x.s] 42)) w.heap.size 23 [.int .i64 cf.k, .int .i64 cf.s, .int .i64 cf.l, .int .i64 cf.g, .int .i64 cf.z, .int .i64 cf.h, .int .i64 cf.r, .int .i64 cf.c]) := X0
  generalize ((w.alloc (Obj.cells #[.int .i64 cf.k, .int .i64 cf.s, .int .i64 cf.l, .int .i64 cf.g, .int .i64 cf.z, .int .i64 cf.h, .int .i64 cf.r, .int .i64 cf.c] 23)).alloc (Obj.cells #[.int .i64 x.op, .string x.key, .int .i64 x.t, .int .i64 x.v, .int .i64 x.e, .int .i64 x.u, .int .i64 x.s] 42)) = w0 at X0 XX0 K0 hc hs0 ⊢
  go_wp2_with fail
  refine (Md.up_ok _).mono ?_
  rintro r w1 ⟨rfl, k1⟩
  have K1 := Lib.hid k1
  have X1 := Lib.hid (X0.out.next k1)
  clear k1
  have c0 := X1.out.cell (i := 0) rfl
  have c1 := X1.out.cell (i := 1) rfl
  have c2 := X1.out.cell (i := 2) rfl
  have c3 := X1.out.cell (i := 3) rfl
  have c4 := X1.out.cell (i := 4) rfl
  have c5 := X1.out.cell (i := 5) rfl
  have c6 := X1.out.cell (i := 6) rfl
  have c7 := X1.out.cell (i := 7) rfl
  go_wp2_with fail
  refine (Gr.new_ok cf w1 M BC.out.1).mono ?_
  rintro r w2 ⟨g, F, rfl, g2, f2, k2⟩
  have G2 := Lib.hid g2
  have F2 : Hid (From w0.heap.size F) := Lib.hid fun k hk => Nat.le_trans K1.out.size (f2 k hk)
  have K2 := Lib.hid (after K1.out k2)
  have hc2 := Lib.hid (hc.out.next K2.out)
  clear g2 f2 k2 K1 X1
  clear c0 c1 c2 c3 c4 c5 c6 c7
  go_wp2_with fail
  refine (Md.few_ok A n cp f 40 true w2 (Lib.hid (by simpa using hq.out)) (by omega) hnm hc2).mono ?_
  rintro r w3 ⟨rfl, k3⟩
  have G3 := Lib.hid (G2.out.next k3)
  have K3 := Lib.hid (after K2.out k3)
  have X3 := Lib.hid (X0.out.next K3.out)
  have XX3 := Lib.hid (XX0.out.next K3.out)
  clear k3 G2 K2 hc2
  have c0 := X3.out.cell (i := 0) rfl
  have c1 := X3.out.cell (i := 1) rfl
  have c2 := X3.out.cell (i := 2) rfl
  have c3 := X3.out.cell (i := 3) rfl
  have c4 := X3.out.cell (i := 4) rfl
  have c5 := X3.out.cell (i := 5) rfl
  have c6 := X3.out.cell (i := 6) rfl
  have c7 := X3.out.cell (i := 7) rfl
  have d1 := XX3.out.cell (i := 1) rfl
  go_upto_region 6 with fail
  clear c0 c1 c2 c3 c4 c5 c6 c7
  clear d1
  have LR := Lib.hid (Lies.new w3 55 (rcl cf (.slice none 0 0)))
  have kk := below1 w3 (Obj.cells #[.int .i64 cf.k, .int .i64 cf.s, .int .i64 cf.l, .int .i64 cf.g, .int .i64 cf.z, .int .i64 cf.h, .int .i64 cf.r, .int .i64 cf.c, .slice none 0 0] 55)
  have G4 := Lib.hid (G3.out.next kk)
  have K4 := Lib.hid (after K3.out kk)
  have hF3 : Hid (In w3 F) := Lib.hid G3.out.in
  obtain ⟨gr, hgr⟩ : ∃ gr, gr = w3.heap.size := ⟨_, rfl⟩
  have hgr0 : Hid (w0.heap.size ≤ gr) := Lib.hid (by rw [hgr]; exact K3.out.size)
  have nFgr : Hid (¬ F gr) := Lib.hid fun q => by have := hF3.out _ q; omega
  have LR : Hid (Lies (w3.alloc (Obj.cells #[.int .i64 cf.k, .int .i64 cf.s, .int .i64 cf.l, .int .i64 cf.g, .int .i64 cf.z, .int .i64 cf.h, .int .i64 cf.r, .int .i64 cf.c, .slice none 0 0] 55)) gr 55 (rcl cf (.slice none 0 0))) := by rw [hgr]; exact LR
  rw [← hgr]
  clear hgr kk G3 K3 X3 XX3 hF3
  generalize w3.alloc (Obj.cells #[.int .i64 cf.k, .int .i64 cf.s, .int .i64 cf.l, .int .i64 cf.g, .int .i64 cf.z, .int .i64 cf.h, .int .i64 cf.r, .int .i64 cf.c, .slice none 0 0] 55) = w4 at LR G4 K4 ⊢
  have B4 : Hid (AB w0 w4 g gr F (fun k => k = gr) cf (fun _ => []) [] (16 * 0) 0) := Lib.hid ⟨G4.out, ⟨.slice none 0 0, gr, ⟨LR.out, Sl.Is.nil _ _ _, fun q => absurd rfl q⟩, LR.out.lt, fun k => by simp⟩, fun k hk q => nFgr.out (q ▸ hk), F2.out, fun k hk => by rw [hk]; exact hgr0.out, K4.out, Rr.rep_none⟩
  clear LR G4 K4 F2 nFgr
  go_wp2_with fail
  go_loopw [13] (fun si wr => ∃ (i : Nat) (S : Lists) (n' : Nat) (F : Nat → Prop) (R : List Pn) (G : Nat → Prop), i ≤ n ∧ si = .int .i64 i ∧ Hid (AB w0 wr g gr F G cf S R (16 * i) n')) (fun si _ => n - (intOf si).toNat)
  case atStart => exact ⟨0, _, _, _, _, _, Nat.zero_le _, rfl, B4⟩
  case round =>
    obtain ⟨i, S, n', F, R, G, hi, rfl, B⟩ := hrel
    clear B4
    have hNi : 16 * i ≤ 8880 := by omega
    have hRn := Rr.count B.out.rp B.out.gi hNi
    have hRN : R.length ≤ 16 * i := by have := B.out.gi.few; omega
    by_cases hlt : i < n
    · obtain ⟨ab, off, rfl, hcell⟩ := hc.out (by omega)
      obtain ⟨y, hy⟩ : ∃ y, y = f i := ⟨_, rfl⟩
      have fy : Hid y.Fit := Lib.hid (hy ▸ hf.out i hlt)
      have hyk : y.key.size ≤ maxLen := by have := hq.out.2 i hlt; rw [← hy] at this; unfold maxLen; omega
      have hcell := hcell i hlt
      rw [← hy] at hcell
      have i0 : (i : Int) < n := by omega
      obtain ⟨zy, TY⟩ := Asg.tells cf.k cf.s cf.l cf.g cf.z cf.h cf.r cf.c y.t (fit fy.out.2.2.1).1 (fit fy.out.2.2.1).2 M.out
      have TY := Lib.hid TY
      clear hy
      have hcell' := hcell
      have d1 := B.out.bl.cell (World.block_lt_of_cell? _ _ (hcell 1 _ rfl)) |>.trans (hcell 1 _ rfl)
      have d2 := B.out.bl.cell (World.block_lt_of_cell? _ _ (hcell 2 _ rfl)) |>.trans (hcell 2 _ rfl)
      have d3 := B.out.bl.cell (World.block_lt_of_cell? _ _ (hcell 3 _ rfl)) |>.trans (hcell 3 _ rfl)
      rw [← Nat.add_assoc] at d1 d2 d3
      have HC := Lib.hid hcell
      clear hcell hcell'
      go_upto_region 9 with fail
      have e1 := Later.cell d1
      have e2 := Later.cell d2
      have e3 := Later.cell d3
      clear d1 d2 d3
      refine wp_region_later_tail 17 (by kernel_rfl) (by kernel_rfl) ?_
      simp only [List.take_succ_cons, List.take_zero, List.drop_succ_cons, List.drop_zero]
      repeat (go_big_quiet_step (fail))
      refine wpQuiet_nil ?_
      rintro _ ⟨u, rfl⟩
      have B1 := Lib.hid (B.out.next u.below)
      clear e1 e2 e3
      generalize u.w = w5 at B1 ⊢
      go_wp2_with fail
      refine (Gr.take_ok y.key y.t y.v mark zy w5 (Lib.hid B1.out.gi) hNi M BC (Lib.hid fy.out.2.2.1) FK hyk TY).mono ?_
      rintro r w6 ⟨sv, O, S1, code, c, S', n', F', rfl, ho, hno, htk, hn', g6, v6, o6, -⟩
      have hz := Gr.told16 M.out (fit fy.out.2.2.1).1 BC.out.1 BC.out.2.2.1 TY.out
      have hc16 := (Gr.taken16 htk hz).1
      have ri6 := B1.out.ri.beside v6 B1.out.ap.symm
      have ap6 := v6.apart B1.out.ap B1.out.ri.in
      have s5 := B1.out.bl.size
      have HT := Lib.hid (And.intro ho (And.intro hno htk))
      have G6 := Lib.hid g6
      have R6 := Lib.hid ri6
      have A6 := Lib.hid ap6
      have FF6 := Lib.hid (v6.from B1.out.ff s5)
      have K6 := Lib.hid (B1.out.bl.trans (v6.below B1.out.ff s5))
      clear ri6 ap6 s5 ho hno htk g6 v6 o6
      have d1 := K6.out.cell (World.block_lt_of_cell? _ _ (HC.out 1 _ rfl)) |>.trans (HC.out 1 _ rfl)
      have d2 := K6.out.cell (World.block_lt_of_cell? _ _ (HC.out 2 _ rfl)) |>.trans (HC.out 2 _ rfl)
      have d3 := K6.out.cell (World.block_lt_of_cell? _ _ (HC.out 3 _ rfl)) |>.trans (HC.out 3 _ rfl)
      rw [← Nat.add_assoc] at d1 d2 d3
      go_upto_region 10 with fail
      have e1 := Later.cell d1
      have e2 := Later.cell d2
      have e3 := Later.cell d3
      clear d1 d2 d3
      refine wp_region_later_tail 17 (by kernel_rfl) (by kernel_rfl) ?_
      simp only [List.take_succ_cons, List.take_zero, List.drop_succ_cons, List.drop_zero]
      repeat (go_big_quiet_step (fail))
      refine wpQuiet_nil ?_
      rintro _ ⟨u, rfl⟩
      have G7 := Lib.hid (G6.out.next u.below)
      have R7 := Lib.hid (R6.out.next u.below)
      have K7 := Lib.hid (K6.out.trans (u.below.mono K6.out.size))
      clear e1 e2 e3 G6 R6 K6
      generalize u.w = w7 at G7 R7 K7 ⊢
      go_wp2_with fail
      refine (Rr.take_ok y.key y.t y.v mark zy w7 R7 (by omega) M BC (Lib.hid fy.out.2.2.1) FK (Lib.hid (Rr.ends B1.out.rp B1.out.gi)) TY).mono ?_
      rintro r w8 ⟨sv2, O2, R1, code2, R', G', rfl, ro, rno, rtk, hlen, r8, v8, o8⟩
      have rno : ∀ q, q ∈ R1 → ¬ q.e + cf.z ≤ mark := fun q hq => by have := rno q hq; omega
      obtain ⟨-, -, rp'⟩ := Rr.taken_both B1.out.rp B1.out.gi.ok hNi HT.out.1 HT.out.2.1 HT.out.2.2 ro rno rtk hz
      have s7 := K7.out.size
      have NB : Hid (AB w0 w8 g gr F' G' cf S' R' (16 * (i + 1)) n') := Lib.hid ⟨(G7.out.beside v8 A6.out).more (by omega), r8, (v8.apart A6.out.symm G7.out.in).symm, FF6.out, v8.from B1.out.fg s7, K7.out.trans (v8.below B1.out.fg s7), rp'⟩
      clear G7 R7 K7 A6 FF6 HT hz ro rno rtk r8 v8 o8 rp' s7 B1 B
      go_wp2_with fail
      exact ⟨⟨i + 1, S', n', F', R', G', by omega, by go_num, NB⟩, by simp [intOf]; omega⟩
    · obtain rfl : i = n := by omega
      have hN : 16 * i ≤ 8880 := hNi
      have hR : R.length ≤ 8880 := by omega
      have X5 := Lib.hid (X0.out.next B.out.bl)
      have XX5 := Lib.hid (XX0.out.next B.out.bl)
      have c0 := X5.out.cell (i := 0) rfl
      have c1 := X5.out.cell (i := 1) rfl
      have c2 := X5.out.cell (i := 2) rfl
      have c3 := X5.out.cell (i := 3) rfl
      have c4 := X5.out.cell (i := 4) rfl
      have c5 := X5.out.cell (i := 5) rfl
      have c6 := X5.out.cell (i := 6) rfl
      have c7 := X5.out.cell (i := 7) rfl
      have d0 := XX5.out.cell (i := 0) rfl
      have d1 := XX5.out.cell (i := 1) rfl
      have d2 := XX5.out.cell (i := 2) rfl
      have d3 := XX5.out.cell (i := 3) rfl
      have d4 := XX5.out.cell (i := 4) rfl
      have d5 := XX5.out.cell (i := 5) rfl
      have d6 := XX5.out.cell (i := 6) rfl
      go_wp2_with fail
      refine (MAY.out _).mono ?_
      rintro r w6 ⟨rfl, k6⟩
      have B6 := Lib.hid (B.out.next k6)
      have XX6 := Lib.hid (XX5.out.next k6)
      clear k6 X5 XX5 B
      clear c0 c1 c2 c3 c4 c5 c6 c7
      clear d0 d1 d2 d3 d4 d5 d6
      have d0 := XX6.out.cell (i := 0) rfl
      have d1 := XX6.out.cell (i := 1) rfl
      have d2 := XX6.out.cell (i := 2) rfl
      have d3 := XX6.out.cell (i := 3) rfl
      have d4 := XX6.out.cell (i := 4) rfl
      have d5 := XX6.out.cell (i := 5) rfl
      have d6 := XX6.out.cell (i := 6) rfl
      cases m with
      | false =>
        go_wp2
        go_ret
        exact ⟨rfl, after K0.out B6.out.bl⟩
      | true =>
        go_wp2_with fail
        refine (KEY.out _).mono ?_
        rintro r w7 ⟨rfl, k7⟩
        have B7 := Lib.hid (B6.out.next k7)
        have XX7 := Lib.hid (XX6.out.next k7)
        clear k7 XX6 B6
        clear d0 d1 d2 d3 d4 d5 d6
        have d0 := XX7.out.cell (i := 0) rfl
        have d1 := XX7.out.cell (i := 1) rfl
        have d2 := XX7.out.cell (i := 2) rfl
        have d3 := XX7.out.cell (i := 3) rfl
        have d4 := XX7.out.cell (i := 4) rfl
        have d5 := XX7.out.cell (i := 5) rfl
        have d6 := XX7.out.cell (i := 6) rfl
        by_cases hkd : kd x.op = true
        · rw [hkd]
          have HK := Lib.hid hkd
          have HK1 : Hid (1 ≤ x.op) := Lib.hid (by simp only [kd, decide_eq_true_eq] at hkd; omega)
          have FE : Hid (∀ p ∈ R, (Lit.int .i64 p.e).wf = true) := Lib.hid (Rr.ends B7.out.rp B7.out.gi)
          have DD : Hid ((ofKey x.key R).Pairwise fun p q => ¬ Eq2 p q.s q.e) := Lib.hid (Rm.rep_apart B7.out.rp B7.out.gi hN x.key)
          have FXT : Hid ((Lit.int .i64 x.t).wf = true) := Lib.hid FX.out.2.2.1
          clear hkd
          by_cases hl : mark < 1000000
          · have dl : decide (mark < 1000000) = true := decide_eq_true hl
            have wl : IntKind.i64.wrap (mark + 7) = mark + 7 := by rw [IntKind.wrap_i64]; have := (fit FK.out).1; omega
            have FL : Hid ((Lit.int .i64 (mark + 7)).wf = true) := Lib.hid (wf_of (by have := (fit FK.out).1; omega) (by omega))
            have HL := Lib.hid hl
            clear hl
            go_wp2_with fail
            refine (Md.keyed_ok x (mark + 7) z w7 (Lib.hid B7.out.gi) hN M BC FXT FL hxk T).mono ?_
            rintro r w8 ⟨rv, ov, code, P, O, c, S', n', F', rfl, ha, hn', hP, g8, v8, o8, oo8⟩
            obtain ⟨A8, n8, c8', rfl⟩ := lit o8
            have ri8 := B7.out.ri.beside v8 B7.out.ap.symm
            have ap8 := v8.apart B7.out.ap B7.out.ri.in
            have s7 := B7.out.bl.size
            have fF := v8.from B7.out.ff s7
            have K8 := B7.out.bl.trans (v8.below B7.out.ff s7)
            have nX : ¬ F (w.heap.size + 1) := fun q => by have := B7.out.ff _ q; have := hs0.out; omega
            have XX8 := v8.lies nX XX7.out
            have kk := below1 w8 (Obj.cells #[.int .i64 code, .slice A8 n8 c8'] 39)
            have Z9 := Lib.hid (Lies.new w8 39 [.int .i64 code, .slice A8 n8 c8'])
            have G9 := Lib.hid (g8.next kk)
            have R9 := Lib.hid (ri8.next kk)
            have A9 := Lib.hid ap8
            have FF9 := Lib.hid fF
            have K9 := Lib.hid (K8.trans (kk.mono (Nat.le_trans s7 v8.size)))
            have XX9 := Lib.hid (XX8.next kk)
            have P9 := Lib.hid (o8.next kk)
            have O9 := Lib.hid (oo8.next kk)
            have HA := Lib.hid ha
            have s78 := Lib.hid v8.size
            clear ri8 ap8 fF K8 nX XX8 kk g8 v8 o8 oo8 ha
            clear d0 d1 d2 d3 d4 d5 d6
            go_upto_region 18 with fail
            obtain ⟨gz, hgz⟩ : ∃ gz, gz = w8.heap.size := ⟨_, rfl⟩
            have hgz7 : Hid (w7.heap.size ≤ gz) := Lib.hid (by rw [hgz]; exact s78.out)
            rw [← hgz] at Z9 ⊢
            clear hgz
            generalize w8.alloc (Obj.cells #[.int .i64 code, .slice A8 n8 c8'] 39) = w9 at Z9 G9 R9 K9 XX9 P9 O9 ⊢
            have d0 := XX9.out.cell (i := 0) rfl
            have d1 := XX9.out.cell (i := 1) rfl
            have d2 := XX9.out.cell (i := 2) rfl
            have d3 := XX9.out.cell (i := 3) rfl
            have d4 := XX9.out.cell (i := 4) rfl
            have d5 := XX9.out.cell (i := 5) rfl
            have d6 := XX9.out.cell (i := 6) rfl
            go_wp2_with fail
            refine (Rm.ask_ok x (mark + 7) z w9 R9 hR M BC FXT FL FE DD (HK1.out) T).mono ?_
            rintro r w10 ⟨rv2, ov2, code2, P2, O2, R', G', rfl, hb, r10, v10, o10, oo10, hOl⟩
            obtain ⟨rfl, rfl, rfl, rp'⟩ := Rm.both_asked B7.out.rp B7.out.gi.ok hN (Gr.told16 M.out (fit FX.out.2.2.1).1 BC.out.1 BC.out.2.2.1 T.out) HA.out hb
            obtain ⟨A10, n10, c10, rfl⟩ := lit o10
            have gR := R9.out.in
            have s9 := K9.out.size
            have FG : From w0.heap.size G := B7.out.fg
            have ngz : ¬ G gz := fun q => by have := B7.out.ri.in _ q; have := hgz7.out; omega
            have lowG : ∀ a, w7.heap.size ≤ a → ¬ G a := fun a ha q => by have := B7.out.ri.in _ q; omega
            have P10 := P9.out.move fun a ha => v10.block a (P9.out.lt a ha).2 (lowG a (P9.out.lt a ha).1)
            have O10 := O9.out.move fun a ha => v10.block a (O9.out.lt a ha).2 (lowG a (O9.out.lt a ha).1)
            have kk := below1 w10 (Obj.cells #[.int .i64 code, .slice A10 n10 c10] 39)
            have ZA := Lib.hid ((v10.lies ngz Z9.out).next kk)
            have ZB := Lib.hid (Lies.new w10 39 [.int .i64 code, .slice A10 n10 c10])
            have PA := Lib.hid (P10.next kk)
            have OA := Lib.hid (O10.next kk)
            have PB := Lib.hid (o10.next kk)
            have OB := Lib.hid (oo10.next kk)
            have K11 := Lib.hid ((K9.out.trans (v10.below FG s9)).trans (kk.mono (Nat.le_trans s9 v10.size)))
            have hOn : Hid (O.length ≤ 8880) := Lib.hid (by omega)
            clear gR s9 FG ngz lowG P10 O10 kk v10 o10 oo10 hb r10 rp'
            clear d0 d1 d2 d3 d4 d5 d6
            go_upto_region 19 with fail
            obtain ⟨gy, hgy⟩ : ∃ gy, gy = w10.heap.size := ⟨_, rfl⟩
            rw [← hgy] at ZB ⊢
            clear hgy
            generalize w10.alloc (Obj.cells #[.int .i64 code, .slice A10 n10 c10] 39) = w11 at ZA ZB PA OA PB OB K11 ⊢
            have a0 := ZA.out.cell (i := 0) rfl
            have a1 := ZA.out.cell (i := 1) rfl
            have b0 := ZB.out.cell (i := 0) rfl
            have b1 := ZB.out.cell (i := 1) rfl
            go_wp2_with fail
            refine (told true (Ca.same_ok code code _ _ P P w11 (Lib.hid (Out.Rd.own PA.out)) (Lib.hid (Out.Rd.own PB.out)) hP hP) (by simp)).mono ?_
            rintro r w12 ⟨rfl, k12⟩
            have OA2 := Lib.hid (OA.out.next k12)
            have OB2 := Lib.hid (OB.out.next k12)
            have K12 := Lib.hid (K11.out.trans (k12.mono K11.out.size))
            clear k12 a0 a1 b0 b1
            go_wp2_with fail
            refine (told true (Out.same_ok _ _ O O w12 (Lib.hid (Out.Rd.own OA2.out)) (Lib.hid (Out.Rd.own OB2.out)) (by have := hOn.out; omega) (by have := hOn.out; omega)) (by simp)).mono ?_
            rintro r w13 ⟨rfl, k13⟩
            have K13 := Lib.hid (K12.out.trans (k13.mono K12.out.size))
            clear k13
            go_wp2
            go_ret
            exact ⟨rfl, after K0.out K13.out⟩
          · have dl : decide (mark < 1000000) = false := decide_eq_false hl
            have FL := FK
            have HL := Lib.hid hl
            clear hl
            go_wp2_with fail
            refine (Md.keyed_ok x mark z w7 (Lib.hid B7.out.gi) hN M BC FXT FL hxk T).mono ?_
            rintro r w8 ⟨rv, ov, code, P, O, c, S', n', F', rfl, ha, hn', hP, g8, v8, o8, oo8⟩
            obtain ⟨A8, n8, c8', rfl⟩ := lit o8
            have ri8 := B7.out.ri.beside v8 B7.out.ap.symm
            have ap8 := v8.apart B7.out.ap B7.out.ri.in
            have s7 := B7.out.bl.size
            have fF := v8.from B7.out.ff s7
            have K8 := B7.out.bl.trans (v8.below B7.out.ff s7)
            have nX : ¬ F (w.heap.size + 1) := fun q => by have := B7.out.ff _ q; have := hs0.out; omega
            have XX8 := v8.lies nX XX7.out
            have kk := below1 w8 (Obj.cells #[.int .i64 code, .slice A8 n8 c8'] 39)
            have Z9 := Lib.hid (Lies.new w8 39 [.int .i64 code, .slice A8 n8 c8'])
            have G9 := Lib.hid (g8.next kk)
            have R9 := Lib.hid (ri8.next kk)
            have A9 := Lib.hid ap8
            have FF9 := Lib.hid fF
            have K9 := Lib.hid (K8.trans (kk.mono (Nat.le_trans s7 v8.size)))
            have XX9 := Lib.hid (XX8.next kk)
            have P9 := Lib.hid (o8.next kk)
            have O9 := Lib.hid (oo8.next kk)
            have HA := Lib.hid ha
            have s78 := Lib.hid v8.size
            clear ri8 ap8 fF K8 nX XX8 kk g8 v8 o8 oo8 ha
            clear d0 d1 d2 d3 d4 d5 d6
            go_upto_region 18 with fail
            obtain ⟨gz, hgz⟩ : ∃ gz, gz = w8.heap.size := ⟨_, rfl⟩
            have hgz7 : Hid (w7.heap.size ≤ gz) := Lib.hid (by rw [hgz]; exact s78.out)
            rw [← hgz] at Z9 ⊢
            clear hgz
            generalize w8.alloc (Obj.cells #[.int .i64 code, .slice A8 n8 c8'] 39) = w9 at Z9 G9 R9 K9 XX9 P9 O9 ⊢
            have d0 := XX9.out.cell (i := 0) rfl
            have d1 := XX9.out.cell (i := 1) rfl
            have d2 := XX9.out.cell (i := 2) rfl
            have d3 := XX9.out.cell (i := 3) rfl
            have d4 := XX9.out.cell (i := 4) rfl
            have d5 := XX9.out.cell (i := 5) rfl
            have d6 := XX9.out.cell (i := 6) rfl
            go_wp2_with fail
            refine (Rm.ask_ok x mark z w9 R9 hR M BC FXT FL FE DD (HK1.out) T).mono ?_
            rintro r w10 ⟨rv2, ov2, code2, P2, O2, R', G', rfl, hb, r10, v10, o10, oo10, hOl⟩
            obtain ⟨rfl, rfl, rfl, rp'⟩ := Rm.both_asked B7.out.rp B7.out.gi.ok hN (Gr.told16 M.out (fit FX.out.2.2.1).1 BC.out.1 BC.out.2.2.1 T.out) HA.out hb
            obtain ⟨A10, n10, c10, rfl⟩ := lit o10
            have gR := R9.out.in
            have s9 := K9.out.size
            have FG : From w0.heap.size G := B7.out.fg
            have ngz : ¬ G gz := fun q => by have := B7.out.ri.in _ q; have := hgz7.out; omega
            have lowG : ∀ a, w7.heap.size ≤ a → ¬ G a := fun a ha q => by have := B7.out.ri.in _ q; omega
            have P10 := P9.out.move fun a ha => v10.block a (P9.out.lt a ha).2 (lowG a (P9.out.lt a ha).1)
            have O10 := O9.out.move fun a ha => v10.block a (O9.out.lt a ha).2 (lowG a (O9.out.lt a ha).1)
            have kk := below1 w10 (Obj.cells #[.int .i64 code, .slice A10 n10 c10] 39)
            have ZA := Lib.hid ((v10.lies ngz Z9.out).next kk)
            have ZB := Lib.hid (Lies.new w10 39 [.int .i64 code, .slice A10 n10 c10])
            have PA := Lib.hid (P10.next kk)
            have OA := Lib.hid (O10.next kk)
            have PB := Lib.hid (o10.next kk)
            have OB := Lib.hid (oo10.next kk)
            have K11 := Lib.hid ((K9.out.trans (v10.below FG s9)).trans (kk.mono (Nat.le_trans s9 v10.size)))
            have hOn : Hid (O.length ≤ 8880) := Lib.hid (by omega)
            clear gR s9 FG ngz lowG P10 O10 kk v10 o10 oo10 hb r10 rp'
            clear d0 d1 d2 d3 d4 d5 d6
            go_upto_region 19 with fail
            obtain ⟨gy, hgy⟩ : ∃ gy, gy = w10.heap.size := ⟨_, rfl⟩
            rw [← hgy] at ZB ⊢
            clear hgy
            generalize w10.alloc (Obj.cells #[.int .i64 code, .slice A10 n10 c10] 39) = w11 at ZA ZB PA OA PB OB K11 ⊢
            have a0 := ZA.out.cell (i := 0) rfl
            have a1 := ZA.out.cell (i := 1) rfl
            have b0 := ZB.out.cell (i := 0) rfl
            have b1 := ZB.out.cell (i := 1) rfl
            go_wp2_with fail
            refine (told true (Ca.same_ok code code _ _ P P w11 (Lib.hid (Out.Rd.own PA.out)) (Lib.hid (Out.Rd.own PB.out)) hP hP) (by simp)).mono ?_
            rintro r w12 ⟨rfl, k12⟩
            have OA2 := Lib.hid (OA.out.next k12)
            have OB2 := Lib.hid (OB.out.next k12)
            have K12 := Lib.hid (K11.out.trans (k12.mono K11.out.size))
            clear k12 a0 a1 b0 b1
            go_wp2_with fail
            refine (told true (Out.same_ok _ _ O O w12 (Lib.hid (Out.Rd.own OA2.out)) (Lib.hid (Out.Rd.own OB2.out)) (by have := hOn.out; omega) (by have := hOn.out; omega)) (by simp)).mono ?_
            rintro r w13 ⟨rfl, k13⟩
            have K13 := Lib.hid (K12.out.trans (k13.mono K12.out.size))
            clear k13
            go_wp2
            go_ret
            exact ⟨rfl, after K0.out K13.out⟩
        · have hkd : kd x.op = false := by simpa using hkd
          rw [hkd]
          go_wp2
          go_ret
          exact ⟨rfl, after K0.out B7.out.bl⟩

set_option maxHeartbeats 4000000 in
theorem walk_no (A : Option Addr) (n cp : Nat) (x : Cl) (mark : Int) (cf : C8) (w : World) (M : Hid (¬ Asg.may cf.k cf.s cf.l cf.g cf.z cf.h cf.r cf.c)) (s1 : cf.s ≤ 9223372036854775807) :
    Calls Tryz.prog 4 #[cf.v, .slice A n cp, x.val, .int .i64 mark] w fun r w' => r = .returned (.bool true) ∧ Below w.heap.size w w' := by
  have X0 := Lib.hid ((Lies.new w 23 cf.cl).next (below1 _ (Obj.cells #[.int .i64 x.op, .string x.key, .int .i64 x.t, .int .i64 x.v, .int .i64 x.e, .int .i64 x.u, .int .i64 x.s] 42)))
  have K0 := Lib.hid (below2 w (Obj.cells #[.int .i64 cf.k, .int .i64 cf.s, .int .i64 cf.l, .int .i64 cf.g, .int .i64 cf.z, .int .i64 cf.h, .int .i64 cf.r, .int .i64 cf.c] 23) (Obj.cells #[.int .i64 x.op, .string x.key, .int .i64 x.t, .int .i64 x.v, .int .i64 x.e, .int .i64 x.u, .int .i64 x.s] 42))
  go_enter Tryz.func4, Tryz.ntmps4
  go_upto_region 1 with fail
  have X0 : Hid (Lies ((w.alloc (Obj.cells #[.int .i64 cf.k, .int .i64 cf.s, .int .i64 cf.l, .int .i64 cf.g, .int .i64 cf.z, .int .i64 cf.h, .int .i64 cf.r, .int .i64 cf.c] 23)).alloc (Obj.cells #[.int .i64 x.op, .string x.key, .int .i64 x.t, .int .i64 x.v, .int .i64 x.e, .int .i64 x.u, .int .i64 x.s] 42)) w.heap.size 23 [.int .i64 cf.k, .int .i64 cf.s, .int .i64 cf.l, .int .i64 cf.g, .int .i64 cf.z, .int .i64 cf.h, .int .i64 cf.r, .int .i64 cf.c]) := X0
  generalize ((w.alloc (Obj.cells #[.int .i64 cf.k, .int .i64 cf.s, .int .i64 cf.l, .int .i64 cf.g, .int .i64 cf.z, .int .i64 cf.h, .int .i64 cf.r, .int .i64 cf.c] 23)).alloc (Obj.cells #[.int .i64 x.op, .string x.key, .int .i64 x.t, .int .i64 x.v, .int .i64 x.e, .int .i64 x.u, .int .i64 x.s] 42)) = w0 at X0 K0 ⊢
  go_wp2_with fail
  refine (Md.up_ok _).mono ?_
  rintro r w1 ⟨rfl, k1⟩
  have K1 := Lib.hid (after K0.out k1)
  have X1 := Lib.hid (X0.out.next k1)
  clear k1
  have c0 := X1.out.cell (i := 0) rfl
  have c1 := X1.out.cell (i := 1) rfl
  have c2 := X1.out.cell (i := 2) rfl
  have c3 := X1.out.cell (i := 3) rfl
  have c4 := X1.out.cell (i := 4) rfl
  have c5 := X1.out.cell (i := 5) rfl
  have c6 := X1.out.cell (i := 6) rfl
  have c7 := X1.out.cell (i := 7) rfl
  go_wp2_with fail
  refine (Grp.new_no cf w1 M s1).mono ?_
  rintro r w2 ⟨rfl, k2⟩
  have K2 := Lib.hid (after K1.out k2)
  clear k2
  go_wp2
  go_ret
  exact ⟨rfl, K2.out⟩

set_option maxHeartbeats 4000000 in
theorem walk_far (A : Option Addr) (n cp : Nat) (f : Nat → Cl) (x : Cl) (mark : Int) (cf : C8) (w : World) (b : Bool) (hq : Hid (b = true ↔ Fw n f 40)) (hb : b = false ∨ 100 < x.key.size) (hnm : n ≤ maxLen)
    (hc : Hid (Row A n f w)) (M : Hid (Asg.may cf.k cf.s cf.l cf.g cf.z cf.h cf.r cf.c)) (s1 : cf.s ≤ 9223372036854775807) :
    Calls Tryz.prog 4 #[cf.v, .slice A n cp, x.val, .int .i64 mark] w fun r w' => r = .returned (.bool true) ∧ Below w.heap.size w w' := by
  have X0 := Lib.hid ((Lies.new w 23 cf.cl).next (below1 _ (Obj.cells #[.int .i64 x.op, .string x.key, .int .i64 x.t, .int .i64 x.v, .int .i64 x.e, .int .i64 x.u, .int .i64 x.s] 42)))
  have y00 := Lies.new (w.alloc (Obj.cells #[.int .i64 cf.k, .int .i64 cf.s, .int .i64 cf.l, .int .i64 cf.g, .int .i64 cf.z, .int .i64 cf.h, .int .i64 cf.r, .int .i64 cf.c] 23)) 42 x.cl
  simp only [World.size_alloc] at y00
  have XX0 := Lib.hid y00
  clear y00
  have K0 := Lib.hid (below2 w (Obj.cells #[.int .i64 cf.k, .int .i64 cf.s, .int .i64 cf.l, .int .i64 cf.g, .int .i64 cf.z, .int .i64 cf.h, .int .i64 cf.r, .int .i64 cf.c] 23) (Obj.cells #[.int .i64 x.op, .string x.key, .int .i64 x.t, .int .i64 x.v, .int .i64 x.e, .int .i64 x.u, .int .i64 x.s] 42))
  have HB := Lib.hid hb
  clear hb
  go_enter Tryz.func4, Tryz.ntmps4
  go_upto_region 1 with fail
  have XX0 : Hid (Lies ((w.alloc (Obj.cells #[.int .i64 cf.k, .int .i64 cf.s, .int .i64 cf.l, .int .i64 cf.g, .int .i64 cf.z, .int .i64 cf.h, .int .i64 cf.r, .int .i64 cf.c] 23)).alloc (Obj.cells #[.int .i64 x.op, .string x.key, .int .i64 x.t, .int .i64 x.v, .int .i64 x.e, .int .i64 x.u, .int .i64 x.s] 42)) (w.heap.size + 1) 42 [.int .i64 x.op, .string x.key, .int .i64 x.t, .int .i64 x.v, .int .i64 x.e, .int .i64 x.u, .int .i64 x.s]) := XX0
  have X0 : Hid (Lies ((w.alloc (Obj.cells #[.int .i64 cf.k, .int .i64 cf.s, .int .i64 cf.l, .int .i64 cf.g, .int .i64 cf.z, .int .i64 cf.h, .int .i64 cf.r, .int .i64 cf.c] 23)).alloc (Obj.cells #[.int .i64 x.op, .string x.key, .int .i64 x.t, .int .i64 x.v, .int .i64 x.e, .int .i64 x.u, .int .i64 x.s] 42)) w.heap.size 23 [.int .i64 cf.k, .int .i64 cf.s, .int .i64 cf.l, .int .i64 cf.g, .int .i64 cf.z, .int .i64 cf.h, .int .i64 cf.r, .int .i64 cf.c]) := X0
  generalize ((w.alloc (Obj.cells #[.int .i64 cf.k, .int .i64 cf.s, .int .i64 cf.l, .int .i64 cf.g, .int .i64 cf.z, .int .i64 cf.h, .int .i64 cf.r, .int .i64 cf.c] 23)).alloc (Obj.cells #[.int .i64 x.op, .string x.key, .int .i64 x.t, .int .i64 x.v, .int .i64 x.e, .int .i64 x.u, .int .i64 x.s] 42)) = w0 at X0 XX0 K0 ⊢
  go_wp2_with fail
  refine (Md.up_ok _).mono ?_
  rintro r w1 ⟨rfl, k1⟩
  have K1 := Lib.hid (after K0.out k1)
  have X1 := Lib.hid (X0.out.next k1)
  have XX1 := Lib.hid (XX0.out.next k1)
  clear k1
  have c0 := X1.out.cell (i := 0) rfl
  have c1 := X1.out.cell (i := 1) rfl
  have c2 := X1.out.cell (i := 2) rfl
  have c3 := X1.out.cell (i := 3) rfl
  have c4 := X1.out.cell (i := 4) rfl
  have c5 := X1.out.cell (i := 5) rfl
  have c6 := X1.out.cell (i := 6) rfl
  have c7 := X1.out.cell (i := 7) rfl
  go_wp2_with fail
  refine (Gr.new_ok cf w1 M s1).mono ?_
  rintro r w2 ⟨g, F, rfl, -, -, k2⟩
  have K2 := Lib.hid (after K1.out k2)
  have XX2 := Lib.hid (XX1.out.next k2)
  have hc2 := Lib.hid (hc.out.next K2.out)
  clear k2
  clear c0 c1 c2 c3 c4 c5 c6 c7
  go_wp2_with fail
  refine (Md.few_ok A n cp f 40 b w2 hq (by omega) hnm hc2).mono ?_
  rintro r w3 ⟨rfl, k3⟩
  have K3 := Lib.hid (after K2.out k3)
  have XX3 := Lib.hid (XX2.out.next k3)
  clear k3
  have d1 := XX3.out.cell (i := 1) rfl
  cases b with
  | false =>
    go_wp2
    go_ret
    exact ⟨rfl, K3.out⟩
  | true =>
    have hk : 100 < x.key.size := by
      rcases HB.out with q | q
      · cases q
      · exact q
    have qk : decide ((100 : Int) < x.key.size) = true := decide_eq_true (by omega)
    have qk2 : decide (100 < x.key.size) = true := decide_eq_true hk
    go_wp2
    go_ret
    exact ⟨rfl, K3.out⟩

theorem walk (c : Cf) (hc : c.Fit) (y : Option Addr × Nat × Nat × (Nat → Cl)) (x : Cl) (hx : x.Fit) (mark : Int) (hm : (Lit.int .i64 mark).wf = true) (w : World) (hy : Opens.IsRows Cl.cl 7 Cl.Fit w y) :
    Calls Tryz.prog 4 #[c.val, .slice y.1 y.2.1 y.2.2.1, x.val, .int .i64 mark] w fun r w' => r = .returned (.bool true) ∧ Below w.heap.size w w' := by
  obtain ⟨A, n, cp, f⟩ := y
  obtain ⟨hn, hf, hr⟩ := hy
  simp only at hn hf hr ⊢
  obtain ⟨k, s, l, g, z, h, r, cc⟩ := c
  by_cases M : Asg.may k s l g z h r cc
  · by_cases hq : Fw n f 40 ∧ x.key.size ≤ 100
    · exact walk_on A n cp f x mark ⟨k, s, l, g, z, h, r, cc⟩ w (Lib.hid hq.1) (Lib.hid hf) (Lib.hid hx) hq.2 (Lib.hid hm) hn (Lib.hid hr) (Lib.hid M) (Lib.hid hc)
    · obtain ⟨b, hb⟩ : ∃ b : Bool, b = true ↔ Fw n f 40 := by classical exact ⟨decide (Fw n f 40), by simp⟩
      refine walk_far A n cp f x mark ⟨k, s, l, g, z, h, r, cc⟩ w b (Lib.hid hb) ?_ hn (Lib.hid hr) (Lib.hid M) (fit hc.2.1).2
      cases b with
      | false => exact .inl rfl
      | true => exact .inr (by have := hb.1 rfl; exact Nat.lt_of_not_le fun q => hq ⟨this, q⟩)
  · exact walk_no A n cp x mark ⟨k, s, l, g, z, h, r, cc⟩ w (Lib.hid M) (fit hc.2.1).2

theorem own : ownKnob Tryz.prog.godebug = none := by kernel_rfl

set_option maxRecDepth 100000 in
theorem lifted (os : Os) (started : os.Started) (H : Type) (enc : TypeId × Value → H) :
    ReturnsInHanded {} Tryz.checked os 4 .any (Rows.modelAsksSpec.pre6 enc Tryz.prog Tryz.f4 Rows.modelAsksRow.domain false) (Rows.modelAsksSpec.post enc Tryz.prog Tryz.f4 false true false false) := by
  refine returnsInHanded_of_change (C := Tryz.checked) own started (by kernel_rfl) Tryz.func4
    (ChangeSpec.witness6 (enc := enc) (C := Tryz.checked) false ⟨#[], #[.agg #[.int .i64 0, .int .i64 0, .int .i64 0, .int .i64 0, .int .i64 0, .int .i64 0, .int .i64 0, .int .i64 0], .slice none 0 0, .agg #[.int .i64 0, .string ⟨#[]⟩, .int .i64 0, .int .i64 0, .int .i64 0, .int .i64 0, .int .i64 0], .int .i64 0], []⟩ 8 (by kernel_rfl) (by kernel_rfl) (by kernel_rfl) (by kernel_rfl)) ?_
  intro W base args ds gs before hval0 hW hcnd _
  have hval : ∀ (j : Nat) t v, Tryz.f4.params[j]? = some t → args[j]? = some v → Value.okWide Tryz.prog W .any base t v := hval0
  have hW' := hW
  obtain ⟨p, q, hA0, hV, rfl, hfz, hnd⟩ := hW
  have hA : DataW.TrodAll enc Tryz.prog W 0 (fun _ => true) true Tryz.f4.params.toList args.toList ds p := hA0
  rw [Tryz.params4] at hA hval
  obtain ⟨v0, vs0, d0, ds0, p0, q0, hargs, rfl, rfl, h0, r0⟩ := trodAll_cons hA
  obtain ⟨v1, vs1, d1, ds1, p1, q1, rfl, rfl, rfl, h1, r1⟩ := trodAll_cons r0
  obtain ⟨v2, vs2, d2, ds2, p2, q2, rfl, rfl, rfl, h2, r2⟩ := trodAll_cons r1
  obtain ⟨v3, vs3, d3, ds3, p3, q3, rfl, rfl, rfl, h3, r3⟩ := trodAll_cons r2
  obtain ⟨rfl, rfl, rfl⟩ := trodAll_nil r3
  obtain rfl : args = #[v0, v1, v2, v3] := by cases args; simp_all
  obtain ⟨rfl, rfl⟩ := trodVars_none hV
  obtain ⟨a0, rfl, w0⟩ := Opens.open_config (hval 0 23 v0 rfl rfl) h0
  obtain ⟨a1, rfl, w1⟩ := Opens.open_calls (hval 1 24 v1 rfl rfl) h1
  obtain ⟨a2, rfl, w2⟩ := Opens.open_call (hval 2 42 v2 rfl rfl) h2
  obtain ⟨a3, rfl, rfl, rfl, w3⟩ := open_int Tryz.underlying2 (hval 3 2 v3 rfl rfl) h3
  clear hA0 hval0
  refine (walk a0 w0 a1 a2 w2 a3 w3 W w1).mono fun e W' ⟨he, hg⟩ => ?_
  subst he
  exact ⟨_, rfl, Laid.post Laid.laidOut (by kernel_rfl) rfl (by kernel_rfl) Tryz.underlying4 hW' ⟨rfl, rfl, rfl⟩ hg⟩

theorem over : Rows.modelAsksRow.holds Tryz.pinned (OpenSpec.ofChange Rows.modelAsksSpec) :=
  OpenClaim.holds_of_wide 4 Tryz.f4 rfl rfl rfl rfl rfl rfl rfl ⟨rfl, rfl, rfl, rfl, rfl⟩ rfl rfl rfl rfl rfl (by kernel_rfl) Tryz.func4 (by kernel_rfl)
    (of_decide_eq_true (by kernel_rfl)) (by unfold Func.isWrapper; first | (rw [if_pos (by decide +kernel)]; kernel_rfl) | (rw [if_neg (by decide +kernel)]; exact ⟨rfl, rfl⟩))
    (fun os started H enc _ => lifted os started H enc)

/-- ████ THE STATEMENT ████ -/
theorem proved : Rows.ModelAsksSaid :=
  over
#print axioms proved
end Go.Proofs.YtemklcckhpchaaaGreat.modelAsks
