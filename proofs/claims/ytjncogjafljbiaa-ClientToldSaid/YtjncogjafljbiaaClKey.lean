/-
  A client's keyed; what Step is ahead of it; answer; Did.
-/
import Derived.Test.YtjncogjafljbiaaClSend
namespace Go.Proofs.Ytjncogjafljbiaa
open Go.ChangeShapes Go.WideShapes Go.ChangeAt Go.RowKit
set_option linter.unusedVariables false
set_option maxRecDepth 100000
namespace Cn
open Small Foot Fm Ca
section
variable {w0 w w' : World} {E : Ev} {s s' : St} {R R' : Nat → Nat → Prop}
/-- one cell of how far the call is -/
theorem CM.cell {j : Nat} {v : Value} {g' : Pg} (H : CM w0 E s R w) (e : ∀ cv rv, (ccl E.num cv rv s.g).set j v = ccl E.num cv rv g') (hn : g'.r = s.g.r) (hh : g'.hand = none ∨ g'.hand = s.g.hand) :
    ∃ R', CM w0 E { s with g := g' } R' (w.setCell ⟨E.x, j, none⟩ v) ∧ On TT R w R' (w.setCell ⟨E.x, j, none⟩ v) := by
  obtain ⟨cv, rv, q, hr⟩ := H.client
  obtain ⟨q5, m5⟩ := q.put (g' := g') j v (e cv rv)
  rw [← hr] at m5
  have m5' : Moves (R 18) (CF E.x cv rv) w (w.setCell ⟨E.x, j, none⟩ v) := by rw [hr] at m5 ⊢; exact m5
  exact H.on18 q5 m5' (fun r hr => .inl hr) (.inl hn) hh
/-- what becomes of a keyed call -/
inductive Kwy (E : Ev) (s : St) (y : Cl) (t : Td) : St → Td → Prop
  | wait (h : s.g.ask = 1) : Kwy E s y t s t
  | done (h : s.g.ask = 2) (hP : s.g.r.P.length ≤ 9000) : Kwy E s y t (s.ended s.g.r) ⟨true, t.bg, t.pt, true, s.g.r⟩
  | again {s' : St} {t' : Td} (h : s.g.ask = 3) (wy : Way E { s with g := { s.g with ask := 0 } } y { t with mv := true } s' t') : Kwy E s y t s' t'
  | first {s' : St} {t' : Td} (h : s.g.ask = 0) (wy : Way E s y t s' t') : Kwy E s y t s' t'
set_option maxHeartbeats 4000000 in
theorem keyed_st {t t' : Td} {y : Cl} (H : Hid (CM w0 E s R w)) (hh : Hid (Held E s)) (hr : s.rs.length ≤ 1000) (hc : E.cf.c ≤ 16) (fc : Hid E.cf.Fit) (fy : Hid y.Fit) (ht : Hid (t.r = r0)) (ky : Kwy E s y t s' t') :
    Calls Try.prog 38 #[gp E.x, E.v, y.val, t.v] w (Went w0 E R w s s' t') := by
  obtain ⟨W, hW, e0, y0, t0, z0, k0⟩ := alloc4 w 32 25 45 45 E.cl y.cl t.cl [.bool false, .bool false, .bool false, .bool false, .int .i64 0, .slice none 0 0]
  obtain ⟨g, hg⟩ : ∃ g, w.heap.size = g := ⟨_, rfl⟩
  have E0 := Lib.hid (Bo.new H.out.fam e0 (Nat.le_refl _))
  have Y0 := Lib.hid (Bo.new H.out.fam y0 (by omega))
  have T0 := Lib.hid (Bo.new H.out.fam t0 (by omega))
  have Z0 := Lib.hid (Bo.new H.out.fam z0 (by omega))
  have F0 := Lib.hid H.out.fam
  have H0 := Lib.hid (H.out.next k0)
  have O0 : Hid (On TT R w R W) := Lib.hid (On.below H.out.fam k0)
  have OLD := Lib.hid H.out.old
  have LO : Hid (w0.heap.size ≤ w.heap.size) := Lib.hid H.out.fam.below.size
  have HG := Lib.hid hg
  rw [hg] at E0 Y0 T0 Z0
  obtain ⟨cv, rv, q0, -⟩ := H0.out.client
  have c4 := q0.lies.cell (i := 4) rfl
  have c5 := Later.cell (q0.lies.cell (i := 5) rfl)
  have c6 := Later.cell (q0.lies.cell (i := 6) rfl)
  have f4 := q0.lies.open_ 4
  clear q0
  go_enter Try.func38, Try.ntmps38
  go_upto_region 1 with fail
  clear hg hW e0 y0 t0 z0 k0 H
  cases ky with
  | wait h =>
    rw [h] at c4
    clear h c5 c6
    go_wp2_with (first
      | (refine wpList_plain rfl fun K' hK' => ld_told (t := t) _ rfl rfl T0.out.lies (hK' _ _ ?_))
      | (refine wpList_plain rfl fun K' hK' => st_told (t' := t) _ _ rfl rfl rfl Z0.out.lies rfl (fun w7 z1 z2 => hK' _ _ ?_))
      | fail)
    exact bodyPost_ret (told_told (t := t) rfl rfl z1) rfl ⟨t.r, R, rfl, rfl, rfl, by rw [ht.out]; exact Nw.zero, H0.out.aside z2 Z0.out.out (by have := LO.out; have := HG.out; omega) OLD.out (by have := HG.out; omega), Cn.On.aside F0.out O0.out z2 (by have := HG.out; omega), fun n h => h⟩
  | done h hP =>
    rw [h] at c4
    have HP := Lib.hid hP
    clear h hP
    go_upto_region 5 with fail
    have t0 := Later.cell (T0.out.lies.cell (i := 0) rfl)
    have t1 := Later.cell (T0.out.lies.cell (i := 1) rfl)
    have t2 := Later.cell (T0.out.lies.cell (i := 2) rfl)
    have t3 := Later.cell (T0.out.lies.cell (i := 3) rfl)
    have t4 := Later.cell (T0.out.lies.cell (i := 4) rfl)
    have t5 := Later.cell (T0.out.lies.cell (i := 5) rfl)
    refine wp_region_later_tail 7 (by kernel_rfl) (by kernel_rfl) ?_
    simp only [List.take_succ_cons, List.take_zero, List.drop_succ_cons, List.drop_zero]
    repeat (go_big_quiet_step (fail))
    refine wpQuiet_nil ?_
    rintro _ ⟨u, rfl⟩
    have k1 := u.below
    have Z1 := Lib.hid (Z0.out.next k1)
    have O1 := Lib.hid (O0.out.trans (On.below H0.out.fam k1))
    have H1 := Lib.hid (H0.out.next k1)
    clear k1 t0 t1 t2 t3 t4 t5 c4 c5 c6 f4 E0 Y0 T0 Z0 O0 H0
    generalize u.w = w1 at Z1 O1 H1 ⊢
    go_wp2_with fail
    refine (end_ok t s.g.r H1 hh (Lib.hid H1.out.now) HP.out hr).mono ?_
    rintro r w6 ⟨z, R6, rfl, e1, e2, nz, c6, o6⟩
    have N6 := Lib.hid (And.intro e1 (And.intro e2 nz))
    have C6 := Lib.hid c6
    have Z6 := Lib.hid (Z1.out.on o6)
    have O6 := Lib.hid (O1.out.trans o6)
    have L6 : Hid (g + 1 + 1 + 1 < w1.heap.size ∧ w.heap.size ≤ w1.heap.size) := Lib.hid ⟨Z1.out.lies.lt, O1.out.size⟩
    clear e1 e2 nz c6 o6
    dsimp only
    go_wp2_with (first
      | (refine wpList_plain rfl fun K' hK' => st_told (t' := ⟨true, t.bg, t.pt, true, z⟩) _ _ rfl rfl rfl Z6.out.lies rfl (fun w7 z1 z2 => hK' _ _ ?_))
      | fail)
    have ol : ∀ n, Old n s → Old n (s.ended s.g.r) := fun n h => old_ended h h.2
    exact bodyPost_ret (told_told (t := ⟨true, t.bg, t.pt, true, z⟩) rfl rfl z1) rfl ⟨z, R6, rfl, N6.out.1, N6.out.2.1, (N6.out.2.2.far z2 L6.out.1).less L6.out.2, C6.out.aside z2 Z6.out.out (by have := LO.out; have := HG.out; omega) (ol _ OLD.out) (by have := HG.out; omega), Cn.On.aside F0.out O6.out z2 (by have := HG.out; omega), ol⟩
  | again h wy =>
    rw [h] at c4
    clear h c5 c6
    go_upto_region 8 with fail
    obtain ⟨R1, h1, o1⟩ := H0.out.cell (j := 4) (v := .int .i64 0) (g' := { s.g with ask := 0 }) (fun _ _ => rfl) rfl (.inr rfl)
    have H1 := Lib.hid h1
    have E1 := Lib.hid (E0.out.on o1)
    have Y1 := Lib.hid (Y0.out.on o1)
    have T1 := Lib.hid (T0.out.on o1)
    have Z1 := Lib.hid (Z0.out.on o1)
    have O1 := Lib.hid (O0.out.trans o1)
    clear h1 o1 c4 f4 H0 E0 Y0 T0 Z0 O0
    generalize W.setCell ⟨E.x, 4, none⟩ (.int .i64 0) = w1 at H1 E1 Y1 T1 Z1 O1 ⊢
    have t0 := T1.out.lies.cell (i := 0) rfl
    have f0 := T1.out.lies.open_ 0
    go_upto_region 9 with fail
    have g6 := grown_set w1 (g + 1 + 1) 0 (.bool true)
    have H2 := Lib.hid (H1.out.aside g6 T1.out.out (by have := LO.out; have := HG.out; omega) OLD.out (by have := HG.out; omega))
    have T2 : Hid (Bo R1 (w1.setCell ⟨g + 1 + 1, 0, none⟩ (.bool true)) (g + 1 + 1) 45 (Td.cl { t with mv := true })) := Lib.hid ⟨T1.out.lies.put 0 (.bool true), T1.out.out⟩
    have E2 := Lib.hid (E1.out.far g6 (by omega))
    have Y2 := Lib.hid (Y1.out.far g6 (by omega))
    have Z2 := Lib.hid (Z1.out.far g6 (by omega))
    have O2 := Lib.hid (Cn.On.aside F0.out O1.out g6 (by have := HG.out; omega))
    clear g6 t0 f0 H1 E1 Y1 T1 Z1 O1
    generalize w1.setCell ⟨g + 1 + 1, 0, none⟩ (.bool true) = w2 at H2 E2 Y2 T2 Z2 O2 ⊢
    go_wp2_with (first
      | (refine wpList_plain rfl fun K' hK' => ld_env (E := E) _ rfl rfl E2.out.lies (hK' _ _ ?_))
      | (refine wpList_plain rfl fun K' hK' => ld_call (y := y) _ rfl rfl Y2.out.lies (hK' _ _ ?_))
      | (refine wpList_plain rfl fun K' hK' => ld_told (t := { t with mv := true }) _ rfl rfl T2.out.lies (hK' _ _ ?_))
      | fail)
    refine (send_ok (t := { t with mv := true }) H2 hh hr hc fc fy ht wy).mono ?_
    rintro r w6 ⟨z, R6, rfl, e1, e2, nz, c6, o6, ol⟩
    have N6 := Lib.hid (And.intro e1 (And.intro e2 nz))
    have C6 := Lib.hid c6
    have Z6 := Lib.hid (Z2.out.on o6)
    have O6 := Lib.hid (O2.out.trans o6)
    have L6 : Hid (g + 1 + 1 + 1 < w2.heap.size ∧ w.heap.size ≤ w2.heap.size) := Lib.hid ⟨Z2.out.lies.lt, O2.out.size⟩
    have OL := Lib.hid ol
    clear e1 e2 nz c6 o6 ol
    dsimp only
    go_wp2_with (first
      | (refine wpList_plain rfl fun K' hK' => st_told (t' := ⟨t'.mv, t'.bg, t'.pt, t'.dn, z⟩) _ _ rfl rfl rfl Z6.out.lies rfl (fun w7 z1 z2 => hK' _ _ ?_))
      | fail)
    exact bodyPost_ret (told_told (t := ⟨t'.mv, t'.bg, t'.pt, t'.dn, z⟩) rfl rfl z1) rfl ⟨z, R6, rfl, N6.out.1, N6.out.2.1, (N6.out.2.2.far z2 L6.out.1).less L6.out.2, C6.out.aside z2 Z6.out.out (by have := LO.out; have := HG.out; omega) (OL.out _ OLD.out) (by have := HG.out; omega), Cn.On.aside F0.out O6.out z2 (by have := HG.out; omega), fun n h => OL.out n h⟩
  | first h wy =>
    rw [h] at c4
    clear h c5 c6 f4
    go_wp2_with (first
      | (refine wpList_plain rfl fun K' hK' => ld_env (E := E) _ rfl rfl E0.out.lies (hK' _ _ ?_))
      | (refine wpList_plain rfl fun K' hK' => ld_call (y := y) _ rfl rfl Y0.out.lies (hK' _ _ ?_))
      | (refine wpList_plain rfl fun K' hK' => ld_told (t := t) _ rfl rfl T0.out.lies (hK' _ _ ?_))
      | fail)
    refine (send_ok (t := t) H0 hh hr hc fc fy ht wy).mono ?_
    rintro r w6 ⟨z, R6, rfl, e1, e2, nz, c6, o6, ol⟩
    have N6 := Lib.hid (And.intro e1 (And.intro e2 nz))
    have C6 := Lib.hid c6
    have Z6 := Lib.hid (Z0.out.on o6)
    have O6 := Lib.hid (O0.out.trans o6)
    have L6 : Hid (g + 1 + 1 + 1 < W.heap.size ∧ w.heap.size ≤ W.heap.size) := Lib.hid ⟨Z0.out.lies.lt, O0.out.size⟩
    have OL := Lib.hid ol
    clear e1 e2 nz c6 o6 ol
    dsimp only
    go_wp2_with (first
      | (refine wpList_plain rfl fun K' hK' => st_told (t' := ⟨t'.mv, t'.bg, t'.pt, t'.dn, z⟩) _ _ rfl rfl rfl Z6.out.lies rfl (fun w7 z1 z2 => hK' _ _ ?_))
      | fail)
    exact bodyPost_ret (told_told (t := ⟨t'.mv, t'.bg, t'.pt, t'.dn, z⟩) rfl rfl z1) rfl ⟨z, R6, rfl, N6.out.1, N6.out.2.1, (N6.out.2.2.far z2 L6.out.1).less L6.out.2, C6.out.aside z2 Z6.out.out (by have := LO.out; have := HG.out; omega) (OL.out _ OLD.out) (by have := HG.out; omega), Cn.On.aside F0.out O6.out z2 (by have := HG.out; omega), fun n h => OL.out n h⟩
end
end Cn
end Go.Proofs.Ytjncogjafljbiaa
