/-
  A client's start: another one holds the control; it is closed.
-/
import Derived.Test.YtjogolfipboocaaClKey
namespace Go.Proofs.Ytjogolfipboocaa
open Go.ChangeShapes Go.WideShapes Go.ChangeAt Go.RowKit
set_option linter.unusedVariables false
set_option maxRecDepth 100000
namespace Cn
open Small Foot Fm Ca
/-- the control is held by this client from now on -/
abbrev St.hold (s : St) (E : Ev) : St := { s with hk := E.num, hd := true, g := { s.g with held := some E.gc } }
section
variable {w0 w w' : World} {E : Ev} {s s' : St} {R R' : Nat → Nat → Prop}
set_option maxHeartbeats 4000000 in
/-- another one holds it -/
theorem start_wait {t : Td} {y : Cl} (H : Hid (CM w0 E s R w)) (hr : s.rs.length ≤ 1000) (hf : Hid (s.hd = true)) (hw : Hid ((s.hk == E.num) = false)) (ht : Hid (t.r = r0)) : Calls Try.prog 39 #[gp E.x, E.v, y.val, t.v] w (Went w0 E R w s s t) := by
  obtain ⟨W, hW, e0, y0, t0, z0, k0⟩ := alloc4 w 32 25 45 45 E.cl y.cl t.cl [.bool false, .bool false, .bool false, .bool false, .int .i64 0, .slice none 0 0]
  obtain ⟨g, hg⟩ : ∃ g, w.heap.size = g := ⟨_, rfl⟩
  have E0 := Lib.hid (Bo.new H.out.fam e0 (Nat.le_refl _))
  have Y0 := Lib.hid (Bo.new H.out.fam y0 (by omega))
  have T0 := Lib.hid (Bo.new H.out.fam t0 (by omega))
  have Z0 := Lib.hid (Bo.new H.out.fam z0 (by omega))
  have F0 := Lib.hid H.out.fam
  have H0 := Lib.hid (H.out.next k0)
  have O0 : Hid (On TT R w R W) := Lib.hid (On.below H.out.fam k0)
  have OLD := Lib.hid H.out.old
  have LO : Hid (w0.heap.size ≤ w.heap.size) := Lib.hid H.out.fam.below.size
  have HG := Lib.hid hg
  rw [hg] at E0 Y0 T0 Z0
  go_enter Try.func39, Try.ntmps39
  go_upto_region 1 with fail
  clear hg hW e0 y0 t0 z0 k0 H
  obtain ⟨cv, rv, q0, -⟩ := H0.out.client
  have c0 := Later.cell (q0.lies.cell (i := 0) rfl)
  clear q0
  have l0 := Later.cell (E0.out.lies.cell (i := 0) rfl)
  have l1 := Later.cell (E0.out.lies.cell (i := 1) rfl)
  have l2 := Later.cell (E0.out.lies.cell (i := 2) rfl)
  have l3 := Later.cell (E0.out.lies.cell (i := 3) rfl)
  have l4 := Later.cell (E0.out.lies.cell (i := 4) rfl)
  have l5 := Later.cell (E0.out.lies.cell (i := 5) rfl)
  have l6 := Later.cell (E0.out.lies.cell (i := 6) rfl)
  have l7 := Later.cell (E0.out.lies.cell (i := 7) rfl)
  have l8 := Later.cell (E0.out.lies.cell (i := 8) rfl)
  have l9 := Later.cell (E0.out.lies.cell (i := 9) rfl)
  have l10 := Later.cell (E0.out.lies.cell (i := 10) rfl)
  refine wp_region_later_tail 5 (by kernel_rfl) (by kernel_rfl) ?_
  simp only [List.take_succ_cons, List.take_zero, List.drop_succ_cons, List.drop_zero]
  repeat (go_big_quiet_step (fail))
  refine wpQuiet_nil ?_
  rintro _ ⟨u, rfl⟩
  have k1 := u.below
  have E1 := Lib.hid (E0.out.next k1)
  have Y1 := Lib.hid (Y0.out.next k1)
  have T1 := Lib.hid (T0.out.next k1)
  have Z1 := Lib.hid (Z0.out.next k1)
  have O1 := Lib.hid (O0.out.trans (On.below H0.out.fam k1))
  have H1 := Lib.hid (H0.out.next k1)
  clear k1 l0 l1 l2 l3 l4 l5 l6 l7 l8 l9 l10 c0 E0 Y0 T0 Z0 O0 H0
  generalize u.w = w1 at E1 Y1 T1 Z1 O1 H1 ⊢
  go_wp2_with fail
  have CT := Lib.hid H1.out.ctl
  rw [hf.out] at CT
  refine (hold_held E.num CT).mono ?_
  rintro r w2 ⟨rfl, k2⟩
  rw [hw.out]
  have T2 := Lib.hid (T1.out.next k2)
  have Z2 := Lib.hid (Z1.out.next k2)
  have O2 := Lib.hid (O1.out.trans (On.below H1.out.fam k2))
  have H2 := Lib.hid (H1.out.next k2)
  clear k2 CT H1 E1 Y1 T1 Z1 O1
  dsimp only
  go_wp2_with (first
    | (refine wpList_plain rfl fun K' hK' => ld_told (t := t) _ rfl rfl T2.out.lies (hK' _ _ ?_))
    | (refine wpList_plain rfl fun K' hK' => st_told (t' := t) _ _ rfl rfl rfl Z2.out.lies rfl (fun w7 z1 z2 => hK' _ _ ?_))
    | fail)
  exact bodyPost_ret (told_told (t := t) rfl rfl z1) rfl ⟨t.r, R, rfl, rfl, rfl, by rw [ht.out]; exact Nw.zero, H2.out.aside z2 Z2.out.out (by have := LO.out; have := HG.out; omega) OLD.out (by have := HG.out; omega), Cn.On.aside F0.out O2.out z2 (by have := HG.out; omega), fun n h => h⟩
set_option maxHeartbeats 4000000 in
/-- it is closed -/
theorem start_closed {t : Td} {y : Cl} (H : Hid (CM w0 E s R w)) (hr : s.rs.length ≤ 1000) (hf : Hid (s.hd = false)) (hs : Hid (s.sd = true)) : Calls Try.prog 39 #[gp E.x, E.v, y.val, t.v] w (Went w0 E R w s ((s.hold E).ended (rc 3)) ⟨true, t.bg, true, true, rc 3⟩) := by
  obtain ⟨W, hW, e0, y0, t0, z0, k0⟩ := alloc4 w 32 25 45 45 E.cl y.cl t.cl [.bool false, .bool false, .bool false, .bool false, .int .i64 0, .slice none 0 0]
  obtain ⟨g, hg⟩ : ∃ g, w.heap.size = g := ⟨_, rfl⟩
  have E0 := Lib.hid (Bo.new H.out.fam e0 (Nat.le_refl _))
  have Y0 := Lib.hid (Bo.new H.out.fam y0 (by omega))
  have T0 := Lib.hid (Bo.new H.out.fam t0 (by omega))
  have Z0 := Lib.hid (Bo.new H.out.fam z0 (by omega))
  have F0 := Lib.hid H.out.fam
  have H0 := Lib.hid (H.out.next k0)
  have O0 : Hid (On TT R w R W) := Lib.hid (On.below H.out.fam k0)
  have OLD := Lib.hid H.out.old
  have LO : Hid (w0.heap.size ≤ w.heap.size) := Lib.hid H.out.fam.below.size
  have HG := Lib.hid hg
  rw [hg] at E0 Y0 T0 Z0
  go_enter Try.func39, Try.ntmps39
  go_upto_region 1 with fail
  clear hg hW e0 y0 t0 z0 k0 H
  obtain ⟨cv, rv, q0, -⟩ := H0.out.client
  have c0 := Later.cell (q0.lies.cell (i := 0) rfl)
  clear q0
  have l0 := Later.cell (E0.out.lies.cell (i := 0) rfl)
  have l1 := Later.cell (E0.out.lies.cell (i := 1) rfl)
  have l2 := Later.cell (E0.out.lies.cell (i := 2) rfl)
  have l3 := Later.cell (E0.out.lies.cell (i := 3) rfl)
  have l4 := Later.cell (E0.out.lies.cell (i := 4) rfl)
  have l5 := Later.cell (E0.out.lies.cell (i := 5) rfl)
  have l6 := Later.cell (E0.out.lies.cell (i := 6) rfl)
  have l7 := Later.cell (E0.out.lies.cell (i := 7) rfl)
  have l8 := Later.cell (E0.out.lies.cell (i := 8) rfl)
  have l9 := Later.cell (E0.out.lies.cell (i := 9) rfl)
  have l10 := Later.cell (E0.out.lies.cell (i := 10) rfl)
  refine wp_region_later_tail 5 (by kernel_rfl) (by kernel_rfl) ?_
  simp only [List.take_succ_cons, List.take_zero, List.drop_succ_cons, List.drop_zero]
  repeat (go_big_quiet_step (fail))
  refine wpQuiet_nil ?_
  rintro _ ⟨u, rfl⟩
  have k1 := u.below
  have E1 := Lib.hid (E0.out.next k1)
  have Y1 := Lib.hid (Y0.out.next k1)
  have T1 := Lib.hid (T0.out.next k1)
  have Z1 := Lib.hid (Z0.out.next k1)
  have O1 := Lib.hid (O0.out.trans (On.below H0.out.fam k1))
  have H1 := Lib.hid (H0.out.next k1)
  clear k1 l0 l1 l2 l3 l4 l5 l6 l7 l8 l9 l10 c0 E0 Y0 T0 Z0 O0 H0
  generalize u.w = w1 at E1 Y1 T1 Z1 O1 H1 ⊢
  go_wp2_with fail
  have CT := Lib.hid H1.out.ctl
  rw [hf.out] at CT
  refine (hold_free E.num CT).mono ?_
  rintro r w2 ⟨rfl, i2, v2⟩
  obtain ⟨R2, h2, o2⟩ := H1.out.on17 i2 v2
  have H2 := Lib.hid h2
  have E2 := Lib.hid (E1.out.on o2)
  have Y2 := Lib.hid (Y1.out.on o2)
  have T2 := Lib.hid (T1.out.on o2)
  have Z2 := Lib.hid (Z1.out.on o2)
  have O2 := Lib.hid (O1.out.trans o2)
  clear i2 v2 h2 o2 CT H1 E1 Y1 T1 Z1 O1
  have l8 := E2.out.lies.cell (i := 8) rfl
  obtain ⟨cv, rv, q2, -⟩ := H2.out.client
  have c7 := q2.lies.cell (i := 7) rfl
  have p7 := q2.lies.open_ 7
  clear q2
  dsimp only
  go_upto_region 4 with fail
  obtain ⟨R3, h3, o3⟩ := H2.out.cell (j := 7) (v := gp E.gc) (g' := { s.g with held := some E.gc }) (fun _ _ => rfl) rfl (.inr rfl)
  have H3 := Lib.hid h3
  have E3 := Lib.hid (E2.out.on o3)
  have Y3 := Lib.hid (Y2.out.on o3)
  have T3 := Lib.hid (T2.out.on o3)
  have Z3 := Lib.hid (Z2.out.on o3)
  have O3 := Lib.hid (O2.out.trans o3)
  clear h3 o3 l8 c7 p7 H2 E2 Y2 T2 Z2 O2
  generalize w2.setCell ⟨E.x, 7, none⟩ (gp E.gc) = w3 at H3 E3 Y3 T3 Z3 O3 ⊢
  go_wp2_with (first
    | (refine wpList_plain rfl fun K' hK' => ld_env (E := E) _ rfl rfl E3.out.lies (hK' _ _ ?_))
    | fail)
  refine (closed_ok (Lib.hid H3.out.ctl)).mono ?_
  rintro r w4 ⟨rfl, k4⟩
  have H4 := Lib.hid (H3.out.next k4)
  have T4 := Lib.hid (T3.out.next k4)
  have E4 := Lib.hid (E3.out.next k4)
  have Y4 := Lib.hid (Y3.out.next k4)
  have Z4 := Lib.hid (Z3.out.next k4)
  have O4 := Lib.hid (O3.out.trans (On.below H3.out.fam k4))
  clear k4 H3 T3 E3 Y3 Z3 O3
  dsimp only
  rw [hs.out]
  go_wp2_with (first
    | (refine wpList_plain rfl fun K' hK' => ld_told (t := t) _ rfl rfl T4.out.lies (hK' _ _ ?_))
    | fail)
  refine (refuse_ok t 3 H4 (Lib.hid (.inr ⟨rfl, rfl, rfl⟩)) hr).mono ?_
  rintro r w8 ⟨z, R8, rfl, e1, e2, nz, c8, o8, ol⟩
  have N8 := Lib.hid (And.intro e1 (And.intro e2 nz))
  have C8 := Lib.hid c8
  have Z8 := Lib.hid (Z4.out.on o8)
  have O8 := Lib.hid (O4.out.trans o8)
  have L8 : Hid (g + 1 + 1 + 1 < w4.heap.size ∧ w.heap.size ≤ w4.heap.size) := Lib.hid ⟨Z4.out.lies.lt, O4.out.size⟩
  have OL : Hid (∀ n, Old n s → Old n _) := Lib.hid fun n h => ol n h
  clear e1 e2 nz c8 o8 ol
  dsimp only
  go_wp2_with (first
    | (refine wpList_plain rfl fun K' hK' => st_told (t' := ⟨true, t.bg, true, true, z⟩) _ _ rfl rfl rfl Z8.out.lies rfl (fun w9 z1 z2 => hK' _ _ ?_))
    | fail)
  exact bodyPost_ret (told_told (t := ⟨true, t.bg, true, true, z⟩) rfl rfl z1) rfl ⟨z, R8, rfl, N8.out.1, N8.out.2.1, (N8.out.2.2.far z2 L8.out.1).less L8.out.2, C8.out.aside z2 Z8.out.out (by have := LO.out; have := HG.out; omega) (OL.out _ OLD.out) (by have := HG.out; omega), Cn.On.aside F0.out O8.out z2 (by have := HG.out; omega), fun n h => OL.out n h⟩
end
end Cn
end Go.Proofs.Ytjogolfipboocaa
