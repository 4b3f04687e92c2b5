/-
  ClientWaits holds: for any config, call and way the law answers true (no conditions).
-/
import Derived.Test.YtjogolfipboocaaClUp
import Derived.Test.YtjogolfipboocaaClStart
import Derived.Test.YtjogolfipboocaaLaid
import Derived.Deep.CutBlock
namespace Go.Proofs.Ytjogolfipboocaa
open Go.ChangeShapes Go.WideShapes Go.ChangeAt Go.RowKit
set_option linter.unusedVariables false
set_option maxRecDepth 100000
namespace Ms
open Small Foot Bx Ca
set_option maxHeartbeats 800000 in
theorem close_ok (g : Nat) (room : Int) (v : Value) (L : List M) (w : World) (H : Hid (Box w g room false v L)) :
    Calls Try.prog 13 #[gp g] w fun r w' => r = .returned (.bool true) ∧ Box w' g room true v L ∧ Moves (Fp g v) (Fp g v) w w' := by
  have c2 := H.out.lies.cell (i := 2) rfl
  have f2 := H.out.lies.open_ 2
  go_enter Try.func13, Try.ntmps13
  go_wp2
  go_ret
  exact ⟨rfl, H.out.shut true⟩
end Ms
namespace Cn
open Small Foot Fm Ca
theorem one_call {w : World} {b : Nat} {x : Cl} (h : Lies w b 25 x.cl) : Sl.Is Ck w (.slice (some ⟨b, 0, none⟩) 1 1) [x] b := Sl.Is.one cok h
/-- ahead of the step: whatever was done, the client has not begun -/
structure Pre (cf : Cf) (x : Cl) (s : St) : Prop where
  rs : s.rs = []
  g : s.g = g0
def Rdy (w0 : World) (E : Ev) (ge gt : Nat) (R : Nat → Nat → Prop) (s : St) (dn : Bool) (code : Int) (w : World) : Prop :=
  CM w0 E s R w ∧ Bo R w ge 32 E.cl ∧ Bo R w gt 45 (Td.cl ⟨true, true, false, false, rc code⟩)
/-- what its steps come to -/
def Does (w0 : World) (E : Ev) (s : St) (dn : Bool) (code : Int) : Prop :=
  ∃ s2, (∀ w R, CM w0 E s R w → Calls Try.prog 16 #[gp E.x, E.v] w (Went w0 E R w s s2 ⟨true, true, dn, dn, rc code⟩)) ∧
    (dn = true → s2.rs.length = 1 ∧ ∀ r ∈ s2.rs, r.P.length ≤ 9000) ∧ (dn = false → s2.rs = [] ∧ ∀ w R, CM w0 E s2 R w → Calls Try.prog 16 #[gp E.x, E.v] w (Went w0 E R w s2 s2 t0))
/-- behind the switch -/
def CutR (w0 : World) (E : Ev) (ge gt : Nat) (s18 : Value) (wx : World) : Prop :=
  ∃ (s : St) (R : Nat → Nat → Prop) (dn : Bool) (code : Int), s18 = .bool dn ∧ Hid (CM w0 E s R wx) ∧ Hid (Bo R wx ge 32 E.cl) ∧ Hid (Bo R wx gt 45 (Td.cl ⟨true, true, false, false, rc code⟩)) ∧ Hid (Does w0 E s dn code) ∧ Hid (s.rs = [] ∧ s.g = g0)
theorem old0 {n : Nat} {s : St} (h : s.rs = [] ∧ s.g = g0) : Old n s :=
  ⟨fun r hr => by (rw [h.1] at hr; cases hr), fun a ha => by (rw [h.2] at ha; cases ha)⟩
theorem set_code {w0 w : World} {E : Ev} {s : St} {R : Nat → Nat → Prop} {ge gt : Nat} {code c0 : Int} {o : Oper} {a : Act} {K : Act → World → Prop} {Qq : Exit → Act → World → Prop} (x y : Operand) (ho : o.op = .store 43 x y) (hx : a.eval x = .pointer (some ⟨gt, 4, none⟩)) (hy : a.eval y = .agg #[.int .i64 code, .slice none 0 0])
    (H : Hid (CM w0 E s R w)) (EL : Hid (Bo R w ge 32 E.cl)) (U : Hid (Bo R w gt 45 (Td.cl ⟨true, true, false, false, rc c0⟩))) (lo : Hid (w0.heap.size ≤ gt)) (hne : Hid (ge ≠ gt)) (h0 : s.rs = [] ∧ s.g = g0)
    (hK : ∀ w', Hid (CM w0 E s R w') → Hid (Bo R w' ge 32 E.cl) → Hid (Bo R w' gt 45 (Td.cl ⟨true, true, false, false, rc code⟩)) → K (a.put o.dst undef) w') : o.wp Try.prog a w K Qq :=
  Wh.wp_store (off := 4) Try.sizeOf43 x y ho hx (hy.trans rfl) U.out.lies (by simp) rfl (rok.one (rc code)) (Td.cl ⟨true, true, false, false, rc code⟩) rfl
    fun w' z1 z2 => hK w' (Lib.hid (H.out.aside z2 U.out.out lo.out (old0 h0) (Nat.le_refl _))) (Lib.hid (EL.out.far z2 hne.out)) (Lib.hid ⟨z1, U.out.out⟩)
theorem set_flag {w0 w : World} {E : Ev} {s : St} {R : Nat → Nat → Prop} {ge gt : Nat} {cs ds : List Value} {w' : World}
    (H : Hid (CM w0 E s R w)) (EL : Hid (Bo R w ge 32 E.cl)) (U : Hid (Bo R w gt 45 cs)) (lo : Hid (w0.heap.size ≤ gt)) (hne : Hid (ge ≠ gt)) (h0 : s.rs = [] ∧ s.g = g0) (z1 : Lies w' gt 45 ds) (z2 : w.grownBy w' (some gt)) :
    CM w0 E s R w' ∧ Bo R w' ge 32 E.cl ∧ Bo R w' gt 45 ds :=
  ⟨H.out.aside z2 U.out.out lo.out (old0 h0) (Nat.le_refl _), EL.out.far z2 hne.out, z1, U.out.out⟩
theorem keyed_grp {r : Int} {x : Cl} (hk : kd x.op = true) (hr : 1 ≤ r) : 0 ≤ grpOf r x ∧ grpOf r x < r := by
  unfold grpOf
  rw [if_pos hk]
  have := Fnv.grp_in (Fnv.num x.key.data.toList) r
  exact ⟨this.1, this.2 hr⟩
/-- so many Marks in mailbox j -/
def stk (cf : Cf) (j k : Nat) : St := { st0 cf with L := fun q => if q = j then List.replicate k ⟨2, 0, c00, 0, none⟩ else [] }
theorem stk_zero (cf : Cf) (j : Nat) : stk cf j 0 = st0 cf := by
  have : (fun q : Nat => if q = j then List.replicate 0 (⟨2, 0, c00, 0, none⟩ : Ms.M) else []) = fun _ => [] := funext fun q => by split <;> rfl
  show ({ st0 cf with L := _ } : St) = _
  rw [this]
theorem stk_msg (cf : Cf) (j k : Nat) : (stk cf j k).msg j ⟨2, 0, c00, 0, none⟩ = stk cf j (k + 1) := by
  have : (fun q : Nat => if q = j then (stk cf j k).L j ++ [(⟨2, 0, c00, 0, none⟩ : Ms.M)] else (stk cf j k).L q) = fun q => if q = j then List.replicate (k + 1) ⟨2, 0, c00, 0, none⟩ else [] := funext fun q => by
    by_cases h : q = j
    · simp [stk, h, List.replicate_succ']
    · simp [stk, h]
  show ({ stk cf j k with L := _ } : St) = _
  rw [this]
  rfl
section
variable {w0 : World} {E : Ev} {s : St} {x : Cl} {code : Int}
theorem does_key_done (hc : E.cf.c ≤ 16) (fc : E.cf.Fit) (fx : x.Fit) (hm : mayC E.cf x) (hx : E.cs = [x]) (hrs : s.rs = []) (hg : s.g = g0) (hkd : kd x.op = true) (wy : Way E s.beg x tb (s.beg.ended (rc code)) ⟨true, true, true, true, rc code⟩) : Does w0 E s true code := by
  have r1 : (s.beg.ended (rc code)).rs = [rc code] := by show s.rs ++ [rc code] = _; rw [hrs]; rfl
  refine ⟨s.beg.ended (rc code), fun w R h => step_key_new (y := x) (Lib.hid h) (Lib.hid (by rw [hx, hrs]; rfl)) (Lib.hid (.inl (by rw [hg]))) (by rw [hrs]; decide) (Lib.hid fc) (Lib.hid fx) (Lib.hid hkd) (Lib.hid (by rw [hg])) (Lib.hid hm) (Lib.hid fun w1 R1 h1 => keyed_st (Lib.hid h1) (Lib.hid (.inl (by show s.g.held = none; rw [hg]))) (by show s.rs.length ≤ 1000; rw [hrs]; decide) hc (Lib.hid fc) (Lib.hid fx) (Lib.hid rfl) (.first (by show s.g.ask = 0; rw [hg]) wy)), fun _ => ⟨by rw [r1]; rfl, fun r hr => ?_⟩, fun h => by cases h⟩
  rw [r1, List.mem_singleton] at hr
  subst hr
  show 0 ≤ 9000
  omega
theorem does_key_wait (hc : E.cf.c ≤ 16) (fc : E.cf.Fit) (fx : x.Fit) (hm : mayC E.cf x) (hx : E.cs = [x]) (hrs : s.rs = []) (hg : s.g = g0) (hkd : kd x.op = true) (wy : Way E s.beg x tb s.beg tb) (wy2 : Way E s.beg x t0 s.beg t0) : Does w0 E s false 0 :=
  ⟨s.beg, fun w R h => step_key_new (y := x) (t' := tb) (Lib.hid h) (Lib.hid (by rw [hx, hrs]; rfl)) (Lib.hid (.inl (by rw [hg]))) (by rw [hrs]; decide) (Lib.hid fc) (Lib.hid fx) (Lib.hid hkd) (Lib.hid (by rw [hg])) (Lib.hid hm) (Lib.hid fun w1 R1 h1 => keyed_st (Lib.hid h1) (Lib.hid (.inl (by show s.g.held = none; rw [hg]))) (by show s.rs.length ≤ 1000; rw [hrs]; decide) hc (Lib.hid fc) (Lib.hid fx) (Lib.hid rfl) (.first (by show s.g.ask = 0; rw [hg]) wy)), (fun h => by cases h), fun _ => ⟨hrs, fun w R h => step_key_old (y := x) (t' := t0) (Lib.hid h) (Lib.hid (by show E.cs[s.rs.length]? = _; rw [hx, hrs]; rfl)) (Lib.hid (.inl (by show s.g.held = none; rw [hg]))) (by show s.rs.length ≤ 1000; rw [hrs]; decide) (Lib.hid fc) (Lib.hid fx) (Lib.hid hkd) (Lib.hid rfl) (Lib.hid fun w1 R1 h1 => keyed_st (Lib.hid h1) (Lib.hid (.inl (by show s.g.held = none; rw [hg]))) (by show s.rs.length ≤ 1000; rw [hrs]; decide) hc (Lib.hid fc) (Lib.hid fx) (Lib.hid rfl) (.first (by show s.g.ask = 0; rw [hg]) wy2))⟩⟩
theorem does_start_done (fc : E.cf.Fit) (fx : x.Fit) (hm : mayC E.cf x) (hx : E.cs = [x]) (hrs : s.rs = []) (hg : s.g = g0) (hkd : kd x.op = false) (hd : s.hd = false) (hs : s.sd = true) : Does w0 E s true 3 := by
  have r1 : ((s.beg.hold E).ended (rc 3)).rs = [rc 3] := by show s.rs ++ [rc 3] = _; rw [hrs]; rfl
  refine ⟨(s.beg.hold E).ended (rc 3), fun w R h => step_start_new (y := x) (Lib.hid h) (Lib.hid (by rw [hx, hrs]; rfl)) (Lib.hid (.inl (by rw [hg]))) (by rw [hrs]; decide) (Lib.hid fc) (Lib.hid fx) (Lib.hid hkd) (Lib.hid (by rw [hg])) (Lib.hid (by rw [hg])) (Lib.hid hm) (Lib.hid fun w1 R1 h1 => start_closed (Lib.hid h1) (by show s.rs.length ≤ 1000; rw [hrs]; decide) (Lib.hid hd) (Lib.hid hs)), fun _ => ⟨by rw [r1]; rfl, fun r hr => ?_⟩, fun h => by cases h⟩
  rw [r1, List.mem_singleton] at hr
  subst hr
  show 0 ≤ 9000
  omega
theorem does_start_wait (fc : E.cf.Fit) (fx : x.Fit) (hm : mayC E.cf x) (hx : E.cs = [x]) (hrs : s.rs = []) (hg : s.g = g0) (hkd : kd x.op = false) (hd : s.hd = true) (hw : (s.hk == E.num) = false) : Does w0 E s false 0 :=
  ⟨s.beg, fun w R h => step_start_new (y := x) (t' := tb) (Lib.hid h) (Lib.hid (by rw [hx, hrs]; rfl)) (Lib.hid (.inl (by rw [hg]))) (by rw [hrs]; decide) (Lib.hid fc) (Lib.hid fx) (Lib.hid hkd) (Lib.hid (by rw [hg])) (Lib.hid (by rw [hg])) (Lib.hid hm) (Lib.hid fun w1 R1 h1 => start_wait (Lib.hid h1) (by show s.rs.length ≤ 1000; rw [hrs]; decide) (Lib.hid hd) (Lib.hid hw) (Lib.hid rfl)), (fun h => by cases h), fun _ => ⟨hrs, fun w R h => step_start_old (y := x) (t' := t0) (Lib.hid h) (Lib.hid (by show E.cs[s.rs.length]? = _; rw [hx, hrs]; rfl)) (Lib.hid (.inl (by show s.g.held = none; rw [hg]))) (by show s.rs.length ≤ 1000; rw [hrs]; decide) (Lib.hid fc) (Lib.hid fx) (Lib.hid hkd) (Lib.hid (by show s.g.held = none; rw [hg])) (Lib.hid rfl) (Lib.hid fun w1 R1 h1 => start_wait (Lib.hid h1) (by show s.rs.length ≤ 1000; rw [hrs]; decide) (Lib.hid hd) (Lib.hid hw) (Lib.hid rfl))⟩⟩
end
end Cn
namespace clientWaits
open Small Foot Fm Ca Cn
set_option maxHeartbeats 8000000 in
theorem walk (c : Cf) (fc : c.Fit) (x : Cl) (fx : x.Fit) (how : Int) (_ : (Lit.int .i64 how).wf = true) (w : World) :
    Calls Try.prog 3 #[c.val, x.val, .int .i64 how] w fun r w' => r = .returned (.bool true) ∧ Below w.heap.size w w' := by
  obtain ⟨W, hW, c0, x0, k0⟩ := alloc2 w 23 25 (Sh.fcl c) x.cl
  obtain ⟨g, hg⟩ : ∃ g, w.heap.size = g := ⟨_, rfl⟩
  have C0 := Lib.hid c0
  have X0 := Lib.hid x0
  have K0 := Lib.hid k0
  have FC := Lib.hid fc
  have FX := Lib.hid fx
  have HG := Lib.hid hg
  rw [hg] at C0 X0
  go_enter Try.func3, Try.ntmps3
  go_upto_region 1 with fail
  clear hg hW c0 x0 k0 fc fx
  go_wp2_with fail
  refine (up_ok W).mono ?_
  rintro r w1 ⟨rfl, k1⟩
  have C1 := Lib.hid (C0.out.next k1)
  have X1 := Lib.hid (X0.out.next k1)
  have K1 := Lib.hid (after K0.out k1)
  clear k1 C0 X0 K0
  dsimp only
  by_cases M : mayC c x
  · go_wp2_with (first
      | (refine wpList_plain rfl fun K' hK' => Wh.wp_load Try.isAgg23 Try.sizeOf23 _ rfl rfl C1.out (Nat.le_refl _) (Sh.fcl c) rfl (hK' _ _ ?_))
      | (refine wpList_plain rfl fun K' hK' => ld_call (y := x) _ rfl rfl X1.out (hK' _ _ ?_))
      | fail)
    refine (Ca.rmay_ok c x w1 true (Lib.hid (by simp [M])) FC.out FX.out).mono ?_
    rintro r w2 ⟨rfl, k2⟩
    have C2 := Lib.hid (C1.out.next k2)
    have X2 := Lib.hid (X1.out.next k2)
    have K2 := Lib.hid (after K1.out k2)
    have HM := Lib.hid M
    clear k2 C1 X1 K1 M
    dsimp only
    by_cases hk : 100 < (x.key.size : Int)
    · have x1 := X2.out.cell (i := 1) rfl
      go_wp2
      go_ret
      exact ⟨rfl, K2.out⟩
    · have x1 := X2.out.cell (i := 1) rfl
      have HK := Lib.hid hk
      go_upto_region 5 with fail
      clear x1 hk
      go_wp2_with (first
        | (refine wpList_plain rfl fun K' hK' => Wh.wp_load Try.isAgg23 Try.sizeOf23 _ rfl rfl C2.out (Nat.le_refl _) (Sh.fcl c) rfl (hK' _ _ ?_))
        | fail)
      refine (begun_ok c w2 (Lib.hid HM.out.1) FC (Num.fit FC.out.2.1).2).mono ?_
      rintro r w3 ⟨gc, b, wv, ba, bn, bc, bs, ws, R, rfl, h3, hl⟩
      have H3 := Lib.hid h3
      have HL := Lib.hid hl
      clear h3 hl
      dsimp only
      go_upto_region 6 with fail
      have k4 := below1 w3 (Obj.cells (ecl c gc b (.slice ba bn bc)).toArray 32)
      have E4 := Lib.hid (Bo.new H3.out.fam (Lies.new w3 32 (ecl c gc b (.slice ba bn bc))) (Nat.le_refl _))
      have H4 := Lib.hid (H3.out.next k4)
      clear k4 H3
      generalize w3.heap.size = ge at E4 ⊢
      generalize hw4 : w3.alloc _ = w4 at E4 H4 ⊢
      clear hw4
      have X4 := Lib.hid ((H4.out.fam.below.block _ X2.out.lt).trans X2.out : Lies w4 (g + 1) _ _)
      go_wp2_with (first
        | (refine wpList_plain rfl fun K' hK' => ld_call (y := x) _ rfl rfl X4.out (hK' _ _ ?_))
        | fail)
      have O5 := Lib.hid (one_call (Lies.new w4 25 x.cl))
      refine (cnew_ok 3 _ [x] _ _ O5 (by simp)).mono ?_
      rintro r w5 ⟨xp, cv, rfl, q5, f5, k5⟩
      have kk := after (below1 w4 (Obj.cells x.cl.toArray 25)) k5
      obtain ⟨R5, h5, n5⟩ := H4.out.client q5 (fun i hi => Nat.le_trans (below1 w4 (Obj.cells x.cl.toArray 25)).size (f5 i hi)) kk
      have H5 := Lib.hid h5
      have E5 : Hid (Bo R5 w5 ge 32 (Ev.cl ⟨c, gc, b, ba, bn, bc, bs, xp, 3, [x]⟩)) := Lib.hid (E4.out.on n5)
      have C5 : Hid (Lies w5 g 23 (Sh.fcl c)) := Lib.hid ((h5.fam.below.block _ C2.out.lt).trans C2.out)
      have X5 : Hid (Lies w5 (g + 1) 25 x.cl) := Lib.hid ((h5.fam.below.block _ X2.out.lt).trans X2.out)
      clear q5 f5 k5 kk n5 h5 O5 X4 E4 H4
      dsimp only
      go_wp2_with (first
        | (refine wpList_plain rfl fun K' hK' => ld_call (y := x) _ rfl rfl X5.out (hK' _ _ ?_))
        | fail)
      refine (Ca.rkeyed_ok x w5).mono ?_
      rintro r w6 ⟨rfl, k6⟩
      have H6 := Lib.hid (H5.out.next k6)
      have E6 := Lib.hid (E5.out.next k6)
      have C6 := Lib.hid (C5.out.next k6)
      have X6 := Lib.hid (X5.out.next k6)
      clear k6 H5 E5 C5 X5
      dsimp only
      go_wp2_with (first
        | (refine wpList_plain rfl fun K' hK' => Wh.wp_load Try.isAgg23 Try.sizeOf23 _ rfl rfl C6.out (Nat.le_refl _) (Sh.fcl c) rfl (hK' _ _ ?_))
        | (refine wpList_plain rfl fun K' hK' => ld_call (y := x) _ rfl rfl X6.out (hK' _ _ ?_))
        | fail)
      refine (Ca.rgroup_ok c x w6 FC.out FX.out).mono ?_
      rintro r w7 ⟨rfl, k7⟩
      have H7 := Lib.hid (H6.out.next k7)
      have E7 := Lib.hid (E6.out.next k7)
      have C7 := Lib.hid (C6.out.next k7)
      have X7 := Lib.hid (X6.out.next k7)
      clear k7 H6 E6 C6 X6
      obtain ⟨gk, hgk⟩ : ∃ gk, grpOf c.r x = gk := ⟨_, rfl⟩
      obtain ⟨kb, hkb⟩ : ∃ kb, kd x.op = kb := ⟨_, rfl⟩
      have GK := Lib.hid hgk
      have KB := Lib.hid hkb
      rw [hgk, hkb]
      clear hgk hkb
      dsimp only
      have c5 := C7.out.cell (i := 5) rfl
      have hh : (1 ≤ c.h ∧ c.h ≤ 8) ∧ (1 ≤ c.r ∧ c.r ≤ 16) ∧ 1 ≤ c.c ∧ c.c ≤ 16 := by have q : Asg.may c.k c.s c.l c.g c.z c.h c.r c.c := HM.out.1; unfold Asg.may at q; omega
      have HH := Lib.hid hh
      have z5 : (c.h == 0) = false := by simp; omega
      go_upto_if 56 with fail
      go_cut [15] (fun s15 wx => ∃ j : Nat, s15 = .int .i64 j ∧ (j : Int) < c.h ∧ (0 ≤ gk → (j : Int) = gk % c.h) ∧ wx = w7)
      case first =>
        by_cases hg0 : 0 ≤ gk
        · go_wp2_with fail
          go_meet
          case rel => exact ⟨(gk % c.h).toNat, by rw [Int.toNat_of_nonneg (Int.emod_nonneg _ (by omega))], by rw [Int.toNat_of_nonneg (Int.emod_nonneg _ (by omega))]; exact Int.emod_lt_of_pos _ (by omega), fun _ => Int.toNat_of_nonneg (Int.emod_nonneg _ (by omega)), rfl⟩
        · go_wp2_with fail
          go_meet
          case rel => exact ⟨0, rfl, by omega, fun h => by omega, rfl⟩
      case rest =>
        obtain ⟨j, rfl, hj, hjk, rfl⟩ := hcut
        have HJ := Lib.hid (And.intro hj hjk)
        clear hj hjk c5 z5
        go_upto_block 0 with (first
          | (refine wpList_plain rfl fun K' hK' => wp_told2 rfl (hK' _ _ ?_))
          | fail)
        obtain ⟨W8, hW8, t8, u8, k8⟩ := alloc2 wc 45 45 (Td.cl tb) (Td.cl tb)
        obtain ⟨gq, hgq⟩ : ∃ gq, wc.heap.size = gq := ⟨_, rfl⟩
        have U8 := Lib.hid (Bo.new H7.out.fam u8 (by omega))
        have H8 := Lib.hid (H7.out.next k8)
        have E8 := Lib.hid (E7.out.next k8)
        have C8 := Lib.hid (C7.out.next k8)
        have X8 := Lib.hid (X7.out.next k8)
        rw [hgq] at U8
        rw [show (wc.alloc (Obj.cells #[.bool true, .bool true, .bool false, .bool false, .int .i64 0, .slice none 0 0] 45)).alloc (Obj.cells #[.bool true, .bool true, .bool false, .bool false, .int .i64 0, .slice none 0 0] 45) = W8 from hW8, hgq]
        have LO : Hid (w2.heap.size ≤ gq + 1) := Lib.hid (by have := H7.out.fam.below.size; omega)
        have NE : Hid (ge ≠ gq + 1) := Lib.hid (by have := E7.out.lies.lt; omega)
        clear hW8 hgq t8 u8 k8 H7 E7 C7 X7
        have KEY : Hid (kb = true → ∃ (i g1 : Nat), grpOf c.r x = i ∧ (M0 c)[i]? = some ⟨j, 0, false⟩ ∧ bs[j]? = some g1 ∧ gk = i) := Lib.hid fun hk => by
          have h1 := keyed_grp (r := c.r) (KB.out.trans hk) HH.out.2.1.1
          rw [GK.out] at h1
          have hj := HJ.out
          have hl : j < bs.length := by have := HL.out; omega
          refine ⟨gk.toNat, bs[j], by rw [GK.out]; omega, ?_, List.getElem?_eq_getElem hl, by omega⟩
          have := Ow.ini_at c.h c.r.toNat (i := gk.toNat) (n := c.r.toNat) (by omega)
          rw [this, if_pos (by omega)]
          have e := hj.2 h1.1
          simp only [Option.some.injEq, Ow.O.mk.injEq, and_true]
          rw [e]
          congr 1
          omega
        have JL : Hid (∃ g1 : Nat, bs[j]? = some g1) := Lib.hid ⟨_, List.getElem?_eq_getElem (show j < bs.length by have := HL.out; have := HJ.out.1; omega)⟩
        go_cut [18] from 64 to 123 (fun s18 wx => CutR w2 ⟨c, gc, b, ba, bn, bc, bs, xp, 3, [x]⟩ ge (gq + 1) s18 wx)
        case first =>
          by_cases h1 : how = 1
          · subst h1
            have e8 := E8.out.lies.cell (i := 8) rfl
            go_wp2_with fail
            refine (Ct.shut_ok (Lib.hid H8.out.ctl)).mono ?_
            rintro r w9 ⟨rfl, i9, v9⟩
            obtain ⟨R9, h9, o9⟩ := H8.out.on17 i9 v9
            have H9 := Lib.hid h9
            have E9 := Lib.hid (E8.out.on o9)
            have U9 := Lib.hid (U8.out.on o9)
            clear i9 v9 h9 o9 e8 H8 E8 U8
            dsimp only
            clear C8 X8
            go_wp2_with (first
              | (refine wpList_plain rfl fun K' hK' => set_code (code := 3) _ _ rfl rfl rfl H9 E9 U9 (lo := LO) (hne := NE) (h0 := ⟨rfl, rfl⟩) (hK := fun w10 H10 E10 U10 => hK' _ _ ?_))
              | fail)
            go_meet
            case rel =>
              refine ⟨_, R9, true, 3, rfl, H10, E10, U10, ?_, Lib.hid ⟨rfl, rfl⟩⟩
              by_cases hk : kb = true
              · exact Lib.hid (does_key_done (by have := HH.out; exact this.2.2.2) FC.out FX.out HM.out rfl rfl rfl (KB.out.trans hk) (.closed rfl))
              · exact Lib.hid (does_start_done FC.out FX.out HM.out rfl rfl rfl (by rw [KB.out]; simpa using hk) rfl rfl)
          · have H1 := Lib.hid h1
            clear h1
            by_cases h0 : how = 0
            · subst h0
              go_wp2_with fail
              go_loopw [19] (fun s19 wr => ∃ (k : Nat) (R : Nat → Nat → Prop), s19 = .int .i64 k ∧ (k : Int) ≤ c.c ∧ Hid (CM w2 ⟨c, gc, b, ba, bn, bc, bs, xp, 3, [x]⟩ (stk c j k) R wr) ∧ Hid (Bo R wr ge 32 (Ev.cl ⟨c, gc, b, ba, bn, bc, bs, xp, 3, [x]⟩)) ∧ Hid (Bo R wr (gq + 1) 45 (Td.cl tb))) (fun s19 _ => c.c.toNat - (intOf s19).toNat)
              case atStart => exact ⟨0, _, rfl, by have := HH.out; omega, Lib.hid (by rw [stk_zero]; exact H8.out), E8, U8⟩
              case round =>
                obtain ⟨k, Rr, rfl, hk, Hr, Er, Ur⟩ := hrel
                have lc : Lies wr g 23 (Sh.fcl c) := (Hr.out.fam.below.block _ C2.out.lt).trans C2.out
                have c7 := lc.cell (i := 7) rfl
                clear lc
                by_cases hlt : (k : Int) < c.c
                · obtain ⟨g1, hg1⟩ := JL.out
                  obtain ⟨bnl0, hjl, bl, off, hba0, hcell⟩ := Hr.out.lst (i := j) (g := g1) hg1
                  have c10 := Er.out.lies.cell (i := 10) rfl
                  rw [show ba = some ⟨bl, off, none⟩ from hba0, show bn = bs.length from bnl0] at c10
                  have i0 : ¬ ((j : Int) < 0) := by omega
                  have i1 : ¬ ((bs.length : Int) ≤ (j : Int)) := by have : j < bs.length := hjl; omega
                  have i2 : (0 : Int) ≤ (j : Int) := by omega
                  have i3 : (j : Int) < (bs.length : Int) := by have : j < bs.length := hjl; omega
                  have HG1 := Lib.hid hg1
                  have HLT := Lib.hid (And.intro hk hlt)
                  clear bnl0 hba0 hjl hg1 hk
                  go_wp2_with (first
                    | (refine wpList_plain rfl fun K' hK' => wp_bm1 rfl (hK' _ _ ?_))
                    | fail)
                  refine (bput_ok (i := j) Hr HG1.out ⟨2, 0, c00, 0, none⟩ rfl (by have := HLT.out.2; show ((if j = j then List.replicate k (⟨2, 0, c00, 0, none⟩ : Ms.M) else []).length : Int) < c.c; rw [if_pos rfl, List.length_replicate]; omega) (by have := HH.out; exact this.2.2.2)).mono ?_
                  rintro r w9 ⟨rfl, R9, h9, o9⟩
                  rw [stk_msg] at h9
                  have H9 := Lib.hid h9
                  have E9 := Lib.hid (Er.out.on o9)
                  have U9 := Lib.hid (Ur.out.on o9)
                  clear h9 o9 c7 c10 hcell i0 i1 i2 i3 Hr Er Ur
                  dsimp only
                  go_wp2_with fail
                  exact ⟨⟨k + 1, R9, by go_num, by have := HLT.out; omega, H9, E9, U9⟩, by have := HLT.out; simp [intOf]; omega⟩
                · have HKK : Hid ((k : Int) = c.c) := Lib.hid (by omega)
                  have lx : Lies wr (g + 1) 25 x.cl := (Hr.out.fam.below.block _ X2.out.lt).trans X2.out
                  have x0 := lx.cell (i := 0) rfl
                  clear lx
                  clear hk
                  by_cases ho : x.op = 2
                  · have b2 : (x.op == 2) = true := by simp [ho]
                    have HO := Lib.hid ho
                    have hkt : kb = true := by rw [← KB.out, ho]; rfl
                    clear ho
                    subst hkt
                    go_wp2_with (first
                      | (refine wpList_plain rfl fun K' hK' => set_code (code := 2) _ _ rfl rfl rfl Hr Er Ur (lo := LO) (hne := NE) (h0 := ⟨rfl, rfl⟩) (hK := fun w10 H10 E10 U10 => hK' _ _ ?_))
                      | fail)
                    go_meet
                    case rel =>
                      have hkd : kd x.op = true := by rw [HO.out]; rfl
                      obtain ⟨i, g1, k1, k2, k3, k4⟩ := KEY.out (by first | rfl | trivial)
                      exact ⟨_, Rr, true, 2, rfl, H10, E10, U10, Lib.hid (does_key_done (by have := HH.out; exact this.2.2.2) FC.out FX.out HM.out rfl rfl rfl hkd (.fullTry (i := i) (j := j) (g := g1) (o := ⟨j, 0, false⟩) rfl k1 k2 rfl rfl k3 rfl (by have := HKK.out; show c.c ≤ ((if j = j then List.replicate k (⟨2, 0, c00, 0, none⟩ : Ms.M) else []).length : Int); rw [if_pos rfl, List.length_replicate]; omega) HO.out)), Lib.hid ⟨rfl, rfl⟩⟩
                  · have b2 : (x.op == 2) = false := by simp [ho]
                    have HO := Lib.hid ho
                    clear ho
                    cases kb
                    case false =>
                      go_wp2_with fail
                      go_ret
                      exact ⟨rfl, K2.out.trans (Hr.out.fam.below.mono K2.out.size)⟩
                    case true =>
                      go_wp2_with fail
                      go_meet
                      case rel =>
                        have hkd : kd x.op = true := KB.out
                        obtain ⟨i, g1, k1, k2, k3, k4⟩ := KEY.out (by first | rfl | trivial)
                        have hl : c.c ≤ (((stk c j k).L j).length : Int) := by have := HKK.out; show c.c ≤ ((if j = j then List.replicate k (⟨2, 0, c00, 0, none⟩ : Ms.M) else []).length : Int); rw [if_pos rfl, List.length_replicate]; omega
                        exact ⟨_, Rr, false, 0, rfl, Hr, Er, Ur, Lib.hid (does_key_wait (by have := HH.out; exact this.2.2.2) FC.out FX.out HM.out rfl rfl rfl hkd (.full (i := i) (j := j) (g := g1) (o := ⟨j, 0, false⟩) rfl k1 k2 rfl rfl k3 rfl hl HO.out) (.full (i := i) (j := j) (g := g1) (o := ⟨j, 0, false⟩) rfl k1 k2 rfl rfl k3 rfl hl HO.out)), Lib.hid ⟨rfl, rfl⟩⟩
            · have H0 := Lib.hid h0
              clear h0
              have n1 := H1.out
              have n0 := H0.out
              by_cases h2 : how = 2
              · subst h2
                cases kb
                case false =>
                  go_wp2_with fail
                  go_ret
                  exact ⟨rfl, K2.out.trans (H8.out.fam.below.mono K2.out.size)⟩
                case true =>
                  obtain ⟨i, g1, k1, k2, k3, k4⟩ := KEY.out (by first | rfl | trivial)
                  have KK := Lib.hid (And.intro k1 (And.intro k2 (And.intro k3 k4)))
                  obtain ⟨bnl0, hjl, bl, off, hba0, hcell⟩ := H8.out.lst (i := j) (g := g1) k3
                  have c10 := E8.out.lies.cell (i := 10) rfl
                  rw [show ba = some ⟨bl, off, none⟩ from hba0, show bn = bs.length from bnl0] at c10
                  have i0 : ¬ ((j : Int) < 0) := by omega
                  have i1 : ¬ ((bs.length : Int) ≤ (j : Int)) := by have : j < bs.length := hjl; omega
                  have i2 : (0 : Int) ≤ (j : Int) := by omega
                  have i3 : (j : Int) < (bs.length : Int) := by have : j < bs.length := hjl; omega
                  clear bnl0 hba0 hjl k1 k2 k3 k4
                  obtain ⟨bv, hb, hr⟩ := H8.out.box j g1 KK.out.2.2.1
                  have HB := Lib.hid hb
                  have HR := Lib.hid hr
                  clear hb hr
                  go_wp2_with fail
                  refine (Ms.close_ok g1 c.c bv _ _ HB).mono ?_
                  rintro r w9 ⟨rfl, b9, m9⟩
                  obtain ⟨R9, h9, o9, -⟩ := H8.out.onBox KK.out.2.2.1 HR.out b9 m9
                  have H9 := Lib.hid h9
                  have E9 := Lib.hid (E8.out.on o9)
                  have U9 := Lib.hid (U8.out.on o9)
                  clear h9 o9 b9 m9 c10 hcell i0 i1 i2 i3 H8 E8 U8 HB HR
                  dsimp only
                  go_wp2_with (first
                    | (refine wpList_plain rfl fun K' hK' => set_code (code := 3) _ _ rfl rfl rfl H9 E9 U9 (lo := LO) (hne := NE) (h0 := ⟨rfl, rfl⟩) (hK := fun w10 H10 E10 U10 => hK' _ _ ?_))
                    | fail)
                  go_meet
                  case rel =>
                    exact ⟨_, R9, true, 3, rfl, H10, E10, U10, Lib.hid (does_key_done (by have := HH.out; exact this.2.2.2) FC.out FX.out HM.out rfl rfl rfl KB.out (.shut (i := i) (j := j) (g := g1) (o := ⟨j, 0, false⟩) rfl KK.out.1 KK.out.2.1 rfl rfl KK.out.2.2.1 (by show (if j = j then true else false) = true; rw [if_pos rfl]))), Lib.hid ⟨rfl, rfl⟩⟩
              · have H2 := Lib.hid h2
                clear h2
                have n2 := H2.out
                by_cases h3 : how = 3
                · subst h3
                  cases kb
                  case true =>
                    go_wp2_with fail
                    go_ret
                    exact ⟨rfl, K2.out.trans (H8.out.fam.below.mono K2.out.size)⟩
                  case false =>
                    have e8 := E8.out.lies.cell (i := 8) rfl
                    go_wp2_with fail
                    refine (Ct.hold_free (Lib.hid H8.out.ctl) 2).mono ?_
                    rintro r w9 ⟨rfl, i9, v9⟩
                    obtain ⟨R9, h9, o9⟩ := H8.out.on17 i9 v9
                    have H9 := Lib.hid h9
                    have E9 := Lib.hid (E8.out.on o9)
                    have U9 := Lib.hid (U8.out.on o9)
                    clear i9 v9 h9 o9 e8 H8 E8 U8
                    dsimp only
                    go_wp2_with fail
                    go_meet
                    case rel =>
                      exact ⟨_, R9, false, 0, rfl, H9, E9, U9, Lib.hid (does_start_wait FC.out FX.out HM.out rfl rfl rfl KB.out rfl rfl), Lib.hid ⟨rfl, rfl⟩⟩
                · have H3 := Lib.hid h3
                  clear h3
                  have n3 := H3.out
                  by_cases h4 : how = 4
                  · subst h4
                    cases kb
                    case false =>
                      go_wp2_with fail
                      go_ret
                      exact ⟨rfl, K2.out.trans (H8.out.fam.below.mono K2.out.size)⟩
                    case true =>
                      obtain ⟨i, g1, k1, k2, k3, k4⟩ := KEY.out (by first | rfl | trivial)
                      have KK := Lib.hid (And.intro k1 (And.intro k2 (And.intro k3 k4)))
                      subst k4
                      have e9 := E8.out.lies.cell (i := 9) rfl
                      clear k1 k2 k3
                      go_wp2_with fail
                      refine (Ow.freeze_ok (i := i) (o := ⟨j, 0, false⟩) (Lib.hid H8.out.table) KK.out.2.1 rfl).mono ?_
                      rintro r w9 ⟨rfl, i9, v9⟩
                      obtain ⟨R9, h9, o9⟩ := H8.out.on16 i9 v9
                      have H9 := Lib.hid h9
                      have E9 := Lib.hid (E8.out.on o9)
                      have U9 := Lib.hid (U8.out.on o9)
                      clear i9 v9 h9 o9 e9 H8 E8 U8
                      dsimp only
                      go_wp2_with fail
                      go_meet
                      case rel =>
                        have ho : ((M0 c).set i ⟨j, 0, true⟩)[i]? = some ⟨j, 0, true⟩ := List.getElem?_set_self (List.getElem?_eq_some_iff.1 KK.out.2.1).1
                        exact ⟨_, R9, false, 0, rfl, H9, E9, U9, Lib.hid (does_key_wait (by have := HH.out; exact this.2.2.2) FC.out FX.out HM.out rfl rfl rfl KB.out (.moving (i := i) (o := ⟨j, 0, true⟩) rfl KK.out.1 ho rfl) (.moving (i := i) (o := ⟨j, 0, true⟩) rfl KK.out.1 ho rfl)), Lib.hid ⟨rfl, rfl⟩⟩
                  · have n4 := h4
                    go_wp2_with fail
                    go_ret
                    exact ⟨rfl, K2.out.trans (H8.out.fam.below.mono K2.out.size)⟩
        case rest =>
          obtain ⟨s, R, dn, code, rfl, H9, E9, U9, D9, SG⟩ := hcut
          clear H8 E8 U8 C8 X8 KEY JL
          cases dn
          case false =>
            have p2 := U9.out.lies.open_ 2
            have p3 := U9.out.lies.open_ 3
            have q2 := U9.out.lies.cell (i := 2) rfl
            have q3 := U9.out.lies.cell (i := 3) rfl
            go_upto_region 49 with fail
            clear p2 p3 q2 q3
            have z1 := (U9.out.lies.put 2 (.bool false)).put 3 (.bool false)
            have z2 := grown_trans (grown_set wc (gq + 1) 2 (.bool false)) (grown_set (wc.setCell ⟨gq + 1, 2, none⟩ (.bool false)) (gq + 1) 3 (.bool false))
            obtain ⟨ha, ea, ua⟩ := set_flag H9 E9 U9 LO NE SG.out z1 z2
            have HA := Lib.hid ha
            have EA := Lib.hid ea
            have UA : Hid (Bo R _ (gq + 1) 45 (Td.cl ⟨true, true, false, false, rc code⟩)) := Lib.hid ua
            clear ha ea ua z1 z2 H9 E9 U9 LO NE SG
            generalize hwa : (wc.setCell ⟨gq + 1, 2, none⟩ (.bool false)).setCell ⟨gq + 1, 3, none⟩ (.bool false) = wa at HA EA UA ⊢
            clear hwa
            obtain ⟨s2, st, d1, d2⟩ := D9.out
            have ST := Lib.hid st
            have D1 := Lib.hid d1
            have D2 := Lib.hid d2
            clear st d1 d2 D9
            go_wp2_with (first
              | (refine wpList_plain rfl fun K' hK' => ld_env (E := ⟨c, gc, b, ba, bn, bc, bs, xp, 3, [x]⟩) _ rfl rfl EA.out.lies (hK' _ _ ?_))
              | fail)
            refine (ST.out _ _ HA.out).mono ?_
            rintro r wb ⟨z, Rb, rfl, zc, zP, nw, hb, ob, -⟩
            have ZC : Hid (z.code = code) := Lib.hid zc
            have zP' : z.P = [] := zP
            have RD := Out.Rd.own nw.1
            rw [zP'] at RD
            have kb := below1 wb (Obj.cells (Td.cl ⟨true, true, false, false, z⟩).toArray 45)
            have RDc := Lib.hid (RD.next kb)
            have TC := Lib.hid (Bo.new hb.fam (Lies.new wb 45 (Td.cl ⟨true, true, false, false, z⟩)) (Nat.le_refl _))
            have HC := Lib.hid (hb.next kb)
            have EC := Lib.hid ((EA.out.on ob).next kb)
            have UC := Lib.hid ((UA.out.on ob).next kb)
            clear kb hb ob zc zP zP' nw RD HA EA UA ST
            dsimp only
            go_upto_region 50 with fail
            generalize wb.heap.size = gb at TC ⊢
            generalize hwc : wb.alloc (Obj.cells #[.bool true, .bool true, .bool false, .bool false, .int .i64 z.code, .slice z.a z.n z.c] 45) = wd at *
            clear hwc
            have t0 := TC.out.lies.cell (i := 0) rfl
            have t1 := TC.out.lies.cell (i := 1) rfl
            have t2 := TC.out.lies.cell (i := 2) rfl
            have t3 := TC.out.lies.cell (i := 3) rfl
            have t4 := TC.out.lies.cell (i := 4) rfl
            have t5 := TC.out.lies.cell (i := 5) rfl
            have u0 := UC.out.lies.cell (i := 0) rfl
            have u1 := UC.out.lies.cell (i := 1) rfl
            have u2 := UC.out.lies.cell (i := 2) rfl
            have u3 := UC.out.lies.cell (i := 3) rfl
            have u4 := UC.out.lies.cell (i := 4) rfl
            have u5 := UC.out.lies.cell (i := 5) rfl
            go_wp2_with fail
            refine (Ca.same_ok z.code code z.pv (.slice none 0 0) [] [] wd RDc (Lib.hid (Out.Rd.own (Sl.Own.nil _ wd.heap.size _))) (by decide) (by decide)).mono ?_
            rintro r we ⟨rfl, ke⟩
            rw [show decide (z.code = code ∧ ([] : List Pn) = []) = true from by simp [ZC.out]]
            have HE := Lib.hid (HC.out.next ke)
            have EE := Lib.hid (EC.out.next ke)
            clear ke HC EC TC UC RDc t0 t1 t2 t3 t4 t5 u0 u1 u2 u3 u4 u5 ZC
            dsimp only
            obtain ⟨cv2, rv2, qc, -⟩ := HE.out.client
            have QC := Lib.hid qc
            clear qc
            go_wp2_with fail
            refine (over_ok QC).mono ?_
            rintro r wf ⟨rfl, kf⟩
            have HF := Lib.hid (HE.out.next kf)
            have EF := Lib.hid (EE.out.next kf)
            clear kf HE EE QC
            dsimp only
            obtain ⟨rs0, st2⟩ := D2.out (by first | rfl | trivial)
            have RS := Lib.hid rs0
            have ST2 := Lib.hid st2
            clear rs0 st2
            rw [show decide ([x].length ≤ s2.rs.length) = false from by simp [RS.out]]
            go_wp2_with (first
              | (refine wpList_plain rfl fun K' hK' => ld_env (E := ⟨c, gc, b, ba, bn, bc, bs, xp, 3, [x]⟩) _ rfl rfl EF.out.lies (hK' _ _ ?_))
              | fail)
            refine (ST2.out _ _ HF.out).mono ?_
            rintro r wg ⟨z2, Rg, rfl, -, -, -, hg2, og, -⟩
            have kg := below1 wg (Obj.cells (Td.cl ⟨false, false, false, false, z2⟩).toArray 45)
            have TG := Lib.hid (Bo.new hg2.fam (Lies.new wg 45 (Td.cl ⟨false, false, false, false, z2⟩)) (Nat.le_refl _))
            have HG2 := Lib.hid (hg2.next kg)
            clear kg hg2 og HF EF ST2
            dsimp only
            go_upto_region 55 with fail
            generalize wg.heap.size = gg at TG ⊢
            generalize hwh : wg.alloc (Obj.cells #[.bool false, .bool false, .bool false, .bool false, .int .i64 z2.code, .slice z2.a z2.n z2.c] 45) = wh at *
            clear hwh
            have t0 := TG.out.lies.cell (i := 0) rfl
            have t1 := TG.out.lies.cell (i := 1) rfl
            have t2 := TG.out.lies.cell (i := 2) rfl
            have t3 := TG.out.lies.cell (i := 3) rfl
            go_wp2_with fail
            refine (replies_ok HG2 (by rw [RS.out]; decide) (Lib.hid (by rw [RS.out]; simp))).mono ?_
            rintro r wi ⟨A, cp, zs, rfl, rp⟩
            rw [RS.out]
            have BI : Hid (Below w.heap.size w wi) := Lib.hid (after (K2.out.trans (HG2.out.fam.below.mono K2.out.size)) rp.below)
            clear rp t0 t1 t2 t3
            dsimp only
            go_wp2
            go_ret
            exact ⟨rfl, BI.out⟩
          case true =>
            have p2 := U9.out.lies.open_ 2
            have p3 := U9.out.lies.open_ 3
            have q2 := U9.out.lies.cell (i := 2) rfl
            have q3 := U9.out.lies.cell (i := 3) rfl
            go_upto_region 49 with fail
            clear p2 p3 q2 q3
            have z1 := (U9.out.lies.put 2 (.bool true)).put 3 (.bool true)
            have z2 := grown_trans (grown_set wc (gq + 1) 2 (.bool true)) (grown_set (wc.setCell ⟨gq + 1, 2, none⟩ (.bool true)) (gq + 1) 3 (.bool true))
            obtain ⟨ha, ea, ua⟩ := set_flag H9 E9 U9 LO NE SG.out z1 z2
            have HA := Lib.hid ha
            have EA := Lib.hid ea
            have UA : Hid (Bo R _ (gq + 1) 45 (Td.cl ⟨true, true, true, true, rc code⟩)) := Lib.hid ua
            clear ha ea ua z1 z2 H9 E9 U9 LO NE SG
            generalize hwa : (wc.setCell ⟨gq + 1, 2, none⟩ (.bool true)).setCell ⟨gq + 1, 3, none⟩ (.bool true) = wa at HA EA UA ⊢
            clear hwa
            obtain ⟨s2, st, d1, d2⟩ := D9.out
            have ST := Lib.hid st
            have D1 := Lib.hid d1
            have D2 := Lib.hid d2
            clear st d1 d2 D9
            go_wp2_with (first
              | (refine wpList_plain rfl fun K' hK' => ld_env (E := ⟨c, gc, b, ba, bn, bc, bs, xp, 3, [x]⟩) _ rfl rfl EA.out.lies (hK' _ _ ?_))
              | fail)
            refine (ST.out _ _ HA.out).mono ?_
            rintro r wb ⟨z, Rb, rfl, zc, zP, nw, hb, ob, -⟩
            have ZC : Hid (z.code = code) := Lib.hid zc
            have zP' : z.P = [] := zP
            have RD := Out.Rd.own nw.1
            rw [zP'] at RD
            have kb := below1 wb (Obj.cells (Td.cl ⟨true, true, true, true, z⟩).toArray 45)
            have RDc := Lib.hid (RD.next kb)
            have TC := Lib.hid (Bo.new hb.fam (Lies.new wb 45 (Td.cl ⟨true, true, true, true, z⟩)) (Nat.le_refl _))
            have HC := Lib.hid (hb.next kb)
            have EC := Lib.hid ((EA.out.on ob).next kb)
            have UC := Lib.hid ((UA.out.on ob).next kb)
            clear kb hb ob zc zP zP' nw RD HA EA UA ST
            dsimp only
            go_upto_region 50 with fail
            generalize wb.heap.size = gb at TC ⊢
            generalize hwc : wb.alloc (Obj.cells #[.bool true, .bool true, .bool true, .bool true, .int .i64 z.code, .slice z.a z.n z.c] 45) = wd at *
            clear hwc
            have t0 := TC.out.lies.cell (i := 0) rfl
            have t1 := TC.out.lies.cell (i := 1) rfl
            have t2 := TC.out.lies.cell (i := 2) rfl
            have t3 := TC.out.lies.cell (i := 3) rfl
            have t4 := TC.out.lies.cell (i := 4) rfl
            have t5 := TC.out.lies.cell (i := 5) rfl
            have u0 := UC.out.lies.cell (i := 0) rfl
            have u1 := UC.out.lies.cell (i := 1) rfl
            have u2 := UC.out.lies.cell (i := 2) rfl
            have u3 := UC.out.lies.cell (i := 3) rfl
            have u4 := UC.out.lies.cell (i := 4) rfl
            have u5 := UC.out.lies.cell (i := 5) rfl
            go_wp2_with fail
            refine (Ca.same_ok z.code code z.pv (.slice none 0 0) [] [] wd RDc (Lib.hid (Out.Rd.own (Sl.Own.nil _ wd.heap.size _))) (by decide) (by decide)).mono ?_
            rintro r we ⟨rfl, ke⟩
            rw [show decide (z.code = code ∧ ([] : List Pn) = []) = true from by simp [ZC.out]]
            have HE := Lib.hid (HC.out.next ke)
            have EE := Lib.hid (EC.out.next ke)
            clear ke HC EC TC UC RDc t0 t1 t2 t3 t4 t5 u0 u1 u2 u3 u4 u5 ZC
            dsimp only
            obtain ⟨cv2, rv2, qc, -⟩ := HE.out.client
            have QC := Lib.hid qc
            clear qc
            go_wp2_with fail
            refine (over_ok QC).mono ?_
            rintro r wf ⟨rfl, kf⟩
            have HF := Lib.hid (HE.out.next kf)
            have EF := Lib.hid (EE.out.next kf)
            clear kf HE EE QC
            dsimp only
            obtain ⟨rl, rp⟩ := D1.out (by first | rfl | trivial)
            have RL := Lib.hid rl
            have RP := Lib.hid rp
            clear rl rp
            rw [show decide ([x].length ≤ s2.rs.length) = true from by simp [RL.out]]
            go_wp2_with fail
            refine (replies_ok HF (by rw [RL.out]; decide) RP).mono ?_
            rintro r wg ⟨A, cp, zs, rfl, rp⟩
            rw [RL.out]
            have BG : Hid (Below w.heap.size w wg) := Lib.hid (after (K2.out.trans (HF.out.fam.below.mono K2.out.size)) rp.below)
            clear rp
            dsimp only
            go_wp2
            go_ret
            exact ⟨rfl, BG.out⟩
  · go_wp2_with (first
      | (refine wpList_plain rfl fun K' hK' => Wh.wp_load Try.isAgg23 Try.sizeOf23 _ rfl rfl C1.out (Nat.le_refl _) (Sh.fcl c) rfl (hK' _ _ ?_))
      | (refine wpList_plain rfl fun K' hK' => ld_call (y := x) _ rfl rfl X1.out (hK' _ _ ?_))
      | fail)
    refine (Ca.rmay_ok c x w1 false (Lib.hid (by simp [M])) FC.out FX.out).mono ?_
    rintro r w2 ⟨rfl, k2⟩
    have K2 := Lib.hid (after K1.out k2)
    clear k2
    dsimp only
    go_wp2
    go_ret
    exact ⟨rfl, K2.out⟩
theorem own : ownKnob Try.prog.godebug = none := by kernel_rfl

set_option maxRecDepth 100000 in
theorem lifted (os : Os) (started : os.Started) (H : Type) (enc : TypeId × Value → H) :
    ReturnsInHanded {} Try.checked os 3 .any (Rows.clientWaitsSpec.pre6 enc Try.prog Try.f3 Rows.clientWaitsRow.domain false) (Rows.clientWaitsSpec.post enc Try.prog Try.f3 false true false false) := by
  refine returnsInHanded_of_change (C := Try.checked) own started (by kernel_rfl) Try.func3
    (ChangeSpec.witness6 (enc := enc) (C := Try.checked) false ⟨#[], #[.agg #[.int .i64 0, .int .i64 0, .int .i64 0, .int .i64 0, .int .i64 0, .int .i64 0, .int .i64 0, .int .i64 0], .agg #[.int .i64 0, .string ⟨#[]⟩, .int .i64 0, .int .i64 0, .int .i64 0, .int .i64 0, .int .i64 0], .int .i64 0], []⟩ 8 (by kernel_rfl) (by kernel_rfl) (by kernel_rfl) (by kernel_rfl)) ?_
  intro W base args ds gs before hval0 hW hcnd _
  have hval : ∀ (j : Nat) t v, Try.f3.params[j]? = some t → args[j]? = some v → Value.okWide Try.prog W .any base t v := hval0
  have hW' := hW
  obtain ⟨p, q, hA0, hV, rfl, hfz, hnd⟩ := hW
  have hA : DataW.TrodAll enc Try.prog W 0 (fun _ => true) true Try.f3.params.toList args.toList ds p := hA0
  rw [Try.params3] at hA hval
  obtain ⟨v0, vs0, d0, ds0, p0, q0, hargs, rfl, rfl, h0, r0⟩ := trodAll_cons hA
  obtain ⟨v1, vs1, d1, ds1, p1, q1, rfl, rfl, rfl, h1, r1⟩ := trodAll_cons r0
  obtain ⟨v2, vs2, d2, ds2, p2, q2, rfl, rfl, rfl, h2, r2⟩ := trodAll_cons r1
  obtain ⟨rfl, rfl, rfl⟩ := trodAll_nil r2
  obtain rfl : args = #[v0, v1, v2] := by cases args; simp_all
  obtain ⟨rfl, rfl⟩ := trodVars_none hV
  obtain ⟨a0, rfl, w0⟩ := Opens.open_config (hval 0 23 v0 rfl rfl) h0
  obtain ⟨a1, rfl, w1⟩ := Opens.open_call (hval 1 25 v1 rfl rfl) h1
  obtain ⟨a2, rfl, rfl, rfl, w2⟩ := open_int Try.underlying3 (hval 2 3 v2 rfl rfl) h2
  clear hA0 hval0
  refine (walk a0 w0 a1 w1 a2 w2 W).mono fun e W' ⟨he, hg⟩ => ?_
  subst he
  exact ⟨_, rfl, Laid.post Laid.laidOut (by kernel_rfl) rfl (by kernel_rfl) Try.underlying4 hW' ⟨rfl, rfl, rfl⟩ hg⟩

theorem over : Rows.clientWaitsRow.holds Try.pinned (OpenSpec.ofChange Rows.clientWaitsSpec) :=
  OpenClaim.holds_of_wide 3 Try.f3 rfl rfl rfl rfl rfl rfl rfl ⟨rfl, rfl, rfl, rfl, rfl⟩ rfl rfl rfl rfl rfl (by kernel_rfl) Try.func3 (by kernel_rfl)
    (of_decide_eq_true (by kernel_rfl)) (by unfold Func.isWrapper; first | (rw [if_pos (by decide +kernel)]; kernel_rfl) | (rw [if_neg (by decide +kernel)]; exact ⟨rfl, rfl⟩))
    (fun os started H enc _ => lifted os started H enc)

/-- ████ THE STATEMENT ████ -/
theorem proved : Rows.ClientWaitsSaid :=
  over
#print axioms proved
end clientWaits
end Go.Proofs.Ytjogolfipboocaa
