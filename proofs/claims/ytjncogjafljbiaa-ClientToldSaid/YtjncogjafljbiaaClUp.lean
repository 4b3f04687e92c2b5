/-
  The head of the statements of layer 17 (the document's example, and a call that may not be) answers true.
-/
import Derived.Test.YtjncogjafljbiaaClBeg
import Derived.Test.YtjncogjafljbiaaClNew
import Derived.Test.YtjncogjafljbiaaClStep
namespace Go.Proofs.Ytjncogjafljbiaa
open Go.ChangeShapes Go.WideShapes Go.ChangeAt Go.RowKit
set_option linter.unusedVariables false
set_option maxRecDepth 100000
namespace Cn
open Small Foot Fm Ca
/-- what may change, at first -/
abbrev st0 (cf : Cf) : St := ⟨M0 cf, -9223372036854775808, 0, false, false, fun _ => [], fun _ => false, [], g0, 0, 0, 0, false, none⟩
theorem BF.next {w0 w w' : World} {cf : Cf} {gc b : Nat} {wv bv : Value} {ws bs : List Nat} {R : Nat → Nat → Prop} (h : BF w0 cf gc b wv bv ws bs R w) (k : Below w.heap.size w w') : BF w0 cf gc b wv bv ws bs R w' :=
  ⟨h.fam.next k, fun i g e => ⟨(h.box i g e).1.next k, (h.box i g e).2⟩, h.same, h.few, h.table.next k, h.r16, Lies.next h.ctl k, h.r17, h.r18, h.r19, h.wl.next k, h.r20, h.bl.next k, h.r21⟩
theorem BF.client {w0 w w' : World} {cf : Cf} {gc b x bn bc : Nat} {ba : Option Addr} {num : Int} {wv cv : Value} {ws bs : List Nat} {cs : List Cl} {R : Nat → Nat → Prop} (h : BF w0 cf gc b wv (.slice ba bn bc) ws bs R w) (q : Q w' x num cv cs (.slice none 0 0) [] g0) (f : From w.heap.size (CF x cv (.slice none 0 0))) (k : Below w.heap.size w w') :
    ∃ R', CM w0 ⟨cf, gc, b, ba, bn, bc, bs, x, num, cs⟩ (st0 cf) R' w' ∧ On (fun j => j = 18) R w R' w' := by
  have V : Moves (R 18) (CF x cv (.slice none 0 0)) w w' := made_moves h.r18 k f q.in
  have ff := h.fam.one V
  have K := one_kp h.fam V
  refine ⟨_, ⟨ff, h.few, fun i g e => ?_, ⟨((K 16 (by decide)).2 _ (by rw [h.r16]; exact .inr rfl)).trans h.table.lies, ((K 16 (by decide)).2 _ (by rw [h.r16]; exact .inl rfl)).trans h.table.rows⟩, (K 16 (by decide)).1.trans h.r16, ((K 17 (by decide)).2 _ (by rw [h.r17])).trans h.ctl, (K 17 (by decide)).1.trans h.r17, ⟨cv, _, q, rset_same _ _ _⟩, (fun r hr => by cases hr), VB.nil, (fun hh e => by cases e), h.bl.move fun a ha => (K 21 (by decide)).2 a (by rw [h.r21]; exact ha), (K 21 (by decide)).1.trans h.r21⟩, On.one h.fam V rfl⟩
  obtain ⟨bb, rr⟩ := h.box i g e
  have hi := (List.getElem?_eq_some_iff.1 e).1
  have hf : bs.length ≤ 8 := h.few
  have kk := K i (by have : i < bs.length := hi; omega)
  exact ⟨_, ⟨(kk.2 g (by rw [rr]; exact .inl rfl)).trans bb.lies, Sl.Own.nil _ _ _⟩, kk.1.trans rr⟩
section
variable {w0 w w' : World} {E : Ev} {s s' : St} {R R' : Nat → Nat → Prop}
theorem bput_ok {i g : Nat} (H : Hid (CM w0 E s R w)) (e : E.bs[i]? = some g) (m : Ms.M) (hs : s.sb i = false) (hL : (s.L i).length < E.cf.c) (hc : E.cf.c ≤ 16) :
    Calls Try.prog 11 #[gp g, Ms.val m] w fun r w' => r = .returned .nilIface ∧ ∃ R', CM w0 E (s.msg i m) R' w' ∧ On TT R w R' w' := by
  obtain ⟨bv, hb, hr⟩ := H.out.box i g e
  rw [hs] at hb
  refine (Ms.put_ok g E.cf.c bv (s.L i) m w (Lib.hid hb) (by omega) hc).mono ?_
  rintro r w2 ⟨v', rfl, b2, m2⟩
  obtain ⟨R', c2, o2, -⟩ := H.out.onBox e hr b2 m2
  refine ⟨rfl, R', ?_, o2⟩
  have : (fun j => if j = i then false else s.sb j) = s.sb := funext fun j => by
    by_cases hj : j = i
    · subst hj; simp [hs]
    · simp [hj]
  rw [this] at c2
  exact c2
end
abbrev c00 : Cl := ⟨0, ⟨#[]⟩, 0, 0, 0, 0, 0⟩
theorem bm1 (w : World) (k : Int) : (Instr.build 52 #[(0, .int .i64 k)]).run Try.prog w = .ok (Ms.val ⟨k, 0, c00, 0, none⟩) w := by kernel_rfl
theorem wp_bm1 {o : Oper} {a : Act} {w : World} {K : Act → World → Prop} {Qq : Exit → Act → World → Prop} {k : Int} (ho : o.op = .build 52 #[(0, .const (.int .i64 k))]) (hK : K (a.put o.dst (Ms.val ⟨k, 0, c00, 0, none⟩)) w) : o.wp Try.prog a w K Qq := by
  unfold Oper.wp execOp
  simp only [ho, List.map_toArray, List.map_cons, List.map_nil, show a.eval (.const (.int .i64 k)) = .int .i64 k from rfl, Sem.run_bind, Sem.run_pure, Result.andThen_ok, bm1]
  exact hK
theorem two_calls {w : World} {b : Nat} {x y : Cl} (h : Lies w b 25 (x.cl ++ y.cl)) : Sl.Is Ck w (.slice (some ⟨b, 0, none⟩) 2 2) [x, y] b :=
  .inr ⟨0, 2, rfl, by simp, by unfold maxLen; omega, h.lt, fun j u hj => by rw [Nat.zero_add]; exact h.cell (by simpa [Sl.flat] using hj)⟩
abbrev cf1 : Cf := ⟨0, 10, 0, 0, 0, 1, 1, 1⟩
abbrev ya : Cl := ⟨2, ⟨#[97]⟩, 0, 0, 0, 0, 0⟩
theorem cf1_may : cf1.may := ⟨.inl ⟨rfl, by decide⟩, by decide⟩
theorem cf1_fit : cf1.Fit := by unfold Cf.Fit; decide
theorem ya_fit : ya.Fit := ⟨by decide, by decide, by decide, by decide, by decide, by decide, by decide⟩
theorem c00_fit : c00.Fit := ⟨by decide, by decide, by decide, by decide, by decide, by decide, by decide⟩
theorem ya_may : mayC cf1 ya := ⟨cf1_may, by decide, fun _ => ⟨by decide, by decide⟩, fun h => absurd h (by decide), fun h => absurd h (by decide)⟩
theorem c00_may : ¬ mayC cf1 c00 := fun h => absurd h.2.1.1 (by decide)
theorem ya_grp : grpOf cf1.r ya = ((0 : Nat) : Int) := by
  unfold grpOf
  rw [if_pos (by rfl)]
  have := Fnv.grp_in (Fnv.num ya.key.data.toList) 1
  have h2 := this.2 (by decide)
  have h1 := this.1
  show Fnv.grp (Fnv.num ya.key.data.toList) 1 = 0
  omega
theorem m0_at : (M0 cf1)[0]? = some ⟨0, 0, false⟩ := rfl
set_option maxHeartbeats 8000000 in
theorem up_ok (w : World) : Calls Try.prog 5 #[] w fun e w' => e = .returned (.bool true) ∧ Below w.heap.size w w' := by
  go_enter Try.func5, Try.ntmps5
  go_upto_region 2 with fail
  have k1 := below1 w (Obj.cells #[.int .i64 0, .int .i64 10, .int .i64 0, .int .i64 0, .int .i64 0, .int .i64 1, .int .i64 1, .int .i64 1] 23)
  have C1 := Lib.hid (Lies.new w 23 (Sh.fcl cf1))
  have K1 := Lib.hid k1
  clear k1
  generalize w.heap.size = gq at C1 ⊢
  generalize hw1 : w.alloc (Obj.cells #[.int .i64 0, .int .i64 10, .int .i64 0, .int .i64 0, .int .i64 0, .int .i64 1, .int .i64 1, .int .i64 1] 23) = w1 at C1 K1 ⊢
  clear hw1
  go_wp2_with (first
    | (refine wpList_plain rfl fun K' hK' => Wh.wp_load Try.isAgg23 Try.sizeOf23 _ rfl rfl C1.out (Nat.le_refl _) (Sh.fcl cf1) rfl (hK' _ _ ?_))
    | fail)
  refine (begun_ok cf1 w1 (Lib.hid cf1_may) (Lib.hid cf1_fit) (by decide)).mono ?_
  rintro r w2 ⟨gc, b, wv, ba, bn, bc, bs, ws, R, rfl, h2, hl⟩
  have hbs : ∃ g, bs = [g] := by
    match bs, hl with
    | [g], _ => exact ⟨g, rfl⟩
  obtain ⟨g, rfl⟩ := hbs
  have H2 := Lib.hid h2
  clear h2 hl
  dsimp only
  go_upto_region 3 with fail
  have k3 := below1 w2 (Obj.cells #[.int .i64 0, .int .i64 10, .int .i64 0, .int .i64 0, .int .i64 0, .int .i64 1, .int .i64 1, .int .i64 1, .pointer (some ⟨gc, 0, none⟩), .pointer (some ⟨b + 1, 0, none⟩), .slice ba bn bc] 32)
  have E3 := Lib.hid (Bo.new H2.out.fam (Lies.new w2 32 (ecl cf1 gc b (.slice ba bn bc))) (Nat.le_refl _))
  have HB3 : Hid (BF w1 cf1 gc b wv (.slice ba bn bc) ws [g] R (w2.alloc (Obj.cells #[.int .i64 0, .int .i64 10, .int .i64 0, .int .i64 0, .int .i64 0, .int .i64 1, .int .i64 1, .int .i64 1, .pointer (some ⟨gc, 0, none⟩), .pointer (some ⟨b + 1, 0, none⟩), .slice ba bn bc] 32))) := Lib.hid (H2.out.next k3)
  clear k3 H2
  generalize w2.heap.size = ge at E3 ⊢
  generalize hw3 : w2.alloc (Obj.cells #[.int .i64 0, .int .i64 10, .int .i64 0, .int .i64 0, .int .i64 0, .int .i64 1, .int .i64 1, .int .i64 1, .pointer (some ⟨gc, 0, none⟩), .pointer (some ⟨b + 1, 0, none⟩), .slice ba bn bc] 32) = w3 at E3 HB3 ⊢
  clear hw3
  have X4 := Lib.hid (two_calls (Lies.new w3 25 (ya.cl ++ c00.cl)))
  go_wp2_with fail
  refine (cnew_ok 0 _ [ya, c00] _ _ X4 (by decide)).mono ?_
  rintro r w5 ⟨x, cv, rfl, q5, f5, k5⟩
  have kk := after (below1 w3 (Obj.cells (ya.cl ++ c00.cl).toArray 25)) k5
  obtain ⟨R5, h5, K5⟩ := HB3.out.client q5 (fun i hi => Nat.le_trans (below1 w3 (Obj.cells (ya.cl ++ c00.cl).toArray 25)).size (f5 i hi)) kk
  have H5 := Lib.hid h5
  have E5 : Hid (Bo R5 w5 ge 32 (Ev.cl ⟨cf1, gc, b, ba, bn, bc, [g], x, 0, [ya, c00]⟩)) := Lib.hid (E3.out.on K5)
  have B1 : Hid (Below w.heap.size w w1) := K1
  clear q5 f5 k5 kk h5 K5 X4 E3 HB3
  dsimp only
  obtain ⟨bnl0, -, bl, off, hba0, hcell⟩ := H5.out.lst (i := 0) (g := g) rfl
  have c10 := E5.out.lies.cell (i := 10) rfl
  rw [show ba = some ⟨bl, off, none⟩ from hba0, show bn = 1 from bnl0] at c10
  have hcell : w5.cell? ⟨bl, off, none⟩ = some (gp g) := by simpa using hcell
  clear bnl0 hba0
  go_wp2_with (first
    | (refine wpList_plain rfl fun K' hK' => wp_bm1 rfl (hK' _ _ ?_))
    | fail)
  refine (bput_ok (i := 0) H5 rfl ⟨2, 0, c00, 0, none⟩ rfl (show ((0 : Nat) : Int) < 1 by decide) (show (1 : Int) ≤ 16 by decide)).mono ?_
  rintro r w6 ⟨rfl, R6, h6, o6⟩
  have H6 := Lib.hid h6
  have E6 := Lib.hid (E5.out.on o6)
  have LO5 : Hid (Below w.heap.size w w5) := Lib.hid (B1.out.trans ((H5.out.fam.below).mono B1.out.size))
  have B6 : Hid (Below w.heap.size w w6) := Lib.hid (B1.out.trans (h6.fam.below.mono B1.out.size))
  clear h6 o6 H5 E5 c10 hcell LO5
  dsimp only
  -- a TryIngest: the mailbox is full
  go_wp2_with (first
    | (refine wpList_plain rfl fun K' hK' => ld_env (E := ⟨cf1, gc, b, ba, bn, bc, [g], x, 0, [ya, c00]⟩) _ rfl rfl E6.out.lies (hK' _ _ ?_))
    | fail)
  refine (step_key_new (y := ya) H6 (Lib.hid rfl) (Lib.hid (.inl rfl)) (by decide) (Lib.hid cf1_fit) (Lib.hid ya_fit) (Lib.hid rfl) (Lib.hid rfl) (Lib.hid ya_may) (Lib.hid fun w1 R1 h1 => keyed_st (t := tb) (Lib.hid h1) (Lib.hid (.inl rfl)) (by decide) (show (1 : Int) ≤ 16 by decide) (Lib.hid cf1_fit) (Lib.hid ya_fit) (Lib.hid rfl) (.first rfl (.fullTry (i := 0) (j := 0) (g := g) (o := ⟨0, 0, false⟩) rfl ya_grp m0_at rfl rfl rfl rfl (show (1 : Int) ≤ ((1 : Nat) : Int) by decide) rfl)))).mono ?_
  rintro r w7 ⟨z1, R7, rfl, e1, -, -, h7, o7, -⟩
  have Q7 := Lib.hid e1
  have k7 := below1 w7 (Obj.cells (Td.cl ⟨true, true, true, true, z1⟩).toArray 45)
  have T7 := Lib.hid (Bo.new h7.fam (Lies.new w7 45 (Td.cl ⟨true, true, true, true, z1⟩)) (Nat.le_refl _))
  have H7 := Lib.hid (h7.next k7)
  have E7 := Lib.hid ((E6.out.on o7).next k7)
  clear k7 h7 o7 e1 H6 E6
  dsimp only
  go_upto_region 8 with fail
  generalize w7.heap.size = g7 at T7 ⊢
  generalize hw8 : w7.alloc (Obj.cells #[.bool true, .bool true, .bool true, .bool true, .int .i64 z1.code, .slice z1.a z1.n z1.c] 45) = w8 at *
  clear hw8
  -- a call that may not be
  go_wp2_with (first
    | (refine wpList_plain rfl fun K' hK' => ld_env (E := ⟨cf1, gc, b, ba, bn, bc, [g], x, 0, [ya, c00]⟩) _ rfl rfl E7.out.lies (hK' _ _ ?_))
    | fail)
  refine (step_bad (y := c00) H7 (Lib.hid rfl) (Lib.hid (.inl rfl)) (by decide) (Lib.hid cf1_fit) (Lib.hid c00_fit) (Lib.hid rfl) (Lib.hid c00_may)).mono ?_
  rintro r w9 ⟨z2, R9, rfl, e2, -, -, h9, o9, -⟩
  have Q9 := Lib.hid e2
  have k9 := below1 w9 (Obj.cells (Td.cl ⟨true, true, true, true, z2⟩).toArray 45)
  have U9 := Lib.hid (Bo.new h9.fam (Lies.new w9 45 (Td.cl ⟨true, true, true, true, z2⟩)) (Nat.le_refl _))
  have H9 := Lib.hid (h9.next k9)
  have E9 := Lib.hid ((E7.out.on o9).next k9)
  have T9 := Lib.hid ((T7.out.on o9).next k9)
  clear k9 h9 o9 e2 H7 E7 T7
  dsimp only
  go_upto_region 9 with fail
  generalize w9.heap.size = g9 at U9 ⊢
  generalize hwa : w9.alloc (Obj.cells #[.bool true, .bool true, .bool true, .bool true, .int .i64 z2.code, .slice z2.a z2.n z2.c] 45) = wa at *
  clear hwa
  -- nothing is left
  go_wp2_with (first
    | (refine wpList_plain rfl fun K' hK' => ld_env (E := ⟨cf1, gc, b, ba, bn, bc, [g], x, 0, [ya, c00]⟩) _ rfl rfl E9.out.lies (hK' _ _ ?_))
    | fail)
  refine (step_over H9 (Lib.hid (show 2 ≤ 2 by decide))).mono ?_
  rintro r wb ⟨z3, Rb, rfl, e3, -, -, hb, ob, -⟩
  have kb := below1 wb (Obj.cells (Td.cl ⟨false, false, false, false, z3⟩).toArray 45)
  have Vb := Lib.hid (Bo.new hb.fam (Lies.new wb 45 (Td.cl ⟨false, false, false, false, z3⟩)) (Nat.le_refl _))
  have Hb := Lib.hid (hb.next kb)
  have Ub := Lib.hid ((U9.out.on ob).next kb)
  have Tb := Lib.hid ((T9.out.on ob).next kb)
  clear kb hb ob e3 H9 E9 T9 U9
  dsimp only
  go_upto_region 10 with fail
  generalize wb.heap.size = gb at Vb ⊢
  generalize hwc : wb.alloc (Obj.cells #[.bool false, .bool false, .bool false, .bool false, .int .i64 z3.code, .slice z3.a z3.n z3.c] 45) = wc at *
  clear hwc
  have t1 := Tb.out.lies.cell (i := 1) rfl
  have t2 := Tb.out.lies.cell (i := 2) rfl
  have t3 := Tb.out.lies.cell (i := 3) rfl
  have t4 := Tb.out.lies.cell (i := 4) rfl
  have u3 := Ub.out.lies.cell (i := 3) rfl
  have u4 := Ub.out.lies.cell (i := 4) rfl
  have v0 := Vb.out.lies.cell (i := 0) rfl
  rw [Q7.out] at t4
  rw [Q9.out] at u4
  have Bc : Hid (Below w.heap.size w wc) := Lib.hid (B1.out.trans (Hb.out.fam.below.mono B1.out.size))
  obtain ⟨cv2, rv2, qc, -⟩ := Hb.out.client
  have QC := Lib.hid qc
  clear qc
  go_wp2_with fail
  refine (over_ok QC).mono ?_
  rintro r wd ⟨rfl, kd⟩
  have Hd' := Lib.hid (Hb.out.next kd)
  have Bd := Lib.hid (after Bc.out kd)
  clear kd t1 t2 t3 t4 u3 u4 v0
  dsimp only
  go_wp2_with fail
  refine (replies_ok Hd' (by decide) (Lib.hid (by decide))).mono ?_
  rintro r we ⟨A, c, zs, rfl, rp⟩
  have Be := Lib.hid (after Bd.out rp.below)
  clear rp
  dsimp only
  go_wp2
  go_ret
  exact ⟨rfl, Be.out⟩
end Cn
end Go.Proofs.Ytjncogjafljbiaa
