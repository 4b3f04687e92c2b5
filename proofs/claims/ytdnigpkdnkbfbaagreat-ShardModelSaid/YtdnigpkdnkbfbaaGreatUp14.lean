/-
  The head of the statements of layer 14 (the document's example) answers true; a message that is made, as a law at the operation.
-/
import Derived.Test.YtdnigpkdnkbfbaaGreatShStep
import Derived.Test.YtdnigpkdnkbfbaaGreatShNew
import Derived.Test.YtdnigpkdnkbfbaaGreatErrs
import Derived.Test.YtdnigpkdnkbfbaaGreatOpens
namespace Go.Proofs.YtdnigpkdnkbfbaaGreat
open Go.ChangeShapes Go.WideShapes Go.ChangeAt Go.RowKit
set_option maxRecDepth 100000
set_option linter.unusedVariables false
namespace Sh
open Small Foot Pane Grp Ca Md

/-- a call that says nothing -/
abbrev c00 : Cl := ⟨0, ⟨#[]⟩, 0, 0, 0, 0, 0⟩
section
variable {w : World} {o : Oper} {a : Act} {K : Act → World → Prop} {Q : Exit → Act → World → Prop}
theorem bm1 (w : World) (k : Int) : (Instr.build 45 #[(0, .int .i64 k)]).run Tryz.prog w = .ok (Ms.val ⟨k, 0, c00, 0, none⟩) w := by kernel_rfl
theorem bm2 (w : World) (k : Int) (y : Cl) : (Instr.build 45 #[(0, .int .i64 k), (2, y.val)]).run Tryz.prog w = .ok (Ms.val ⟨k, 0, y, 0, none⟩) w := by kernel_rfl
theorem bm3 (w : World) (k g : Int) : (Instr.build 45 #[(0, .int .i64 k), (3, .int .i64 g)]).run Tryz.prog w = .ok (Ms.val ⟨k, 0, c00, g, none⟩) w := by kernel_rfl
theorem bm4 (w : World) (k g : Int) (s : Option Nat) : (Instr.build 45 #[(0, .int .i64 k), (3, .int .i64 g), (4, Ms.stv s)]).run Tryz.prog w = .ok (Ms.val ⟨k, 0, c00, g, s⟩) w := by kernel_rfl
theorem wp_bm1 {k : Int} (ho : o.op = .build 45 #[(0, .const (.int .i64 k))]) (hK : K (a.put o.dst (Ms.val ⟨k, 0, c00, 0, none⟩)) w) : o.wp Tryz.prog a w K Q := by
  unfold Oper.wp execOp
  simp only [ho, List.map_toArray, List.map_cons, List.map_nil, show a.eval (.const (.int .i64 k)) = .int .i64 k from rfl, Sem.run_bind, Sem.run_pure, Result.andThen_ok, bm1]
  exact hK
theorem wp_bm2 {k : Int} (x : Operand) (y : Cl) (ho : o.op = .build 45 #[(0, .const (.int .i64 k)), (2, x)]) (hx : a.eval x = y.val) (hK : K (a.put o.dst (Ms.val ⟨k, 0, y, 0, none⟩)) w) : o.wp Tryz.prog a w K Q := by
  unfold Oper.wp execOp
  simp only [ho, List.map_toArray, List.map_cons, List.map_nil, show a.eval (.const (.int .i64 k)) = .int .i64 k from rfl, hx, Sem.run_bind, Sem.run_pure, Result.andThen_ok, bm2]
  exact hK
theorem wp_bm3 {k : Int} (x : Operand) (g : Int) (ho : o.op = .build 45 #[(0, .const (.int .i64 k)), (3, x)]) (hx : a.eval x = .int .i64 g) (hK : K (a.put o.dst (Ms.val ⟨k, 0, c00, g, none⟩)) w) : o.wp Tryz.prog a w K Q := by
  unfold Oper.wp execOp
  simp only [ho, List.map_toArray, List.map_cons, List.map_nil, show a.eval (.const (.int .i64 k)) = .int .i64 k from rfl, hx, Sem.run_bind, Sem.run_pure, Result.andThen_ok, bm3]
  exact hK
theorem wp_bm4 {k : Int} (x z : Operand) (g : Int) (s : Option Nat) (ho : o.op = .build 45 #[(0, .const (.int .i64 k)), (3, x), (4, z)]) (hx : a.eval x = .int .i64 g) (hz : a.eval z = Ms.stv s) (hK : K (a.put o.dst (Ms.val ⟨k, 0, c00, g, s⟩)) w) : o.wp Tryz.prog a w K Q := by
  unfold Oper.wp execOp
  simp only [ho, List.map_toArray, List.map_cons, List.map_nil, show a.eval (.const (.int .i64 k)) = .int .i64 k from rfl, hx, hz, Sem.run_bind, Sem.run_pure, Result.andThen_ok, bm4]
  exact hK
end
theorem one_zd : ∀ v ∈ zd, v.oneCell' = true := by
  intro v hv
  simp only [List.mem_cons, List.not_mem_nil, or_false] at hv
  rcases hv with rfl | rfl | rfl | rfl | rfl | rfl | rfl | rfl | rfl | rfl | rfl | rfl | rfl | rfl | rfl | rfl <;> rfl

/-! ### the document's example -/
abbrev ka : ByteArray := ⟨#[97]⟩
abbrev cf4 : C8 := ⟨0, 10, 0, 0, 0, 1, 1, 4⟩
abbrev yq : Cl := ⟨5, ka, 0, 0, 0, 0, 0⟩
theorem may_four : Asg.may cf4.k cf4.s cf4.l cf4.g cf4.z cf4.h cf4.r cf4.c := by simp [Asg.may, Asg.mayW]
theorem may_zero : ¬ Asg.may 0 0 0 0 0 0 0 0 := by simp [Asg.may]
theorem cf4_fit : (Md.cfOf cf4).Fit := by unfold Cf.Fit; decide
theorem yq_may : mayC (Md.cfOf cf4) yq := ⟨may_four, by show (1 : Int) ≤ 5 ∧ (5 : Int) ≤ 7; decide, fun _ => by show 1 ≤ ka.size ∧ ka.size ≤ 20; decide, fun h => absurd (show (5 : Int) = 4 from h) (by decide), fun h => absurd (show (5 : Int) = 6 from h) (by decide)⟩
theorem yq_fit : yq.Fit := ⟨by decide, by decide, by decide, by decide, by decide, by decide, by decide⟩
/-- a message is put into a worker's mailbox -/
theorem Q.put {w w' : World} {wk m bx : Nat} {bv bv' : Value} {cf : C8} {p : Int → Option Nat} {L L' : List Ms.M} (h : Q w wk m bx bv cf p L) (o : Ms.Box w' bx cf.c false bv' L') (k : Moves (Bx.Fp bx bv) (Bx.Fp bx bv') w w') : Is w' wk (WF wk m bx bv') cf p L' ∧ Moves (WF wk m bx bv) (WF wk m bx bv') w w' :=
  ⟨⟨m, bx, bv', (h.boxed o k).1, fun _ => Iff.rfl⟩, (h.boxed o k).2⟩

set_option maxHeartbeats 8000000 in
theorem up_ok (w : World) : Calls Tryz.prog 6 #[] w fun e w' => e = .returned (.bool true) ∧ Below w.heap.size w w' := by
  go_enter Tryz.func6, Tryz.ntmps6
  go_wp2_with fail
  refine (new_ok cf4 [] (.slice none 0 0) 0 _ (Lib.hid (Sl.Is.nil _ _ _)) (by decide) (Lib.hid may_four) (by decide)).mono ?_
  rintro r w1 ⟨wk, F, p, FF, rfl, h1, P1, -, f1, -, k1, hp⟩
  have H1 := Lib.hid h1
  have F1 := Lib.hid f1
  have K1 := Lib.hid (after (below1 w _) k1)
  have HP : Hid (∀ x, p x = none) := Lib.hid fun x => Classical.byContradiction fun h => by have := ((hp x).1 h).2.2; cases this
  clear P1 k1 hp h1 f1
  go_wp2_with fail
  refine (new_no ⟨0, 0, 0, 0, 0, 0, 0, 0⟩ (.slice none 0 0) w1 (Lib.hid may_zero) (by decide)).mono ?_
  rintro r w2 ⟨rfl, k2⟩
  have H2 := Lib.hid (H1.out.next k2)
  have K2 := Lib.hid (after K1.out k2)
  have S2 := Lib.hid (Nat.le_trans K1.out.size k2.size)
  clear k2
  go_wp2_with fail
  refine (box_ok w2 H2).mono ?_
  rintro r _ ⟨rfl, m, bx, bv, rfl, q2, rfl⟩
  go_wp2_with fail
  refine (box_ok w2 H2).mono ?_
  rintro r _ ⟨rfl, m', bx', bv', rfl, q2', hF⟩
  have Q2 := Lib.hid q2'
  have HF := Lib.hid hF
  clear q2' hF q2
  go_wp2_with (first
    | (refine wpList_plain rfl fun K' hK' => wp_bm2 _ yq rfl rfl (hK' _ _ ?_))
    | fail)
  refine (Ms.put_ok bx' 4 bv' [] ⟨1, 0, yq, 0, none⟩ w2 (Lib.hid Q2.out.box) (by decide) (by decide)).mono ?_
  rintro r w3 ⟨bv3, rfl, b3, v3⟩
  obtain ⟨h3, m3⟩ := Q2.out.put b3 v3
  have H3 := Lib.hid h3
  have B0 : Hid (From w.heap.size (WF wk m' bx' bv')) := Lib.hid (HF.out ▸ fun i hi => Nat.le_trans (below1 w _).size (F1.out i hi))
  have K3 := Lib.hid (K2.out.trans (m3.below B0.out S2.out))
  have F3 := Lib.hid (m3.from B0.out S2.out)
  have wg : Wf (grpOf cf4.r yq) := by
    have := Fnv.grp_in (Fnv.num ka.data.toList) 1
    exact wf_of (by show -9223372036854775808 ≤ Fnv.grp (Fnv.num ka.data.toList) 1; omega) (by show Fnv.grp (Fnv.num ka.data.toList) 1 ≤ _; have := this.2 (by decide); omega)
  clear b3 v3 h3 m3 H1 H2 F1 K2 HF B0 Q2
  go_wp2_with fail
  refine (step_moved 0 yq 0 none 0 false w3 H3 (by decide) (Lib.hid cf4_fit) (Lib.hid yq_fit) (Lib.hid (by decide)) (Lib.hid yq_may) wg (Lib.hid (HP.out _))).mono ?_
  rintro r w4 ⟨rfl, F4, h4, m4⟩
  have s3 := K3.out.size
  have H4 := Lib.hid h4
  have K4 := Lib.hid (K3.out.trans (m4.below F3.out s3))
  have F4 := Lib.hid (m4.from F3.out s3)
  clear h4 m4 H3 F3 s3 K3
  go_upto_region 6 with (first
    | (refine wpList_plain rfl fun K' hK' => wp_store_did (cs' := dcl ⟨1, 0, yq, 0, none⟩ true 0 (.slice none 0 0) (.slice none 0 0) none) _ _ rfl rfl rfl (Lies.new _ _ zd) rfl rfl (one_did _ _ _ _ _ _ _ _ _ _ _ _ _ _) (fun w5 z1 z2 => hK' _ _ ?_))
    | fail)
  have k5 := Ms.below_over (below1 w4 _) z2 (Nat.le_refl _)
  have D5 := Lib.hid z1
  have H5 := Lib.hid (H4.out.next k5)
  have K5 := Lib.hid (after K4.out k5)
  have F5 := F4
  clear z1 z2 k5 H4 K4
  generalize w4.heap.size = g7 at D5 ⊢
  go_wp2_with fail
  refine (step_none 0 false w5 H5).mono ?_
  rintro r w6 ⟨rfl, k6⟩
  have D6 := Lib.hid (D5.out.next k6)
  have H6 := Lib.hid (H5.out.next k6)
  have K6 := Lib.hid (after K5.out k6)
  clear k6 D5 H5 K5
  go_upto_region 9 with (first
    | (refine wpList_plain rfl fun K' hK' => wp_store_did (cs' := zd) _ _ rfl rfl rfl (Lies.new _ _ zd) rfl rfl one_zd (fun w7 z1 z2 => hK' _ _ ?_))
    | fail)
  have k7 := Ms.below_over (below1 w6 _) z2 (Nat.le_refl _)
  have D7 := Lib.hid (D6.out.next k7)
  have H7 := Lib.hid (H6.out.next k7)
  have K7 := Lib.hid (after K6.out k7)
  clear z1 z2 k7 D6 H6 K6
  generalize w6.heap.size = g9
  have d11 := D7.out.cell (i := 11) rfl
  have qe := Errs.eql_code w7 2 2
  go_wp2_with fail
  refine (groups_ok w7 H7).mono ?_
  rintro r w8 ⟨v, ks, rfl, hks, o8, k8⟩
  have e0 : ks = [] := List.eq_nil_iff_forall_not_mem.2 fun x hx => (hks.mem x).1 hx (HP.out x)
  subst e0
  obtain ⟨b8, -, i8⟩ := o8.is
  obtain ⟨A8, c8, rfl⟩ := i8.len
  have K8 := Lib.hid (after K7.out k8)
  clear hks o8 i8 k8 d11 qe
  go_wp2
  go_ret
  exact ⟨rfl, K8.out⟩
end Sh
end Go.Proofs.YtdnigpkdnkbfbaaGreat
