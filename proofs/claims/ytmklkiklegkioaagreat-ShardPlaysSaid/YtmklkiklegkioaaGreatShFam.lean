/-
  shard's Step: an Ask that tells nothing of a group, or is closed.
  Parts of the memory apart from one another; groups by numbers, of which some go on; Box of a worker whose mailbox is known; Pick, what it tells.
-/
import Derived.Test.YtmklkiklegkioaaGreatShStep
namespace Go.Proofs.YtmklkiklegkioaaGreat
open Go.ChangeShapes Go.WideShapes Go.ChangeAt Go.RowKit
set_option maxRecDepth 100000
set_option linter.unusedVariables false
namespace Sh
open Small Foot Pane Grp Ca Md

set_option maxHeartbeats 8000000 in
/-- an Ask of a call that isn't keyed -/
theorem step_nokey {wk : Nat} {F : Nat → Prop} {cf : C8} {p : Int → Option Nat} {L : List Ms.M} (fr : Int) (y : Cl) (gn : Int) (st : Option Nat) (mark : Int) (sh : Bool) (w : World) (H : Hid (Is w wk F cf p (⟨1, fr, y, gn, st⟩ :: L))) (hL : L.length ≤ 100) (hc : Hid (Md.cfOf cf).Fit) (hx : Hid y.Fit) (hk : Hid (kd y.op = false)) :
    Calls Tryz.prog 15 #[gp wk, .int .i64 mark, .bool sh] w fun r w' => r = .returned (.tuple #[dval ⟨1, fr, y, gn, st⟩ false 0 (.slice none 0 0) (.slice none 0 0) none, .bool true]) ∧ ∃ F', Is w' wk F' cf p L ∧ Moves F F' w w' := by
  obtain ⟨m, bx, bv, q, hF⟩ := H.out
  obtain rfl : F = WF wk m bx bv := funext fun k => propext (hF k)
  have hIn := Lib.hid q.in
  have lw := q.lies.lt
  have HQ := Lib.hid q
  clear q hF H
  have k0 := below1 w (Obj.cells #[.int .i64 0, .int .i64 0, .int .i64 0, .string ⟨#[]⟩, .int .i64 0, .int .i64 0, .int .i64 0, .int .i64 0, .int .i64 0, .int .i64 0, .pointer none, .bool false, .int .i64 0, .slice none 0 0, .slice none 0 0, .pointer none] 49)
  have Q0 := Lib.hid (HQ.out.keep fun i hi => k0.block i (HQ.out.in i hi))
  have R0 := Lib.hid (Lies.new w 49 zd)
  have K0 := Lib.hid k0
  have c9 := Q0.out.lies.cell (i := 9) rfl
  clear k0
  go_enter Tryz.func15, Tryz.ntmps15
  go_upto_region 1 with fail
  generalize hg0 : w.heap.size = g0 at R0 ⊢
  generalize w.alloc (Obj.cells #[.int .i64 0, .int .i64 0, .int .i64 0, .string ⟨#[]⟩, .int .i64 0, .int .i64 0, .int .i64 0, .int .i64 0, .int .i64 0, .int .i64 0, .pointer none, .bool false, .int .i64 0, .slice none 0 0, .slice none 0 0, .pointer none] 49) = W0 at Q0 R0 K0 c9 ⊢
  go_wp2_with fail
  refine (Ms.take_ok bx cf.c false bv ⟨1, fr, y, gn, st⟩ L W0 (Lib.hid Q0.out.box) (by have := hL; omega)).mono ?_
  rintro r w1 ⟨bv', rfl, b1, v1⟩
  obtain ⟨q1, mv1⟩ := Q0.out.boxed b1 v1
  have Q1 := Lib.hid q1
  have M1 := Lib.hid mv1
  have R1 := Lib.hid (mv1.lies (fun q => by have := hIn.out _ (show WF wk m bx bv g0 from q); omega) R0.out)
  have N1 : Hid (¬ WF wk m bx bv' g0) := Lib.hid fun q => by
    rcases (mv1.new _ q).1 with r | r
    · have := hIn.out _ r; omega
    · have := R0.out.lt; omega
  clear b1 v1 q1 mv1 c9
  go_upto_region 2 with fail
  have k2 := below1 w1 (Obj.cells #[.int .i64 1, .int .i64 fr, .int .i64 y.op, .string y.key, .int .i64 y.t, .int .i64 y.v, .int .i64 y.e, .int .i64 y.u, .int .i64 y.s, .int .i64 gn, Ms.stv st] 45)
  have X2 := Lib.hid (Lies.new w1 45 [.int .i64 1, .int .i64 fr, .int .i64 y.op, .string y.key, .int .i64 y.t, .int .i64 y.v, .int .i64 y.e, .int .i64 y.u, .int .i64 y.s, .int .i64 gn, Ms.stv st])
  have Q2 := Lib.hid (Q1.out.keep fun i hi => k2.block i (Q1.out.in i hi))
  have R2 := Lib.hid (R1.out.next k2)
  have M2 := Lib.hid (M1.out.trans (Moves.of_below k2 Q1.out.in))
  have n2 : Hid (g0 < w1.heap.size) := Lib.hid R1.out.lt
  have N2 : Hid (∀ i, WF wk m bx bv' i → i < w1.heap.size) := Lib.hid Q1.out.in
  clear k2
  generalize hg8 : w1.heap.size = g8 at X2 n2 N2 ⊢
  generalize w1.alloc (Obj.cells #[.int .i64 1, .int .i64 fr, .int .i64 y.op, .string y.key, .int .i64 y.t, .int .i64 y.v, .int .i64 y.e, .int .i64 y.u, .int .i64 y.s, .int .i64 gn, Ms.stv st] 45) = W2 at X2 Q2 R2 M2 ⊢
  have L2 : Hid (Lies (W2.alloc (Obj.cells #[.int .i64 0, .int .i64 0, .int .i64 0, .string ⟨#[]⟩, .int .i64 0, .int .i64 0, .int .i64 0, .int .i64 0, .int .i64 0, .int .i64 0, .pointer none, .bool false, .int .i64 0, .slice none 0 0, .slice none 0 0, .pointer none] 49)) W2.heap.size 49 zd) := Lib.hid (Lies.new W2 49 zd)
  have k2 := Lib.hid (below1 W2 (Obj.cells #[.int .i64 0, .int .i64 0, .int .i64 0, .string ⟨#[]⟩, .int .i64 0, .int .i64 0, .int .i64 0, .int .i64 0, .int .i64 0, .int .i64 0, .pointer none, .bool false, .int .i64 0, .slice none 0 0, .slice none 0 0, .pointer none] 49))
  go_upto_region 5 with (first
    | (refine wpList_plain rfl fun K' hK' => wp_load_msg _ rfl rfl X2.out rfl (hK' _ _ ?_))
    | (refine wpList_plain rfl fun K' hK' => wp_build_msg _ rfl rfl (hK' _ _ ?_))
    | (refine wpList_plain rfl fun K' hK' => wp_store_did (cs' := dcl ⟨1, fr, y, gn, st⟩ false 0 (.slice none 0 0) (.slice none 0 0) none) _ _ rfl rfl rfl L2.out rfl rfl (one_did _ _ _ _ _ _ _ _ _ _ _ _ _ _) (fun W3 z1 z2 => hK' _ _ ?_)))
  have k3 := Ms.below_over k2.out z2 (Nat.le_refl _)
  have D3 := Lib.hid z1
  have X3 := Lib.hid (X2.out.next k3)
  have Q3 := Lib.hid (Q2.out.keep fun i hi => k3.block i (Q2.out.in i hi))
  have R3 := Lib.hid (R2.out.next k3)
  have M3 := Lib.hid ((Moves.of_below K0.out hIn.out).trans (M2.out.trans (Moves.of_below k3 Q2.out.in)))
  have n3 : Hid (g8 < W2.heap.size ∧ g0 < W2.heap.size ∧ w.heap.size ≤ g0 ∧ g0 < g8) := Lib.hid ⟨X2.out.lt, R2.out.lt, by omega, n2.out⟩
  clear k3 k2 L2 z1 z2 hg8
  generalize hg10 : W2.heap.size = g10 at D3 n3 ⊢
  obtain ⟨x0, x1, x2, x3, x4, x5, x6, x7, x8, x9, x10⟩ := Ms.eleven X3.out
  clear X2 Q2 R2 M2 Q1 M1 R1 Q0 R0 n2 hg10
  have HI := Lib.hid (⟨m, bx, bv', Q3.out, fun _ => Iff.rfl⟩ : Is W3 wk (WF wk m bx bv') cf p L)
  go_wp2_with fail
  refine (ask_nokey y mark sh W3 HI hc hx hk).mono ?_
  rintro r w5 ⟨rfl, k5⟩
  have D5 := Lib.hid (D3.out.next k5)
  have R5 := Lib.hid (R3.out.next k5)
  have Q5 := Lib.hid (Q3.out.keep fun i hi => k5.block i (Q3.out.in i hi))
  have M5 := Lib.hid (M3.out.trans (Moves.of_below k5 Q3.out.in))
  clear k5 x0 x1 x2 x3 x4 x5 x6 x7 x8 x9 x10
  have y11 := D5.out.cell (i := 11) rfl
  have y12 := D5.out.cell (i := 12) rfl
  have y13 := D5.out.cell (i := 13) rfl
  have y14 := D5.out.cell (i := 14) rfl
  have f5 := D5.out.open_
  go_upto_region 15 with fail
  have D9 : Hid (Lies ((((w5.setCell ⟨g10, 11, none⟩ (.bool false)).setCell ⟨g10, 12, none⟩ (.int .i64 (0))).setCell ⟨g10, 13, none⟩ (.slice none 0 0)).setCell ⟨g10, 14, none⟩ (.slice none 0 0)) g10 49 (dcl ⟨1, fr, y, gn, st⟩ false (0) (.slice none 0 0) (.slice none 0 0) none)) := Lib.hid ((((D5.out.put 11 (.bool false)).put 12 (.int .i64 (0))).put 13 (.slice none 0 0)).put 14 (.slice none 0 0))
  have k9 : w5.grownBy ((((w5.setCell ⟨g10, 11, none⟩ (.bool false)).setCell ⟨g10, 12, none⟩ (.int .i64 (0))).setCell ⟨g10, 13, none⟩ (.slice none 0 0)).setCell ⟨g10, 14, none⟩ (.slice none 0 0)) (some g10) :=
    ⟨rfl, rfl, rfl, by simp, fun i hi hn => by
      have h : i ≠ g10 := fun e => hn (by rw [e])
      rw [Below.heap_setCell _ _ _ _ h, Below.heap_setCell _ _ _ _ h, Below.heap_setCell _ _ _ _ h, Below.heap_setCell _ _ _ _ h]⟩
  have hq9 := Q3.out.in
  have n9 := N1
  have n10 : Hid (¬ WF wk m bx bv' g10) := Lib.hid fun q => by have := N2.out _ q; have := n3.out; omega
  have Q9 := Lib.hid (Q5.out.keep fun i hi => k9.block i (Q5.out.in i hi) fun e => n10.out (Option.some.inj e ▸ hi))
  have R9 : Hid (Lies ((((w5.setCell ⟨g10, 11, none⟩ (.bool false)).setCell ⟨g10, 12, none⟩ (.int .i64 (0))).setCell ⟨g10, 13, none⟩ (.slice none 0 0)).setCell ⟨g10, 14, none⟩ (.slice none 0 0)) g0 49 zd) := Lib.hid ((k9.block g0 R5.out.lt fun e => by have := Option.some.inj e; have := n3.out; omega).trans R5.out)
  have M9 := Lib.hid (moves_grown M5.out k9 (fun b e => by have := Option.some.inj e; have := n3.out; omega))
  clear y11 y12 y13 y14 f5
  generalize (((w5.setCell ⟨g10, 11, none⟩ (.bool false)).setCell ⟨g10, 12, none⟩ (.int .i64 (0))).setCell ⟨g10, 13, none⟩ (.slice none 0 0)).setCell ⟨g10, 14, none⟩ (.slice none 0 0) = W9 at D9 Q9 R9 M9 k9 ⊢
  go_wp2_with (first
    | (refine wpList_plain rfl fun K' hK' => wp_load_did _ rfl rfl D9.out rfl (hK' _ _ ?_))
    | (refine wpList_plain rfl fun K' hK' => wp_store_did (cs' := dcl ⟨1, fr, y, gn, st⟩ false (0) (.slice none 0 0) (.slice none 0 0) none) _ _ rfl rfl rfl R9.out rfl rfl (one_did _ _ _ _ _ _ _ _ _ _ _ _ _ _) (fun W10 Z G9 => hK' _ _ ?_)))
  have HI9 := Q9.out.keep fun i hi => G9.block i (Q9.out.in i hi) fun e => n9.out (Option.some.inj e ▸ hi)
  exact bodyPost_ret (told_did rfl rfl Z rfl) rfl ⟨rfl, WF wk m bx bv', ⟨m, bx, bv', HI9, fun _ => Iff.rfl⟩, moves_grown M9.out G9 (fun b e => by have := Option.some.inj e; omega)⟩

set_option maxHeartbeats 8000000 in
/-- an Ask of a call that may not be -/
theorem step_nomay {wk : Nat} {F : Nat → Prop} {cf : C8} {p : Int → Option Nat} {L : List Ms.M} (fr : Int) (y : Cl) (gn : Int) (st : Option Nat) (mark : Int) (sh : Bool) (w : World) (H : Hid (Is w wk F cf p (⟨1, fr, y, gn, st⟩ :: L))) (hL : L.length ≤ 100) (hc : Hid (Md.cfOf cf).Fit) (hx : Hid y.Fit) (hk : Hid (kd y.op = true)) (HM : Hid (¬ mayC (Md.cfOf cf) y)) :
    Calls Tryz.prog 15 #[gp wk, .int .i64 mark, .bool sh] w fun r w' => r = .returned (.tuple #[dval ⟨1, fr, y, gn, st⟩ false 0 (.slice none 0 0) (.slice none 0 0) none, .bool true]) ∧ ∃ F', Is w' wk F' cf p L ∧ Moves F F' w w' := by
  obtain ⟨m, bx, bv, q, hF⟩ := H.out
  obtain rfl : F = WF wk m bx bv := funext fun k => propext (hF k)
  have hIn := Lib.hid q.in
  have lw := q.lies.lt
  have HQ := Lib.hid q
  clear q hF H
  have k0 := below1 w (Obj.cells #[.int .i64 0, .int .i64 0, .int .i64 0, .string ⟨#[]⟩, .int .i64 0, .int .i64 0, .int .i64 0, .int .i64 0, .int .i64 0, .int .i64 0, .pointer none, .bool false, .int .i64 0, .slice none 0 0, .slice none 0 0, .pointer none] 49)
  have Q0 := Lib.hid (HQ.out.keep fun i hi => k0.block i (HQ.out.in i hi))
  have R0 := Lib.hid (Lies.new w 49 zd)
  have K0 := Lib.hid k0
  have c9 := Q0.out.lies.cell (i := 9) rfl
  clear k0
  go_enter Tryz.func15, Tryz.ntmps15
  go_upto_region 1 with fail
  generalize hg0 : w.heap.size = g0 at R0 ⊢
  generalize w.alloc (Obj.cells #[.int .i64 0, .int .i64 0, .int .i64 0, .string ⟨#[]⟩, .int .i64 0, .int .i64 0, .int .i64 0, .int .i64 0, .int .i64 0, .int .i64 0, .pointer none, .bool false, .int .i64 0, .slice none 0 0, .slice none 0 0, .pointer none] 49) = W0 at Q0 R0 K0 c9 ⊢
  go_wp2_with fail
  refine (Ms.take_ok bx cf.c false bv ⟨1, fr, y, gn, st⟩ L W0 (Lib.hid Q0.out.box) (by have := hL; omega)).mono ?_
  rintro r w1 ⟨bv', rfl, b1, v1⟩
  obtain ⟨q1, mv1⟩ := Q0.out.boxed b1 v1
  have Q1 := Lib.hid q1
  have M1 := Lib.hid mv1
  have R1 := Lib.hid (mv1.lies (fun q => by have := hIn.out _ (show WF wk m bx bv g0 from q); omega) R0.out)
  have N1 : Hid (¬ WF wk m bx bv' g0) := Lib.hid fun q => by
    rcases (mv1.new _ q).1 with r | r
    · have := hIn.out _ r; omega
    · have := R0.out.lt; omega
  clear b1 v1 q1 mv1 c9
  go_upto_region 2 with fail
  have k2 := below1 w1 (Obj.cells #[.int .i64 1, .int .i64 fr, .int .i64 y.op, .string y.key, .int .i64 y.t, .int .i64 y.v, .int .i64 y.e, .int .i64 y.u, .int .i64 y.s, .int .i64 gn, Ms.stv st] 45)
  have X2 := Lib.hid (Lies.new w1 45 [.int .i64 1, .int .i64 fr, .int .i64 y.op, .string y.key, .int .i64 y.t, .int .i64 y.v, .int .i64 y.e, .int .i64 y.u, .int .i64 y.s, .int .i64 gn, Ms.stv st])
  have Q2 := Lib.hid (Q1.out.keep fun i hi => k2.block i (Q1.out.in i hi))
  have R2 := Lib.hid (R1.out.next k2)
  have M2 := Lib.hid (M1.out.trans (Moves.of_below k2 Q1.out.in))
  have n2 : Hid (g0 < w1.heap.size) := Lib.hid R1.out.lt
  have N2 : Hid (∀ i, WF wk m bx bv' i → i < w1.heap.size) := Lib.hid Q1.out.in
  clear k2
  generalize hg8 : w1.heap.size = g8 at X2 n2 N2 ⊢
  generalize w1.alloc (Obj.cells #[.int .i64 1, .int .i64 fr, .int .i64 y.op, .string y.key, .int .i64 y.t, .int .i64 y.v, .int .i64 y.e, .int .i64 y.u, .int .i64 y.s, .int .i64 gn, Ms.stv st] 45) = W2 at X2 Q2 R2 M2 ⊢
  have L2 : Hid (Lies (W2.alloc (Obj.cells #[.int .i64 0, .int .i64 0, .int .i64 0, .string ⟨#[]⟩, .int .i64 0, .int .i64 0, .int .i64 0, .int .i64 0, .int .i64 0, .int .i64 0, .pointer none, .bool false, .int .i64 0, .slice none 0 0, .slice none 0 0, .pointer none] 49)) W2.heap.size 49 zd) := Lib.hid (Lies.new W2 49 zd)
  have k2 := Lib.hid (below1 W2 (Obj.cells #[.int .i64 0, .int .i64 0, .int .i64 0, .string ⟨#[]⟩, .int .i64 0, .int .i64 0, .int .i64 0, .int .i64 0, .int .i64 0, .int .i64 0, .pointer none, .bool false, .int .i64 0, .slice none 0 0, .slice none 0 0, .pointer none] 49))
  go_upto_region 5 with (first
    | (refine wpList_plain rfl fun K' hK' => wp_load_msg _ rfl rfl X2.out rfl (hK' _ _ ?_))
    | (refine wpList_plain rfl fun K' hK' => wp_build_msg _ rfl rfl (hK' _ _ ?_))
    | (refine wpList_plain rfl fun K' hK' => wp_store_did (cs' := dcl ⟨1, fr, y, gn, st⟩ false 0 (.slice none 0 0) (.slice none 0 0) none) _ _ rfl rfl rfl L2.out rfl rfl (one_did _ _ _ _ _ _ _ _ _ _ _ _ _ _) (fun W3 z1 z2 => hK' _ _ ?_)))
  have k3 := Ms.below_over k2.out z2 (Nat.le_refl _)
  have D3 := Lib.hid z1
  have X3 := Lib.hid (X2.out.next k3)
  have Q3 := Lib.hid (Q2.out.keep fun i hi => k3.block i (Q2.out.in i hi))
  have R3 := Lib.hid (R2.out.next k3)
  have M3 := Lib.hid ((Moves.of_below K0.out hIn.out).trans (M2.out.trans (Moves.of_below k3 Q2.out.in)))
  have n3 : Hid (g8 < W2.heap.size ∧ g0 < W2.heap.size ∧ w.heap.size ≤ g0 ∧ g0 < g8) := Lib.hid ⟨X2.out.lt, R2.out.lt, by omega, n2.out⟩
  clear k3 k2 L2 z1 z2 hg8
  generalize hg10 : W2.heap.size = g10 at D3 n3 ⊢
  obtain ⟨x0, x1, x2, x3, x4, x5, x6, x7, x8, x9, x10⟩ := Ms.eleven X3.out
  clear X2 Q2 R2 M2 Q1 M1 R1 Q0 R0 n2 hg10
  have HI := Lib.hid (⟨m, bx, bv', Q3.out, fun _ => Iff.rfl⟩ : Is W3 wk (WF wk m bx bv') cf p L)
  go_wp2_with fail
  refine (ask_nomay y mark sh W3 HI hc hx hk HM).mono ?_
  rintro r w5 ⟨rfl, k5⟩
  have D5 := Lib.hid (D3.out.next k5)
  have R5 := Lib.hid (R3.out.next k5)
  have Q5 := Lib.hid (Q3.out.keep fun i hi => k5.block i (Q3.out.in i hi))
  have M5 := Lib.hid (M3.out.trans (Moves.of_below k5 Q3.out.in))
  clear k5 x0 x1 x2 x3 x4 x5 x6 x7 x8 x9 x10
  have y11 := D5.out.cell (i := 11) rfl
  have y12 := D5.out.cell (i := 12) rfl
  have y13 := D5.out.cell (i := 13) rfl
  have y14 := D5.out.cell (i := 14) rfl
  have f5 := D5.out.open_
  go_upto_region 15 with fail
  have D9 : Hid (Lies ((((w5.setCell ⟨g10, 11, none⟩ (.bool false)).setCell ⟨g10, 12, none⟩ (.int .i64 (0))).setCell ⟨g10, 13, none⟩ (.slice none 0 0)).setCell ⟨g10, 14, none⟩ (.slice none 0 0)) g10 49 (dcl ⟨1, fr, y, gn, st⟩ false (0) (.slice none 0 0) (.slice none 0 0) none)) := Lib.hid ((((D5.out.put 11 (.bool false)).put 12 (.int .i64 (0))).put 13 (.slice none 0 0)).put 14 (.slice none 0 0))
  have k9 : w5.grownBy ((((w5.setCell ⟨g10, 11, none⟩ (.bool false)).setCell ⟨g10, 12, none⟩ (.int .i64 (0))).setCell ⟨g10, 13, none⟩ (.slice none 0 0)).setCell ⟨g10, 14, none⟩ (.slice none 0 0)) (some g10) :=
    ⟨rfl, rfl, rfl, by simp, fun i hi hn => by
      have h : i ≠ g10 := fun e => hn (by rw [e])
      rw [Below.heap_setCell _ _ _ _ h, Below.heap_setCell _ _ _ _ h, Below.heap_setCell _ _ _ _ h, Below.heap_setCell _ _ _ _ h]⟩
  have hq9 := Q3.out.in
  have n9 := N1
  have n10 : Hid (¬ WF wk m bx bv' g10) := Lib.hid fun q => by have := N2.out _ q; have := n3.out; omega
  have Q9 := Lib.hid (Q5.out.keep fun i hi => k9.block i (Q5.out.in i hi) fun e => n10.out (Option.some.inj e ▸ hi))
  have R9 : Hid (Lies ((((w5.setCell ⟨g10, 11, none⟩ (.bool false)).setCell ⟨g10, 12, none⟩ (.int .i64 (0))).setCell ⟨g10, 13, none⟩ (.slice none 0 0)).setCell ⟨g10, 14, none⟩ (.slice none 0 0)) g0 49 zd) := Lib.hid ((k9.block g0 R5.out.lt fun e => by have := Option.some.inj e; have := n3.out; omega).trans R5.out)
  have M9 := Lib.hid (moves_grown M5.out k9 (fun b e => by have := Option.some.inj e; have := n3.out; omega))
  clear y11 y12 y13 y14 f5
  generalize (((w5.setCell ⟨g10, 11, none⟩ (.bool false)).setCell ⟨g10, 12, none⟩ (.int .i64 (0))).setCell ⟨g10, 13, none⟩ (.slice none 0 0)).setCell ⟨g10, 14, none⟩ (.slice none 0 0) = W9 at D9 Q9 R9 M9 k9 ⊢
  go_wp2_with (first
    | (refine wpList_plain rfl fun K' hK' => wp_load_did _ rfl rfl D9.out rfl (hK' _ _ ?_))
    | (refine wpList_plain rfl fun K' hK' => wp_store_did (cs' := dcl ⟨1, fr, y, gn, st⟩ false (0) (.slice none 0 0) (.slice none 0 0) none) _ _ rfl rfl rfl R9.out rfl rfl (one_did _ _ _ _ _ _ _ _ _ _ _ _ _ _) (fun W10 Z G9 => hK' _ _ ?_)))
  have HI9 := Q9.out.keep fun i hi => G9.block i (Q9.out.in i hi) fun e => n9.out (Option.some.inj e ▸ hi)
  exact bodyPost_ret (told_did rfl rfl Z rfl) rfl ⟨rfl, WF wk m bx bv', ⟨m, bx, bv', HI9, fun _ => Iff.rfl⟩, moves_grown M9.out G9 (fun b e => by have := Option.some.inj e; omega)⟩

set_option maxHeartbeats 8000000 in
/-- an Ask, closed -/
theorem step_closed {wk : Nat} {F : Nat → Prop} {cf : C8} {p : Int → Option Nat} {L : List Ms.M} (fr : Int) (y : Cl) (gn : Int) (st : Option Nat) (mark : Int) (sh : Bool) (w : World) (H : Hid (Is w wk F cf p (⟨1, fr, y, gn, st⟩ :: L))) (hL : L.length ≤ 100) (hc : Hid (Md.cfOf cf).Fit) (hx : Hid y.Fit) (hk : Hid (kd y.op = true)) (HM : Hid (mayC (Md.cfOf cf) y)) (wg : Wf (grpOf cf.r y)) {a : Nat} (HG : Hid (p (grpOf cf.r y) = some a)) (hs : sh = true) :
    Calls Tryz.prog 15 #[gp wk, .int .i64 mark, .bool sh] w fun r w' => r = .returned (.tuple #[dval ⟨1, fr, y, gn, st⟩ false 3 (.slice none 0 0) (.slice none 0 0) none, .bool true]) ∧ ∃ F', Is w' wk F' cf p L ∧ Moves F F' w w' := by
  subst hs
  obtain ⟨m, bx, bv, q, hF⟩ := H.out
  obtain rfl : F = WF wk m bx bv := funext fun k => propext (hF k)
  have hIn := Lib.hid q.in
  have lw := q.lies.lt
  have HQ := Lib.hid q
  clear q hF H
  have k0 := below1 w (Obj.cells #[.int .i64 0, .int .i64 0, .int .i64 0, .string ⟨#[]⟩, .int .i64 0, .int .i64 0, .int .i64 0, .int .i64 0, .int .i64 0, .int .i64 0, .pointer none, .bool false, .int .i64 0, .slice none 0 0, .slice none 0 0, .pointer none] 49)
  have Q0 := Lib.hid (HQ.out.keep fun i hi => k0.block i (HQ.out.in i hi))
  have R0 := Lib.hid (Lies.new w 49 zd)
  have K0 := Lib.hid k0
  have c9 := Q0.out.lies.cell (i := 9) rfl
  clear k0
  go_enter Tryz.func15, Tryz.ntmps15
  go_upto_region 1 with fail
  generalize hg0 : w.heap.size = g0 at R0 ⊢
  generalize w.alloc (Obj.cells #[.int .i64 0, .int .i64 0, .int .i64 0, .string ⟨#[]⟩, .int .i64 0, .int .i64 0, .int .i64 0, .int .i64 0, .int .i64 0, .int .i64 0, .pointer none, .bool false, .int .i64 0, .slice none 0 0, .slice none 0 0, .pointer none] 49) = W0 at Q0 R0 K0 c9 ⊢
  go_wp2_with fail
  refine (Ms.take_ok bx cf.c false bv ⟨1, fr, y, gn, st⟩ L W0 (Lib.hid Q0.out.box) (by have := hL; omega)).mono ?_
  rintro r w1 ⟨bv', rfl, b1, v1⟩
  obtain ⟨q1, mv1⟩ := Q0.out.boxed b1 v1
  have Q1 := Lib.hid q1
  have M1 := Lib.hid mv1
  have R1 := Lib.hid (mv1.lies (fun q => by have := hIn.out _ (show WF wk m bx bv g0 from q); omega) R0.out)
  have N1 : Hid (¬ WF wk m bx bv' g0) := Lib.hid fun q => by
    rcases (mv1.new _ q).1 with r | r
    · have := hIn.out _ r; omega
    · have := R0.out.lt; omega
  clear b1 v1 q1 mv1 c9
  go_upto_region 2 with fail
  have k2 := below1 w1 (Obj.cells #[.int .i64 1, .int .i64 fr, .int .i64 y.op, .string y.key, .int .i64 y.t, .int .i64 y.v, .int .i64 y.e, .int .i64 y.u, .int .i64 y.s, .int .i64 gn, Ms.stv st] 45)
  have X2 := Lib.hid (Lies.new w1 45 [.int .i64 1, .int .i64 fr, .int .i64 y.op, .string y.key, .int .i64 y.t, .int .i64 y.v, .int .i64 y.e, .int .i64 y.u, .int .i64 y.s, .int .i64 gn, Ms.stv st])
  have Q2 := Lib.hid (Q1.out.keep fun i hi => k2.block i (Q1.out.in i hi))
  have R2 := Lib.hid (R1.out.next k2)
  have M2 := Lib.hid (M1.out.trans (Moves.of_below k2 Q1.out.in))
  have n2 : Hid (g0 < w1.heap.size) := Lib.hid R1.out.lt
  have N2 : Hid (∀ i, WF wk m bx bv' i → i < w1.heap.size) := Lib.hid Q1.out.in
  clear k2
  generalize hg8 : w1.heap.size = g8 at X2 n2 N2 ⊢
  generalize w1.alloc (Obj.cells #[.int .i64 1, .int .i64 fr, .int .i64 y.op, .string y.key, .int .i64 y.t, .int .i64 y.v, .int .i64 y.e, .int .i64 y.u, .int .i64 y.s, .int .i64 gn, Ms.stv st] 45) = W2 at X2 Q2 R2 M2 ⊢
  have L2 : Hid (Lies (W2.alloc (Obj.cells #[.int .i64 0, .int .i64 0, .int .i64 0, .string ⟨#[]⟩, .int .i64 0, .int .i64 0, .int .i64 0, .int .i64 0, .int .i64 0, .int .i64 0, .pointer none, .bool false, .int .i64 0, .slice none 0 0, .slice none 0 0, .pointer none] 49)) W2.heap.size 49 zd) := Lib.hid (Lies.new W2 49 zd)
  have k2 := Lib.hid (below1 W2 (Obj.cells #[.int .i64 0, .int .i64 0, .int .i64 0, .string ⟨#[]⟩, .int .i64 0, .int .i64 0, .int .i64 0, .int .i64 0, .int .i64 0, .int .i64 0, .pointer none, .bool false, .int .i64 0, .slice none 0 0, .slice none 0 0, .pointer none] 49))
  go_upto_region 5 with (first
    | (refine wpList_plain rfl fun K' hK' => wp_load_msg _ rfl rfl X2.out rfl (hK' _ _ ?_))
    | (refine wpList_plain rfl fun K' hK' => wp_build_msg _ rfl rfl (hK' _ _ ?_))
    | (refine wpList_plain rfl fun K' hK' => wp_store_did (cs' := dcl ⟨1, fr, y, gn, st⟩ false 0 (.slice none 0 0) (.slice none 0 0) none) _ _ rfl rfl rfl L2.out rfl rfl (one_did _ _ _ _ _ _ _ _ _ _ _ _ _ _) (fun W3 z1 z2 => hK' _ _ ?_)))
  have k3 := Ms.below_over k2.out z2 (Nat.le_refl _)
  have D3 := Lib.hid z1
  have X3 := Lib.hid (X2.out.next k3)
  have Q3 := Lib.hid (Q2.out.keep fun i hi => k3.block i (Q2.out.in i hi))
  have R3 := Lib.hid (R2.out.next k3)
  have M3 := Lib.hid ((Moves.of_below K0.out hIn.out).trans (M2.out.trans (Moves.of_below k3 Q2.out.in)))
  have n3 : Hid (g8 < W2.heap.size ∧ g0 < W2.heap.size ∧ w.heap.size ≤ g0 ∧ g0 < g8) := Lib.hid ⟨X2.out.lt, R2.out.lt, by omega, n2.out⟩
  clear k3 k2 L2 z1 z2 hg8
  generalize hg10 : W2.heap.size = g10 at D3 n3 ⊢
  obtain ⟨x0, x1, x2, x3, x4, x5, x6, x7, x8, x9, x10⟩ := Ms.eleven X3.out
  clear X2 Q2 R2 M2 Q1 M1 R1 Q0 R0 n2 hg10
  have HI := Lib.hid (⟨m, bx, bv', Q3.out, fun _ => Iff.rfl⟩ : Is W3 wk (WF wk m bx bv') cf p L)
  go_wp2_with fail
  refine (ask_closed y mark true W3 HI hc hx hk HM wg HG rfl).mono ?_
  rintro r w5 ⟨rfl, k5⟩
  have D5 := Lib.hid (D3.out.next k5)
  have R5 := Lib.hid (R3.out.next k5)
  have Q5 := Lib.hid (Q3.out.keep fun i hi => k5.block i (Q3.out.in i hi))
  have M5 := Lib.hid (M3.out.trans (Moves.of_below k5 Q3.out.in))
  clear k5 x0 x1 x2 x3 x4 x5 x6 x7 x8 x9 x10
  have y11 := D5.out.cell (i := 11) rfl
  have y12 := D5.out.cell (i := 12) rfl
  have y13 := D5.out.cell (i := 13) rfl
  have y14 := D5.out.cell (i := 14) rfl
  have f5 := D5.out.open_
  go_upto_region 15 with fail
  have D9 : Hid (Lies ((((w5.setCell ⟨g10, 11, none⟩ (.bool false)).setCell ⟨g10, 12, none⟩ (.int .i64 (3))).setCell ⟨g10, 13, none⟩ (.slice none 0 0)).setCell ⟨g10, 14, none⟩ (.slice none 0 0)) g10 49 (dcl ⟨1, fr, y, gn, st⟩ false (3) (.slice none 0 0) (.slice none 0 0) none)) := Lib.hid ((((D5.out.put 11 (.bool false)).put 12 (.int .i64 (3))).put 13 (.slice none 0 0)).put 14 (.slice none 0 0))
  have k9 : w5.grownBy ((((w5.setCell ⟨g10, 11, none⟩ (.bool false)).setCell ⟨g10, 12, none⟩ (.int .i64 (3))).setCell ⟨g10, 13, none⟩ (.slice none 0 0)).setCell ⟨g10, 14, none⟩ (.slice none 0 0)) (some g10) :=
    ⟨rfl, rfl, rfl, by simp, fun i hi hn => by
      have h : i ≠ g10 := fun e => hn (by rw [e])
      rw [Below.heap_setCell _ _ _ _ h, Below.heap_setCell _ _ _ _ h, Below.heap_setCell _ _ _ _ h, Below.heap_setCell _ _ _ _ h]⟩
  have hq9 := Q3.out.in
  have n9 := N1
  have n10 : Hid (¬ WF wk m bx bv' g10) := Lib.hid fun q => by have := N2.out _ q; have := n3.out; omega
  have Q9 := Lib.hid (Q5.out.keep fun i hi => k9.block i (Q5.out.in i hi) fun e => n10.out (Option.some.inj e ▸ hi))
  have R9 : Hid (Lies ((((w5.setCell ⟨g10, 11, none⟩ (.bool false)).setCell ⟨g10, 12, none⟩ (.int .i64 (3))).setCell ⟨g10, 13, none⟩ (.slice none 0 0)).setCell ⟨g10, 14, none⟩ (.slice none 0 0)) g0 49 zd) := Lib.hid ((k9.block g0 R5.out.lt fun e => by have := Option.some.inj e; have := n3.out; omega).trans R5.out)
  have M9 := Lib.hid (moves_grown M5.out k9 (fun b e => by have := Option.some.inj e; have := n3.out; omega))
  clear y11 y12 y13 y14 f5
  generalize (((w5.setCell ⟨g10, 11, none⟩ (.bool false)).setCell ⟨g10, 12, none⟩ (.int .i64 (3))).setCell ⟨g10, 13, none⟩ (.slice none 0 0)).setCell ⟨g10, 14, none⟩ (.slice none 0 0) = W9 at D9 Q9 R9 M9 k9 ⊢
  go_wp2_with (first
    | (refine wpList_plain rfl fun K' hK' => wp_load_did _ rfl rfl D9.out rfl (hK' _ _ ?_))
    | (refine wpList_plain rfl fun K' hK' => wp_store_did (cs' := dcl ⟨1, fr, y, gn, st⟩ false (3) (.slice none 0 0) (.slice none 0 0) none) _ _ rfl rfl rfl R9.out rfl rfl (one_did _ _ _ _ _ _ _ _ _ _ _ _ _ _) (fun W10 Z G9 => hK' _ _ ?_)))
  have HI9 := Q9.out.keep fun i hi => G9.block i (Q9.out.in i hi) fun e => n9.out (Option.some.inj e ▸ hi)
  exact bodyPost_ret (told_did rfl rfl Z rfl) rfl ⟨rfl, WF wk m bx bv', ⟨m, bx, bv', HI9, fun _ => Iff.rfl⟩, moves_grown M9.out G9 (fun b e => by have := Option.some.inj e; omega)⟩
end Sh
end Go.Proofs.YtmklkiklegkioaaGreat

namespace Go.Proofs.YtmklkiklegkioaaGreat
open Go.ChangeShapes Go.WideShapes Go.ChangeAt Go.RowKit
set_option linter.unusedVariables false
set_option maxRecDepth 100000
namespace Sh
open Small Foot Pane Grp Ca Md

/-- parts of the memory, apart from one another, all made behind w0 -/
structure Fam (w0 w : World) (R : Nat → Nat → Prop) : Prop where
  in_ : ∀ i, In w (R i)
  lo : ∀ i, From w0.heap.size (R i)
  ap : ∀ i j, i ≠ j → Apart (R i) (R j)
  below : Below w0.heap.size w0 w
def rset (R : Nat → Nat → Prop) (i : Nat) (F : Nat → Prop) : Nat → Nat → Prop := fun k => if k = i then F else R k
section
variable {w0 w w' : World} {R : Nat → Nat → Prop} {F F' G G' : Nat → Prop} {i j : Nat}
theorem Fam.next (h : Fam w0 w R) (k : Below w.heap.size w w') : Fam w0 w' R := ⟨fun i => (h.in_ i).next k.size, h.lo, h.ap, after h.below k⟩
theorem Fam.one (h : Fam w0 w R) (k : Moves (R i) F' w w') : Fam w0 w' (rset R i F') := by
  have ap : ∀ j, j ≠ i → Apart F' (R j) := fun j hj => k.apart (h.ap i j (Ne.symm hj)) (h.in_ j)
  refine ⟨fun j => ?_, fun j => ?_, fun j l hjl => ?_, h.below.trans (k.below (h.lo i) h.below.size)⟩
  · unfold rset; split
    · exact k.in
    · exact (h.in_ j).next k.size
  · unfold rset; split
    · exact k.from (h.lo i) h.below.size
    · exact h.lo j
  · unfold rset
    by_cases e : j = i
    · rw [if_pos e, if_neg (fun q => hjl (e.trans q.symm))]
      exact ap l fun q => hjl (e.trans q.symm)
    · rw [if_neg e]
      by_cases e' : l = i
      · rw [if_pos e']; exact (ap j e).symm
      · rw [if_neg e']; exact h.ap j l hjl
theorem Fam.two (h : Fam w0 w R) (hij : i ≠ j) (k : Moves (Or2 (R i) (R j)) (Or2 F' G') w w') (a : Apart F' G') : Fam w0 w' (rset (rset R i F') j G') := by
  have ap : ∀ l, l ≠ i → l ≠ j → Apart (Or2 F' G') (R l) := fun l h1 h2 => k.apart (fun b hb q => hb.elim (fun r => h.ap i l (Ne.symm h1) b r q) fun r => h.ap j l (Ne.symm h2) b r q) (h.in_ l)
  have lo : From w0.heap.size (Or2 F' G') := k.from (fun b hb => hb.elim (h.lo i b) (h.lo j b)) h.below.size
  have val : ∀ l, rset (rset R i F') j G' l = if l = j then G' else if l = i then F' else R l := fun l => rfl
  refine ⟨fun l => ?_, fun l => ?_, fun l m hlm => ?_, h.below.trans (k.below (fun b hb => hb.elim (h.lo i b) (h.lo j b)) h.below.size)⟩
  · rw [val]; split
    · exact fun b hb => k.in b (.inr hb)
    · split
      · exact fun b hb => k.in b (.inl hb)
      · exact (h.in_ l).next k.size
  · rw [val]; split
    · exact fun b hb => lo b (.inr hb)
    · split
      · exact fun b hb => lo b (.inl hb)
      · exact h.lo l
  · rw [val, val]
    by_cases e1 : l = j
    · subst e1
      rw [if_pos rfl, if_neg (Ne.symm hlm)]
      by_cases e2 : m = i
      · rw [if_pos e2]; exact a.symm
      · rw [if_neg e2]; exact fun b hb q => ap m e2 (Ne.symm hlm) b (.inr hb) q
    · rw [if_neg e1]
      by_cases e3 : m = j
      · subst e3
        rw [if_pos rfl]
        by_cases e2 : l = i
        · rw [if_pos e2]; exact a
        · rw [if_neg e2]; exact fun b hb q => ap l e2 e1 b (.inr q) hb
      · rw [if_neg e3]
        by_cases e2 : l = i
        · subst e2
          rw [if_pos rfl, if_neg (Ne.symm hlm)]
          exact fun b hb q => ap m (Ne.symm hlm) e3 b (.inl hb) q
        · rw [if_neg e2]
          by_cases e4 : m = i
          · subst e4; rw [if_pos rfl]; exact fun b hb q => ap l e2 e1 b (.inl q) hb
          · rw [if_neg e4]; exact h.ap l m hlm
theorem Fam.kept (h : Fam w0 w R) (k : Moves (R i) F' w w') (hj : j ≠ i) : ∀ b, R j b → w'.heap[b]? = w.heap[b]? := fun b hb => k.block b (h.in_ j b hb) fun q => h.ap i j (Ne.symm hj) b q hb
theorem Fam.kept2 (h : Fam w0 w R) (k : Moves (Or2 (R i) (R j)) F' w w') {l : Nat} (h1 : l ≠ i) (h2 : l ≠ j) : ∀ b, R l b → w'.heap[b]? = w.heap[b]? := fun b hb => k.block b (h.in_ l b hb) fun q => q.elim (fun q => h.ap i l (Ne.symm h1) b q hb) fun q => h.ap j l (Ne.symm h2) b q hb
end
theorem Pool.kept {w w' : World} {p : Int → Option Nat} {FF : Int → Nat → Prop} {cf : C8} {S : Int → Lists} {N : Nat} {n : Int → Nat} (h : Pool w p FF cf S N n) (k : ∀ b, UF p FF b → w'.heap[b]? = w.heap[b]?) (s : w.heap.size ≤ w'.heap.size) : Pool w' p FF cf S N n :=
  ⟨fun x a ha => (h.is x a ha).keep (fun i hi => k i ⟨x, by rw [ha]; simp, hi⟩) s, h.apart⟩
theorem Pool.more {w : World} {p : Int → Option Nat} {FF : Int → Nat → Prop} {cf : C8} {S : Int → Lists} {N N' : Nat} {n : Int → Nat} (h : Pool w p FF cf S N n) (hN : N ≤ N') : Pool w p FF cf S N' n := ⟨fun x a ha => (h.is x a ha).more hN, h.apart⟩

/-- a group went on, and something else beside it -/
theorem Pool.two {w w' : World} {p : Int → Option Nat} {FF : Int → Nat → Prop} {cf : C8} {S : Int → Lists} {N N' n' : Nat} {n : Int → Nat} {E E' F' : Nat → Prop} {x : Int} {a : Nat} {T : Lists} (h : Pool w p FF cf S N n) (hx : p x = some a) (G : Gr.Is w' a F' cf T N' n') (V : Moves (Or2 E (FF x)) (Or2 E' F') w w') (A : Apart E (UF p FF)) (A' : Apart E' F') (hN : N ≤ N') :
    Pool w' p (fun y => if y = x then F' else FF y) cf (fun y => if y = x then T else S y) N' (fun y => if y = x then n' else n y) ∧ Moves (Or2 E (UF p FF)) (Or2 E' (UF p fun y => if y = x then F' else FF y)) w w' ∧ Apart E' (UF p fun y => if y = x then F' else FF y) := by
  have hxn : p x ≠ none := by rw [hx]; simp
  have ap0 : ∀ y, y ≠ x → p y ≠ none → Apart (Or2 E (FF x)) (FF y) := fun y hy hn i hi q => hi.elim (fun r => A i r ⟨y, hn, q⟩) fun r => h.apart x y (Ne.symm hy) hxn hn i r q
  have ap : ∀ y, y ≠ x → p y ≠ none → Apart (Or2 E' F') (FF y) := fun y hy hn => by
    obtain ⟨b, hb⟩ := Option.ne_none_iff_exists'.1 hn
    exact V.apart (ap0 y hy hn) (h.is y b hb).in
  refine ⟨⟨fun y b hb => ?_, fun y y' hne hy hy' => ?_⟩, ⟨V.os, V.tape, V.output, V.size, fun i hi hn => V.block i hi fun q => hn (q.imp id fun q => ⟨x, hxn, q⟩), fun i hi => ?_⟩, fun i hi q => ?_⟩
  · by_cases e : y = x
    · subst e
      rw [hx] at hb
      obtain rfl := Option.some.inj hb
      simpa using G
    · simp only [e, if_false]
      have hn : p y ≠ none := by rw [hb]; simp
      exact ((h.is y b hb).keep (fun i hi => V.block i ((h.is y b hb).in i hi) fun q => ap0 y e hn i q hi) V.size).more hN
  · by_cases e : y = x
    · subst e
      rw [if_pos rfl, if_neg (Ne.symm hne)]
      exact fun i hi q => ap y' (Ne.symm hne) hy' i (.inr hi) q
    · by_cases e' : y' = x
      · subst e'
        rw [if_pos rfl, if_neg e]
        exact fun i hi q => ap y e hy i (.inr q) hi
      · rw [if_neg e, if_neg e']
        exact h.apart y y' hne hy hy'
  · rcases hi with hi | ⟨y, hy, hi⟩
    · exact ⟨(V.new i (.inl hi)).1.imp (fun q => q.imp id fun q => ⟨x, hxn, q⟩) id, (V.new i (.inl hi)).2⟩
    · by_cases e : y = x
      · subst e
        simp only [if_true] at hi
        exact ⟨(V.new i (.inr hi)).1.imp (fun q => q.imp id fun q => ⟨y, hy, q⟩) id, (V.new i (.inr hi)).2⟩
      · simp only [e, if_false] at hi
        obtain ⟨b, hb⟩ := Option.ne_none_iff_exists'.1 hy
        exact ⟨.inl (.inr ⟨y, hy, hi⟩), Nat.lt_of_lt_of_le ((h.is y b hb).in i hi) V.size⟩
  · obtain ⟨y, hy, q⟩ := q
    by_cases e : y = x
    · subst e
      simp only [if_true] at q
      exact A' i hi q
    · simp only [e, if_false] at q
      exact ap y e hy i (.inl hi) q
theorem Pool.sub {w : World} {p q : Int → Option Nat} {FF : Int → Nat → Prop} {cf : C8} {S : Int → Lists} {N : Nat} {n : Int → Nat} (h : Pool w p FF cf S N n) (hs : ∀ x, q x ≠ none → q x = p x) : Pool w q FF cf S N n :=
  ⟨fun x a ha => h.is x a (by rw [← hs x (by rw [ha]; simp)]; exact ha), fun x y hne hx hy => h.apart x y hne (hs x hx ▸ hx) (hs y hy ▸ hy)⟩
/-- those of one worker went on, and something else beside them -/
theorem Pool.merge {w w' : World} {p q : Int → Option Nat} {FF FF' : Int → Nat → Prop} {cf : C8} {S S' : Int → Lists} {N : Nat} {n n' : Int → Nat} {E E' : Nat → Prop} (h : Pool w p FF cf S N n) (hs : ∀ x, q x ≠ none → q x = p x) (k : Pool w' q FF' cf S' N n') (V : Moves (Or2 E (UF q FF)) (Or2 E' (UF q FF')) w w') (A : Apart E (UF p FF)) (A' : Apart E' (UF q FF')) :
    Pool w' p (fun y => if q y = none then FF y else FF' y) cf (fun y => if q y = none then S y else S' y) N (fun y => if q y = none then n y else n' y) ∧ Moves (Or2 E (UF p FF)) (Or2 E' (UF p fun y => if q y = none then FF y else FF' y)) w w' ∧ Apart E' (UF p fun y => if q y = none then FF y else FF' y) := by
  have up : ∀ y, q y ≠ none → p y ≠ none := fun y hy => hs y hy ▸ hy
  have uu : ∀ i, UF q FF i → UF p FF i := fun i ⟨y, hy, hi⟩ => ⟨y, up y hy, hi⟩
  have ap0 : ∀ y, q y = none → p y ≠ none → Apart (Or2 E (UF q FF)) (FF y) := fun y hy hn i hi r => hi.elim (fun s => A i s ⟨y, hn, r⟩) fun ⟨z, hz, s⟩ => h.apart z y (fun e => hz (e ▸ hy)) (up z hz) hn i s r
  have ap : ∀ y, q y = none → p y ≠ none → Apart (Or2 E' (UF q FF')) (FF y) := fun y hy hn => by
    obtain ⟨b, hb⟩ := Option.ne_none_iff_exists'.1 hn
    exact V.apart (ap0 y hy hn) (h.is y b hb).in
  refine ⟨⟨fun y b hb => ?_, fun y y' hne hy hy' => ?_⟩, ⟨V.os, V.tape, V.output, V.size, fun i hi hn => V.block i hi fun r => hn (r.imp id (uu i)), fun i hi => ?_⟩, fun i hi r => ?_⟩
  · by_cases e : q y = none
    · simp only [e, if_true]
      have hn : p y ≠ none := by rw [hb]; simp
      exact (h.is y b hb).keep (fun i hi => V.block i ((h.is y b hb).in i hi) fun r => ap0 y e hn i r hi) V.size
    · simp only [e, if_false]
      exact k.is y b ((hs y e).trans hb)
  · by_cases e : q y = none
    · rw [if_pos e]
      by_cases e' : q y' = none
      · rw [if_pos e']; exact h.apart y y' hne hy hy'
      · rw [if_neg e']; exact fun i hi r => ap y e hy i (.inr ⟨y', e', r⟩) hi
    · rw [if_neg e]
      by_cases e' : q y' = none
      · rw [if_pos e']; exact fun i hi r => ap y' e' hy' i (.inr ⟨y, e, hi⟩) r
      · rw [if_neg e']; exact k.apart y y' hne e e'
  · rcases hi with hi | ⟨y, hy, hi⟩
    · exact ⟨(V.new i (.inl hi)).1.imp (fun r => r.imp id (uu i)) id, (V.new i (.inl hi)).2⟩
    · by_cases e : q y = none
      · simp only [e, if_true] at hi
        obtain ⟨b, hb⟩ := Option.ne_none_iff_exists'.1 hy
        exact ⟨.inl (.inr ⟨y, hy, hi⟩), Nat.lt_of_lt_of_le ((h.is y b hb).in i hi) V.size⟩
      · simp only [e, if_false] at hi
        exact ⟨(V.new i (.inr ⟨y, e, hi⟩)).1.imp (fun r => r.imp id (uu i)) id, (V.new i (.inr ⟨y, e, hi⟩)).2⟩
  · obtain ⟨y, hy, r⟩ := r
    by_cases e : q y = none
    · simp only [e, if_true] at r
      exact ap y e hy i (.inl hi) r
    · simp only [e, if_false] at r
      exact A' i hi ⟨y, e, r⟩
set_option maxHeartbeats 1600000 in
theorem box_at {wk m bx : Nat} {bv : Value} {cf : C8} {p : Int → Option Nat} {L : List Ms.M} (w : World) (H : Hid (Q w wk m bx bv cf p L)) :
    Calls Tryz.prog 7 #[gp wk] w fun r w' => r = .returned (gp bx) ∧ w = w' := by
  have m9 := H.out.lies.cell (i := 9) rfl
  go_enter Tryz.func7, Tryz.ntmps7
  go_wp2
  go_ret
  exact ⟨rfl, rfl⟩
theorem Q.next {w w' : World} {wk m bx : Nat} {bv : Value} {cf : C8} {p : Int → Option Nat} {L : List Ms.M} (h : Q w wk m bx bv cf p L) (k : Below w.heap.size w w') : Q w' wk m bx bv cf p L := h.keep fun i hi => k.block i (h.in i hi)
/-- what Pick tells -/
def pk (c n : Int) : Int := (if c < 0 then -(c + 1) else c) % n
theorem pk_in {c n : Int} (h : 0 < n) : 0 ≤ pk c n ∧ pk c n < n := ⟨Int.emod_nonneg _ (by omega), Int.emod_lt_of_pos _ h⟩
set_option maxHeartbeats 800000 in
theorem pick_det (c n : Int) (w : World) (hc : (Lit.int .i64 c).wf = true) (hn : 0 < n) (hn2 : n ≤ 1000) : Calls Tryz.prog 8 #[.int .i64 c, .int .i64 n] w fun r w' => r = .returned (.int .i64 (pk c n)) ∧ w = w' := by
  obtain ⟨c0, c1⟩ := fit hc
  by_cases h : c < 0
  · have t1 : IntKind.i64.wrap (c + 1) = c + 1 := IntWalk.i64_in _ (by omega)
    have t2 : IntKind.i64.wrap (-(c + 1)) = -(c + 1) := IntWalk.i64_in _ (by omega)
    have n0 : ¬ n = 0 := by omega
    have n1 : (n == 0) = false := by simpa using n0
    have e : (-(c + 1)).tmod n = (-(c + 1)) % n := Int.tmod_eq_emod_of_nonneg (by omega)
    have e2 : -(c + 1).tmod n = (-(c + 1)) % n := by rw [← e, Int.neg_tmod]
    have hp : pk c n = (-(c + 1)) % n := by unfold pk; rw [if_pos h]
    have E := Lib.hid e2
    have HP := Lib.hid hp
    clear e e2 hp
    go_enter Tryz.func8, Tryz.ntmps8
    go_wp2
    go_ret
    exact ⟨ret_int (by first | (rw [HP.out]; done) | rw [E.out, HP.out]), rfl⟩
  · have n0 : ¬ n = 0 := by omega
    have n1 : (n == 0) = false := by simpa using n0
    have e : c.tmod n = c % n := Int.tmod_eq_emod_of_nonneg (by omega)
    have hp : pk c n = c % n := by unfold pk; rw [if_neg h]
    have E := Lib.hid e
    have HP := Lib.hid hp
    clear e hp
    go_enter Tryz.func8, Tryz.ntmps8
    go_wp2
    go_ret
    exact ⟨ret_int (by first | (rw [HP.out]; done) | rw [E.out, HP.out]), rfl⟩
end Sh
end Go.Proofs.YtmklkiklegkioaaGreat
