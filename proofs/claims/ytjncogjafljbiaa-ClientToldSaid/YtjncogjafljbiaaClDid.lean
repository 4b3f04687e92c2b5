/-
  A client is told what was done: answer, Did.
-/
import Derived.Test.YtjncogjafljbiaaClKey
namespace Go.Proofs.Ytjncogjafljbiaa
open Go.ChangeShapes Go.WideShapes Go.ChangeAt Go.RowKit
set_option linter.unusedVariables false
set_option maxRecDepth 100000
namespace Cn
open Small Foot Fm Ca
/-- what a worker did, as cells -/
abbrev dcl (m : Ms.M) (mv : Bool) (r : Rp) (oa : Option Addr) (on oc : Nat) (st : Option Nat) : List Value := [.int .i64 m.kind, .int .i64 m.fr, .int .i64 m.call.op, .string m.call.key, .int .i64 m.call.t, .int .i64 m.call.v, .int .i64 m.call.e, .int .i64 m.call.u, .int .i64 m.call.s, .int .i64 m.group, Ms.stv m.st, .bool mv, .int .i64 r.code, .slice r.a r.n r.c, .slice oa on oc, stv st]
abbrev dval (m : Ms.M) (mv : Bool) (r : Rp) (oa : Option Addr) (on oc : Nat) (st : Option Nat) : Value := .agg #[.int .i64 m.kind, .int .i64 m.fr, .int .i64 m.call.op, .string m.call.key, .int .i64 m.call.t, .int .i64 m.call.v, .int .i64 m.call.e, .int .i64 m.call.u, .int .i64 m.call.s, .int .i64 m.group, Ms.stv m.st, .bool mv, .int .i64 r.code, .slice r.a r.n r.c, .slice oa on oc, stv st]
section
variable {o : Oper} {a : Act} {K : Act → World → Prop} {Qq : Exit → Act → World → Prop} {w : World} {g : Nat}
theorem ld_did {m : Ms.M} {mv : Bool} {r : Rp} {oa : Option Addr} {on oc : Nat} {st : Option Nat} (x : Operand) (ho : o.op = .load 62 x) (hx : a.eval x = gp g) (h : Lies w g 62 (dcl m mv r oa on oc st)) (hK : K (a.put o.dst (dval m mv r oa on oc st)) w) : o.wp Try.prog a w K Qq :=
  Wh.wp_load Try.isAgg62 Try.sizeOf62 x ho hx h (Nat.le_refl _) (dcl m mv r oa on oc st) rfl hK
theorem ld_did_rep {m : Ms.M} {mv : Bool} {r : Rp} {oa : Option Addr} {on oc : Nat} {st : Option Nat} (x : Operand) (ho : o.op = .load 43 x) (hx : a.eval x = .pointer (some ⟨g, 12, none⟩)) (h : Lies w g 62 (dcl m mv r oa on oc st)) (hK : K (a.put o.dst r.v) w) : o.wp Try.prog a w K Qq :=
  Wh.wp_load Try.isAgg43 Try.sizeOf43 x ho hx h (by simp) r.cl rfl hK
end
theorem neq_call (y : Cl) (w : World) : (binOp .neq 25 y.val y.val).run Try.prog w = .ok (.bool false) w := by
  simp [go_sem]
/-- it took note of its reply -/
def Took (w0 : World) (E : Ev) (R : Nat → Nat → Prop) (w : World) (s : St) (r : Rp) (e : Ending) (w' : World) : Prop :=
  e = .returned (.bool true) ∧ ∃ z R', z.code = r.code ∧ z.P = r.P ∧ CM w0 E { s with g := { s.g with ask := 2, r := z } } R' w' ∧ On TT R w R' w'
section
variable {w0 w w' : World} {E : Ev} {s s' : St} {R R' : Nat → Nat → Prop} {m : Ms.M} {mv : Bool} {r : Rp} {oa : Option Addr} {on oc : Nat} {st : Option Nat}
set_option maxHeartbeats 4000000 in
/-- it awaits nothing -/
theorem answer_no {y : Cl} (H : Hid (CM w0 E s R w)) (hk : Hid (E.cs[s.rs.length]? = some y)) (ha : Hid ((s.g.ask == 1) = false)) : Calls Try.prog 43 #[gp E.x, dval m mv r oa on oc st] w fun e w' => e = .returned (.bool false) ∧ Below w.heap.size w w' := by
  obtain ⟨W, hW, d0, k0⟩ := alloc1 w 62 (dcl m mv r oa on oc st)
  obtain ⟨g, hg⟩ : ∃ g, w.heap.size = g := ⟨_, rfl⟩
  have D0 := Lib.hid (Bo.new H.out.fam d0 (Nat.le_refl _))
  have F0 := Lib.hid H.out.fam
  have H0 := Lib.hid (H.out.next k0)
  have O0 : Hid (On TT R w R W) := Lib.hid (On.below H.out.fam k0)
  have OLD := Lib.hid H.out.old
  have LO : Hid (w0.heap.size ≤ w.heap.size) := Lib.hid H.out.fam.below.size
  have HG := Lib.hid hg
  have B0 := Lib.hid k0
  rw [hg] at D0
  go_enter Try.func43, Try.ntmps43
  go_upto_region 1 with fail
  clear hg hW d0 k0 H
  obtain ⟨cv, rv, q0, -⟩ := H0.out.client
  go_wp2_with fail
  refine (next_some (Lib.hid q0) hk.out).mono ?_
  rintro r1 w1 ⟨rfl, k1⟩
  clear q0
  dsimp only
  go_upto_region 2 with fail
  obtain ⟨W2, hW2, y2, k2⟩ := alloc1 w1 25 y.cl
  obtain ⟨d, hd⟩ : ∃ d, w1.heap.size = d := ⟨_, rfl⟩
  rw [show w1.alloc (Obj.cells #[.int .i64 y.op, .string y.key, .int .i64 y.t, .int .i64 y.v, .int .i64 y.e, .int .i64 y.u, .int .i64 y.s] 25) = W2 from hW2, hd]
  have f1 := H0.out.fam.next k1
  have Y1 := Lib.hid (Bo.new f1 y2 (Nat.le_refl _))
  have D1 := Lib.hid ((D0.out.next k1).next k2)
  have H1 := Lib.hid ((H0.out.next k1).next k2)
  have O1 := Lib.hid (O0.out.trans (On.below H0.out.fam (after k1 k2)))
  have B1 := Lib.hid (after B0.out (after k1 k2))
  rw [hd] at Y1
  clear hW2 hd y2 k1 k2 f1 H0 D0 O0 B0
  obtain ⟨cv, rv, q1, -⟩ := H1.out.client
  have c0 := q1.lies.cell (i := 0) rfl
  have c4 := q1.lies.cell (i := 4) rfl
  clear q1
  have d1 := D1.out.lies.cell (i := 1) rfl
  have qa : (s.g.ask != 1) = true := by have := ha.out; simp [bne, this]
  go_quiet (fail)
  go_wp2
  go_ret
  exact ⟨rfl, after B1.out (Ct.below_drewN _ _)⟩
set_option maxHeartbeats 4000000 in
/-- its Ask came to Moved -/
theorem answer_moved {y : Cl} (H : Hid (CM w0 E s R w)) (hk : Hid (E.cs[s.rs.length]? = some y)) (ha : Hid (s.g.ask = 1)) (hm : Hid (m.fr = E.num)) (hy : Hid (m.call = y)) (hv : Hid (mv = true)) : Calls Try.prog 43 #[gp E.x, dval m mv r oa on oc st] w fun e w' => e = .returned (.bool true) ∧ ∃ R', CM w0 E { s with g := { s.g with ask := 3 } } R' w' ∧ On TT R w R' w' := by
  obtain ⟨kind, fr, call, group, mst⟩ := m
  obtain rfl : fr = E.num := hm.out
  obtain rfl : call = y := hy.out
  obtain rfl : mv = true := hv.out
  clear hm hy hv
  obtain ⟨W, hW, d0, k0⟩ := alloc1 w 62 (dcl ⟨kind, E.num, call, group, mst⟩ true r oa on oc st)
  obtain ⟨g, hg⟩ : ∃ g, w.heap.size = g := ⟨_, rfl⟩
  have D0 := Lib.hid (Bo.new H.out.fam d0 (Nat.le_refl _))
  have F0 := Lib.hid H.out.fam
  have H0 := Lib.hid (H.out.next k0)
  have O0 : Hid (On TT R w R W) := Lib.hid (On.below H.out.fam k0)
  have OLD := Lib.hid H.out.old
  have LO : Hid (w0.heap.size ≤ w.heap.size) := Lib.hid H.out.fam.below.size
  have HG := Lib.hid hg
  have B0 := Lib.hid k0
  rw [hg] at D0
  go_enter Try.func43, Try.ntmps43
  go_upto_region 1 with fail
  clear hg hW d0 k0 H
  obtain ⟨cv, rv, q0, -⟩ := H0.out.client
  go_wp2_with fail
  refine (next_some (Lib.hid q0) hk.out).mono ?_
  rintro r1 w1 ⟨rfl, k1⟩
  clear q0
  dsimp only
  go_upto_region 2 with fail
  obtain ⟨W2, hW2, y2, k2⟩ := alloc1 w1 25 call.cl
  obtain ⟨d, hd⟩ : ∃ d, w1.heap.size = d := ⟨_, rfl⟩
  rw [show w1.alloc (Obj.cells #[.int .i64 call.op, .string call.key, .int .i64 call.t, .int .i64 call.v, .int .i64 call.e, .int .i64 call.u, .int .i64 call.s] 25) = W2 from hW2, hd]
  have f1 := H0.out.fam.next k1
  have Y1 := Lib.hid (Bo.new f1 y2 (Nat.le_refl _))
  have D1 := Lib.hid ((D0.out.next k1).next k2)
  have H1 := Lib.hid ((H0.out.next k1).next k2)
  have O1 := Lib.hid (O0.out.trans (On.below H0.out.fam (after k1 k2)))
  have B1 := Lib.hid (after B0.out (after k1 k2))
  rw [hd] at Y1
  clear hW2 hd y2 k1 k2 f1 H0 D0 O0 B0
  obtain ⟨cv, rv, q1, -⟩ := H1.out.client
  have c0 := q1.lies.cell (i := 0) rfl
  have c4 := q1.lies.cell (i := 4) rfl
  clear q1
  have d1 := D1.out.lies.cell (i := 1) rfl
  rw [ha.out] at c4
  have d2 := D1.out.lies.cell (i := 2) rfl
  have d3 := D1.out.lies.cell (i := 3) rfl
  have d4 := D1.out.lies.cell (i := 4) rfl
  have d5 := D1.out.lies.cell (i := 5) rfl
  have d6 := D1.out.lies.cell (i := 6) rfl
  have d7 := D1.out.lies.cell (i := 7) rfl
  have d8 := D1.out.lies.cell (i := 8) rfl
  have d11 := D1.out.lies.cell (i := 11) rfl
  have y0 := Y1.out.lies.cell (i := 0) rfl
  have y1 := Y1.out.lies.cell (i := 1) rfl
  have y2 := Y1.out.lies.cell (i := 2) rfl
  have y3 := Y1.out.lies.cell (i := 3) rfl
  have y4 := Y1.out.lies.cell (i := 4) rfl
  have y5 := Y1.out.lies.cell (i := 5) rfl
  have y6 := Y1.out.lies.cell (i := 6) rfl
  have nq := fun w => neq_call call w
  go_quiet (fail)
  generalize hw3 : W2.drewN _ = w3
  have k3 : Below W2.heap.size W2 w3 := by rw [← hw3]; exact Ct.below_drewN _ _
  have H3 := Lib.hid (H1.out.next k3)
  have O3 := Lib.hid (O1.out.trans (On.below H1.out.fam k3))
  have D3 := Lib.hid (D1.out.next k3)
  have d11 := D3.out.lies.cell (i := 11) rfl
  obtain ⟨cv, rv, q3, -⟩ := H3.out.client
  have c4 := q3.lies.cell (i := 4) rfl
  have p4 := q3.lies.open_ 4
  clear q3 k3 hw3
  go_wp2
  go_ret
  obtain ⟨R1, h2, o2⟩ := H3.out.cell (j := 4) (v := .int .i64 3) (g' := { s.g with ask := 3 }) (fun _ _ => rfl) rfl (.inr rfl)
  exact ⟨rfl, R1, h2, O3.out.trans o2⟩
set_option maxHeartbeats 4000000 in
/-- .. to a reply -/
theorem answer_ok {y : Cl} (H : Hid (CM w0 E s R w)) (hk : Hid (E.cs[s.rs.length]? = some y)) (ha : Hid (s.g.ask = 1)) (hm : Hid (m.fr = E.num)) (hy : Hid (m.call = y)) (hv : Hid (mv = false)) (Y : Hid (Out.Rd w r.pv r.P)) (hn : r.P.length ≤ 9000) : Calls Try.prog 43 #[gp E.x, dval m mv r oa on oc st] w (Took w0 E R w s r) := by
  obtain ⟨kind, fr, call, group, mst⟩ := m
  obtain rfl : fr = E.num := hm.out
  obtain rfl : call = y := hy.out
  obtain rfl : mv = false := hv.out
  clear hm hy hv
  obtain ⟨W, hW, d0, k0⟩ := alloc1 w 62 (dcl ⟨kind, E.num, call, group, mst⟩ false r oa on oc st)
  obtain ⟨g, hg⟩ : ∃ g, w.heap.size = g := ⟨_, rfl⟩
  have D0 := Lib.hid (Bo.new H.out.fam d0 (Nat.le_refl _))
  have F0 := Lib.hid H.out.fam
  have H0 := Lib.hid (H.out.next k0)
  have O0 : Hid (On TT R w R W) := Lib.hid (On.below H.out.fam k0)
  have OLD := Lib.hid H.out.old
  have LO : Hid (w0.heap.size ≤ w.heap.size) := Lib.hid H.out.fam.below.size
  have HG := Lib.hid hg
  have B0 := Lib.hid k0
  rw [hg] at D0
  go_enter Try.func43, Try.ntmps43
  go_upto_region 1 with fail
  clear hg hW d0 k0 H
  obtain ⟨cv, rv, q0, -⟩ := H0.out.client
  go_wp2_with fail
  refine (next_some (Lib.hid q0) hk.out).mono ?_
  rintro r1 w1 ⟨rfl, k1⟩
  clear q0
  dsimp only
  go_upto_region 2 with fail
  obtain ⟨W2, hW2, y2, k2⟩ := alloc1 w1 25 call.cl
  obtain ⟨d, hd⟩ : ∃ d, w1.heap.size = d := ⟨_, rfl⟩
  rw [show w1.alloc (Obj.cells #[.int .i64 call.op, .string call.key, .int .i64 call.t, .int .i64 call.v, .int .i64 call.e, .int .i64 call.u, .int .i64 call.s] 25) = W2 from hW2, hd]
  have f1 := H0.out.fam.next k1
  have Y1 := Lib.hid (Bo.new f1 y2 (Nat.le_refl _))
  have D1 := Lib.hid ((D0.out.next k1).next k2)
  have H1 := Lib.hid ((H0.out.next k1).next k2)
  have O1 := Lib.hid (O0.out.trans (On.below H0.out.fam (after k1 k2)))
  have B1 := Lib.hid (after B0.out (after k1 k2))
  rw [hd] at Y1
  clear hW2 hd y2 k1 k2 f1 H0 D0 O0 B0
  obtain ⟨cv, rv, q1, -⟩ := H1.out.client
  have c0 := q1.lies.cell (i := 0) rfl
  have c4 := q1.lies.cell (i := 4) rfl
  clear q1
  have d1 := D1.out.lies.cell (i := 1) rfl
  rw [ha.out] at c4
  have d2 := D1.out.lies.cell (i := 2) rfl
  have d3 := D1.out.lies.cell (i := 3) rfl
  have d4 := D1.out.lies.cell (i := 4) rfl
  have d5 := D1.out.lies.cell (i := 5) rfl
  have d6 := D1.out.lies.cell (i := 6) rfl
  have d7 := D1.out.lies.cell (i := 7) rfl
  have d8 := D1.out.lies.cell (i := 8) rfl
  have d11 := D1.out.lies.cell (i := 11) rfl
  have y0 := Y1.out.lies.cell (i := 0) rfl
  have y1 := Y1.out.lies.cell (i := 1) rfl
  have y2 := Y1.out.lies.cell (i := 2) rfl
  have y3 := Y1.out.lies.cell (i := 3) rfl
  have y4 := Y1.out.lies.cell (i := 4) rfl
  have y5 := Y1.out.lies.cell (i := 5) rfl
  have y6 := Y1.out.lies.cell (i := 6) rfl
  have nq := fun w => neq_call call w
  go_quiet (fail)
  generalize hw3 : W2.drewN _ = w3
  have k3 : Below W2.heap.size W2 w3 := by rw [← hw3]; exact Ct.below_drewN _ _
  have H3 := Lib.hid (H1.out.next k3)
  have O3 := Lib.hid (O1.out.trans (On.below H1.out.fam k3))
  have D3 := Lib.hid (D1.out.next k3)
  have Y3 := Lib.hid (Y.out.next (after B1.out k3))
  have d11 := D3.out.lies.cell (i := 11) rfl
  clear k3 hw3 c0 c4 d1 d2 d3 d4 d5 d6 d7 d8 y0 y1 y2 y3 y4 y5 y6 nq H1 O1 D1 Y1 B1
  go_wp2_with (first
    | (refine wpList_plain rfl fun K' hK' => ld_did_rep (r := r) _ rfl rfl D3.out.lies (hK' _ _ ?_))
    | fail)
  refine (apart_ok r w3 Y3 hn).mono ?_
  rintro r1 w4 ⟨z, rfl, e1, e2, o4, k4⟩
  have H4 := Lib.hid (H3.out.next k4)
  have O4 := Lib.hid (O3.out.trans (On.below H3.out.fam k4))
  have V4 := Lib.hid (VB.new H3.out.fam k4 o4)
  have EE := Lib.hid (And.intro e1 e2)
  obtain ⟨cv, rv, q4, hr4⟩ := H4.out.client
  have Q4 := Lib.hid (And.intro q4 hr4)
  have c4 := q4.lies.cell (i := 4) rfl
  have p4 := q4.lies.open_ 4
  clear q4 k4 o4 e1 e2 d11 hr4
  dsimp only
  go_wp2_with (first
    | (refine wpList_plain rfl fun K' hK' => Wh.wp_store (off := 5) Try.sizeOf43 _ _ rfl rfl rfl (Q4.out.1.lies.put 4 (.int .i64 2)) (by simp) rfl (rok.one z) (ccl E.num cv rv { s.g with ask := 2, r := z }) rfl (fun w5 z1 z2 => hK' _ _ ?_))
    | fail)
  go_ret
  obtain ⟨q5, m5⟩ := Q4.out.1.over z1 (grown_trans (grown_set w4 E.x 4 (.int .i64 2)) z2)
  have m5' : Moves (R 18) (CF E.x cv rv) w4 w5 := by rw [Q4.out.2]; exact m5
  obtain ⟨R5, c5, o5⟩ := H4.out.on18 q5 m5' (fun r hr => .inl hr) (.inr V4.out) (.inr rfl)
  exact ⟨rfl, z, R5, EE.out.1, EE.out.2, c5, O4.out.trans o5⟩
set_option maxHeartbeats 4000000 in
theorem did_no {y : Cl} (H : Hid (CM w0 E s R w)) (hk : Hid (E.cs[s.rs.length]? = some y)) (ha : Hid ((s.g.ask == 1) = false)) (h1 : Hid (m.kind = 1)) : Calls Try.prog 20 #[gp E.x, dval m mv r oa on oc st] w fun e w' => e = .returned (.bool false) ∧ Below w.heap.size w w' := by
  obtain ⟨W, hW, d0, k0⟩ := alloc1 w 62 (dcl m mv r oa on oc st)
  obtain ⟨g, hg⟩ : ∃ g, w.heap.size = g := ⟨_, rfl⟩
  have D0 := Lib.hid (Bo.new H.out.fam d0 (Nat.le_refl _))
  have F0 := Lib.hid H.out.fam
  have H0 := Lib.hid (H.out.next k0)
  have O0 : Hid (On TT R w R W) := Lib.hid (On.below H.out.fam k0)
  have OLD := Lib.hid H.out.old
  have LO : Hid (w0.heap.size ≤ w.heap.size) := Lib.hid H.out.fam.below.size
  have HG := Lib.hid hg
  have B0 := Lib.hid k0
  rw [hg] at D0
  go_enter Try.func20, Try.ntmps20
  go_upto_region 1 with fail
  clear hg hW d0 k0 H
  have k0 := D0.out.lies.cell (i := 0) rfl
  rw [h1.out] at k0
  go_wp2_with (first
    | (refine wpList_plain rfl fun K' hK' => ld_did _ rfl rfl D0.out.lies (hK' _ _ ?_))
    | fail)
  refine (answer_no H0 hk ha).mono ?_
  rintro r1 w1 ⟨rfl, k1⟩
  dsimp only
  go_wp2
  go_ret
  exact ⟨rfl, after B0.out k1⟩
set_option maxHeartbeats 4000000 in
theorem did_moved {y : Cl} (H : Hid (CM w0 E s R w)) (hk : Hid (E.cs[s.rs.length]? = some y)) (ha : Hid (s.g.ask = 1)) (h1 : Hid (m.kind = 1)) (hm : Hid (m.fr = E.num)) (hy : Hid (m.call = y)) (hv : Hid (mv = true)) : Calls Try.prog 20 #[gp E.x, dval m mv r oa on oc st] w fun e w' => e = .returned (.bool true) ∧ ∃ R', CM w0 E { s with g := { s.g with ask := 3 } } R' w' ∧ On TT R w R' w' := by
  obtain ⟨W, hW, d0, k0⟩ := alloc1 w 62 (dcl m mv r oa on oc st)
  obtain ⟨g, hg⟩ : ∃ g, w.heap.size = g := ⟨_, rfl⟩
  have D0 := Lib.hid (Bo.new H.out.fam d0 (Nat.le_refl _))
  have F0 := Lib.hid H.out.fam
  have H0 := Lib.hid (H.out.next k0)
  have O0 : Hid (On TT R w R W) := Lib.hid (On.below H.out.fam k0)
  have OLD := Lib.hid H.out.old
  have LO : Hid (w0.heap.size ≤ w.heap.size) := Lib.hid H.out.fam.below.size
  have HG := Lib.hid hg
  have B0 := Lib.hid k0
  rw [hg] at D0
  go_enter Try.func20, Try.ntmps20
  go_upto_region 1 with fail
  clear hg hW d0 k0 H
  have k0 := D0.out.lies.cell (i := 0) rfl
  rw [h1.out] at k0
  go_wp2_with (first
    | (refine wpList_plain rfl fun K' hK' => ld_did _ rfl rfl D0.out.lies (hK' _ _ ?_))
    | fail)
  refine (answer_moved H0 hk ha hm hy hv).mono ?_
  rintro r1 w1 ⟨rfl, R1, c1, o1⟩
  dsimp only
  go_wp2
  go_ret
  exact ⟨rfl, R1, c1, O0.out.trans o1⟩
set_option maxHeartbeats 4000000 in
theorem did_ok {y : Cl} (H : Hid (CM w0 E s R w)) (hk : Hid (E.cs[s.rs.length]? = some y)) (ha : Hid (s.g.ask = 1)) (h1 : Hid (m.kind = 1)) (hm : Hid (m.fr = E.num)) (hy : Hid (m.call = y)) (hv : Hid (mv = false)) (Y : Hid (Out.Rd w r.pv r.P)) (hn : r.P.length ≤ 9000) : Calls Try.prog 20 #[gp E.x, dval m mv r oa on oc st] w (Took w0 E R w s r) := by
  obtain ⟨W, hW, d0, k0⟩ := alloc1 w 62 (dcl m mv r oa on oc st)
  obtain ⟨g, hg⟩ : ∃ g, w.heap.size = g := ⟨_, rfl⟩
  have D0 := Lib.hid (Bo.new H.out.fam d0 (Nat.le_refl _))
  have F0 := Lib.hid H.out.fam
  have H0 := Lib.hid (H.out.next k0)
  have O0 : Hid (On TT R w R W) := Lib.hid (On.below H.out.fam k0)
  have OLD := Lib.hid H.out.old
  have LO : Hid (w0.heap.size ≤ w.heap.size) := Lib.hid H.out.fam.below.size
  have HG := Lib.hid hg
  have B0 := Lib.hid k0
  rw [hg] at D0
  go_enter Try.func20, Try.ntmps20
  go_upto_region 1 with fail
  clear hg hW d0 k0 H
  have k0 := D0.out.lies.cell (i := 0) rfl
  rw [h1.out] at k0
  go_wp2_with (first
    | (refine wpList_plain rfl fun K' hK' => ld_did _ rfl rfl D0.out.lies (hK' _ _ ?_))
    | fail)
  refine (answer_ok H0 hk ha hm hy hv (Lib.hid (Y.out.next B0.out)) hn).mono ?_
  rintro r1 w1 ⟨rfl, z, R1, e1, e2, c1, o1⟩
  dsimp only
  go_wp2
  go_ret
  exact ⟨rfl, z, R1, e1, e2, c1, O0.out.trans o1⟩
set_option maxHeartbeats 4000000 in
/-- no Mark is due -/
theorem did_mark_no (H : Hid (CM w0 E s R w)) (h1 : Hid (m.kind = 2)) (hd : Hid (s.g.due = 0)) : Calls Try.prog 20 #[gp E.x, dval m mv r oa on oc st] w fun e w' => e = .returned (.bool false) ∧ Below w.heap.size w w' := by
  obtain ⟨W, hW, d0, k0⟩ := alloc1 w 62 (dcl m mv r oa on oc st)
  obtain ⟨g, hg⟩ : ∃ g, w.heap.size = g := ⟨_, rfl⟩
  have D0 := Lib.hid (Bo.new H.out.fam d0 (Nat.le_refl _))
  have F0 := Lib.hid H.out.fam
  have H0 := Lib.hid (H.out.next k0)
  have O0 : Hid (On TT R w R W) := Lib.hid (On.below H.out.fam k0)
  have OLD := Lib.hid H.out.old
  have LO : Hid (w0.heap.size ≤ w.heap.size) := Lib.hid H.out.fam.below.size
  have HG := Lib.hid hg
  have B0 := Lib.hid k0
  rw [hg] at D0
  go_enter Try.func20, Try.ntmps20
  go_upto_region 1 with fail
  clear hg hW d0 k0 H
  have k0 := D0.out.lies.cell (i := 0) rfl
  rw [h1.out] at k0
  obtain ⟨cv, rv, q0, -⟩ := H0.out.client
  have c9 := q0.lies.cell (i := 9) rfl
  rw [hd.out] at c9
  clear q0
  go_wp2
  go_ret
  exact ⟨rfl, B0.out⟩
set_option maxHeartbeats 4000000 in
/-- a Mark that was due is done -/
theorem did_mark {n : Nat} (H : Hid (CM w0 E s R w)) (h1 : Hid (m.kind = 2)) (hd : Hid (s.g.due = (n : Int) + 1)) (hn : n ≤ 100) : Calls Try.prog 20 #[gp E.x, dval m mv r oa on oc st] w fun e w' => e = .returned (.bool true) ∧ ∃ R', CM w0 E { s with g := { s.g with due := n } } R' w' ∧ On TT R w R' w' := by
  obtain ⟨W, hW, d0, k0⟩ := alloc1 w 62 (dcl m mv r oa on oc st)
  obtain ⟨g, hg⟩ : ∃ g, w.heap.size = g := ⟨_, rfl⟩
  have D0 := Lib.hid (Bo.new H.out.fam d0 (Nat.le_refl _))
  have F0 := Lib.hid H.out.fam
  have H0 := Lib.hid (H.out.next k0)
  have O0 : Hid (On TT R w R W) := Lib.hid (On.below H.out.fam k0)
  have OLD := Lib.hid H.out.old
  have LO : Hid (w0.heap.size ≤ w.heap.size) := Lib.hid H.out.fam.below.size
  have HG := Lib.hid hg
  have B0 := Lib.hid k0
  rw [hg] at D0
  go_enter Try.func20, Try.ntmps20
  go_upto_region 1 with fail
  clear hg hW d0 k0 H
  have k0 := D0.out.lies.cell (i := 0) rfl
  rw [h1.out] at k0
  obtain ⟨cv, rv, q0, -⟩ := H0.out.client
  have c9 := q0.lies.cell (i := 9) rfl
  have p9 := q0.lies.open_ 9
  rw [hd.out] at c9
  have e9 : ((n : Int) + 1 == 0) = false := by simp; omega
  clear q0
  go_wp2
  go_ret
  obtain ⟨R1, h2, o2⟩ := H0.out.cell (j := 9) (v := .int .i64 (n : Int)) (g' := { s.g with due := n }) (fun _ _ => rfl) rfl (.inr rfl)
  refine ⟨rfl, R1, ?_, O0.out.trans ?_⟩
  · simpa using h2
  · simpa using o2
set_option maxHeartbeats 4000000 in
/-- there is no handoff -/
theorem did_hand_no (H : Hid (CM w0 E s R w)) (h1 : Hid ((m.kind == 1) = false)) (h2 : Hid ((m.kind == 2) = false)) (hd : Hid (s.g.hand = none)) : Calls Try.prog 20 #[gp E.x, dval m mv r oa on oc st] w fun e w' => e = .returned (.bool false) ∧ Below w.heap.size w w' := by
  obtain ⟨W, hW, d0, k0⟩ := alloc1 w 62 (dcl m mv r oa on oc st)
  obtain ⟨g, hg⟩ : ∃ g, w.heap.size = g := ⟨_, rfl⟩
  have D0 := Lib.hid (Bo.new H.out.fam d0 (Nat.le_refl _))
  have F0 := Lib.hid H.out.fam
  have H0 := Lib.hid (H.out.next k0)
  have O0 : Hid (On TT R w R W) := Lib.hid (On.below H.out.fam k0)
  have OLD := Lib.hid H.out.old
  have LO : Hid (w0.heap.size ≤ w.heap.size) := Lib.hid H.out.fam.below.size
  have HG := Lib.hid hg
  have B0 := Lib.hid k0
  rw [hg] at D0
  go_enter Try.func20, Try.ntmps20
  go_upto_region 1 with fail
  clear hg hW d0 k0 H
  have k0 := D0.out.lies.cell (i := 0) rfl
  have e1 := h1.out
  have e2 := h2.out
  obtain ⟨cv, rv, q0, -⟩ := H0.out.client
  have c10 := q0.lies.cell (i := 10) rfl
  rw [hd.out] at c10
  clear q0
  go_wp2_with fail
  go_quiet (fail)
  go_wp2
  go_ret
  exact ⟨rfl, after B0.out (Ct.below_drewN _ _)⟩
end
end Cn
end Go.Proofs.Ytjncogjafljbiaa
