/-
  ClientTold holds: for any config, call, reply and number of askings the law answers true (no conditions).
-/
import Derived.Test.YtjncogjafljbiaaClUp
import Derived.Test.YtjncogjafljbiaaClDid
import Derived.Test.YtjncogjafljbiaaClNew
import Derived.Test.YtjncogjafljbiaaWhen
import Derived.Test.YtjncogjafljbiaaLaid
import Derived.Deep.CutBlock
import Derived.StillTailTactics
namespace Go.Proofs.Ytjncogjafljbiaa
open Go.ChangeShapes Go.WideShapes Go.ChangeAt Go.RowKit
set_option linter.unusedVariables false
set_option maxRecDepth 100000
namespace Cn
open Small Foot Fm Ca
theorem one_call {w : World} {b : Nat} {x : Cl} (h : Lies w b 25 x.cl) : Sl.Is Ck w (.slice (some ⟨b, 0, none⟩) 1 1) [x] b := Sl.Is.one cok h
theorem keyed_grp {r : Int} {x : Cl} (hk : kd x.op = true) (hr : 1 ≤ r) : 0 ≤ grpOf r x ∧ grpOf r x < r := by
  unfold grpOf
  rw [if_pos hk]
  have := Fnv.grp_in (Fnv.num x.key.data.toList) r
  exact ⟨this.1, this.2 hr⟩
theorem bd1 (m : Ms.M) (w : World) : (Instr.build 62 #[(0, Ms.val m)]).run Try.prog w = .ok (dval m false r0 none 0 0 none) w := by kernel_rfl
theorem bd2 (m : Ms.M) (w : World) : (Instr.build 62 #[(0, Ms.val m), (1, .bool true)]).run Try.prog w = .ok (dval m true r0 none 0 0 none) w := by kernel_rfl
theorem bd3 (m : Ms.M) (r : Rp) (w : World) : (Instr.build 62 #[(0, Ms.val m), (2, r.v)]).run Try.prog w = .ok (dval m false r none 0 0 none) w := by kernel_rfl
section
variable {o : Oper} {a : Act} {w : World} {K : Act → World → Prop} {Qq : Exit → Act → World → Prop} {k : Int}
theorem wp_bd1 (m : Ms.M) (x : Operand) (ho : o.op = .build 62 #[(0, x)]) (hx : a.eval x = Ms.val m) (hK : K (a.put o.dst (dval m false r0 none 0 0 none)) w) : o.wp Try.prog a w K Qq := by
  unfold Oper.wp execOp
  simp only [ho, List.map_toArray, List.map_cons, List.map_nil, hx, Sem.run_bind, Sem.run_pure, Result.andThen_ok, bd1]
  exact hK
theorem wp_bd2 (m : Ms.M) (x : Operand) (ho : o.op = .build 62 #[(0, x), (1, .const (.bool true))]) (hx : a.eval x = Ms.val m) (hK : K (a.put o.dst (dval m true r0 none 0 0 none)) w) : o.wp Try.prog a w K Qq := by
  unfold Oper.wp execOp
  simp only [ho, List.map_toArray, List.map_cons, List.map_nil, hx, show a.eval (.const (.bool true)) = .bool true from rfl, Sem.run_bind, Sem.run_pure, Result.andThen_ok, bd2]
  exact hK
theorem wp_bd3 (m : Ms.M) (r : Rp) (x y : Operand) (ho : o.op = .build 62 #[(0, x), (2, y)]) (hx : a.eval x = Ms.val m) (hy : a.eval y = r.v) (hK : K (a.put o.dst (dval m false r none 0 0 none)) w) : o.wp Try.prog a w K Qq := by
  unfold Oper.wp execOp
  simp only [ho, List.map_toArray, List.map_cons, List.map_nil, hx, hy, Sem.run_bind, Sem.run_pure, Result.andThen_ok, bd3]
  exact hK
end
/-- the table at the k-th asking: group i's owner is a mailbox that there is -/
def MOk (cf : Cf) (i k : Nat) (M : List Ow.O) : Prop := ∃ o, M[i]? = some o ∧ o.m = false ∧ 0 ≤ o.s ∧ o.s < cf.h ∧ 0 ≤ o.v ∧ o.v ≤ k
/-- ahead of the k-th asking -/
def sA (cf : Cf) (M : List Ow.O) (k : Nat) : St := { st0 cf with M := M, g := if k = 0 then g0 else { g0 with b := true, ask := 3 } }
/-- it has asked mailbox j -/
def sP (cf : Cf) (M : List Ow.O) (j : Nat) (x : Cl) : St := { st0 cf with M := M, L := fun q => if q = j then [⟨1, 1, x, 0, none⟩] else [], g := { g0 with b := true, ask := 1 } }
/-- the mailbox is empty again -/
def sQ (cf : Cf) (M : List Ow.O) : St := { st0 cf with M := M, g := { g0 with b := true, ask := 1 } }
/-- it was told Moved -/
def sN (cf : Cf) (M : List Ow.O) : St := { st0 cf with M := M, g := { g0 with b := true, ask := 3 } }
/-- it was told its reply -/
def sD (cf : Cf) (M : List Ow.O) (z : Rp) : St := { st0 cf with M := M, g := { g0 with b := true, ask := 2, r := z } }
section
variable {w0 w : World} {cf : Cf} {gc b bn bc xp : Nat} {ba : Option Addr} {bs : List Nat} {x : Cl} {M : List Ow.O} {R : Nat → Nat → Prop} {i k j g : Nat} {o : Ow.O}
theorem step_put (H : Hid (CM w0 ⟨cf, gc, b, ba, bn, bc, bs, xp, 1, [x]⟩ (sA cf M k) R w)) (fc : Hid cf.Fit) (fx : Hid x.Fit) (hm : mayC cf x) (hc : 1 ≤ cf.c ∧ cf.c ≤ 16) (hk : kd x.op = true) (hi : grpOf cf.r x = i) (ho : M[i]? = some o) (om : o.m = false) (oj : o.s = j) (hg : bs[j]? = some g) :
    Calls Try.prog 16 #[gp xp, Ev.v ⟨cf, gc, b, ba, bn, bc, bs, xp, 1, [x]⟩] w (Went w0 ⟨cf, gc, b, ba, bn, bc, bs, xp, 1, [x]⟩ R w (sA cf M k) (sP cf M j x) ⟨true, (k : Int) == 0, false, false, r0⟩) := by
  by_cases h0 : k = 0
  · subst h0
    have wy : Way ⟨cf, gc, b, ba, bn, bc, bs, xp, 1, [x]⟩ (sA cf M 0).beg x tb (sP cf M j x) ⟨true, true, false, false, r0⟩ :=
      .put (i := i) (j := j) (g := g) (o := o) rfl hi ho om oj hg rfl (show ((0 : Nat) : Int) < cf.c by omega)
    exact step_key_new (y := x) H (Lib.hid rfl) (Lib.hid (.inl rfl)) (by show 0 ≤ 1000; omega) fc fx (Lib.hid hk) (Lib.hid rfl) (Lib.hid hm) (Lib.hid fun w1 R1 h1 => keyed_st (Lib.hid h1) (Lib.hid (.inl rfl)) (by show 0 ≤ 1000; omega) hc.2 fc fx (Lib.hid rfl) (.first rfl wy))
  · have e : sA cf M k = sN cf M := by unfold sA sN; rw [if_neg h0]
    have e2 : ((k : Int) == 0) = false := by simp; omega
    rw [e] at H ⊢
    rw [e2]
    have wy : Way ⟨cf, gc, b, ba, bn, bc, bs, xp, 1, [x]⟩ { (sN cf M) with g := { (sN cf M).g with ask := 0 } } x { t0 with mv := true } (sP cf M j x) ⟨true, false, false, false, r0⟩ :=
      .put (i := i) (j := j) (g := g) (o := o) rfl hi ho om oj hg rfl (show ((0 : Nat) : Int) < cf.c by omega)
    exact step_key_old (y := x) H (Lib.hid rfl) (Lib.hid (.inl rfl)) (by show 0 ≤ 1000; omega) fc fx (Lib.hid hk) (Lib.hid rfl) (Lib.hid fun w1 R1 h1 => keyed_st (Lib.hid h1) (Lib.hid (.inl rfl)) (by show 0 ≤ 1000; omega) hc.2 fc fx (Lib.hid rfl) (.again rfl wy))
theorem step_done {z : Rp} (H : Hid (CM w0 ⟨cf, gc, b, ba, bn, bc, bs, xp, 1, [x]⟩ (sD cf M z) R w)) (fc : Hid cf.Fit) (fx : Hid x.Fit) (hc : 1 ≤ cf.c ∧ cf.c ≤ 16) (hk : kd x.op = true) (hz : z.P.length ≤ 9000) :
    Calls Try.prog 16 #[gp xp, Ev.v ⟨cf, gc, b, ba, bn, bc, bs, xp, 1, [x]⟩] w (Went w0 ⟨cf, gc, b, ba, bn, bc, bs, xp, 1, [x]⟩ R w (sD cf M z) ((sD cf M z).ended z) ⟨true, false, false, true, z⟩) :=
  step_key_old (y := x) H (Lib.hid rfl) (Lib.hid (.inl rfl)) (by show 0 ≤ 1000; omega) fc fx (Lib.hid hk) (Lib.hid rfl) (Lib.hid fun w1 R1 h1 => keyed_st (Lib.hid h1) (Lib.hid (.inl rfl)) (by show 0 ≤ 1000; omega) hc.2 fc fx (Lib.hid rfl) (.done rfl hz))
end
/-- what the loop keeps -/
def Lp (w0 : World) (E : Ev) (x : Cl) (again : Int) (r : Rp) (i k : Nat) (R : Nat → Nat → Prop) (w : World) : Prop :=
  ((k : Int) ≤ again ∧ ∃ M, MOk E.cf i k M ∧ CM w0 E (sA E.cf M k) R w) ∨ ((k : Int) = again + 1 ∧ ∃ M z, z.code = r.code ∧ z.P = r.P ∧ CM w0 E (sD E.cf M z) R w)
theorem put_none (a : Act) (v : Value) : Act.put a none v = a := rfl
theorem Pt.goes {B : Nat} : Goes (fun a b : World => B ≤ a.heap.size → Below B a b) := ⟨fun _ _ => Below.refl _ _, fun h k q => (h q).trans (k (Nat.le_trans q (h q).size)), fun _ _ => (Below.refl _ _).drew⟩
/-- what a step leaves: the store is one into memory of the statement's own -/
def Pt.S (B j : Nat) (w w' : World) : Prop := if j = 10 then Below B w w' ∧ ∀ (g : Nat) (cs : List Value), cs.length = 3 → Lies w g 64 cs → ∃ cs' : List Value, cs'.length = 3 ∧ Lies w' g 64 cs' else Below w.heap.size w w'
theorem Pt.sub {B j : Nat} {a b : World} (h : Pt.S B j a b) (q : B ≤ a.heap.size) : Below B a b := by
  unfold Pt.S at h
  split at h
  · exact h.1
  · exact h.mono q
theorem Pt.store {B go : Nat} {w wd : World} {vo : List Value} (z : w.grownBy wd (some go)) (h : B ≤ go) (hb : B ≤ w.heap.size) (hl : vo.length = 3) (z1 : Lies wd go 64 vo) : Pt.S B 10 w wd := by
  unfold Pt.S
  rw [if_pos rfl]
  refine ⟨⟨z.os, z.tape, z.output, z.size, fun j hj => z.block j (by omega) fun e => by have := Option.some.inj e; omega⟩, fun g cs h3 l => ?_⟩
  by_cases e : g = go
  · exact ⟨vo, hl, e ▸ z1⟩
  · exact ⟨cs, h3, (z.block g l.lt fun x => e (Option.some.inj x)).trans l⟩
theorem Pt.k {B k : Nat} {ops : Array Oper} {o : Oper} {t : Tmp} {a : Act} {w' : World} {Ψ : Nat → Value → World → Prop} {Kc : Act → World → Prop} (e : o.dst = some t) (hk : k ≠ 10) (hK0 : ∀ v w'', (∀ t, o.dst = none → RelA.slotOf ops k = some t → v = a.tmps.getD t undef) → Ψ k v w'' → Pt.S B k w' w'' → Kc (a.put o.dst v) w'') (v : Value) (w'' : World) (h1 : Ψ k v w'') (h2 : Below w'.heap.size w' w'') : Kc (a.put o.dst v) w'' :=
  hK0 v w'' (fun t' h => by rw [e] at h; cases h) h1 (by unfold Pt.S; rw [if_neg hk]; exact h2)
def Pt (B : Nat) (c : Cf) (x : Cl) (b ge : Nat) (ig : Int) (vo : List Value) (i : Nat) (u : Value) (w : World) : Prop := match i with
  | 0 => u = .pointer (some ⟨ge, 9, none⟩)
  | 1 => u = gp (b + 1)
  | 2 => u = c.val
  | 3 => u = x.val
  | 4 => u = .int .i64 ig
  | 5 => u = .tuple #[Value.agg vo.toArray, .bool true]
  | 6 => u = .tuple #[Value.agg vo.toArray, .bool true]
  | 7 => u = .agg vo.toArray
  | 8 => u = .bool true
  | 9 => ∃ go, u = gp go ∧ B ≤ go ∧ ∃ cs : List Value, cs.length = 3 ∧ Lies w go 64 cs
  | 10 => ∃ go, u = gp go ∧ B ≤ go ∧ Lies w go 64 vo
  | _ => True
theorem Pt.mono (B : Nat) (c : Cf) (x : Cl) (b ge : Nat) (ig : Int) (vo : List Value) {dp : Nat → List Nat} : ∀ (k j : Nat) (v : Value) (w w' : World), j ≠ k → j ∉ dp k → Pt B c x b ge ig vo k v w → Pt.S B j w w' → Pt B c x b ge ig vo k v w'
  | 0, j, v, w, w', _, _, h, _ => h
  | 1, j, v, w, w', _, _, h, _ => h
  | 2, j, v, w, w', _, _, h, _ => h
  | 3, j, v, w, w', _, _, h, _ => h
  | 4, j, v, w, w', _, _, h, _ => h
  | 5, j, v, w, w', _, _, h, _ => h
  | 6, j, v, w, w', _, _, h, _ => h
  | 7, j, v, w, w', _, _, h, _ => h
  | 8, j, v, w, w', _, _, h, _ => h
  | 9, j, v, w, w', _, _, ⟨g, h1, h2, cs, h3, h4⟩, k => by
    unfold Pt.S at k
    split at k
    · obtain ⟨cs', q1, q2⟩ := k.2 g cs h3 h4
      exact ⟨g, h1, h2, cs', q1, q2⟩
    · exact ⟨g, h1, h2, cs, h3, h4.next k⟩
  | 10, j, v, w, w', hj, _, ⟨g, h1, h2, h3⟩, k => by
    unfold Pt.S at k
    rw [if_neg hj] at k
    exact ⟨g, h1, h2, h3.next k⟩
  | i + 11, j, v, w, w', _, _, h, _ => trivial
def Pb (c : Cf) (x : Cl) (g b ge : Nat) (ig kk kh : Int) (i : Nat) (u : Value) (w : World) : Prop := match i with
  | 0 => u = .pointer (some ⟨ge, 9, none⟩)
  | 1 => u = gp (b + 1)
  | 2 => u = c.val
  | 3 => u = x.val
  | 4 => u = .int .i64 ig
  | 5 => u = .int .i64 kk
  | 6 => u = .pointer (some ⟨g, 5, none⟩)
  | 7 => u = .int .i64 c.h
  | 8 => u = .int .i64 kh
  | _ => True
theorem Pb.mono (c : Cf) (x : Cl) (g b ge : Nat) (ig kk kh : Int) : ∀ i u w w', Pb c x g b ge ig kk kh i u w → Below w.heap.size w w' → Pb c x g b ge ig kk kh i u w'
  | 0, u, w, w', h, k => h
  | 1, u, w, w', h, k => h
  | 2, u, w, w', h, k => h
  | 3, u, w, w', h, k => h
  | 4, u, w, w', h, k => h
  | 5, u, w, w', h, k => h
  | 6, u, w, w', h, k => h
  | 7, u, w, w', h, k => h
  | 8, u, w, w', h, k => h
  | i + 9, u, w, w', h, k => trivial
theorem rem_ok {o : Oper} {a : Act} {w : World} {x y : Operand} {k h : Int} (h0 : 0 ≤ k) (h1 : k < 1000) (h2 : 1 ≤ h) (h3 : h < 1000) (ho : o.op = Op.binOp BinOp.rem 3 x y 3) (hx : a.eval x = .int .i64 k) (hy : a.eval y = .int .i64 h) : (execOp a.eval o).run Try.prog w = .ok (.value (.int .i64 (k % h))) w := by
  have z6 : ¬ (h = 0) := by omega
  generalize a.eval = ev at hx hy ⊢
  have m1 : 0 ≤ k % h := Int.emod_nonneg _ z6
  have m2 : k % h < h := Int.emod_lt_of_pos _ (by omega)
  simp [execOp, ho, hx, hy, go_sem, z6]
  exact Int.tmod_eq_emod_of_nonneg h0
def Pz (gt xp rb ro rc : Nat) (y q p : Rp) (i : Nat) (u : Value) (w : World) : Prop := match i with
  | 0 => u = .bool true
  | 1 => u = .bool true
  | 2 => u = .pointer (some ⟨gt, 3, none⟩)
  | 3 => u = .bool true
  | 4 => u = .bool true
  | 5 => u = .bool true
  | 6 => u = .pointer (some ⟨gt, 2, none⟩)
  | 7 => u = .bool false
  | 8 => u = .bool true
  | 9 => u = .bool true
  | 10 => u = .bool true
  | 11 => u = .pointer (some ⟨gt, 4, none⟩)
  | 12 => u = q.v
  | 13 => u = y.v
  | 14 => u = .bool true
  | 15 => u = .bool true
  | 16 => u = .bool true
  | 17 => u = gp xp
  | 18 => u = .bool true
  | 19 => u = .bool true
  | 20 => u = .bool true
  | 21 => u = Value.slice (some ⟨rb, ro, none⟩) 1 rc
  | 22 => u = .int .i64 1
  | 23 => u = .bool true
  | 24 => u = .bool true
  | 25 => u = .bool true
  | 26 => u = Value.slice (some ⟨rb, ro, none⟩) 1 rc
  | 27 => u = .pointer (some ⟨rb, ro, none⟩)
  | 28 => u = p.v
  | 29 => u = y.v
  | 30 => u = .bool true
  | 31 => u = .bool true
  | _ => True
theorem Pz.mono (gt xp rb ro rc : Nat) (y q p : Rp) : ∀ i u w w', Pz gt xp rb ro rc y q p i u w → Below w.heap.size w w' → Pz gt xp rb ro rc y q p i u w'
  | 0, u, w, w', h, k => h
  | 1, u, w, w', h, k => h
  | 2, u, w, w', h, k => h
  | 3, u, w, w', h, k => h
  | 4, u, w, w', h, k => h
  | 5, u, w, w', h, k => h
  | 6, u, w, w', h, k => h
  | 7, u, w, w', h, k => h
  | 8, u, w, w', h, k => h
  | 9, u, w, w', h, k => h
  | 10, u, w, w', h, k => h
  | 11, u, w, w', h, k => h
  | 12, u, w, w', h, k => h
  | 13, u, w, w', h, k => h
  | 14, u, w, w', h, k => h
  | 15, u, w, w', h, k => h
  | 16, u, w, w', h, k => h
  | 17, u, w, w', h, k => h
  | 18, u, w, w', h, k => h
  | 19, u, w, w', h, k => h
  | 20, u, w, w', h, k => h
  | 21, u, w, w', h, k => h
  | 22, u, w, w', h, k => h
  | 23, u, w, w', h, k => h
  | 24, u, w, w', h, k => h
  | 25, u, w, w', h, k => h
  | 26, u, w, w', h, k => h
  | 27, u, w, w', h, k => h
  | 28, u, w, w', h, k => h
  | 29, u, w, w', h, k => h
  | 30, u, w, w', h, k => h
  | 31, u, w, w', h, k => h
  | i + 32, u, w, w', h, k => trivial
end Cn
namespace clientTold
open Small Foot Fm Ca Cn Rel RelG
set_option maxHeartbeats 8000000 in
theorem walk (c : Cf) (fc : c.Fit) (x : Cl) (fx : x.Fit) (a : Int × Value × List Pn) (_ : (Lit.int .i64 a.1).wf = true) (again : Int) (_ : (Lit.int .i64 again).wf = true) (w : World) (wa : Out.Came w a.2) :
    Calls Try.prog 4 #[c.val, x.val, rep a.1 a.2.1, .int .i64 again] w fun r w' => r = .returned (.bool true) ∧ Below w.heap.size w w' := by
  obtain ⟨p, l, L⟩ := a
  have RL : Out.Rd w l L := wa.1
  obtain ⟨AD, cap, hl⟩ := RL.len
  obtain ⟨y, hy⟩ : ∃ y : Rp, y = ⟨p, AD, L.length, cap, L⟩ := ⟨_, rfl⟩
  have YV : (rep p l : Value) = y.v := by rw [hl, hy]
  have YR : Hid (Out.Rd w y.pv y.P) := Lib.hid (by rw [hy]; show Out.Rd w (.slice AD L.length cap) L; rw [← hl]; exact RL)
  have YN : Hid (y.n = y.P.length) := Lib.hid (by rw [hy])
  show Calls Try.prog _ #[c.val, x.val, rep p l, .int .i64 again] w _
  rw [YV]
  clear YV hl hy RL wa
  obtain ⟨W, hW, c0, x0, y0, k0⟩ := alloc3 w 23 25 43 (Sh.fcl c) x.cl y.cl
  obtain ⟨g, hg⟩ : ∃ g, w.heap.size = g := ⟨_, rfl⟩
  have YR0 := Lib.hid (YR.out.next k0)
  have C0 := Lib.hid c0
  have X0 := Lib.hid x0
  have Y0 := Lib.hid y0
  have K0 := Lib.hid k0
  have FC := Lib.hid fc
  have FX := Lib.hid fx
  have HG := Lib.hid hg
  rw [hg] at C0 X0 Y0
  go_enter Try.func4, Try.ntmps4
  go_upto_region 1 with fail
  clear hg hW c0 x0 y0 k0 fc fx YR
  go_wp2_with fail
  refine (up_ok W).mono ?_
  rintro r w1 ⟨rfl, k1⟩
  have C1 := Lib.hid (C0.out.next k1)
  have X1 := Lib.hid (X0.out.next k1)
  have Y1 := Lib.hid (Y0.out.next k1)
  have R1 := Lib.hid (YR0.out.next k1)
  have K1 := Lib.hid (after K0.out k1)
  clear k1 C0 X0 Y0 K0 YR0
  dsimp only
  obtain ⟨fb, hfb⟩ : ∃ fb : Bool, fb = true ↔ mayC c x := by classical exact ⟨decide (mayC c x), by simp⟩
  have FB := Lib.hid hfb
  clear hfb
  go_wp2_with (first
    | (refine wpList_plain rfl fun K' hK' => Wh.wp_load Try.isAgg23 Try.sizeOf23 _ rfl rfl C1.out (Nat.le_refl _) (Sh.fcl c) rfl (hK' _ _ ?_))
    | (refine wpList_plain rfl fun K' hK' => ld_call (y := x) _ rfl rfl X1.out (hK' _ _ ?_))
    | fail)
  refine (Ca.rmay_ok c x w1 fb FB FC.out FX.out).mono ?_
  rintro r w2 ⟨rfl, k2⟩
  have C2 := Lib.hid (C1.out.next k2)
  have X2 := Lib.hid (X1.out.next k2)
  have Y2 := Lib.hid (Y1.out.next k2)
  have R2 := Lib.hid (R1.out.next k2)
  have K2 := Lib.hid (after K1.out k2)
  clear k2 C1 X1 Y1 R1 K1
  dsimp only
  go_wp2_with (first
    | (refine wpList_plain rfl fun K' hK' => ld_call (y := x) _ rfl rfl X2.out (hK' _ _ ?_))
    | fail)
  refine (Ca.rkeyed_ok x w2).mono ?_
  rintro r w3 ⟨rfl, k3⟩
  have C3 := Lib.hid (C2.out.next k3)
  have X3 := Lib.hid (X2.out.next k3)
  have Y3 := Lib.hid (Y2.out.next k3)
  have R3 := Lib.hid (R2.out.next k3)
  have K3 := Lib.hid (after K2.out k3)
  clear k3 C2 X2 Y2 R2 K2
  obtain ⟨kb, hkb⟩ : ∃ kb, kd x.op = kb := ⟨_, rfl⟩
  have KB := Lib.hid hkb
  rw [hkb]
  clear hkb
  dsimp only
  have x1 := X3.out.cell (i := 1) rfl
  have y1 := Y3.out.cell (i := 1) rfl
  rw [YN.out] at y1
  by_cases hf : fb = true ∧ kb = true
  case neg =>
    cases fb
    case false =>
      go_wp2
      go_ret
      exact ⟨rfl, K3.out⟩
    case true =>
      cases kb
      case true => exact absurd ⟨rfl, rfl⟩ hf
      case false =>
        go_wp2
        go_ret
        exact ⟨rfl, K3.out⟩
  obtain ⟨rfl, rfl⟩ := hf
  by_cases hk : 100 < (x.key.size : Int)
  case pos =>
    go_wp2
    go_ret
    exact ⟨rfl, K3.out⟩
  by_cases hn : 20 < (y.P.length : Int)
  case pos =>
    go_wp2
    go_ret
    exact ⟨rfl, K3.out⟩
  by_cases h0 : again < 0
  case pos =>
    go_wp2
    go_ret
    exact ⟨rfl, K3.out⟩
  by_cases h20 : 20 < again
  case pos =>
    go_wp2
    go_ret
    exact ⟨rfl, K3.out⟩
  have HN := Lib.hid (And.intro hk (And.intro hn (And.intro h0 h20)))
  have HM : Hid (mayC c x) := Lib.hid (FB.out.1 rfl)
  go_upto_region 6 with fail
  clear hk hn h0 h20 x1 y1 FB
  go_wp2_with (first
    | (refine wpList_plain rfl fun K' hK' => Wh.wp_load Try.isAgg23 Try.sizeOf23 _ rfl rfl C3.out (Nat.le_refl _) (Sh.fcl c) rfl (hK' _ _ ?_))
    | fail)
  refine (begun_ok c w3 (Lib.hid HM.out.1) FC (Num.fit FC.out.2.1).2).mono ?_
  rintro r w4 ⟨gc, b, wv, ba, bn, bc, bs, ws, R, rfl, h4, hl⟩
  have H4 := Lib.hid h4
  have HL := Lib.hid hl
  clear h4 hl
  dsimp only
  go_upto_region 7 with fail
  have k5 := below1 w4 (Obj.cells (ecl c gc b (.slice ba bn bc)).toArray 32)
  have E5 := Lib.hid (Bo.new H4.out.fam (Lies.new w4 32 (ecl c gc b (.slice ba bn bc))) (Nat.le_refl _))
  have H5 := Lib.hid (H4.out.next k5)
  clear k5 H4
  generalize w4.heap.size = ge at E5 ⊢
  generalize hw5 : w4.alloc _ = w5 at E5 H5 ⊢
  clear hw5
  have X5 := Lib.hid ((H5.out.fam.below.block _ X3.out.lt).trans X3.out : Lies w5 (g + 1) _ _)
  go_wp2_with (first
    | (refine wpList_plain rfl fun K' hK' => ld_call (y := x) _ rfl rfl X5.out (hK' _ _ ?_))
    | fail)
  have O6 := Lib.hid (one_call (Lies.new w5 25 x.cl))
  refine (cnew_ok 1 _ [x] _ _ O6 (by simp)).mono ?_
  rintro r w6 ⟨xp, cv, rfl, q6, f6, k6⟩
  have kk := after (below1 w5 (Obj.cells x.cl.toArray 25)) k6
  obtain ⟨R6, h6, n6⟩ := H5.out.client q6 (fun i hi => Nat.le_trans (below1 w5 (Obj.cells x.cl.toArray 25)).size (f6 i hi)) kk
  have H6 := Lib.hid h6
  have E6 : Hid (Bo R6 w6 ge 32 (Ev.cl ⟨c, gc, b, ba, bn, bc, bs, xp, 1, [x]⟩)) := Lib.hid (E5.out.on n6)
  clear q6 f6 k6 kk n6 h6 O6 X5 E5 H5
  dsimp only
  go_wp2_with (first
    | (refine wpList_plain rfl fun K' hK' => wp_bm1 rfl (hK' _ _ ?_))
    | (refine wpList_plain rfl fun K' hK' => wp_bd1 ⟨1, 0, c00, 0, none⟩ _ rfl rfl (hK' _ _ ?_))
    | fail)
  refine (did_no (m := ⟨1, 0, c00, 0, none⟩) (y := x) H6 (Lib.hid rfl) (Lib.hid rfl) (Lib.hid rfl)).mono ?_
  rintro r w7 ⟨rfl, k7⟩
  have H7 := Lib.hid (H6.out.next k7)
  have E7 := Lib.hid (E6.out.next k7)
  clear k7 H6 E6
  dsimp only
  have hb := fun w => bm1 w 2
  have hd := fun w => bd1 ⟨2, 0, c00, 0, none⟩ w
  go_wp2_with fail
  refine (did_mark_no (m := ⟨2, 0, c00, 0, none⟩) (mv := false) (r := r0) (oa := none) (on := 0) (oc := 0) (st := none) H7 (Lib.hid rfl) (Lib.hid rfl)).mono ?_
  rintro r w8 ⟨rfl, k8⟩
  have H8 := Lib.hid (H7.out.next k8)
  have E8 := Lib.hid (E7.out.next k8)
  clear k8 H7 E7 hb hd
  dsimp only
  have hb := fun w => bm1 w 3
  have hd := fun w => bd1 ⟨3, 0, c00, 0, none⟩ w
  go_wp2_with fail
  refine (did_hand_no (m := ⟨3, 0, c00, 0, none⟩) (mv := false) (r := r0) (oa := none) (on := 0) (oc := 0) (st := none) H8 (Lib.hid rfl) (Lib.hid rfl) (Lib.hid rfl)).mono ?_
  rintro r w9 ⟨rfl, k9⟩
  have H9 := Lib.hid (H8.out.next k9)
  have E9 := Lib.hid (E8.out.next k9)
  clear k9 H8 E8 hb hd
  dsimp only
  have hh : (1 ≤ c.h ∧ c.h ≤ 8) ∧ (1 ≤ c.r ∧ c.r ≤ 16) ∧ 1 ≤ c.c ∧ c.c ≤ 16 := by have q : Asg.may c.k c.s c.l c.g c.z c.h c.r c.c := HM.out.1; unfold Asg.may at q; omega
  have HH := Lib.hid hh
  obtain ⟨i, hi⟩ : ∃ i : Nat, grpOf c.r x = i := ⟨(grpOf c.r x).toNat, by have := keyed_grp (r := c.r) KB.out hh.2.1.1; omega⟩
  have GI := Lib.hid hi
  have M0K : Hid (MOk c i 0 (M0 c)) := Lib.hid (by
    have h1 := keyed_grp (r := c.r) KB.out hh.2.1.1
    have := Ow.ini_at c.h c.r.toNat (i := i) (n := c.r.toNat) (by omega)
    rw [if_pos (by omega)] at this
    exact ⟨_, this, rfl, Int.emod_nonneg _ (by omega), Int.emod_lt_of_pos _ (by omega), by show (0 : Int) ≤ 0; omega, by show (0 : Int) ≤ _; omega⟩)
  clear hh hi
  go_wp2_with fail
  go_loopw [17] (fun s17 wr => ∃ (k : Nat) (Rr : Nat → Nat → Prop), s17 = .int .i64 k ∧ Hid (Lp w3 ⟨c, gc, b, ba, bn, bc, bs, xp, 1, [x]⟩ x again y i k Rr wr) ∧ Hid (Bo Rr wr ge 32 (Ev.cl ⟨c, gc, b, ba, bn, bc, bs, xp, 1, [x]⟩))) (fun s17 _ => (again + 1).toNat - (intOf s17).toNat)
  case atStart => exact ⟨0, R6, rfl, Lib.hid (.inl ⟨by have := HN.out; omega, M0 c, M0K.out, H9.out⟩), E9⟩
  case round =>
    obtain ⟨k, Rr, rfl, HP, Er⟩ := hrel
    clear H9 E9 M0K
    rcases HP.out with ⟨hka, M, mo, hr⟩ | ⟨hka, M, z, zc, zp, hr⟩
    case inl =>
      obtain ⟨o, ho, om, o0, oh, v0, vk⟩ := mo
      have HR := Lib.hid hr
      have HO := Lib.hid (And.intro ho (And.intro om (And.intro o0 (And.intro oh (And.intro v0 vk)))))
      have HKA := Lib.hid hka
      clear ho om o0 oh v0 vk hr HP
      obtain ⟨j, hj⟩ : ∃ j : Nat, o.s = j := ⟨o.s.toNat, by have := HO.out.2.2.1; omega⟩
      have HJ := Lib.hid hj
      obtain ⟨gb, hgb⟩ : ∃ gb, bs[j]? = some gb := ⟨_, List.getElem?_eq_getElem (show j < bs.length by have := HL.out; have e : o.s < c.h := HO.out.2.2.2.1; omega)⟩
      have HGB := Lib.hid hgb
      clear hj hgb
      go_wp2_with (first
        | (refine wpList_plain rfl fun K' hK' => ld_env (E := ⟨c, gc, b, ba, bn, bc, bs, xp, 1, [x]⟩) _ rfl rfl Er.out.lies (hK' _ _ ?_))
        | fail)
      refine (step_put HR FC FX HM.out HH.out.2.2 KB.out GI.out HO.out.1 HO.out.2.1 HJ.out HGB.out).mono ?_
      rintro r wa ⟨z, Ra, rfl, -, -, -, ha, oa, -⟩
      have ka := below1 wa (Obj.cells (Td.cl ⟨true, (k : Int) == 0, false, false, z⟩).toArray 45)
      have TA := Lib.hid (Bo.new ha.fam (Lies.new wa 45 (Td.cl ⟨true, (k : Int) == 0, false, false, z⟩)) (Nat.le_refl _))
      have HA := Lib.hid (ha.next ka)
      have EA := Lib.hid ((Er.out.on oa).next ka)
      clear ka ha oa HR Er
      dsimp only
      go_upto_region 17 with fail
      generalize wa.heap.size = ga at TA ⊢
      generalize hwb : wa.alloc (Obj.cells #[.bool true, .bool ((k : Int) == 0), .bool false, .bool false, .int .i64 z.code, .slice z.a z.n z.c] 45) = wb at *
      clear hwb
      have t0 := TA.out.lies.cell (i := 0) rfl
      have t1 := TA.out.lies.cell (i := 1) rfl
      have t2 := TA.out.lies.cell (i := 2) rfl
      have t3 := TA.out.lies.cell (i := 3) rfl
      clear hka
      go_upto_region 19 with fail
      clear t0 t1 t2 t3 TA
      have CB : Hid (Lies wb g 23 (Sh.fcl c)) := Lib.hid ((HA.out.fam.below.block _ C3.out.lt).trans C3.out)
      have XB : Hid (Lies wb (g + 1) 25 x.cl) := Lib.hid ((HA.out.fam.below.block _ X3.out.lt).trans X3.out)
      have GR : Hid (∀ w, Calls Try.prog 22 #[c.val, x.val] w fun r w' => r = .returned (.int .i64 i) ∧ Below w.heap.size w w') := Lib.hid fun w => GI.out ▸ Ca.group_ok c x w FC.out FX.out
      obtain ⟨vo, hvo⟩ : ∃ vo : List Value, vo = [.int .i64 o.s, .int .i64 o.v, .bool o.m] := ⟨_, rfl⟩
      obtain ⟨ig, hig⟩ : ∃ ig : Int, ig = (i : Int) := ⟨_, rfl⟩
      have GRH : Hid (∀ w, Calls Try.prog 22 #[c.val, x.val] w fun r w' => r = .returned (.int .i64 ig) ∧ Below w.heap.size w w') := Lib.hid (hig ▸ GR.out)
      have OFH : Hid (∀ w', Below wb.heap.size wb w' → Calls Try.prog 21 #[gp (b + 1), .int .i64 ig] w' fun r w2 => r = .returned (.tuple #[Value.agg vo.toArray, .bool true]) ∧ Below w'.heap.size w' w2) := Lib.hid fun w' hB => by rw [hvo, hig]; exact Ow.of_yes (Lib.hid (HA.out.table.next hB)) HO.out.1
      have VL : Hid (vo.length = 3) := Lib.hid (by rw [hvo]; rfl)
      have VS : Hid (∀ v ∈ vo, v.oneCell' = true) := Lib.hid (by rw [hvo]; intro v hv; simp only [List.mem_cons, List.not_mem_nil, or_false] at hv; rcases hv with rfl | rfl | rfl <;> rfl)
      have VO := Lib.hid hvo
      clear hvo hig
      refine wp_region_all (R := fun a b => wb.heap.size ≤ a.heap.size → Below wb.heap.size a b) Pt.goes (S := Pt.S wb.heap.size) (T := fun _ a b => wb.heap.size ≤ a.heap.size → Below wb.heap.size a b) (fun _ => Pt.goes) (fun j a b h => Pt.sub h) (fun k j a b _ h => Pt.sub h) 11 227 (Pt wb.heap.size c x b ge ig vo) (by show _ = _; kernel_rfl) (by show _ = _; kernel_rfl) (by show _ = _; kernel_rfl) (Pt.mono wb.heap.size c x b ge ig vo (dp := fun k => Rel.deps _ k)) ?_ ?_
      · intro i hi o ho a' w' Kc hd hout hdep hT hK0
        have hB : Below wb.heap.size wb w' := hT (Nat.le_refl _)
        match i, hi, ho with
        | 0, _, ho =>
          have hK := Pt.k (Reg.Has.op (p := Op.fieldAddr 32 (.tmp 12) 2) (t := 116) (by show _ = _; kernel_rfl) ho).2 (by decide) hK0
          refine wp_val (V := .pointer (some ⟨ge, 9, none⟩)) (w' := w') ?_ (hK _ _ rfl (Below.refl _ _))
          have hop := (Reg.Has.op (p := Op.fieldAddr 32 (.tmp 12) 2) (t := 116) (by show _ = _; kernel_rfl) ho).1
          have q0 : a'.eval (.tmp 12) = gp ge := (hout 12 (Reg.Free.out (by show _ = _; kernel_rfl)))
          generalize a'.eval = ev at q0
          simp [execOp, hop, go_sem, q0]
        | 1, _, ho =>
          have hK := Pt.k (Reg.Has.op (p := Op.load 29 (.tmp 116)) (t := 117) (by show _ = _; kernel_rfl) ho).2 (by decide) hK0
          refine wp_val (V := gp (b + 1)) (w' := w') ?_ (hK _ _ rfl (Below.refl _ _))
          have hop := (Reg.Has.op (p := Op.load 29 (.tmp 116)) (t := 117) (by show _ = _; kernel_rfl) ho).1
          have q0 : a'.eval (.tmp 116) = .pointer (some ⟨ge, 9, none⟩) := (hdep 0 (mem_of (by show _ = _; kernel_rfl)) 116 (by show _ = _; kernel_rfl))
          have q1 : w'.cell? ⟨ge, 9, none⟩ = some (gp (b + 1)) := (EA.out.lies.next hB).cell (i := 9) rfl
          generalize a'.eval = ev at q0
          simp [execOp, hop, go_sem, q0, q1]
        | 2, _, ho =>
          have hK := Pt.k (Reg.Has.op (p := Op.load 23 (.tmp 4)) (t := 118) (by show _ = _; kernel_rfl) ho).2 (by decide) hK0
          exact Wh.wp_load Try.isAgg23 Try.sizeOf23 (.tmp 4) (Reg.Has.op (p := Op.load 23 (.tmp 4)) (t := 118) (by show _ = _; kernel_rfl) ho).1 (hout 4 (Reg.Free.out (by show _ = _; kernel_rfl))) (CB.out.next hB) (Nat.le_refl _) (Sh.fcl c) rfl (hK _ _ rfl (Below.refl _ _))
        | 3, _, ho =>
          have hK := Pt.k (Reg.Has.op (p := Op.load 25 (.tmp 5)) (t := 119) (by show _ = _; kernel_rfl) ho).2 (by decide) hK0
          exact ld_call (y := x) (.tmp 5) (Reg.Has.op (p := Op.load 25 (.tmp 5)) (t := 119) (by show _ = _; kernel_rfl) ho).1 (hout 5 (Reg.Free.out (by show _ = _; kernel_rfl))) (XB.out.next hB) (hK _ _ rfl (Below.refl _ _))
        | 4, _, ho =>
          have hK := Pt.k (Reg.Has.op (p := Op.call { callee := Callee.value (.func 22), args := #[.tmp 118, .tmp 119], argTypes := #[23, 25] }) (t := 120) (by show _ = _; kernel_rfl) ho).2 (by decide) hK0
          have q0 : a'.eval (.tmp 118) = c.val := (hdep 2 (mem_of (by show _ = _; kernel_rfl)) 118 (by show _ = _; kernel_rfl))
          have q1 : a'.eval (.tmp 119) = x.val := (hdep 3 (mem_of (by show _ = _; kernel_rfl)) 119 (by show _ = _; kernel_rfl))
          refine wp_call (S := fun u w2 => u = .int .i64 ig ∧ Below w'.heap.size w' w2) (Reg.Has.op (p := Op.call { callee := Callee.value (.func 22), args := #[.tmp 118, .tmp 119], argTypes := #[23, 25] }) (t := 120) (by show _ = _; kernel_rfl) ho).1 #[c.val, x.val] (by simp [q0, q1]) (fun _ _ => enters Try.func22 (by kernel_rfl) rfl _ _) ((GRH.out w').mono fun e w2 ⟨h1, h2⟩ => ⟨_, h1, rfl, h2⟩) ?_
          rintro u w2 ⟨rfl, h2⟩
          exact hK _ _ rfl h2
        | 5, _, ho =>
          have hK := Pt.k (Reg.Has.op (p := Op.call { callee := Callee.value (.func 21), args := #[.tmp 117, .tmp 120], argTypes := #[29, 3] }) (t := 121) (by show _ = _; kernel_rfl) ho).2 (by decide) hK0
          have q0 : a'.eval (.tmp 117) = gp (b + 1) := (hdep 1 (mem_of (by show _ = _; kernel_rfl)) 117 (by show _ = _; kernel_rfl))
          have q1 : a'.eval (.tmp 120) = .int .i64 ig := (hdep 4 (mem_of (by show _ = _; kernel_rfl)) 120 (by show _ = _; kernel_rfl))
          refine wp_call (S := fun u w2 => u = .tuple #[Value.agg vo.toArray, .bool true] ∧ Below w'.heap.size w' w2) (Reg.Has.op (p := Op.call { callee := Callee.value (.func 21), args := #[.tmp 117, .tmp 120], argTypes := #[29, 3] }) (t := 121) (by show _ = _; kernel_rfl) ho).1 #[gp (b + 1), .int .i64 ig] (by simp [q0, q1]) (fun _ _ => enters Try.func21 (by kernel_rfl) rfl _ _) ((OFH.out w' hB).mono fun e w2 ⟨h1, h2⟩ => ⟨_, h1, rfl, h2⟩) ?_
          rintro u w2 ⟨rfl, h2⟩
          exact hK _ _ rfl h2
        | 6, _, ho =>
          have hK := Pt.k (Reg.Has.op (p := Op.move (.tmp 121)) (t := 115) (by show _ = _; kernel_rfl) ho).2 (by decide) hK0
          exact Sl.wp_move _ (Reg.Has.op (p := Op.move (.tmp 121)) (t := 115) (by show _ = _; kernel_rfl) ho).1 (hK _ _ (hdep 5 (mem_of (by show _ = _; kernel_rfl)) 121 (by show _ = _; kernel_rfl)) (Below.refl _ _))
        | 7, _, ho =>
          have hK := Pt.k (Reg.Has.op (p := Op.extract (.tmp 115) 0) (t := 122) (by show _ = _; kernel_rfl) ho).2 (by decide) hK0
          refine wp_val (V := Value.agg vo.toArray) (w' := w') ?_ (hK _ _ rfl (Below.refl _ _))
          have hop := (Reg.Has.op (p := Op.extract (.tmp 115) 0) (t := 122) (by show _ = _; kernel_rfl) ho).1
          have q0 : a'.eval (.tmp 115) = .tuple #[Value.agg vo.toArray, .bool true] := (hdep 6 (mem_of (by show _ = _; kernel_rfl)) 115 (by show _ = _; kernel_rfl))
          generalize a'.eval = ev at q0
          simp [execOp, hop, go_sem, q0]
        | 8, _, ho =>
          have hK := Pt.k (Reg.Has.op (p := Op.extract (.tmp 115) 1) (t := 123) (by show _ = _; kernel_rfl) ho).2 (by decide) hK0
          refine wp_val (V := .bool true) (w' := w') ?_ (hK _ _ rfl (Below.refl _ _))
          have hop := (Reg.Has.op (p := Op.extract (.tmp 115) 1) (t := 123) (by show _ = _; kernel_rfl) ho).1
          have q0 : a'.eval (.tmp 115) = .tuple #[Value.agg vo.toArray, .bool true] := (hdep 6 (mem_of (by show _ = _; kernel_rfl)) 115 (by show _ = _; kernel_rfl))
          generalize a'.eval = ev at q0
          simp [execOp, hop, go_sem, q0]
        | 9, _, ho =>
          have hK := Pt.k (Reg.Has.op (p := Op.alloc 64) (t := 19) (by show _ = _; kernel_rfl) ho).2 (by decide) hK0
          refine wp_val (V := gp w'.heap.size) (w' := w'.alloc (.cells ([.int .i64 0, .int .i64 0, .bool false] : List Value).toArray 64)) ?_ (hK _ _ ⟨_, rfl, hB.size, _, rfl, Lies.new _ _ _⟩ (below1 _ _))
          have hop := (Reg.Has.op (p := Op.alloc 64) (t := 19) (by show _ = _; kernel_rfl) ho).1
          simp [execOp, hop, go_sem]
        | 10, _, ho =>
          obtain ⟨go, h1, h2, cs, h3, h4⟩ := (hdep 9 (mem_of (by show _ = _; kernel_rfl)) 19 (by show _ = _; kernel_rfl))
          have h7 : a'.eval (.tmp 122) = .agg vo.toArray := (hdep 7 (mem_of (by show _ = _; kernel_rfl)) 122 (by show _ = _; kernel_rfl))
          have h1 : a'.eval (.tmp 19) = gp go := h1
          obtain ⟨e1, e2⟩ : o.op = Op.store 64 (.tmp 19) (.tmp 122) ∧ o.dst = none := by have := Option.some.inj ho; subst this; exact ⟨rfl, rfl⟩
          refine Wh.wp_store Try.sizeOf64 (.tmp 19) (.tmp 122) e1 h1 h7 h4 (by rw [h3]; exact Nat.le_refl _) VL.out VS.out vo (by rw [List.drop_eq_nil_of_le (by omega)]; simp) (fun wd z1 z2 => ?_)
          have q := hK0 (gp go) wd (fun t _ e => by cases (show (some 19 : Option Tmp) = some t from e); exact h1.symm) ⟨go, rfl, h2, z1⟩ (Pt.store z2 h2 hB.size VL.out z1)
          rw [e2] at q ⊢
          exact q
      · intro f wd hv hs hT hev
        have e8 : f 8 = .bool true := hv 8 (by omega) 123 (by show _ = _; kernel_rfl)
        obtain ⟨gd, e9, l9, z9⟩ := hs 10 9 19 (by omega) (by show _ = _; kernel_rfl) (by show _ = _; kernel_rfl)
        have hB : Below wb.heap.size wb wd := hT (Nat.le_refl _)
        change wpList _ _ _ [_] (Act.put (Act.put (Act.put (Act.put (Act.put (Act.put (Act.put (Act.put (Act.put (Act.put (Act.put _ (some 116) (f 0)) (some 117) (f 1)) (some 118) (f 2)) (some 119) (f 3)) (some 120) (f 4)) (some 121) (f 5)) (some 115) (f 6)) (some 122) (f 7)) (some 123) (f 8)) (some 19) (f 9)) none (f 10)) _
        rw [Rel.puts_zero]
        rw [put_none]
        rw [e8, e9]
        rw [VO.out] at z9
        clear hv hs hT hev
        generalize f 0 = v0
        generalize f 1 = v1
        generalize f 2 = v2
        generalize f 3 = v3
        generalize f 4 = v4
        generalize f 5 = v5
        generalize f 6 = v6
        generalize f 7 = v7
        have OD : Hid (Lies wd gd 64 [.int .i64 o.s, .int .i64 o.v, .bool o.m]) := Lib.hid z9
        have HD := Lib.hid (HA.out.next hB)
        have ED := Lib.hid (EA.out.next hB)
        clear hB CB XB HA EA l9 z9 e8 e9 f GRH OFH VL VS VO
        simp only [Act.put, List.setIfInBounds_toArray, List.set_cons_zero, List.set_cons_succ]
        go_upto_region 20 with fail
        try simp only [Act.put]
        have o0 := OD.out.cell (i := 0) rfl
        rw [HJ.out] at o0
        obtain ⟨bnl0, hjl, bl, off, hba0, hcell⟩ := HD.out.lst (i := j) (g := gb) HGB.out
        have c10 := ED.out.lies.cell (i := 10) rfl
        rw [show ba = some ⟨bl, off, none⟩ from hba0, show bn = bs.length from bnl0] at c10
        have i0 : ¬ ((j : Int) < 0) := by omega
        have i1 : ¬ ((bs.length : Int) ≤ (j : Int)) := by have : j < bs.length := hjl; omega
        have i2 : (0 : Int) ≤ (j : Int) := by omega
        have i3 : (j : Int) < (bs.length : Int) := by have : j < bs.length := hjl; omega
        clear bnl0 hba0 hjl
        obtain ⟨bv, hb, hrb⟩ := HD.out.box j gb HGB.out
        have HB := Lib.hid hb
        have HRB := Lib.hid hrb
        clear hb hrb
        go_wp2_with fail
        refine (Ms.take_ok gb c.c false bv ⟨1, 1, x, 0, none⟩ [] wd (Lib.hid (by have q := HB.out; rw [show (sP c M j x).L j = [⟨1, 1, x, 0, none⟩] from if_pos rfl] at q; exact q)) (by simp)).mono ?_
        rintro r we ⟨bv', rfl, be, me⟩
        obtain ⟨Re, he0, oe, -⟩ := HD.out.onBox HGB.out HRB.out be me
        have he : CM w3 ⟨c, gc, b, ba, bn, bc, bs, xp, 1, [x]⟩ (sQ c M) Re we := by
          have e1 : (fun q : Nat => if q = j then ([] : List Ms.M) else (sP c M j x).L q) = fun _ => [] := funext fun q => by
            by_cases h : q = j
            · rw [if_pos h]
            · rw [if_neg h]; unfold sP; exact if_neg h
          have e2 : (fun q : Nat => if q = j then false else (sP c M j x).sb q) = fun _ => false := funext fun q => by
            by_cases h : q = j
            · rw [if_pos h]
            · rw [if_neg h]; rfl
          rw [e1, e2] at he0
          exact he0
        have HE := Lib.hid he
        have EE := Lib.hid (ED.out.on oe)
        clear he0 he oe be me o0 c10 hcell i0 i1 i2 i3 OD HD ED HB HRB
        dsimp only
        go_upto_region 22 with fail
        obtain ⟨wf, hwf, mf, kf⟩ := alloc1 we 52 (Ms.cl ⟨1, 1, x, 0, none⟩)
        rw [show we.alloc (Obj.cells #[.int .i64 1, .int .i64 1, .int .i64 x.op, .string x.key, .int .i64 x.t, .int .i64 x.v, .int .i64 x.e, .int .i64 x.u, .int .i64 x.s, .int .i64 0, .pointer none] 52) = wf from hwf]
        have MO := Lib.hid (Bo.new HE.out.fam mf (Nat.le_refl _))
        have HF := Lib.hid (HE.out.next kf)
        have EF := Lib.hid (EE.out.next kf)
        clear hwf kf mf HE EE
        generalize we.heap.size = gf at MO ⊢
        have XF : Hid (Lies wf (g + 1) 25 x.cl) := Lib.hid ((HF.out.fam.below.block _ X3.out.lt).trans X3.out)
        have m0 := MO.out.lies.cell (i := 0) rfl
        have m1 := MO.out.lies.cell (i := 1) rfl
        have nq := fun w => neq_call x w
        have m2 := MO.out.lies.cell (i := 2) rfl
        have d0 := XF.out.cell (i := 0) rfl
        have m3 := MO.out.lies.cell (i := 3) rfl
        have d1 := XF.out.cell (i := 1) rfl
        have m4 := MO.out.lies.cell (i := 4) rfl
        have d2 := XF.out.cell (i := 2) rfl
        have m5 := MO.out.lies.cell (i := 5) rfl
        have d3 := XF.out.cell (i := 3) rfl
        have m6 := MO.out.lies.cell (i := 6) rfl
        have d4 := XF.out.cell (i := 4) rfl
        have m7 := MO.out.lies.cell (i := 7) rfl
        have d5 := XF.out.cell (i := 5) rfl
        have m8 := MO.out.lies.cell (i := 8) rfl
        have d6 := XF.out.cell (i := 6) rfl
        go_upto_region 24 with fail
        clear m0 m1 m2 m3 m4 m5 m6 m7 m8 d0 d1 d2 d3 d4 d5 d6 nq
        by_cases hlt : (k : Int) < again
        case pos =>
          have hm := fun w => bd2 ⟨1, 1, x, 0, none⟩ w
          go_wp2_with (first
            | (refine wpList_plain rfl fun K' hK' => Wh.wp_load Try.isAgg52 Try.sizeOf52 _ rfl rfl MO.out.lies (Nat.le_refl _) (Ms.cl ⟨1, 1, x, 0, none⟩) rfl (hK' _ _ ?_))
            | (refine wpList_plain rfl fun K' hK' => wp_bd2 ⟨1, 1, x, 0, none⟩ _ rfl rfl (hK' _ _ ?_))
            | fail)
          refine (did_moved (m := ⟨1, 1, x, 0, none⟩) (mv := true) (r := r0) (oa := none) (on := 0) (oc := 0) (st := none) (y := x) HF (Lib.hid rfl) (Lib.hid rfl) (Lib.hid rfl) (Lib.hid rfl) (Lib.hid rfl) (Lib.hid rfl)).mono ?_
          rintro r wg ⟨rfl, Rg, hg0, og⟩
          have HG1 : Hid (CM w3 ⟨c, gc, b, ba, bn, bc, bs, xp, 1, [x]⟩ (sN c M) Rg wg) := Lib.hid hg0
          have EG := Lib.hid (EF.out.on og)
          clear hg0 og HF EF MO XF hm
          dsimp only
          go_upto_region 27 with fail
          have CB : Lies wg g 23 (Sh.fcl c) := (HG1.out.fam.below.block _ C3.out.lt).trans C3.out
          have XB : Lies wg (g + 1) 25 x.cl := (HG1.out.fam.below.block _ X3.out.lt).trans X3.out
          have l9 := Later.cell (EG.out.lies.cell (i := 9) rfl)
          have q0 := Later.cell (CB.cell (i := 0) rfl)
          have q1 := Later.cell (CB.cell (i := 1) rfl)
          have q2 := Later.cell (CB.cell (i := 2) rfl)
          have q3 := Later.cell (CB.cell (i := 3) rfl)
          have q4 := Later.cell (CB.cell (i := 4) rfl)
          have q5 := Later.cell (CB.cell (i := 5) rfl)
          have q6 := Later.cell (CB.cell (i := 6) rfl)
          have q7 := Later.cell (CB.cell (i := 7) rfl)
          have d0 := Later.cell (XB.cell (i := 0) rfl)
          have d1 := Later.cell (XB.cell (i := 1) rfl)
          have d2 := Later.cell (XB.cell (i := 2) rfl)
          have d3 := Later.cell (XB.cell (i := 3) rfl)
          have d4 := Later.cell (XB.cell (i := 4) rfl)
          have d5 := Later.cell (XB.cell (i := 5) rfl)
          have d6 := Later.cell (XB.cell (i := 6) rfl)
          refine wp_region_later_tail 5 (by kernel_rfl) (by kernel_rfl) ?_
          simp only [List.take_succ_cons, List.take_zero, List.drop_succ_cons, List.drop_zero]
          repeat (go_big_quiet_step (first
            | (go_at_call 22; with_reducible exact Later.call _ (GR.out _))))
          refine wpQuiet_nil ?_
          rintro _ ⟨u, rfl⟩
          have kc := u.below
          have HH1 := Lib.hid (HG1.out.next kc)
          have EH := Lib.hid (EG.out.next kc)
          clear kc CB XB HG1 EG l9 q0 q1 q2 q3 q4 q5 q6 q7 d0 d1 d2 d3 d4 d5 d6
          generalize u.w = wh at HH1 EH ⊢
          go_wp2_with fail
          refine (Ow.freeze_ok (i := i) (o := o) (Lib.hid HH1.out.table) HO.out.1 HO.out.2.1).mono ?_
          rintro r wi ⟨rfl, ii, vi⟩
          obtain ⟨Ri, hi0, oi⟩ := HH1.out.on16 ii vi
          have HI : Hid (CM w3 ⟨c, gc, b, ba, bn, bc, bs, xp, 1, [x]⟩ (sN c (M.set i ⟨o.s, o.v, true⟩)) Ri wi) := Lib.hid hi0
          have EI := Lib.hid (EH.out.on oi)
          clear ii vi hi0 oi HH1 EH
          dsimp only
          go_upto_region 28 with fail
          have CB : Hid (Lies wi g 23 (Sh.fcl c)) := Lib.hid ((HI.out.fam.below.block _ C3.out.lt).trans C3.out)
          have XB : Hid (Lies wi (g + 1) 25 x.cl) := Lib.hid ((HI.out.fam.below.block _ X3.out.lt).trans X3.out)
          obtain ⟨ig, hig⟩ : ∃ ig : Int, ig = (i : Int) := ⟨_, rfl⟩
          obtain ⟨kk, hkk⟩ : ∃ kk : Int, kk = (k : Int) := ⟨_, rfl⟩
          obtain ⟨kh, hkh⟩ : ∃ kh : Int, kh = (k : Int) % c.h := ⟨_, rfl⟩
          have GRH : Hid (∀ w, Calls Try.prog 22 #[c.val, x.val] w fun r w' => r = .returned (.int .i64 ig) ∧ Below w.heap.size w w') := Lib.hid (hig ▸ GR.out)
          have RM : Hid (∀ (oo : Oper) (aa : Act) (ww : World), oo.op = Op.binOp BinOp.rem 3 (.tmp 172) (.tmp 174) 3 → aa.eval (.tmp 172) = .int .i64 kk → aa.eval (.tmp 174) = .int .i64 c.h → (execOp aa.eval oo).run Try.prog ww = .ok (.value (.int .i64 kh)) ww) := Lib.hid fun oo aa ww e1 e2 e3 => by rw [hkk] at e2; rw [hkh]; exact rem_ok (by omega) (by have := HN.out; omega) HH.out.1.1 (by have := HH.out; omega) e1 e2 e3
          have VI := Lib.hid (And.intro hig (And.intro hkk hkh))
          rw [← hkk]
          clear hig hkk hkh
          refine wp_region_goes Goes.below 9 227 (Pb c x g b ge ig kk kh) (by show _ = _; kernel_rfl) (by show _ = _; kernel_rfl) (by show _ = _; kernel_rfl) (Pb.mono c x g b ge ig kk kh) ?_ ?_
          · intro i hi o ho a' w' Kc hd hout hdep hB hK
            match i, hi, ho with
            | 0, _, ho =>
              refine wp_val (V := .pointer (some ⟨ge, 9, none⟩)) (w' := w') ?_ (hK _ _ rfl (Below.refl _ _))
              have hop := (Reg.Has.op (p := Op.fieldAddr 32 (.tmp 12) 2) (t := 167) (by show _ = _; kernel_rfl) ho).1
              have q0 : a'.eval (.tmp 12) = gp ge := (hout 12 (Reg.Free.out (by show _ = _; kernel_rfl)))
              generalize a'.eval = ev at q0
              simp [execOp, hop, go_sem, q0]
            | 1, _, ho =>
              refine wp_val (V := gp (b + 1)) (w' := w') ?_ (hK _ _ rfl (Below.refl _ _))
              have hop := (Reg.Has.op (p := Op.load 29 (.tmp 167)) (t := 168) (by show _ = _; kernel_rfl) ho).1
              have q0 : a'.eval (.tmp 167) = .pointer (some ⟨ge, 9, none⟩) := (hdep 0 (mem_of (by show _ = _; kernel_rfl)) 167 (by show _ = _; kernel_rfl))
              have q1 : w'.cell? ⟨ge, 9, none⟩ = some (gp (b + 1)) := (EI.out.lies.next hB).cell (i := 9) rfl
              generalize a'.eval = ev at q0
              simp [execOp, hop, go_sem, q0, q1]
            | 2, _, ho => exact Wh.wp_load Try.isAgg23 Try.sizeOf23 (.tmp 4) (Reg.Has.op (p := Op.load 23 (.tmp 4)) (t := 169) (by show _ = _; kernel_rfl) ho).1 (hout 4 (Reg.Free.out (by show _ = _; kernel_rfl))) (CB.out.next hB) (Nat.le_refl _) (Sh.fcl c) rfl (hK _ _ rfl (Below.refl _ _))
            | 3, _, ho => exact ld_call (y := x) (.tmp 5) (Reg.Has.op (p := Op.load 25 (.tmp 5)) (t := 170) (by show _ = _; kernel_rfl) ho).1 (hout 5 (Reg.Free.out (by show _ = _; kernel_rfl))) (XB.out.next hB) (hK _ _ rfl (Below.refl _ _))
            | 4, _, ho =>
              have q0 : a'.eval (.tmp 169) = c.val := (hdep 2 (mem_of (by show _ = _; kernel_rfl)) 169 (by show _ = _; kernel_rfl))
              have q1 : a'.eval (.tmp 170) = x.val := (hdep 3 (mem_of (by show _ = _; kernel_rfl)) 170 (by show _ = _; kernel_rfl))
              refine wp_call (S := fun u w2 => u = .int .i64 ig ∧ Below w'.heap.size w' w2) (Reg.Has.op (p := Op.call { callee := Callee.value (.func 22), args := #[.tmp 169, .tmp 170], argTypes := #[23, 25] }) (t := 171) (by show _ = _; kernel_rfl) ho).1 #[c.val, x.val] (by simp [q0, q1]) (fun _ _ => enters Try.func22 (by kernel_rfl) rfl _ _) ((GRH.out w').mono fun e w2 ⟨h1, h2⟩ => ⟨_, h1, rfl, h2⟩) ?_
              rintro u w2 ⟨rfl, h2⟩
              exact hK _ _ rfl h2
            | 5, _, ho => exact Sl.wp_move _ (Reg.Has.op (p := Op.move (.tmp 17)) (t := 172) (by show _ = _; kernel_rfl) ho).1 (hK _ _ (hout 17 (Reg.Free.out (by show _ = _; kernel_rfl))) (Below.refl _ _))
            | 6, _, ho =>
              refine wp_val (V := .pointer (some ⟨g, 5, none⟩)) (w' := w') ?_ (hK _ _ rfl (Below.refl _ _))
              have hop := (Reg.Has.op (p := Op.fieldAddr 23 (.tmp 4) 5) (t := 173) (by show _ = _; kernel_rfl) ho).1
              have q0 : a'.eval (.tmp 4) = gp g := (hout 4 (Reg.Free.out (by show _ = _; kernel_rfl)))
              generalize a'.eval = ev at q0
              simp [execOp, hop, go_sem, q0]
            | 7, _, ho =>
              refine wp_val (V := .int .i64 c.h) (w' := w') ?_ (hK _ _ rfl (Below.refl _ _))
              have hop := (Reg.Has.op (p := Op.load 3 (.tmp 173)) (t := 174) (by show _ = _; kernel_rfl) ho).1
              have q0 : a'.eval (.tmp 173) = .pointer (some ⟨g, 5, none⟩) := (hdep 6 (mem_of (by show _ = _; kernel_rfl)) 173 (by show _ = _; kernel_rfl))
              have q1 : w'.cell? ⟨g, 5, none⟩ = some (.int .i64 c.h) := (CB.out.next hB).cell (i := 5) rfl
              generalize a'.eval = ev at q0
              simp [execOp, hop, go_sem, q0, q1]
            | 8, _, ho => exact wp_val (V := .int .i64 kh) (w' := w') (RM.out _ _ _ (Reg.Has.op (p := Op.binOp BinOp.rem 3 (.tmp 172) (.tmp 174) 3) (t := 175) (by show _ = _; kernel_rfl) ho).1 (hdep 5 (mem_of (by show _ = _; kernel_rfl)) 172 (by show _ = _; kernel_rfl)) (hdep 7 (mem_of (by show _ = _; kernel_rfl)) 174 (by show _ = _; kernel_rfl))) (hK _ _ rfl (Below.refl _ _))
          · intro f wj hv hB hev
            have e1 : f 1 = gp (b + 1) := hv 1 (by omega)
            have e4 : f 4 = .int .i64 i := VI.out.1 ▸ hv 4 (by omega)
            have e8 : f 8 = .int .i64 ((k : Int) % c.h) := VI.out.2.2 ▸ hv 8 (by omega)
            change wpList _ _ _ [_] (Act.put (Act.put (Act.put (Act.put (Act.put (Act.put (Act.put (Act.put (Act.put _ (some 167) (f 0)) (some 168) (f 1)) (some 169) (f 2)) (some 170) (f 3)) (some 171) (f 4)) (some 172) (f 5)) (some 173) (f 6)) (some 174) (f 7)) (some 175) (f 8)) _
            rw [Rel.puts_zero]
            rw [e1, e4, e8, VI.out.2.1]
            clear hv hev e1 e4 e8
            generalize f 0 = v0
            generalize f 2 = v2
            generalize f 3 = v3
            generalize f 5 = v5
            generalize f 6 = v6
            generalize f 7 = v7
            have HJ1 := Lib.hid (HI.out.next hB)
            have EJ := Lib.hid (EI.out.next hB)
            clear hB CB XB HI EI f VI RM GRH
            simp only [Act.put, List.setIfInBounds_toArray, List.set_cons_zero, List.set_cons_succ]
            go_wp2_with fail
            have hx : (M.set i ⟨o.s, o.v, true⟩)[i]? = some ⟨o.s, o.v, true⟩ := List.getElem?_set_self (List.getElem?_eq_some_iff.1 HO.out.1).1
            refine (Ow.publish_ok (i := i) (y := (k : Int) % c.h) (o := ⟨o.s, o.v, true⟩) (Lib.hid HJ1.out.table) hx rfl (Int.emod_nonneg _ (by have := HH.out; omega)) (Int.emod_lt_of_pos _ (by have := HH.out; omega)) HO.out.2.2.2.2.1 (by have := HO.out.2.2.2.2.2; have := HN.out; have := HKA.out; show o.v ≤ 1000000; omega)).mono ?_
            rintro r wk ⟨rfl, ik, vk⟩
            obtain ⟨Rk, hk0, ok⟩ := HJ1.out.on16 ik vk
            have HK : Hid (CM w3 ⟨c, gc, b, ba, bn, bc, bs, xp, 1, [x]⟩ (sN c ((M.set i ⟨o.s, o.v, true⟩).set i ⟨(k : Int) % c.h, o.v + 1, false⟩)) Rk wk) := Lib.hid hk0
            have EK := Lib.hid (EJ.out.on ok)
            have MK : Hid (MOk c i (k + 1) ((M.set i ⟨o.s, o.v, true⟩).set i ⟨(k : Int) % c.h, o.v + 1, false⟩)) := Lib.hid ⟨_, List.getElem?_set_self (List.getElem?_eq_some_iff.1 hx).1, rfl, Int.emod_nonneg _ (by have := HH.out; omega), Int.emod_lt_of_pos _ (by have := HH.out; omega), by have := HO.out.2.2.2.2.1; show (0 : Int) ≤ o.v + 1; omega, by have := HO.out.2.2.2.2.2; show o.v + 1 ≤ ((k + 1 : Nat) : Int); omega⟩
            have HL2 := Lib.hid hlt
            clear ik vk hk0 ok HJ1 EJ hx
            dsimp only
            have h20 := HN.out.2.2.2
            have f1 : (k : Int) + 1 ≤ 9223372036854775807 := by omega
            have f2 : -9223372036854775808 ≤ (k : Int) + 1 := by omega
            go_wp2_with fail
            exact ⟨⟨k + 1, Rk, by go_num, Lib.hid (.inl ⟨by have := HL2.out; omega, _, MK.out, HK.out⟩), EK⟩, by have := HL2.out; simp [intOf]; omega⟩
        case neg =>
          have YF : Hid (Lies wf (g + 2) 43 y.cl) := Lib.hid ((HF.out.fam.below.block _ Y3.out.lt).trans Y3.out)
          have RF : Hid (Out.Rd wf y.pv y.P) := Lib.hid (R3.out.next HF.out.fam.below)
          have YL9 : Hid (y.P.length ≤ 9000) := Lib.hid (by have := HN.out.2.1; omega)
          go_wp2_with (first
            | (refine wpList_plain rfl fun K' hK' => Wh.wp_load Try.isAgg52 Try.sizeOf52 _ rfl rfl MO.out.lies (Nat.le_refl _) (Ms.cl ⟨1, 1, x, 0, none⟩) rfl (hK' _ _ ?_))
            | (refine wpList_plain rfl fun K' hK' => ld_rep (y := y) _ rfl rfl YF.out (hK' _ _ ?_))
            | (refine wpList_plain rfl fun K' hK' => wp_bd3 ⟨1, 1, x, 0, none⟩ y _ _ rfl rfl rfl (hK' _ _ ?_))
            | fail)
          refine (did_ok (m := ⟨1, 1, x, 0, none⟩) (mv := false) (r := y) (oa := none) (on := 0) (oc := 0) (st := none) (y := x) HF (Lib.hid rfl) (Lib.hid rfl) (Lib.hid rfl) (Lib.hid rfl) (Lib.hid rfl) (Lib.hid rfl) RF YL9.out).mono ?_
          rintro r wg ⟨rfl, z, Rg, zc, zp, hg0, og⟩
          have HG1 : Hid (CM w3 ⟨c, gc, b, ba, bn, bc, bs, xp, 1, [x]⟩ (sD c M z) Rg wg) := Lib.hid hg0
          have EG := Lib.hid (EF.out.on og)
          have MG := Lib.hid (MO.out.on og)
          have YG : Hid (Lies wg (g + 2) 43 y.cl) := Lib.hid ((HG1.out.fam.below.block _ Y3.out.lt).trans Y3.out)
          have ZE : Hid (z.code = y.code ∧ z.P = y.P) := Lib.hid ⟨zc, zp⟩
          clear hg0 og HF EF MO XF YF RF zc zp
          have m0 := MG.out.lies.cell (i := 0) rfl
          have m1 := MG.out.lies.cell (i := 1) rfl
          have m2 := MG.out.lies.cell (i := 2) rfl
          have m3 := MG.out.lies.cell (i := 3) rfl
          have m4 := MG.out.lies.cell (i := 4) rfl
          have m5 := MG.out.lies.cell (i := 5) rfl
          have m6 := MG.out.lies.cell (i := 6) rfl
          have m7 := MG.out.lies.cell (i := 7) rfl
          have m8 := MG.out.lies.cell (i := 8) rfl
          have m9 := MG.out.lies.cell (i := 9) rfl
          have m10 := MG.out.lies.cell (i := 10) rfl
          have y0 := YG.out.cell (i := 0) rfl
          have y1 := YG.out.cell (i := 1) rfl
          have hd := fun w => bd3 ⟨1, 1, x, 0, none⟩ y w
          dsimp only
          go_wp2_with fail
          refine (did_no (m := ⟨1, 1, x, 0, none⟩) (mv := false) (r := y) (oa := none) (on := 0) (oc := 0) (st := none) (y := x) HG1 (Lib.hid rfl) (Lib.hid rfl) (Lib.hid rfl)).mono ?_
          rintro r wh ⟨rfl, kh⟩
          have HH1 := Lib.hid (HG1.out.next kh)
          have EH := Lib.hid (EG.out.next kh)
          clear kh HG1 EG MG YG hd m0 m1 m2 m3 m4 m5 m6 m7 m8 m9 m10 y0 y1
          dsimp only
          have h20 := HN.out.2.2.2
          have hka := HKA.out
          have HL2 := Lib.hid hlt
          have f1 : (k : Int) + 1 ≤ 9223372036854775807 := by omega
          have f2 : -9223372036854775808 ≤ (k : Int) + 1 := by omega
          go_wp2_with fail
          exact ⟨⟨k + 1, Rg, by go_num, Lib.hid (.inr ⟨by have := HL2.out; have := HKA.out; omega, M, z, ZE.out.1, ZE.out.2, HH1.out⟩), EH⟩, by have := HL2.out; have := HKA.out; simp [intOf]; omega⟩
    case inr =>
      have HR := Lib.hid hr
      have ZE : Hid (z.code = y.code ∧ z.P = y.P) := Lib.hid ⟨zc, zp⟩
      have HKA := Lib.hid hka
      have YL9 : Hid (y.P.length ≤ 9000) := Lib.hid (by have := HN.out.2.1; omega)
      have hlt : ¬ ((k : Int) ≤ again) := by omega
      clear zc zp hr HP
      go_wp2_with (first
        | (refine wpList_plain rfl fun K' hK' => ld_env (E := ⟨c, gc, b, ba, bn, bc, bs, xp, 1, [x]⟩) _ rfl rfl Er.out.lies (hK' _ _ ?_))
        | fail)
      refine (step_done HR FC FX HH.out.2.2 KB.out (by rw [ZE.out.2]; exact YL9.out)).mono ?_
      rintro r wa ⟨q, Ra, rfl, qc, qp, nw, ha, oa, -⟩
      have QE : Hid (q.code = y.code ∧ q.P = y.P) := Lib.hid ⟨qc.trans ZE.out.1, qp.trans ZE.out.2⟩
      have NW := Lib.hid nw.1
      have ka := below1 wa (Obj.cells (Td.cl ⟨true, false, false, true, q⟩).toArray 45)
      have TA := Lib.hid (Bo.new ha.fam (Lies.new wa 45 (Td.cl ⟨true, false, false, true, q⟩)) (Nat.le_refl _))
      have HA := Lib.hid (ha.next ka)
      have NA : Hid (Out.Rd (wa.alloc (Obj.cells (Td.cl ⟨true, false, false, true, q⟩).toArray 45)) q.pv q.P) := Lib.hid ((Out.Rd.own NW.out).next ka)
      clear ka ha oa HR Er NW nw qc qp
      dsimp only
      go_upto_region 32 with fail
      generalize wa.heap.size = gt at TA ⊢
      generalize hwb : wa.alloc (Obj.cells #[.bool true, .bool false, .bool false, .bool true, .int .i64 q.code, .slice q.a q.n q.c] 45) = wb at *
      clear hwb
      go_wp2_with fail
      refine (replies_ok HA (by show 1 ≤ 1000; omega) (Lib.hid fun r hr => by
        have : r = z := by simpa [St.ended, sD, st0] using hr
        rw [this, ZE.out.2]; exact YL9.out)).mono ?_
      rintro r wc ⟨A, rc, zs, rfl, rp⟩
      obtain ⟨p, hp⟩ : ∃ p, zs = [p] := by
        have h1 := rp.len
        rw [show ((sD c M z).ended z).rs.length = 1 from rfl] at h1
        exact List.length_eq_one_iff.1 h1
      subst hp
      obtain ⟨p1, p2, p3⟩ := rp.each 0 p z rfl rfl
      obtain ⟨rb, -, il⟩ := rp.own.is
      obtain ⟨ro, cap, e, -, -, -, hc⟩ := il.some_ rok (by simp)
      have e : Value.slice A 1 rc = Value.slice (some ⟨rb, ro, none⟩) 1 cap := e
      simp only [Value.slice.injEq] at e
      obtain ⟨rfl, -, rfl⟩ := e
      have cc : wc.cell? ⟨rb, ro, none⟩ = some (.int .i64 p.code) ∧ wc.cell? ⟨rb, ro + 1, none⟩ = some (.slice p.a p.n p.c) := ⟨hc 0 p rfl 0 _ rfl, hc 0 p rfl 1 _ rfl⟩
      have RC : Hid (∀ w', Below wc.heap.size wc w' → w'.cell? ⟨rb, ro, none⟩ = some (.int .i64 p.code) ∧ w'.cell? ⟨rb, ro + 1, none⟩ = some (.slice p.a p.n p.c)) := Lib.hid fun w' k => ⟨cell_keep k cc.1, cell_keep k cc.2⟩
      have PE : Hid (p.code = y.code ∧ p.P = y.P) := Lib.hid ⟨p1.trans ZE.out.1, p2.trans ZE.out.2⟩
      have RP : Hid (Out.Rd wc p.pv p.P) := Lib.hid (Out.Rd.own p3)
      have RQ : Hid (Out.Rd wc q.pv q.P) := Lib.hid (NA.out.next rp.below)
      have TL : Hid (Lies wc gt 45 (Td.cl ⟨true, false, false, true, q⟩)) := Lib.hid (TA.out.lies.next rp.below)
      have HC := Lib.hid (HA.out.next rp.below)
      have YL : Hid (Lies wc (g + 2) 43 y.cl) := Lib.hid ((HC.out.fam.below.block _ Y3.out.lt).trans Y3.out)
      have RY : Hid (Out.Rd wc y.pv y.P) := Lib.hid (R3.out.next HC.out.fam.below)
      obtain ⟨cv, rv, qv, -⟩ := HC.out.client
      have QV := Lib.hid qv
      clear rp p1 p2 p3 il hc cc NA TA HA qv
      dsimp only
      go_upto_region 33 with fail
      refine wp_region_when Goes.below 32 227 (Pz gt xp rb ro rc y q p) (by show _ = _; kernel_rfl) (by show _ = _; kernel_rfl) (by show _ = _; kernel_rfl) (Pz.mono gt xp rb ro rc y q p) ?_ ?_ ?_
      · intro k j b hk hg v w' hv
        obtain ⟨hj, rfl⟩ := RelW.guards_of (js := [1, 5, 10, 16, 20, 25]) (b := true) (by show _ = _; kernel_rfl) hk hg
        simp only [List.mem_cons, List.not_mem_nil, or_false] at hj
        rcases hj with rfl | rfl | rfl | rfl | rfl | rfl | rfl | rfl | rfl | rfl | rfl | rfl | rfl | rfl | rfl | rfl | rfl | rfl | rfl | rfl | rfl | rfl <;> exact hv
      · intro i hi o ho a' w' Kc hd hout hdep hB hK
        match i, hi, ho with
        | 0, _, ho => exact Sl.wp_move _ (Reg.Has.op (p := Op.move (.tmp 9)) (t := 195) (by show _ = _; kernel_rfl) ho).1 (hK _ _ (hout 9 (Reg.Free.out (by show _ = _; kernel_rfl))) (Below.refl _ _))
        | 1, _, ho => exact Sl.wp_move _ (Reg.Has.op (p := Op.move (.tmp 195)) (t := 196) (by show _ = _; kernel_rfl) ho).1 (hK _ _ (hdep 0 (mem_of (by show _ = _; kernel_rfl)) 195 (by show _ = _; kernel_rfl)) (Below.refl _ _))
        | 2, _, ho =>
          refine wp_val (V := .pointer (some ⟨gt, 3, none⟩)) (w' := w') ?_ (hK _ _ rfl (Below.refl _ _))
          have hop := (Reg.Has.op (p := Op.fieldAddr 45 (.tmp 23) 3) (t := 197) (by show _ = _; kernel_rfl) ho).1
          have q0 : a'.eval (.tmp 23) = gp gt := (hout 23 (Reg.Free.out (by show _ = _; kernel_rfl)))
          generalize a'.eval = ev at q0
          simp [execOp, hop, go_sem, q0]
        | 3, _, ho =>
          refine wp_val (V := .bool true) (w' := w') ?_ (hK _ _ rfl (Below.refl _ _))
          have hop := (Reg.Has.op (p := Op.load 4 (.tmp 197)) (t := 198) (by show _ = _; kernel_rfl) ho).1
          have q0 : a'.eval (.tmp 197) = .pointer (some ⟨gt, 3, none⟩) := (hdep 2 (mem_of (by show _ = _; kernel_rfl)) 197 (by show _ = _; kernel_rfl))
          have q1 : w'.cell? ⟨gt, 3, none⟩ = some (.bool true) := (TL.out.next hB).cell (i := 3) rfl
          generalize a'.eval = ev at q0
          simp [execOp, hop, go_sem, q0, q1]
        | 4, _, ho =>
          refine wp_val (V := .bool true) (w' := w') ?_ (hK _ _ rfl (Below.refl _ _))
          have hop := (Reg.Has.op (p := Op.pick (.tmp 196) (.tmp 198) (.const (.bool false))) (t := 199) (by show _ = _; kernel_rfl) ho).1
          have q0 : a'.eval (.tmp 196) = .bool true := (hdep 1 (mem_of (by show _ = _; kernel_rfl)) 196 (by show _ = _; kernel_rfl))
          have q1 : a'.eval (.tmp 198) = .bool true := (hdep 3 (mem_of (by show _ = _; kernel_rfl)) 198 (by show _ = _; kernel_rfl))
          generalize a'.eval = ev at q0 q1
          simp [execOp, hop, go_sem, q0, q1]
        | 5, _, ho => exact Sl.wp_move _ (Reg.Has.op (p := Op.move (.tmp 199)) (t := 200) (by show _ = _; kernel_rfl) ho).1 (hK _ _ (hdep 4 (mem_of (by show _ = _; kernel_rfl)) 199 (by show _ = _; kernel_rfl)) (Below.refl _ _))
        | 6, _, ho =>
          refine wp_val (V := .pointer (some ⟨gt, 2, none⟩)) (w' := w') ?_ (hK _ _ rfl (Below.refl _ _))
          have hop := (Reg.Has.op (p := Op.fieldAddr 45 (.tmp 23) 2) (t := 201) (by show _ = _; kernel_rfl) ho).1
          have q0 : a'.eval (.tmp 23) = gp gt := (hout 23 (Reg.Free.out (by show _ = _; kernel_rfl)))
          generalize a'.eval = ev at q0
          simp [execOp, hop, go_sem, q0]
        | 7, _, ho =>
          refine wp_val (V := .bool false) (w' := w') ?_ (hK _ _ rfl (Below.refl _ _))
          have hop := (Reg.Has.op (p := Op.load 4 (.tmp 201)) (t := 202) (by show _ = _; kernel_rfl) ho).1
          have q0 : a'.eval (.tmp 201) = .pointer (some ⟨gt, 2, none⟩) := (hdep 6 (mem_of (by show _ = _; kernel_rfl)) 201 (by show _ = _; kernel_rfl))
          have q1 : w'.cell? ⟨gt, 2, none⟩ = some (.bool false) := (TL.out.next hB).cell (i := 2) rfl
          generalize a'.eval = ev at q0
          simp [execOp, hop, go_sem, q0, q1]
        | 8, _, ho =>
          refine wp_val (V := .bool true) (w' := w') ?_ (hK _ _ rfl (Below.refl _ _))
          have hop := (Reg.Has.op (p := Op.unOp UnOp.not 4 (.tmp 202)) (t := 203) (by show _ = _; kernel_rfl) ho).1
          have q0 : a'.eval (.tmp 202) = .bool false := (hdep 7 (mem_of (by show _ = _; kernel_rfl)) 202 (by show _ = _; kernel_rfl))
          generalize a'.eval = ev at q0
          simp [execOp, hop, go_sem, q0]
        | 9, _, ho =>
          refine wp_val (V := .bool true) (w' := w') ?_ (hK _ _ rfl (Below.refl _ _))
          have hop := (Reg.Has.op (p := Op.pick (.tmp 200) (.tmp 203) (.const (.bool false))) (t := 204) (by show _ = _; kernel_rfl) ho).1
          have q0 : a'.eval (.tmp 200) = .bool true := (hdep 5 (mem_of (by show _ = _; kernel_rfl)) 200 (by show _ = _; kernel_rfl))
          have q1 : a'.eval (.tmp 203) = .bool true := (hdep 8 (mem_of (by show _ = _; kernel_rfl)) 203 (by show _ = _; kernel_rfl))
          generalize a'.eval = ev at q0 q1
          simp [execOp, hop, go_sem, q0, q1]
        | 10, _, ho => exact Sl.wp_move _ (Reg.Has.op (p := Op.move (.tmp 204)) (t := 205) (by show _ = _; kernel_rfl) ho).1 (hK _ _ (hdep 9 (mem_of (by show _ = _; kernel_rfl)) 204 (by show _ = _; kernel_rfl)) (Below.refl _ _))
        | 11, _, ho =>
          refine wp_val (V := .pointer (some ⟨gt, 4, none⟩)) (w' := w') ?_ (hK _ _ rfl (Below.refl _ _))
          have hop := (Reg.Has.op (p := Op.fieldAddr 45 (.tmp 23) 4) (t := 206) (by show _ = _; kernel_rfl) ho).1
          have q0 : a'.eval (.tmp 23) = gp gt := (hout 23 (Reg.Free.out (by show _ = _; kernel_rfl)))
          generalize a'.eval = ev at q0
          simp [execOp, hop, go_sem, q0]
        | 12, _, ho => exact Wh.wp_load Try.isAgg43 Try.sizeOf43 (.tmp 206) (Reg.Has.op (p := Op.load 43 (.tmp 206)) (t := 207) (by show _ = _; kernel_rfl) ho).1 (hdep 11 (mem_of (by show _ = _; kernel_rfl)) 206 (by show _ = _; kernel_rfl)) (TL.out.next hB) (by show 4 + 2 ≤ 6; omega) q.cl rfl (hK _ _ rfl (Below.refl _ _))
        | 13, _, ho => exact ld_rep (y := y) (.tmp 6) (Reg.Has.op (p := Op.load 43 (.tmp 6)) (t := 208) (by show _ = _; kernel_rfl) ho).1 (hout 6 (Reg.Free.out (by show _ = _; kernel_rfl))) (YL.out.next hB) (hK _ _ rfl (Below.refl _ _))
        | 14, _, ho =>
          have q0 : a'.eval (.tmp 207) = q.v := (hdep 12 (mem_of (by show _ = _; kernel_rfl)) 207 (by show _ = _; kernel_rfl))
          have q1 : a'.eval (.tmp 208) = y.v := (hdep 13 (mem_of (by show _ = _; kernel_rfl)) 208 (by show _ = _; kernel_rfl))
          refine wp_call (S := fun u w2 => u = .bool true ∧ Below w'.heap.size w' w2) (Reg.Has.op (p := Op.call { callee := Callee.value (.func 17), args := #[.tmp 207, .tmp 208], argTypes := #[43, 43] }) (t := 209) (by show _ = _; kernel_rfl) ho).1 #[q.v, y.v] (by simp [q0, q1]) (fun _ _ => enters Try.func17 (by kernel_rfl) rfl _ _) ((told true (Ca.same_ok q.code y.code q.pv y.pv q.P y.P w' (Lib.hid (RQ.out.next hB)) (Lib.hid (RY.out.next hB)) (by rw [QE.out.2]; exact YL9.out) YL9.out) (by simp [QE.out.1, QE.out.2])).mono fun e w2 ⟨h1, h2⟩ => ⟨_, h1, rfl, h2⟩) ?_
          rintro u w2 ⟨rfl, h2⟩
          exact hK _ _ rfl h2
        | 15, _, ho =>
          refine wp_val (V := .bool true) (w' := w') ?_ (hK _ _ rfl (Below.refl _ _))
          have hop := (Reg.Has.op (p := Op.pick (.tmp 205) (.tmp 209) (.const (.bool false))) (t := 210) (by show _ = _; kernel_rfl) ho).1
          have q0 : a'.eval (.tmp 205) = .bool true := (hdep 10 (mem_of (by show _ = _; kernel_rfl)) 205 (by show _ = _; kernel_rfl))
          have q1 : a'.eval (.tmp 209) = .bool true := (hdep 14 (mem_of (by show _ = _; kernel_rfl)) 209 (by show _ = _; kernel_rfl))
          generalize a'.eval = ev at q0 q1
          simp [execOp, hop, go_sem, q0, q1]
        | 16, _, ho => exact Sl.wp_move _ (Reg.Has.op (p := Op.move (.tmp 210)) (t := 211) (by show _ = _; kernel_rfl) ho).1 (hK _ _ (hdep 15 (mem_of (by show _ = _; kernel_rfl)) 210 (by show _ = _; kernel_rfl)) (Below.refl _ _))
        | 17, _, ho => exact Sl.wp_move _ (Reg.Has.op (p := Op.move (.tmp 15)) (t := 212) (by show _ = _; kernel_rfl) ho).1 (hK _ _ (hout 15 (Reg.Free.out (by show _ = _; kernel_rfl))) (Below.refl _ _))
        | 18, _, ho =>
          have q0 : a'.eval (.tmp 212) = gp xp := (hdep 17 (mem_of (by show _ = _; kernel_rfl)) 212 (by show _ = _; kernel_rfl))
          refine wp_call (S := fun u w2 => u = .bool true ∧ Below w'.heap.size w' w2) (Reg.Has.op (p := Op.call { callee := Callee.value (.func 18), args := #[.tmp 212], argTypes := #[36] }) (t := 213) (by show _ = _; kernel_rfl) ho).1 #[gp xp] (by simp [q0]) (fun _ _ => enters Try.func18 (by kernel_rfl) rfl _ _) ((over_ok (Lib.hid (QV.out.next hB))).mono fun e w2 ⟨h1, h2⟩ => ⟨_, h1, rfl, h2⟩) ?_
          rintro u w2 ⟨rfl, h2⟩
          exact hK _ _ rfl h2
        | 19, _, ho =>
          refine wp_val (V := .bool true) (w' := w') ?_ (hK _ _ rfl (Below.refl _ _))
          have hop := (Reg.Has.op (p := Op.pick (.tmp 211) (.tmp 213) (.const (.bool false))) (t := 214) (by show _ = _; kernel_rfl) ho).1
          have q0 : a'.eval (.tmp 211) = .bool true := (hdep 16 (mem_of (by show _ = _; kernel_rfl)) 211 (by show _ = _; kernel_rfl))
          have q1 : a'.eval (.tmp 213) = .bool true := (hdep 18 (mem_of (by show _ = _; kernel_rfl)) 213 (by show _ = _; kernel_rfl))
          generalize a'.eval = ev at q0 q1
          simp [execOp, hop, go_sem, q0, q1]
        | 20, _, ho => exact Sl.wp_move _ (Reg.Has.op (p := Op.move (.tmp 214)) (t := 215) (by show _ = _; kernel_rfl) ho).1 (hK _ _ (hdep 19 (mem_of (by show _ = _; kernel_rfl)) 214 (by show _ = _; kernel_rfl)) (Below.refl _ _))
        | 21, _, ho => exact Sl.wp_move _ (Reg.Has.op (p := Op.move (.tmp 24)) (t := 216) (by show _ = _; kernel_rfl) ho).1 (hK _ _ (hout 24 (Reg.Free.out (by show _ = _; kernel_rfl))) (Below.refl _ _))
        | 22, _, ho =>
          refine wp_val (V := .int .i64 1) (w' := w') ?_ (hK _ _ rfl (Below.refl _ _))
          have hop := (Reg.Has.op (p := Op.call { callee := Callee.builtin Builtin.len, args := #[.tmp 216], argTypes := #[57] }) (t := 217) (by show _ = _; kernel_rfl) ho).1
          have q0 : a'.eval (.tmp 216) = Value.slice (some ⟨rb, ro, none⟩) 1 rc := (hdep 21 (mem_of (by show _ = _; kernel_rfl)) 216 (by show _ = _; kernel_rfl))
          generalize a'.eval = ev at q0
          simp [execOp, hop, go_sem, q0]
        | 23, _, ho =>
          refine wp_val (V := .bool true) (w' := w') ?_ (hK _ _ rfl (Below.refl _ _))
          have hop := (Reg.Has.op (p := Op.binOp BinOp.eql 3 (.tmp 217) (.const (.int .i64 1)) 3) (t := 218) (by show _ = _; kernel_rfl) ho).1
          have q0 : a'.eval (.tmp 217) = .int .i64 1 := (hdep 22 (mem_of (by show _ = _; kernel_rfl)) 217 (by show _ = _; kernel_rfl))
          have q1 : a'.eval (.const (.int .i64 1)) = .int .i64 1 := rfl
          generalize a'.eval = ev at q0 q1
          simp [execOp, hop, go_sem, q0, q1]
        | 24, _, ho =>
          refine wp_val (V := .bool true) (w' := w') ?_ (hK _ _ rfl (Below.refl _ _))
          have hop := (Reg.Has.op (p := Op.pick (.tmp 215) (.tmp 218) (.const (.bool false))) (t := 219) (by show _ = _; kernel_rfl) ho).1
          have q0 : a'.eval (.tmp 215) = .bool true := (hdep 20 (mem_of (by show _ = _; kernel_rfl)) 215 (by show _ = _; kernel_rfl))
          have q1 : a'.eval (.tmp 218) = .bool true := (hdep 23 (mem_of (by show _ = _; kernel_rfl)) 218 (by show _ = _; kernel_rfl))
          generalize a'.eval = ev at q0 q1
          simp [execOp, hop, go_sem, q0, q1]
        | 25, _, ho => exact Sl.wp_move _ (Reg.Has.op (p := Op.move (.tmp 219)) (t := 220) (by show _ = _; kernel_rfl) ho).1 (hK _ _ (hdep 24 (mem_of (by show _ = _; kernel_rfl)) 219 (by show _ = _; kernel_rfl)) (Below.refl _ _))
        | 26, _, ho => exact Sl.wp_move _ (Reg.Has.op (p := Op.move (.tmp 24)) (t := 221) (by show _ = _; kernel_rfl) ho).1 (hK _ _ (hout 24 (Reg.Free.out (by show _ = _; kernel_rfl))) (Below.refl _ _))
        | 27, _, ho =>
          refine wp_val (V := .pointer (some ⟨rb, ro, none⟩)) (w' := w') ?_ (hK _ _ rfl (Below.refl _ _))
          have hop := (Reg.Has.op (p := Op.indexAddr 57 (.tmp 221) (.const (.int .i64 0))) (t := 222) (by show _ = _; kernel_rfl) ho).1
          have q0 : a'.eval (.tmp 221) = Value.slice (some ⟨rb, ro, none⟩) 1 rc := (hdep 26 (mem_of (by show _ = _; kernel_rfl)) 221 (by show _ = _; kernel_rfl))
          have q1 : a'.eval (.const (.int .i64 0)) = .int .i64 0 := rfl
          generalize a'.eval = ev at q0 q1
          simp [execOp, hop, go_sem, q0, q1]
        | 28, _, ho =>
          obtain ⟨e0, e1⟩ := RC.out _ hB
          refine wp_val (V := p.v) (w' := w') ?_ (hK _ _ rfl (Below.refl _ _))
          have hop := (Reg.Has.op (p := Op.load 43 (.tmp 222)) (t := 223) (by show _ = _; kernel_rfl) ho).1
          have q0 : a'.eval (.tmp 222) = .pointer (some ⟨rb, ro, none⟩) := (hdep 27 (mem_of (by show _ = _; kernel_rfl)) 222 (by show _ = _; kernel_rfl))
          generalize a'.eval = ev at q0
          simp [execOp, hop, go_sem, q0, e0, e1]
        | 29, _, ho => exact ld_rep (y := y) (.tmp 6) (Reg.Has.op (p := Op.load 43 (.tmp 6)) (t := 224) (by show _ = _; kernel_rfl) ho).1 (hout 6 (Reg.Free.out (by show _ = _; kernel_rfl))) (YL.out.next hB) (hK _ _ rfl (Below.refl _ _))
        | 30, _, ho =>
          have q0 : a'.eval (.tmp 223) = p.v := (hdep 28 (mem_of (by show _ = _; kernel_rfl)) 223 (by show _ = _; kernel_rfl))
          have q1 : a'.eval (.tmp 224) = y.v := (hdep 29 (mem_of (by show _ = _; kernel_rfl)) 224 (by show _ = _; kernel_rfl))
          refine wp_call (S := fun u w2 => u = .bool true ∧ Below w'.heap.size w' w2) (Reg.Has.op (p := Op.call { callee := Callee.value (.func 17), args := #[.tmp 223, .tmp 224], argTypes := #[43, 43] }) (t := 225) (by show _ = _; kernel_rfl) ho).1 #[p.v, y.v] (by simp [q0, q1]) (fun _ _ => enters Try.func17 (by kernel_rfl) rfl _ _) ((told true (Ca.same_ok p.code y.code p.pv y.pv p.P y.P w' (Lib.hid (RP.out.next hB)) (Lib.hid (RY.out.next hB)) (by rw [PE.out.2]; exact YL9.out) YL9.out) (by simp [PE.out.1, PE.out.2])).mono fun e w2 ⟨h1, h2⟩ => ⟨_, h1, rfl, h2⟩) ?_
          rintro u w2 ⟨rfl, h2⟩
          exact hK _ _ rfl h2
        | 31, _, ho =>
          refine wp_val (V := .bool true) (w' := w') ?_ (hK _ _ rfl (Below.refl _ _))
          have hop := (Reg.Has.op (p := Op.pick (.tmp 220) (.tmp 225) (.const (.bool false))) (t := 226) (by show _ = _; kernel_rfl) ho).1
          have q0 : a'.eval (.tmp 220) = .bool true := (hdep 25 (mem_of (by show _ = _; kernel_rfl)) 220 (by show _ = _; kernel_rfl))
          have q1 : a'.eval (.tmp 225) = .bool true := (hdep 30 (mem_of (by show _ = _; kernel_rfl)) 225 (by show _ = _; kernel_rfl))
          generalize a'.eval = ev at q0 q1
          simp [execOp, hop, go_sem, q0, q1]
        | i + 32, hi, _ => exact absurd hi (by omega)
      · intro f we hv hB hev
        have e31 : f 31 = .bool true := hv 31 (by omega)
        change wpList _ _ _ [_] (Act.put (Act.put (Act.put (Act.put (Act.put (Act.put (Act.put (Act.put (Act.put (Act.put (Act.put (Act.put (Act.put (Act.put (Act.put (Act.put (Act.put (Act.put (Act.put (Act.put (Act.put (Act.put (Act.put (Act.put (Act.put (Act.put (Act.put (Act.put (Act.put (Act.put (Act.put (Act.put _ (some 195) (f 0)) (some 196) (f 1)) (some 197) (f 2)) (some 198) (f 3)) (some 199) (f 4)) (some 200) (f 5)) (some 201) (f 6)) (some 202) (f 7)) (some 203) (f 8)) (some 204) (f 9)) (some 205) (f 10)) (some 206) (f 11)) (some 207) (f 12)) (some 208) (f 13)) (some 209) (f 14)) (some 210) (f 15)) (some 211) (f 16)) (some 212) (f 17)) (some 213) (f 18)) (some 214) (f 19)) (some 215) (f 20)) (some 216) (f 21)) (some 217) (f 22)) (some 218) (f 23)) (some 219) (f 24)) (some 220) (f 25)) (some 221) (f 26)) (some 222) (f 27)) (some 223) (f 28)) (some 224) (f 29)) (some 225) (f 30)) (some 226) (f 31)) _
        rw [Rel.puts_zero]
        rw [e31]
        have KB := Lib.hid (after K3.out (after HC.out.fam.below hB))
        clear hv hev hB e31
        generalize f 0 = v0
        generalize f 1 = v1
        generalize f 2 = v2
        generalize f 3 = v3
        generalize f 4 = v4
        generalize f 5 = v5
        generalize f 6 = v6
        generalize f 7 = v7
        generalize f 8 = v8
        generalize f 9 = v9
        generalize f 10 = v10
        generalize f 11 = v11
        generalize f 12 = v12
        generalize f 13 = v13
        generalize f 14 = v14
        generalize f 15 = v15
        generalize f 16 = v16
        generalize f 17 = v17
        generalize f 18 = v18
        generalize f 19 = v19
        generalize f 20 = v20
        generalize f 21 = v21
        generalize f 22 = v22
        generalize f 23 = v23
        generalize f 24 = v24
        generalize f 25 = v25
        generalize f 26 = v26
        generalize f 27 = v27
        generalize f 28 = v28
        generalize f 29 = v29
        generalize f 30 = v30
        go_wp2_with fail
        go_ret
        exact ⟨rfl, KB.out⟩
theorem own : ownKnob Try.prog.godebug = none := by kernel_rfl

set_option maxRecDepth 100000 in
theorem lifted (os : Os) (started : os.Started) (H : Type) (enc : TypeId × Value → H) :
    ReturnsInHanded {} Try.checked os 4 .any (Rows.clientToldSpec.pre6 enc Try.prog Try.f4 Rows.clientToldRow.domain false) (Rows.clientToldSpec.post enc Try.prog Try.f4 false true false false) := by
  refine returnsInHanded_of_change (C := Try.checked) own started (by kernel_rfl) Try.func4
    (ChangeSpec.witness6 (enc := enc) (C := Try.checked) false ⟨#[], #[.agg #[.int .i64 0, .int .i64 0, .int .i64 0, .int .i64 0, .int .i64 0, .int .i64 0, .int .i64 0, .int .i64 0], .agg #[.int .i64 0, .string ⟨#[]⟩, .int .i64 0, .int .i64 0, .int .i64 0, .int .i64 0, .int .i64 0], .agg #[.int .i64 0, .slice none 0 0], .int .i64 0], []⟩ 8 (by kernel_rfl) (by kernel_rfl) (by kernel_rfl) (by kernel_rfl)) ?_
  intro W base args ds gs before hval0 hW hcnd _
  have hval : ∀ (j : Nat) t v, Try.f4.params[j]? = some t → args[j]? = some v → Value.okWide Try.prog W .any base t v := hval0
  have hW' := hW
  obtain ⟨p, q, hA0, hV, rfl, hfz, hnd⟩ := hW
  have hA : DataW.TrodAll enc Try.prog W 0 (fun _ => true) true Try.f4.params.toList args.toList ds p := hA0
  rw [Try.params4] at hA hval
  obtain ⟨v0, vs0, d0, ds0, p0, q0, hargs, rfl, rfl, h0, r0⟩ := trodAll_cons hA
  obtain ⟨v1, vs1, d1, ds1, p1, q1, rfl, rfl, rfl, h1, r1⟩ := trodAll_cons r0
  obtain ⟨v2, vs2, d2, ds2, p2, q2, rfl, rfl, rfl, h2, r2⟩ := trodAll_cons r1
  obtain ⟨v3, vs3, d3, ds3, p3, q3, rfl, rfl, rfl, h3, r3⟩ := trodAll_cons r2
  obtain ⟨rfl, rfl, rfl⟩ := trodAll_nil r3
  obtain rfl : args = #[v0, v1, v2, v3] := by cases args; simp_all
  obtain ⟨rfl, rfl⟩ := trodVars_none hV
  obtain ⟨a0, rfl, w0⟩ := Opens.open_config (hval 0 23 v0 rfl rfl) h0
  obtain ⟨a1, rfl, w1⟩ := Opens.open_call (hval 1 25 v1 rfl rfl) h1
  obtain ⟨a2, rfl, w2⟩ := Opens.open_reply (hval 2 43 v2 rfl rfl) h2
  obtain ⟨a3, rfl, rfl, rfl, w3⟩ := open_int Try.underlying3 (hval 3 3 v3 rfl rfl) h3
  clear hA0 hval0
  refine (walk a0 w0 a1 w1 a2 w2.1 a3 w3 W w2.2).mono fun e W' ⟨he, hg⟩ => ?_
  subst he
  exact ⟨_, rfl, Laid.post Laid.laidOut (by kernel_rfl) rfl (by kernel_rfl) Try.underlying4 hW' ⟨rfl, rfl, rfl⟩ hg⟩

theorem over : Rows.clientToldRow.holds Try.pinned (OpenSpec.ofChange Rows.clientToldSpec) :=
  OpenClaim.holds_of_wide 4 Try.f4 rfl rfl rfl rfl rfl rfl rfl ⟨rfl, rfl, rfl, rfl, rfl⟩ rfl rfl rfl rfl rfl (by kernel_rfl) Try.func4 (by kernel_rfl)
    (of_decide_eq_true (by kernel_rfl)) (by unfold Func.isWrapper; first | (rw [if_pos (by decide +kernel)]; kernel_rfl) | (rw [if_neg (by decide +kernel)]; exact ⟨rfl, rfl⟩))
    (fun os started H enc _ => lifted os started H enc)

/-- ████ THE STATEMENT ████ -/
theorem proved : Rows.ClientToldSaid :=
  over
#print axioms proved
end clientTold
end Go.Proofs.Ytjncogjafljbiaa
