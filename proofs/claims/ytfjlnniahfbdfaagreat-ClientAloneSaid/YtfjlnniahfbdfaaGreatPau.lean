/- A part of the proof. -/
import Derived.Test.YtfjlnniahfbdfaaGreatPaq
import Derived.Test.YtfjlnniahfbdfaaGreatPac
import Derived.Test.YtfjlnniahfbdfaaGreatPat
set_option linter.unusedVariables false
set_option maxHeartbeats 4000000
namespace Go.Proofs.YtfjlnniahfbdfaaGreat
open Lib (hid)
open Go.ChangeShapes Go.WideShapes Go.ChangeAt Go.RowKit
structure Cl where
 op:Int
 key:ByteArray
 t:Int
 v:Int
 e:Int
 u:Int
 s:Int
instance:Inhabited Cl:=⟨⟨0,⟨#[]⟩,0,0,0,0,0⟩⟩
namespace Cl
abbrev cl(x:Cl):List Value:=[.int .i64 x.op,.string x.key,.int .i64 x.t,.int .i64 x.v,.int .i64 x.e,.int .i64 x.u,.int .i64 x.s]
abbrev val(x:Cl):Value:=.agg #[.int .i64 x.op,.string x.key,.int .i64 x.t,.int .i64 x.v,.int .i64 x.e,.int .i64 x.u,.int .i64 x.s]
def Fit(x:Cl):Prop:=(Lit.int .i64 x.op).wf=true∧x.key.size≤9223372036854775807∧(Lit.int .i64 x.t).wf=true∧(Lit.int .i64 x.v).wf=true∧(Lit.int .i64 x.e).wf=true∧(Lit.int .i64 x.u).wf=true∧(Lit.int .i64 x.s).wf=true
end Cl
structure Cf where
 k:Int
 s:Int
 l:Int
 g:Int
 z:Int
 h:Int
 r:Int
 c:Int
namespace Cf
abbrev val(x:Cf):Value:=Base.cfg x.k x.s x.l x.g x.z x.h x.r x.c
abbrev may(x:Cf):Prop:=Asg.may x.k x.s x.l x.g x.z x.h x.r x.c
def Fit(x:Cf):Prop:=(Lit.int .i64 x.k).wf=true∧(Lit.int .i64 x.s).wf=true∧(Lit.int .i64 x.l).wf=true∧(Lit.int .i64 x.g).wf=true∧(Lit.int .i64 x.z).wf=true∧(Lit.int .i64 x.h).wf=true∧(Lit.int .i64 x.r).wf=true∧(Lit.int .i64 x.c).wf=true
end Cf
set_option maxRecDepth 100000
namespace Ca
open Base
def Seven(w:World)(g:Nat)(x:Cl):Prop:=
 w.cell? ⟨g,0,none⟩=some (.int .i64 x.op)∧w.cell? ⟨g,1,none⟩=some (.string x.key)∧w.cell? ⟨g,2,none⟩=some (.int .i64 x.t)∧w.cell? ⟨g,3,none⟩=some (.int .i64 x.v)∧
 w.cell? ⟨g,4,none⟩=some (.int .i64 x.e)∧w.cell? ⟨g,5,none⟩=some (.int .i64 x.u)∧w.cell? ⟨g,6,none⟩=some (.int .i64 x.s)
theorem Seven.new(w:World)(x:Cl):Seven (w.alloc (Obj.cells #[.int .i64 x.op,.string x.key,.int .i64 x.t,.int .i64 x.v,.int .i64 x.e,.int .i64 x.u,.int .i64 x.s] 46)) w.heap.size x:=by
 refine⟨?_,?_,?_,?_,?_,?_,?_⟩<;>go_simp
theorem Seven.next{w w':World}{g:Nat}{x:Cl}(h:Seven w g x)(b:Below w.heap.size w w'):Seven w' g x:=by
 obtain⟨h0,h1,h2,h3,h4,h5,h6⟩:=h
 exact⟨cell_keep b h0,cell_keep b h1,cell_keep b h2,cell_keep b h3,cell_keep b h4,cell_keep b h5,cell_keep b h6⟩
def Both(w:World)(g:Nat)(c:Cf)(x:Cl):Prop:=Cfg w g c.k c.s c.l c.g c.z c.h c.r c.c∧Seven w (g+1) x
theorem Both.next{w w':World}{g:Nat}{c:Cf}{x:Cl}(h:Both w g c x)(b:Below w.heap.size w w'):Both w' g c x:=⟨h.1.next b,h.2.next b⟩
theorem Both.new(w:World)(c:Cf)(x:Cl):Both ((w.alloc (Obj.cells #[.int .i64 c.k,.int .i64 c.s,.int .i64 c.l,.int .i64 c.g,.int .i64 c.z,.int .i64 c.h,.int .i64 c.r,.int .i64 c.c] 23)).alloc (Obj.cells #[.int .i64 x.op,.string x.key,.int .i64 x.t,.int .i64 x.v,.int .i64 x.e,.int .i64 x.u,.int .i64 x.s] 46)) w.heap.size c x:=by
 refine⟨(Cfg.new w c.k c.s c.l c.g c.z c.h c.r c.c).next (below1 _ _),?_⟩
 have h:=Seven.new (w.alloc (Obj.cells #[.int .i64 c.k,.int .i64 c.s,.int .i64 c.l,.int .i64 c.g,.int .i64 c.z,.int .i64 c.h,.int .i64 c.r,.int .i64 c.c] 23)) x
 simp only[World.size_alloc] at h
 exact h
def kd(op:Int):Bool:=decide (op=1∨op=2∨op=4∨op=5)
theorem kd_ways(op:Int):op=1∨op=2∨op=4∨op=5∨((op == 1)=false∧(op == 2)=false∧(op == 4)=false∧(op == 5)=false∧kd op=false):=by
 unfold kd
 simp only[beq_eq_false_iff_ne,ne_eq,decide_eq_false_iff_not]
 omega
theorem keyed_ok(x:Cl)(w:World):Calls Tryz.prog 51 #[x.val] w fun r w'=>r=.returned (.bool (kd x.op))∧Below w.heap.size w w':=by
 obtain⟨op,key,t,v,e,u,s⟩:=x
 dsimp only
 rcases kd_ways op with rfl|rfl|rfl|rfl|⟨q1,q2,q4,q5,q⟩
 all_goals
  try rw[q]
  try clear q
  go_enter Tryz.func51,Tryz.ntmps51;go_wp2;go_ret;exact⟨rfl,below1 _ _⟩
theorem rkeyed_ok(x:Cl)(w:World):Calls Tryz.prog 77 #[x.val] w fun r w'=>r=.returned (.bool (kd x.op))∧Below w.heap.size w w':=by
 obtain⟨op,key,t,v,e,u,s⟩:=x
 dsimp only
 rcases kd_ways op with rfl|rfl|rfl|rfl|⟨q1,q2,q4,q5,q⟩
 all_goals
  try rw[q]
  try clear q
  go_enter Tryz.func77,Tryz.ntmps77;go_wp2;go_ret;exact⟨rfl,below1 _ _⟩
def mayC(c:Cf)(x:Cl):Prop:=c.may∧(1≤x.op∧x.op≤7)∧(kd x.op=true→1≤x.key.size∧x.key.size≤20)∧(x.op=4→x.t<x.e)∧(x.op=6→(0≤x.u∧x.u<c.r)∧0≤x.s∧x.s<c.h)
theorem isOp_ok(op:Int)(w:World):Calls Tryz.prog 83 #[.int .i64 op] w fun r w'=>r=.returned (.bool (decide (1≤op∧op≤7)))∧Below w.heap.size w w':=by
 by_cases h:1≤op
 ·go_enter Tryz.func83,Tryz.ntmps83
  go_wp2;go_ret;exact⟨ret_bool (by simp[h]),Below.refl _ _⟩
 ·go_enter Tryz.func83,Tryz.ntmps83
  go_wp2;go_ret;exact⟨ret_bool (by simp;omega),Below.refl _ _⟩
theorem below_ok(n m:Int)(w:World):Calls Tryz.prog 121 #[.int .i64 n,.int .i64 m] w fun r w'=>r=.returned (.bool (decide (0≤n∧n<m)))∧Below w.heap.size w w':=by
 by_cases h:0≤n
 ·go_enter Tryz.func121,Tryz.ntmps121
  go_wp2;go_ret;exact⟨ret_bool (by simp[h]),Below.refl _ _⟩
 ·go_enter Tryz.func121,Tryz.ntmps121
  go_wp2;go_ret;exact⟨ret_bool (by simp;omega),Below.refl _ _⟩
theorem mayKey_ok(x:Cl)(w:World)(hx:x.key.size≤9223372036854775807):
  Calls Tryz.prog 84 #[x.val] w fun r w'=>r=.returned (.bool (!kd x.op||decide (1≤x.key.size∧x.key.size≤20)))∧Below w.heap.size w w':=by
 obtain⟨op,key,t,v,e,u,s⟩:=x
 dsimp only at hx ⊢
 have K:=hid (fun w=>keyed_ok ⟨op,key,t,v,e,u,s⟩ w)
 have M:=hid (fun w=>Fnv.may_ok key w hx)
 dsimp only at K
 generalize kd op=q at *
 generalize decide (1≤key.size∧key.size≤20)=m at *
 cases q
 ·go_enter Tryz.func84,Tryz.ntmps84
  have S0:=hid (Seven.new w ⟨op,key,t,v,e,u,s⟩);go_wp2_with fail
  refine (K.out _).mono ?_
  rintro r w1 ⟨rfl,k1⟩;go_wp2;go_ret;exact⟨rfl,after (below1 _ _) k1⟩
 ·go_enter Tryz.func84,Tryz.ntmps84
  have S0:=hid (Seven.new w ⟨op,key,t,v,e,u,s⟩);go_wp2_with fail
  refine (K.out _).mono ?_
  rintro r w1 ⟨rfl,k1⟩;obtain⟨c0,c1,c2,c3,c4,c5,c6⟩:=S0.out.next k1;go_wp2_with fail
  refine (M.out _).mono ?_
  rintro r w2 ⟨rfl,k2⟩;go_wp2;go_ret;exact⟨rfl,after (after (below1 _ _) k1) k2⟩
theorem mayWindow_ok(x:Cl)(w:World):
  Calls Tryz.prog 85 #[x.val] w fun r w'=>r=.returned (.bool (decide (x.op≠4)||decide (x.t<x.e)))∧Below w.heap.size w w':=by
 obtain⟨op,key,t,v,e,u,s⟩:=x
 dsimp only
 have M:=hid (fun w=>Spn.may_ok t e w)
 generalize decide (t<e)=m at *
 by_cases h:op=4
 ·subst h
  go_enter Tryz.func85,Tryz.ntmps85;have S0:=hid (Seven.new w ⟨4,key,t,v,e,u,s⟩);go_wp2_with fail
  refine (M.out _).mono ?_
  rintro r w1 ⟨rfl,k1⟩;go_wp2;go_ret;exact⟨rfl,after (below1 _ _) k1⟩
 ·have h':(op != 4)=true:=by simp[h]
  have e:(decide (op≠4)||m)=true:=by simp[h]
  rw[e];clear e h;go_enter Tryz.func85,Tryz.ntmps85;go_wp2;go_ret;exact⟨rfl,below1 _ _⟩
theorem mayMove_ok(c:Cf)(x:Cl)(w:World):
  Calls Tryz.prog 86 #[c.val,x.val] w fun r w'=>r=.returned (.bool (decide (x.op≠6)||(decide (0≤x.u∧x.u<c.r)&&decide (0≤x.s∧x.s<c.h))))∧Below w.heap.size w w':=by
 have S0:=hid (Both.new w c x)
 have M1:=hid (fun w=>below_ok x.u c.r w)
 have M2:=hid (fun w=>below_ok x.s c.h w)
 obtain⟨op,key,t,v,e,u,s⟩:=x
 obtain⟨ck,cs,cl,cg,cz,ch,cr,cc⟩:=c
 dsimp only at M1 M2 S0 ⊢
 generalize decide (0≤u∧u<cr)=m1 at *
 generalize decide (0≤s∧s<ch)=m2 at *
 by_cases h:op=6
 ·subst h
  cases m1
  ·go_enter Tryz.func86,Tryz.ntmps86
   go_wp2_with fail
   refine (M1.out _).mono ?_
   rintro r w1 ⟨rfl,k1⟩;go_wp2;go_ret;exact⟨rfl,after (below2 _ _ _) k1⟩
  ·go_enter Tryz.func86,Tryz.ntmps86
   go_wp2_with fail
   refine (M1.out _).mono ?_
   rintro r w1 ⟨rfl,k1⟩;obtain⟨⟨c0,c1,c2,c3,c4,c5,c6,c7⟩,d0,d1,d2,d3,d4,d5,d6⟩:=S0.out.next k1;go_wp2_with fail
   refine (M2.out _).mono ?_
   rintro r w2 ⟨rfl,k2⟩;go_wp2;go_ret;exact⟨ret_bool (by cases m2<;>rfl),after (after (below2 _ _ _) k1) k2⟩
 ·have h':(op != 6)=true:=by simp[h]
  have e:(decide (op≠6)||(m1&&m2))=true:=by simp[h]
  rw[e];clear e h M1 M2;go_enter Tryz.func86,Tryz.ntmps86;go_wp2;go_ret;exact⟨rfl,below2 _ _ _⟩
theorem may_all(c:Cf)(x:Cl)(w:World)(a1 a2 a3 a4 a5:Bool)
  (A1:Hid (∀ w,Calls Tryz.prog 62 #[c.val] w fun r w'=>r=.returned (.bool a1)∧Below w.heap.size w w'))
  (A2:Hid (∀ w,Calls Tryz.prog 83 #[.int .i64 x.op] w fun r w'=>r=.returned (.bool a2)∧Below w.heap.size w w'))
  (A3:Hid (∀ w,Calls Tryz.prog 84 #[x.val] w fun r w'=>r=.returned (.bool a3)∧Below w.heap.size w w'))
  (A4:Hid (∀ w,Calls Tryz.prog 85 #[x.val] w fun r w'=>r=.returned (.bool a4)∧Below w.heap.size w w'))
  (A5:Hid (∀ w,Calls Tryz.prog 86 #[c.val,x.val] w fun r w'=>r=.returned (.bool a5)∧Below w.heap.size w w'))
  :Calls Tryz.prog 49 #[c.val,x.val] w fun r w'=>r=.returned (.bool (a1&&(a2&&(a3&&(a4&&a5)))))∧Below w.heap.size w w':=by
 have S0:=hid (Both.new w c x)
 obtain⟨op,key,t,v,e,u,s⟩:=x
 obtain⟨ck,cs,cl,cg,cz,ch,cr,cc⟩:=c
 dsimp only at S0 A1 A2 A3 A4 A5 ⊢
 cases a1
 ·go_enter Tryz.func49,Tryz.ntmps49
  go_wp2_with fail
  refine (A1.out _).mono ?_
  rintro r w1 ⟨rfl,k1⟩;go_wp2;go_ret;exact⟨rfl,after (below2 _ _ _) k1⟩
 ·skip
  cases a2
  ·go_enter Tryz.func49,Tryz.ntmps49
   go_wp2_with fail
   refine (A1.out _).mono ?_
   rintro r w1 ⟨rfl,k1⟩;have S1:=hid (S0.out.next k1);obtain⟨⟨c0,c1,c2,c3,c4,c5,c6,c7⟩,d0,d1,d2,d3,d4,d5,d6⟩:=S1.out;go_wp2_with fail
   refine (A2.out _).mono ?_
   rintro r w2 ⟨rfl,k2⟩;go_wp2;go_ret;exact⟨rfl,after (after (below2 _ _ _) k1) k2⟩
  ·skip
   cases a3
   ·go_enter Tryz.func49,Tryz.ntmps49
    go_wp2_with fail
    refine (A1.out _).mono ?_
    rintro r w1 ⟨rfl,k1⟩;have S1:=hid (S0.out.next k1);obtain⟨⟨c0,c1,c2,c3,c4,c5,c6,c7⟩,d0,d1,d2,d3,d4,d5,d6⟩:=S1.out;go_wp2_with fail
    refine (A2.out _).mono ?_
    rintro r w2 ⟨rfl,k2⟩;have S2:=hid (S1.out.next k2);clear c0 c1 c2 c3 c4 c5 c6 c7 d0 d1 d2 d3 d4 d5 d6;obtain⟨⟨c0,c1,c2,c3,c4,c5,c6,c7⟩,d0,d1,d2,d3,d4,d5,d6⟩:=S2.out;go_wp2_with fail
    refine (A3.out _).mono ?_
    rintro r w3 ⟨rfl,k3⟩;go_wp2;go_ret;exact⟨rfl,after (after (after (below2 _ _ _) k1) k2) k3⟩
   ·skip
    cases a4
    ·go_enter Tryz.func49,Tryz.ntmps49
     go_wp2_with fail
     refine (A1.out _).mono ?_
     rintro r w1 ⟨rfl,k1⟩;have S1:=hid (S0.out.next k1);obtain⟨⟨c0,c1,c2,c3,c4,c5,c6,c7⟩,d0,d1,d2,d3,d4,d5,d6⟩:=S1.out;go_wp2_with fail
     refine (A2.out _).mono ?_
     rintro r w2 ⟨rfl,k2⟩;have S2:=hid (S1.out.next k2);clear c0 c1 c2 c3 c4 c5 c6 c7 d0 d1 d2 d3 d4 d5 d6;obtain⟨⟨c0,c1,c2,c3,c4,c5,c6,c7⟩,d0,d1,d2,d3,d4,d5,d6⟩:=S2.out;go_wp2_with fail
     refine (A3.out _).mono ?_
     rintro r w3 ⟨rfl,k3⟩;have S3:=hid (S2.out.next k3);clear c0 c1 c2 c3 c4 c5 c6 c7 d0 d1 d2 d3 d4 d5 d6;obtain⟨⟨c0,c1,c2,c3,c4,c5,c6,c7⟩,d0,d1,d2,d3,d4,d5,d6⟩:=S3.out;go_wp2_with fail
     refine (A4.out _).mono ?_
     rintro r w4 ⟨rfl,k4⟩;go_wp2;go_ret;exact⟨rfl,after (after (after (after (below2 _ _ _) k1) k2) k3) k4⟩
    ·skip
     ·go_enter Tryz.func49,Tryz.ntmps49
      go_wp2_with fail
      refine (A1.out _).mono ?_
      rintro r w1 ⟨rfl,k1⟩;have S1:=hid (S0.out.next k1);obtain⟨⟨c0,c1,c2,c3,c4,c5,c6,c7⟩,d0,d1,d2,d3,d4,d5,d6⟩:=S1.out;go_wp2_with fail
      refine (A2.out _).mono ?_
      rintro r w2 ⟨rfl,k2⟩;have S2:=hid (S1.out.next k2);clear c0 c1 c2 c3 c4 c5 c6 c7 d0 d1 d2 d3 d4 d5 d6;obtain⟨⟨c0,c1,c2,c3,c4,c5,c6,c7⟩,d0,d1,d2,d3,d4,d5,d6⟩:=S2.out;go_wp2_with fail
      refine (A3.out _).mono ?_
      rintro r w3 ⟨rfl,k3⟩;have S3:=hid (S2.out.next k3);clear c0 c1 c2 c3 c4 c5 c6 c7 d0 d1 d2 d3 d4 d5 d6;obtain⟨⟨c0,c1,c2,c3,c4,c5,c6,c7⟩,d0,d1,d2,d3,d4,d5,d6⟩:=S3.out;go_wp2_with fail
      refine (A4.out _).mono ?_
      rintro r w4 ⟨rfl,k4⟩;have S4:=hid (S3.out.next k4);clear c0 c1 c2 c3 c4 c5 c6 c7 d0 d1 d2 d3 d4 d5 d6;obtain⟨⟨c0,c1,c2,c3,c4,c5,c6,c7⟩,d0,d1,d2,d3,d4,d5,d6⟩:=S4.out;go_wp2_with fail
      refine (A5.out _).mono ?_
      rintro r w5 ⟨rfl,k5⟩;go_wp2;go_ret;exact⟨rfl,after (after (after (after (after (below2 _ _ _) k1) k2) k3) k4) k5⟩
theorem may_ok(c:Cf)(x:Cl)(w:World)(b:Bool)(B:Hid (b=true↔mayC c x))(hc:c.Fit)(hx:x.Fit):
  Calls Tryz.prog 49 #[c.val,x.val] w fun r w'=>r=.returned (.bool b)∧Below w.heap.size w w':=by
 obtain⟨m,hm⟩:∃ m:Bool,m=true↔c.may:=by classical exact⟨decide c.may,by simp⟩
 have s1:=(Num.fit hc.2.1).2
 refine told b (may_all c x w m _ _ _ _ (hid fun w=>Asg.may_ok c.k c.s c.l c.g c.z c.h c.r c.c w m (hid hm) s1) (hid fun w=>isOp_ok x.op w) (hid fun w=>mayKey_ok x w hx.2.1)
  (hid fun w=>mayWindow_ok x w) (hid fun w=>mayMove_ok c x w)) ?_
 rw[Bool.eq_iff_iff,B.out]
 unfold mayC
 simp only[Bool.and_eq_true,hm,Bool.or_eq_true,Bool.not_eq_true',decide_eq_true_eq,ne_eq]
 have e:∀ p:Prop,(kd x.op=false∨p)↔(kd x.op=true→p):=fun p=>by cases kd x.op<;>simp
 rw[e,Decidable.imp_iff_not_or (a:=x.op=4),Decidable.imp_iff_not_or (a:=x.op=6)]
inductive Why(c:Cf)(x:Cl):Bool→Prop
 |config (h:¬c.may):Why c x false
 |low (h:c.may) (h1:x.op<1):Why c x false
 |high (h:c.may) (h1:7<x.op):Why c x false
 |key (h:c.may) (h1:1≤x.op) (h2:x.op≤7) (hk:kd x.op=true) (h3:x.key.size<1∨20<x.key.size):Why c x false
 |wins (h:c.may) (h1:x.op=4) (h2:1≤x.key.size) (h3:x.key.size≤20) (b:Bool) (h4:Hid (b=true↔x.t<x.e)):Why c x b
 |move (h:c.may) (h1:x.op=6) (b:Bool) (h4:Hid (b=true↔((0≤x.u∧x.u<c.r)∧0≤x.s∧x.s<c.h))):Why c x b
 |keyed (h:c.may) (h1:1≤x.op) (h2:x.op≤7) (hk:kd x.op=true) (h4:x.op≠4) (h6:x.op≠6) (h7:1≤x.key.size) (h8:x.key.size≤20):Why c x true
 |other (h:c.may) (h1:1≤x.op) (h2:x.op≤7) (hk:kd x.op=false) (h4:x.op≠4) (h6:x.op≠6):Why c x true
theorem why(c:Cf)(x:Cl)(b:Bool)(B:b=true↔mayC c x):Why c x b:=by
 unfold mayC at B
 by_cases h0:¬c.may
 ·have h:=h0
  obtain rfl:b=false:=by rw[←Bool.not_eq_true,B];simp[h]
  exact .config h
 have h:c.may:=Classical.not_not.1 h0
 clear h0
 by_cases h1:x.op<1
 ·obtain rfl:b=false:=by rw[←Bool.not_eq_true,B];omega
  exact .low h h1
 by_cases h2:7<x.op
 ·obtain rfl:b=false:=by rw[←Bool.not_eq_true,B];omega
  exact .high h h2
 by_cases h4:x.op=4
 ·have hk:kd x.op=true:=by rw[h4];rfl
  by_cases h3:x.key.size<1∨20<x.key.size
  ·obtain rfl:b=false:=by rw[←Bool.not_eq_true,B];simp[hk];omega
   exact .key h (by omega) (by omega) hk h3
  ·refine .wins h h4 (by omega) (by omega) b (hid ?_)
   rw[B];have h6:x.op≠6:=by omega
   exact⟨fun q=>q.2.2.2.1 h4,fun q=>⟨h,by omega,fun _=>by omega,fun _=>q,fun q=>absurd q h6⟩⟩
 by_cases h6:x.op=6
 ·refine .move h h6 b (hid ?_)
  have hk:kd x.op=false:=by rw[h6];rfl
  rw[B];exact⟨fun q=>q.2.2.2.2 h6,fun q=>⟨h,by omega,fun p=>absurd p (by rw[hk];decide),fun p=>absurd p h4,fun _=>q⟩⟩
 cases hk:kd x.op
 ·obtain rfl:b=true:=B.2 ⟨h,by omega,fun q=>absurd q (by rw[hk];decide),fun q=>absurd q h4,fun q=>absurd q h6⟩
  exact .other h (by omega) (by omega) hk h4 h6
 ·by_cases h3:x.key.size<1∨20<x.key.size
  ·obtain rfl:b=false:=by rw[←Bool.not_eq_true,B];simp[hk];omega
   exact .key h (by omega) (by omega) hk h3
  ·obtain rfl:b=true:=B.2 ⟨h,by omega,fun _=>by omega,fun q=>absurd q h4,fun q=>absurd q h6⟩
   exact .keyed h (by omega) (by omega) hk h4 h6 (by omega) (by omega)
theorem rmay_ok(c:Cf)(x:Cl)(w:World)(b:Bool)(B:Hid (b=true↔mayC c x))(hc:c.Fit)(hx:x.Fit):
  Calls Tryz.prog 45 #[c.val,x.val] w fun r w'=>r=.returned (.bool b)∧Below w.heap.size w w':=by
 have W:=why c x b B.out
 have s1:=(Num.fit hc.2.1).2
 have M:Hid (∀ (m:Bool) (hm:m=true↔c.may) (w:World),Calls Tryz.prog 7 #[c.val] w fun r w'=>r=.returned (.bool m)∧Below w.heap.size w w'):=
  hid fun m hm w=>Asg.refMay_ok c.k c.s c.l c.g c.z c.h c.r c.c w m (hid hm) s1
 have S0:=hid (Both.new w c x)
 have K:=hid (fun w=>rkeyed_ok x w)
 clear B hc s1
 have z1:=hx.2.1
 clear hx
 obtain⟨op,key,t,v,e,u,s⟩:=x
 obtain⟨ck,cs,cl,cg,cz,ch,cr,cc⟩:=c
 cases W with
 |config h=>
  have M1:=hid (M.out false (by simp[h]))
  dsimp only at M1 S0 z1 ⊢;clear M h K;go_enter Tryz.func45,Tryz.ntmps45;go_wp2_with fail
  refine (M1.out _).mono ?_
  rintro r w1 ⟨rfl,k1⟩;go_wp2;go_ret;exact⟨rfl,after (below2 _ _ _) k1⟩
 |low h h1=>
  have M1:=hid (M.out true (by simp[h]))
  dsimp only at M1 S0 h1 z1 ⊢;clear M h K;go_enter Tryz.func45,Tryz.ntmps45;go_wp2_with fail
  refine (M1.out _).mono ?_
  rintro r w1 ⟨rfl,k1⟩;obtain⟨⟨c0,c1,c2,c3,c4,c5,c6,c7⟩,d0,d1,d2,d3,d4,d5,d6⟩:=S0.out.next k1;go_wp2;go_ret;exact⟨rfl,after (below2 _ _ _) k1⟩
 |high h h1=>
  have M1:=hid (M.out true (by simp[h]))
  dsimp only at M1 S0 h1 z1 ⊢;clear M h K;go_enter Tryz.func45,Tryz.ntmps45;go_wp2_with fail
  refine (M1.out _).mono ?_
  rintro r w1 ⟨rfl,k1⟩;obtain⟨⟨c0,c1,c2,c3,c4,c5,c6,c7⟩,d0,d1,d2,d3,d4,d5,d6⟩:=S0.out.next k1;go_wp2;go_ret;exact⟨rfl,after (below2 _ _ _) k1⟩
 |key h h1 h2 hk h3=>
  have M1:=hid (M.out true (by simp[h]))
  dsimp only at M1 S0 K z1 ⊢;clear M h;dsimp only at h1 h2 hk h3;rw[hk] at K;clear hk;go_enter Tryz.func45,Tryz.ntmps45;go_wp2_with fail
  refine (M1.out _).mono ?_
  rintro r w1 ⟨rfl,k1⟩;have S1:=hid (S0.out.next k1);obtain⟨⟨c0,c1,c2,c3,c4,c5,c6,c7⟩,d0,d1,d2,d3,d4,d5,d6⟩:=S1.out;go_wp2_with fail
  refine (K.out _).mono ?_
  rintro r w2 ⟨rfl,k2⟩;have S2:=hid (S1.out.next k2);clear c0 c1 c2 c3 c4 c5 c6 c7 d0 d1 d2 d3 d4 d5 d6;obtain⟨⟨c0,c1,c2,c3,c4,c5,c6,c7⟩,d0,d1,d2,d3,d4,d5,d6⟩:=S2.out;have k:=hid (after (after (below2 _ _ _) k1) k2);rcases h3 with h3|h3
  ·go_wp2
   go_ret;exact⟨rfl,k.out⟩
  ·have h4:¬(key.size:Int)<1:=by omega
   go_wp2;go_ret;exact⟨rfl,k.out⟩
 |wins h h1 h2 h3 b h4=>
  have M1:=hid (M.out true (by simp[h]))
  dsimp only at M1 S0 K z1 ⊢;clear M h;dsimp only at h1 h2 h3 h4;subst h1;have hk:kd 4=true:=rfl;rw[hk] at K;clear hk;go_enter Tryz.func45,Tryz.ntmps45;go_wp2_with fail
  refine (M1.out _).mono ?_
  rintro r w1 ⟨rfl,k1⟩;have S1:=hid (S0.out.next k1);obtain⟨⟨c0,c1,c2,c3,c4,c5,c6,c7⟩,d0,d1,d2,d3,d4,d5,d6⟩:=S1.out;go_wp2_with fail
  refine (K.out _).mono ?_
  rintro r w2 ⟨rfl,k2⟩;have S2:=hid (S1.out.next k2);clear c0 c1 c2 c3 c4 c5 c6 c7 d0 d1 d2 d3 d4 d5 d6;obtain⟨⟨c0,c1,c2,c3,c4,c5,c6,c7⟩,d0,d1,d2,d3,d4,d5,d6⟩:=S2.out;have k:=hid (after (after (below2 _ _ _) k1) k2);have g1:¬(key.size:Int)<1:=by omega
  have g2:¬(20:Int)<key.size:=by omega
  by_cases g:t<e
  ·obtain rfl:b=true:=h4.out.2 g
   have g':¬e≤t:=by omega
   go_wp2;go_ret;exact⟨rfl,k.out⟩
  ·obtain rfl:b=false:=by rw[←Bool.not_eq_true,h4.out];exact g
   have g':e≤t:=by omega
   go_wp2;go_ret;exact⟨rfl,k.out⟩
 |move h h1 b h4=>
  have M1:=hid (M.out true (by simp[h]))
  dsimp only at M1 S0 K z1 ⊢;clear M h;dsimp only at h1 h4;subst h1;have hk:kd 6=false:=rfl;rw[hk] at K;clear hk;go_enter Tryz.func45,Tryz.ntmps45;go_wp2_with fail
  refine (M1.out _).mono ?_
  rintro r w1 ⟨rfl,k1⟩;have S1:=hid (S0.out.next k1);obtain⟨⟨c0,c1,c2,c3,c4,c5,c6,c7⟩,d0,d1,d2,d3,d4,d5,d6⟩:=S1.out;go_wp2_with fail
  refine (K.out _).mono ?_
  rintro r w2 ⟨rfl,k2⟩;have S2:=hid (S1.out.next k2);clear c0 c1 c2 c3 c4 c5 c6 c7 d0 d1 d2 d3 d4 d5 d6;obtain⟨⟨c0,c1,c2,c3,c4,c5,c6,c7⟩,d0,d1,d2,d3,d4,d5,d6⟩:=S2.out;have k:=hid (after (after (below2 _ _ _) k1) k2);by_cases g1:0≤u
  ·by_cases g2:u<cr
   ·by_cases g3:0≤s
    ·by_cases g4:s<ch
     ·obtain rfl:b=true:=h4.out.2 ⟨⟨g1,g2⟩,g3,g4⟩
      go_wp2;go_ret;exact⟨rfl,k.out⟩
     ·obtain rfl:b=false:=by rw[←Bool.not_eq_true,h4.out];omega
      go_wp2;go_ret;exact⟨ret_bool (by simp;omega),k.out⟩
    ·obtain rfl:b=false:=by rw[←Bool.not_eq_true,h4.out];omega
     go_wp2;go_ret;exact⟨rfl,k.out⟩
   ·obtain rfl:b=false:=by rw[←Bool.not_eq_true,h4.out];omega
    go_wp2;go_ret;exact⟨rfl,k.out⟩
  ·obtain rfl:b=false:=by rw[←Bool.not_eq_true,h4.out];omega
   go_wp2;go_ret;exact⟨rfl,k.out⟩
 |keyed h h1 h2 hk h4 h6 h7 h8=>
  have M1:=hid (M.out true (by simp[h]))
  dsimp only at M1 S0 K z1 ⊢;clear M h;dsimp only at h1 h2 hk h4 h6 h7 h8;rw[hk] at K;have q4:(op == 4)=false:=by simp[h4]
  have q6:(op != 6)=true:=by simp[h6]
  clear hk h4 h6;go_enter Tryz.func45,Tryz.ntmps45;go_wp2_with fail
  refine (M1.out _).mono ?_
  rintro r w1 ⟨rfl,k1⟩;have S1:=hid (S0.out.next k1);obtain⟨⟨c0,c1,c2,c3,c4,c5,c6,c7⟩,d0,d1,d2,d3,d4,d5,d6⟩:=S1.out;go_wp2_with fail
  refine (K.out _).mono ?_
  rintro r w2 ⟨rfl,k2⟩;have S2:=hid (S1.out.next k2);clear c0 c1 c2 c3 c4 c5 c6 c7 d0 d1 d2 d3 d4 d5 d6;obtain⟨⟨c0,c1,c2,c3,c4,c5,c6,c7⟩,d0,d1,d2,d3,d4,d5,d6⟩:=S2.out;have k:=hid (after (after (below2 _ _ _) k1) k2);have g1:¬(key.size:Int)<1:=by omega
  have g2:¬(20:Int)<key.size:=by omega
  go_wp2;go_ret;exact⟨rfl,k.out⟩
 |other h h1 h2 hk h4 h6=>
  have M1:=hid (M.out true (by simp[h]))
  dsimp only at M1 S0 K z1 ⊢;clear M h;dsimp only at h1 h2 hk h4 h6;rw[hk] at K;have q4:(op == 4)=false:=by simp[h4]
  have q6:(op != 6)=true:=by simp[h6]
  clear hk h4 h6;go_enter Tryz.func45,Tryz.ntmps45;go_wp2_with fail
  refine (M1.out _).mono ?_
  rintro r w1 ⟨rfl,k1⟩;have S1:=hid (S0.out.next k1);obtain⟨⟨c0,c1,c2,c3,c4,c5,c6,c7⟩,d0,d1,d2,d3,d4,d5,d6⟩:=S1.out;go_wp2_with fail
  refine (K.out _).mono ?_
  rintro r w2 ⟨rfl,k2⟩;have S2:=hid (S1.out.next k2);clear c0 c1 c2 c3 c4 c5 c6 c7 d0 d1 d2 d3 d4 d5 d6;obtain⟨⟨c0,c1,c2,c3,c4,c5,c6,c7⟩,d0,d1,d2,d3,d4,d5,d6⟩:=S2.out;have k:=hid (after (after (below2 _ _ _) k1) k2);go_wp2;go_ret;exact⟨rfl,k.out⟩
def grpOf(g:Int)(x:Cl):Int:=if kd x.op=true then Fnv.grp (Fnv.num x.key.data.toList) g else if x.op=6 then x.u else -1
theorem group_ok(c:Cf)(x:Cl)(w:World)(hc:c.Fit)(hx:x.Fit):Calls Tryz.prog 99 #[c.val,x.val] w fun r w'=>r=.returned (.int .i64 (grpOf c.r x))∧Below w.heap.size w w':=by
 have S0:=hid (Both.new w c x)
 have K:=hid (fun w=>keyed_ok x w)
 have G:=hid (fun w=>Fnv.group_ok x.key c.r w hx.2.1 (Num.fit hc.2.2.2.2.2.2.1).1 (Num.fit hc.2.2.2.2.2.2.1).2)
 have E:Hid (grpOf c.r x=if kd x.op=true then Fnv.grp (Fnv.num x.key.data.toList) c.r else if x.op=6 then x.u else -1):=hid rfl
 clear hc hx
 obtain⟨op,key,t,v,e,u,s⟩:=x
 obtain⟨ck,cs,cl,cg,cz,ch,cr,cc⟩:=c
 dsimp only at S0 K G E ⊢
 generalize grpOf cr ⟨op,key,t,v,e,u,s⟩=q at *
 generalize Fnv.grp (Fnv.num key.data.toList) cr=q1 at *
 by_cases hk:kd op=true
 ·rw[hk] at K
  obtain rfl:q=q1:=by rw[E.out,if_pos hk]
  clear hk E;go_enter Tryz.func99,Tryz.ntmps99;go_wp2_with fail
  refine (K.out _).mono ?_
  rintro r w1 ⟨rfl,k1⟩;obtain⟨⟨c0,c1,c2,c3,c4,c5,c6,c7⟩,d0,d1,d2,d3,d4,d5,d6⟩:=S0.out.next k1;go_wp2_with fail
  refine (G.out _).mono ?_
  rintro r w2 ⟨rfl,k2⟩;go_wp2;go_ret;exact⟨rfl,after (after (below2 _ _ _) k1) k2⟩
 ·have hk':kd op=false:=by simpa using hk
  rw[hk'] at K;by_cases h6:op=6
  ·obtain rfl:q=u:=by rw[E.out,if_neg hk,if_pos h6]
   subst h6;clear hk hk' E;go_enter Tryz.func99,Tryz.ntmps99;go_wp2_with fail
   refine (K.out _).mono ?_
   rintro r w1 ⟨rfl,k1⟩;obtain⟨⟨c0,c1,c2,c3,c4,c5,c6,c7⟩,d0,d1,d2,d3,d4,d5,d6⟩:=S0.out.next k1;go_wp2;go_ret;exact⟨rfl,after (below2 _ _ _) k1⟩
  ·obtain rfl:q = -1:=by rw[E.out,if_neg hk,if_neg h6]
   have q6:(op == 6)=false:=by simp[h6]
   clear hk hk' E h6;go_enter Tryz.func99,Tryz.ntmps99;go_wp2_with fail
   refine (K.out _).mono ?_
   rintro r w1 ⟨rfl,k1⟩;obtain⟨⟨c0,c1,c2,c3,c4,c5,c6,c7⟩,d0,d1,d2,d3,d4,d5,d6⟩:=S0.out.next k1;go_wp2;go_ret;exact⟨rfl,after (below2 _ _ _) k1⟩
abbrev rep(c:Int)(l:Value):Value:=.agg #[.int .i64 c,l]
theorem same_ok(c d:Int)(l m:Value)(L M:List Pn)(w:World)(H:Hid (Out.Rd w l L))(G:Hid (Out.Rd w m M))(hn:L.length≤9000)(hn2:M.length≤9000):
  Calls Tryz.prog 21 #[rep c l,rep d m] w fun r w'=>r=.returned (.bool (decide (c=d∧L=M)))∧Below w.heap.size w w':=by
 have B2:=hid (below2 w (Obj.cells #[.int .i64 c,l] 43) (Obj.cells #[.int .i64 d,m] 43))
 have E:=hid (Out.equal_ok l m L M _ (hid (H.out.next B2.out)) (hid (G.out.next B2.out)) hn hn2)
 obtain⟨AD,cap,hl⟩:=H.out.len
 obtain⟨AE,cap2,hm⟩:=G.out.len
 subst hl hm
 by_cases h:c=d
 ·have e:decide (c=d∧L=M)=decide (L=M):=by simp[h]
  rw[e];clear e;subst h;generalize decide (L=M)=b at *;go_enter Tryz.func21,Tryz.ntmps21;go_wp2_with fail
  refine E.out.mono ?_
  rintro r w1 ⟨rfl,k1⟩;go_wp2;go_ret;exact⟨rfl,after B2.out k1⟩
 ·have e:decide (c=d∧L=M)=false:=by simp[h]
  have h':(c == d)=false:=by simp[h]
  rw[e];clear e h E;go_enter Tryz.func21,Tryz.ntmps21;go_wp2;go_ret;exact⟨rfl,B2.out⟩
theorem cells_call:Tryz.prog.cellsOf 46=7:=by kernel_rfl
section
variable {H:Type} {enc:TypeId×Value→H} {w:World} {base:Nat} {held:Bool} {spare:Nat→Bool}
theorem call_cells(m:Nat)(cs:List Value)(y:DataW H×List MemPlace)(h:DataW.trod enc Tryz.prog w base spare held m 46 cs=some y):∃ x:Cl,cs=x.cl∧x.Fit:=by
 obtain⟨xs,n,_,_,hl,hlen,hat⟩:=DataW.trod_struct Tryz.underlying46 h
 match cs,hl.trans cells_call with
 |[c0,c1,c2,c3,c4,c5,c6],_=>
  match xs,hlen with
  |[y0,y1,y2,y3,y4,y5,y6],_=>
   have g0:=hat 0 _ rfl;have g1:=hat 1 _ rfl;have g2:=hat 2 _ rfl;have g3:=hat 3 _ rfl;have g4:=hat 4 _ rfl;have g5:=hat 5 _ rfl;have g6:=hat 6 _ rfl;simp[Out.cellsI64,Out.cellsN,Out.cellsStr] at g0 g1 g2 g3 g4 g5 g6;obtain⟨a0,e0,-,w0⟩:=DataW.trod_int Tryz.underlying3 g0;obtain⟨a1,e1,-,w1⟩:=DataW.trod_string Tryz.underlying9 g1;obtain⟨a2,e2,-,w2⟩:=DataW.trod_int Tryz.underlying2 g2;obtain⟨a3,e3,-,w3⟩:=DataW.trod_int Tryz.underlying2 g3;obtain⟨a4,e4,-,w4⟩:=DataW.trod_int Tryz.underlying2 g4;obtain⟨a5,e5,-,w5⟩:=DataW.trod_int Tryz.underlying3 g5;obtain⟨a6,e6,-,w6⟩:=DataW.trod_int Tryz.underlying3 g6;simp at e0 e1 e2 e3 e4 e5 e6;subst e0 e1 e2 e3 e4 e5 e6;exact⟨⟨a0,a1,a2,a3,a4,a5,a6⟩,rfl,w0,Nat.le_trans w1 (by decide),w2,w3,w4,w5,w6⟩
end
end Ca
namespace Opens
theorem open_config{H:Type}{enc:TypeId×Value→H}{w:World}{base:Nat}{held:Bool}{spare:Nat→Bool}{r:Reach}{b0:Nat}{v:Value}{d:DataW H}{p:List MemPlace}
  (hv:Value.okWide Tryz.prog w r b0 23 v) (h:DataW.Trod enc Tryz.prog w base spare held 23 v d p):∃ x:Cf,v=x.val∧x.Fit:=by
 obtain⟨x0,x1,x2,x3,x4,x5,x6,x7,h1,h2⟩:=open_cfg hv h
 exact⟨⟨x0,x1,x2,x3,x4,x5,x6,x7⟩,h1,h2⟩
end Opens
end Go.Proofs.YtfjlnniahfbdfaaGreat
