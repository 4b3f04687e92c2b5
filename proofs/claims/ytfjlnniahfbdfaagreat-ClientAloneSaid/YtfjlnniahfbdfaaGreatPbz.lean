/- A part of the proof. -/
import Derived.Test.YtfjlnniahfbdfaaGreatPbx
import Derived.Test.YtfjlnniahfbdfaaGreatPbo
set_option linter.unusedVariables false
set_option maxHeartbeats 4000000
namespace Go.Proofs.YtfjlnniahfbdfaaGreat
open Lib (hid)
open Go.ChangeShapes Go.WideShapes Go.ChangeAt Go.RowKit
set_option maxRecDepth 100000
namespace Cn
open Small Foot Fm Ca Sh Grp
open Md (cfOf)
open RelJ (updD updF updD_same updD_other updF_same updF_other)
structure Al(c8:C8)(E:Ev)(q:Int→Option Nat)(T:Nat→MS)(Wf:Nat→Int×List Pn)(ws:List Nat)(w3 w6 wL:World)(ge:Nat)(wv:Value)(s:St)(p:Nat→Int→Option Nat)(S:Int→Grp.Lists)(N:Nat)(n1:Int→Nat)(R:Nat→Nat→Prop)(wr:World):Prop where
 cm:CM w3 E s R wr
 wm:WM c8 E.bs ws p q S N n1 R wr
 env:Bo R wr ge 32 E.cl
 wl:Sl.Own Wk w3.heap.size wr wv ws
 r20:R 20=fun j=>wv.ownBlock=some j
 aside:∀ a,w6.heap.size≤a→a<wL.heap.size→wr.heap[a]?=wL.heap[a]?∧∀ i,¬R i a
 big:wL.heap.size≤wr.heap.size
section
variable {c8:C8} {E:Ev} {q:Int→Option Nat} {T:Nat→MS} {Wf:Nat→Int×List Pn} {ws:List Nat} {w3 w6 wL wr w':World} {ge:Nat} {wv:Value} {s s':St} {p p':Nat→Int→Option Nat} {S S':Int→Grp.Lists} {N N':Nat} {n1 n1':Int→Nat} {R R':Nat→Nat→Prop}
theorem Al.next(h:Al c8 E q T Wf ws w3 w6 wL ge wv s p S N n1 R wr)(k:Below wr.heap.size wr w'):Al c8 E q T Wf ws w3 w6 wL ge wv s p S N n1 R w':=
 ⟨h.cm.next k,h.wm.next h.cm.few h.cm.fam k,h.env.next k,h.wl.next k,h.r20,fun a a1 a2=>⟨(k.block a (Nat.lt_of_lt_of_le a2 h.big)).trans (h.aside a a1 a2).1,(h.aside a a1 a2).2⟩,Nat.le_trans h.big k.size⟩
theorem Al.client(h:Al c8 E q T Wf ws w3 w6 wL ge wv s p S N n1 R wr)(c:CM w3 E s' R' w')(o:On TT R wr R' w'):Al c8 E q T Wf ws w3 w6 wL ge wv s' p S N n1 R' w':=by
 have k20:=o.kp 20 (by unfold TT;omega)
 exact⟨c,h.wm.on h.cm.few o,h.env.on o,h.wl.move fun a ha=>k20.2 a (by rw[h.r20];exact ha),k20.1.trans h.r20,fun a a1 a2=>⟨(o.free a (Nat.lt_of_lt_of_le a2 h.big) (h.aside a a1 a2).2).1.trans (h.aside a a1 a2).1,(o.free a (Nat.lt_of_lt_of_le a2 h.big) (h.aside a a1 a2).2).2⟩,Nat.le_trans h.big o.size⟩
theorem Al.worker(h:Al c8 E q T Wf ws w3 w6 wL ge wv s p S N n1 R wr)(c:CM w3 E s' R' w')(v:WM c8 E.bs ws p' q S' N' n1' R' w')(o:On TW R wr R' w'):Al c8 E q T Wf ws w3 w6 wL ge wv s' p' S' N' n1' R' w':=by
 have k20:=o.kp 20 (by unfold TW;omega)
 exact⟨c,v,h.env.on o,h.wl.move fun a ha=>k20.2 a (by rw[h.r20];exact ha),k20.1.trans h.r20,fun a a1 a2=>⟨(o.free a (Nat.lt_of_lt_of_le a2 h.big) (h.aside a a1 a2).2).1.trans (h.aside a a1 a2).1,(o.free a (Nat.lt_of_lt_of_le a2 h.big) (h.aside a a1 a2).2).2⟩,Nat.le_trans h.big o.size⟩
end
section
variable {c8:C8} {E:Ev} {q:Int→Option Nat} {T:Nat→MS} {Wf:Nat→Int×List Pn} {ws:List Nat} {w3 w6 wL wr w':World} {ge:Nat} {wv:Value} {s s':St} {p p':Nat→Int→Option Nat} {S S':Int→Lists} {N N':Nat} {n1 n1':Int→Nat} {R R':Nat→Nat→Prop}
theorem Al.written{a m:Nat}(h:Al c8 E q T Wf ws w3 w6 wL ge wv s p S N n1 R wr)(k:wr.grownBy w' (some a))(hn:∀ i,¬R i a)(hg:a≠ge)(l3:w3.heap.size≤a)(lo:wL.heap.size≤a)(o:Old m s)(ha:m≤a):Al c8 E q T Wf ws w3 w6 wL ge wv s p S N n1 R w':=by
 have st:∀ b,b<wr.heap.size→b≠a→w'.heap[b]?=wr.heap[b]?:=fun b hb hne=>k.block b hb fun e=>hne (Option.some.inj e)
 have K:∀ i,Kp R R wr w' i:=fun i=>⟨rfl,fun b hb=>st b (h.cm.fam.in_ i b hb) fun e=>hn i (e▸hb)⟩
 exact⟨h.cm.aside k hn l3 o ha,h.wm.keep h.cm.few k.size fun i _=>K i,h.env.far k fun e=>hg e.symm,h.wl.move fun b hb=>(K 20).2 b (by rw[h.r20];exact hb),h.r20,fun b b1 b2=>⟨(st b (Nat.lt_of_lt_of_le b2 h.big) (by omega)).trans (h.aside b b1 b2).1,(h.aside b b1 b2).2⟩,Nat.le_trans h.big k.size⟩
end
structure Dv where
 m:Ms.M
 mv:Bool
 r:Rp
 oa:Option Addr
 on:Nat
 oc:Nat
 st:Option Nat
abbrev Dv.v(d:Dv):Value:=dval d.m d.mv d.r d.oa d.on d.oc d.st
abbrev Dv.cl(d:Dv):List Value:=dcl d.m d.mv d.r d.oa d.on d.oc d.st
section
variable (c8:C8) (E:Ev) (q:Int→Option Nat) (T:Nat→MS) (Wf:Nat→Int×List Pn) (ws:List Nat) (w3 w6 wL:World) (ge:Nat) (wv:Value) (k n:Nat) (b:Bool)
structure In3(i:Nat)(pt:Bool)(s:St)(p:Nat→Int→Option Nat)(S:Int→Lists)(N:Nat)(n1:Int→Nat)(R:Nat→Nat→Prop)(wr:World):Prop where
 al:Al c8 E q T Wf ws w3 w6 wL ge wv s p S N n1 R wr
 rs:Rs Wf k s
 at_:(Top c8 E q T Wf k n b pt s p S N∧∀ j,s.L j=[])∨(b=true∧k<E.cs.length∧∃ j,i≤j∧j<E.bs.length∧Mid c8 E q T Wf k n pt j s p S N∧∀ i,i≠j→s.L i=[])
def Aft(i:Nat)(pt:Bool)(n0:Nat)(X:Nat→Prop)(d:Dv)(bo:Bool)(w:World):Prop:=
 ∃ s p S N n1 R,Al c8 E q T Wf ws w3 w6 wL ge wv s p S N n1 R w∧Rs Wf k s∧Old n0 s∧(∀ b,X b↔(∃ i,R i b)∨b=ge∨d.r.pv.ownBlock=some b)∧(∃ base,Sl.Own Pn.k base w d.r.pv d.r.P)∧
   ((bo=false∧In3 c8 E q T Wf ws w3 w6 wL ge wv k n b (i+1) pt s p S N n1 R w)∨
    (bo=true∧b=true∧k<E.cs.length∧d.mv=false∧((d.m.kind == 1)=!pt)∧DidTo c8 w3 E q T Wf k n d.v d.r s p S N))
end
section
variable {c8:C8} {E:Ev} {q:Int→Option Nat} {T:Nat→MS} {Wf:Nat→Int×List Pn} {ws:List Nat} {w3 w6 wL w w':World} {ge:Nat} {wv:Value} {k n:Nat} {b:Bool} {i n0:Nat} {pt bo:Bool} {s:St} {p:Nat→Int→Option Nat} {S:Int→Lists} {N:Nat} {n1:Int→Nat} {R:Nat→Nat→Prop} {X:Nat→Prop} {d:Dv}
theorem In3.next(h:In3 c8 E q T Wf ws w3 w6 wL ge wv k n b i pt s p S N n1 R w)(kk:Below w.heap.size w w'):In3 c8 E q T Wf ws w3 w6 wL ge wv k n b i pt s p S N n1 R w':=⟨h.al.next kk,h.rs,h.at_⟩
theorem Aft.next(h:Aft c8 E q T Wf ws w3 w6 wL ge wv k n b i pt n0 X d bo w)(kk:Below w.heap.size w w'):Aft c8 E q T Wf ws w3 w6 wL ge wv k n b i pt n0 X d bo w':=by
 obtain⟨s,p,S,N,n1,R,a1,a2,a3,a4,⟨bs,a5⟩,a6⟩:=h
 refine⟨s,p,S,N,n1,R,a1.next kk,a2,a3,a4,⟨bs,a5.next kk⟩,?_⟩
 rcases a6 with ⟨e,h⟩|h
 ·exact .inl ⟨e,h.next kk⟩
 ·exact .inr h
theorem Aft.in_(h:Aft c8 E q T Wf ws w3 w6 wL ge wv k n b i pt n0 X d bo w){a:Nat}(hx:X a):a<w.heap.size:=by
 obtain⟨s,p,S,N,n1,R,a1,a2,a3,a4,⟨bs,a5⟩,a6⟩:=h
 rcases (a4 a).1 hx with ⟨i,r⟩|r|r
 ·exact a1.cm.fam.in_ i a r
 ·rw[r];exact a1.env.lies.lt
 ·exact (a5.lt a r).2
theorem Aft.aside(h:Aft c8 E q T Wf ws w3 w6 wL ge wv k n b i pt n0 X d bo w){a:Nat}(kk:w.grownBy w' (some a))(hn:¬X a)(l3:w3.heap.size≤n0)(lo:wL.heap.size≤n0)(ha:n0≤a):Aft c8 E q T Wf ws w3 w6 wL ge wv k n b i pt n0 X d bo w':=by
 obtain⟨s,p,S,N,n1,R,a1,a2,a3,a4,⟨bs,a5⟩,a6⟩:=h
 have hr:∀ i,¬R i a:=fun i r=>hn ((a4 a).2 (.inl ⟨i,r⟩))
 have hg:a≠ge:=fun e=>hn ((a4 a).2 (.inr (.inl e)))
 have ho:∀ c,d.r.pv.ownBlock=some c→c≠a:=fun c hc e=>hn ((a4 a).2 (.inr (.inr (e▸hc))))
 have A:=a1.written kk hr hg (by omega) (by omega) a3 ha
 refine⟨s,p,S,N,n1,R,A,a2,a3,a4,⟨bs,a5.move fun c hc=>kk.block c (a5.lt c hc).2 fun e=>ho c hc (Option.some.inj e)⟩,?_⟩
 rcases a6 with ⟨e,h⟩|h
 ·exact .inl ⟨e,A,h.rs,h.at_⟩
 ·exact .inr h
theorem In3.step{z:Nat→Option (Nat×Int×Int×Int)}{wk:Nat}(fx:Fx c8 E z T Wf)(h:In3 c8 E q T Wf ws w3 w6 wL ge wv k n b i pt s p S N n1 R w)(o:Old n0 s)(hi:ws[i]?=some wk):
  Calls Tryz.prog 17 #[gp wk,.int .i64 s.wm,.bool s.sd] w fun r w'=>∃ X d bo,r=.returned (.tuple #[d.v,.bool bo])∧Aft c8 E q T Wf ws w3 w6 wL ge wv k n b i pt n0 X d bo w'∧w.heap.size≤w'.heap.size∧∀ a,a<w.heap.size→(∀ i,¬R i a)→a≠ge→w'.heap[a]?=w.heap[a]?∧¬X a:=by
 have il:i<E.bs.length:=by rw[←h.al.wm.len];exact (List.getElem?_eq_some_iff.1 hi).1
 obtain⟨bx,h2⟩:∃ bx,E.bs[i]?=some bx:=⟨_,List.getElem?_eq_getElem il⟩
 by_cases mi:∃ n0,Mid c8 E q T Wf k n pt i s p S N∧(∀ j,j≠i→s.L j=[])∧b=true∧k<E.cs.length∧n0=0
 ·obtain⟨-,md,emp,hb,hk,-⟩:=mi
  refine (mid_any fx (hid h.al.cm) (hid h.al.wm) md h.rs emp il hk hi).mono ?_
  rintro r w' ⟨m,rr,oa,on,oc,st,s1,p1,S1,N1,n2,R',rfl,hm,c,v,o2,e1,e2,e3,e4,ow,dt⟩;refine⟨fun x=>(∃ i,R' i x)∨x=ge∨rr.pv.ownBlock=some x,⟨m,false,rr,oa,on,oc,st⟩,true,rfl,⟨s1,p1,S1,N1,n2,R',h.al.worker c v o2,h.rs.same e3,⟨by rw[e3];exact o.1,by rw[e4];exact o.2⟩,fun _=>Iff.rfl,⟨_,ow⟩,.inr ⟨rfl,hb,hk,rfl,hm,dt⟩⟩,o2.size,fun a a1 a2 a3=>⟨(o2.free a a1 a2).1,?_⟩⟩
  rintro (⟨i,r⟩|r|r)
  ·exact (o2.free a a1 a2).2 i r
  ·exact a3 r
  ·have:=(ow.lt a r).1;omega
 ·have eL:s.L i=[]:=by
   rcases h.at_ with ⟨-,e⟩|⟨hb,hk,j,ij,jl,md,emp⟩
   ·exact e i
   ·by_cases e:i=j
    ·subst e;exact absurd ⟨0,md,emp,hb,hk,rfl⟩ mi
    ·exact emp i e
  refine (wstep_none (mark:=s.wm) (sh:=s.sd) (hid h.al.cm) (hid h.al.wm) fx.hc hi h2 eL).mono ?_
  rintro r w' ⟨rfl,kk⟩;have A:=h.al.next kk;refine⟨fun x=>(∃ i,R i x)∨x=ge∨(Rp.pv r0).ownBlock=some x,⟨⟨0,0,c0z,0,none⟩,false,r0,none,0,0,none⟩,false,rfl,⟨s,p,S,N,n1,R,A,h.rs,o,fun _=>Iff.rfl,⟨w'.heap.size,Sl.Own.nil _ _ _⟩,.inl ⟨rfl,A,h.rs,?_⟩⟩,kk.size,fun a a1 a2 a3=>⟨kk.block a a1,?_⟩⟩
  ·rcases h.at_ with e|⟨hb,hk,j,ij,jl,md,emp⟩
   ·exact .inl e
   ·refine .inr ⟨hb,hk,j,?_,jl,md,emp⟩
    by_cases e:i=j
    ·subst e;exact absurd ⟨0,md,emp,hb,hk,rfl⟩ mi
    ·omega
  ·rintro (⟨i,r⟩|r|r)
   ·exact a2 i r
   ·exact a3 r
   ·cases r
end
structure J3(A:(Nat→Prop)→Dv→Bool→World→Prop)(w0:World)(c:Nat→Value)(D:Nat→Bool)(f:Nat→Value)(w:World):Prop where
 lo:w0.heap.size≤w.heap.size
 val:∀ j,j<10→D j=true→f j=c j
 pre:D 10=false→Below w0.heap.size w0 w
 post:D 10=true→∃ X d b,f 10=.tuple #[d.v,.bool b]∧A X d b w∧(D 11=true→f 11=.tuple #[d.v,.bool b])∧(D 12=true→f 12=d.v)∧(D 13=true→f 13=.bool b)∧(D 14=true→∀ a,f 14=gp a→¬X a∧(D 15=true→Lies w a 57 d.cl))
 past:∀ j,10<j→j<16→j≠14→D j=true→D 10=true
 al:D 14=true→∃ a cs,f 14=gp a∧w0.heap.size≤a∧Lies w a 57 cs∧cs.length=16
 d15:D 15=true→D 14=true
theorem gp_inj{a b:Nat}(h:gp a=gp b):a=b:=by
 injection h with h
 injection h with h
 injection h
section
variable {A:(Nat→Prop)→Dv→Bool→World→Prop} {w0 w w':World} {c:Nat→Value} {D:Nat→Bool} {f:Nat→Value} {v:Value}
theorem J3.start(hD:∀ k,D k=true→16≤k):J3 A w0 c D f w0.drew:=
 ⟨(Below.refl w0.heap.size w0).drew.size,fun j hj h=>absurd (hD j h) (by omega),fun _=>(Below.refl _ _).drew,fun h=>absurd (hD _ h) (by omega),fun j _ h2 _ h=>absurd (hD j h) (by omega),fun h=>absurd (hD _ h) (by omega),fun h=>absurd (hD _ h) (by omega)⟩
theorem J3.head(h:J3 A w0 c D f w){i:Nat}(hi:i<10)(hD:D i=false)(up:D 10=true→D i=true):Below w0.heap.size w0 w:=h.pre (by
 cases e:D 10 with
 |false=>rfl
 |true=>exact absurd (up e) (by simp[hD]))
theorem J3.put(h:J3 A w0 c D f w){i:Nat}(hi:i<10)(hD:D i=false)(up:D 10=true→D i=true)(k:Below w.heap.size w w')(hv:v=c i):J3 A w0 c (updD D i) (updF f i v) w':=by
 have d10:D 10=false:=by
  cases e:D 10 with
  |false=>rfl
  |true=>exact absurd (up e) (by simp[hD])
 have e10:updD D i 10=false:=by rw[updD_other _ (by omega)];exact d10
 refine⟨Nat.le_trans h.lo k.size,fun j hj hd=>?_,fun _=>after (h.pre d10) k,fun e=>absurd e (by simp[e10]),fun j j1 j2 j3 hd=>?_,fun hd=>?_,fun hd=>?_⟩
 ·by_cases e:j=i
  ·subst e;rw[updF_same];exact hv
  ·rw[updF_other _ _ e];rw[updD_other _ e] at hd;exact h.val j hj hd
 ·rw[updD_other _ (by omega)] at hd
  exact absurd (h.past j j1 j2 j3 hd) (by simp[d10])
 ·rw[updD_other _ (by omega)] at hd
  obtain⟨a,cs,a1,a2,a3,a4⟩:=h.al hd;exact⟨a,cs,by rw[updF_other _ _ (by omega)];exact a1,a2,a3.next k,a4⟩
 ·rw[updD_other _ (by omega)] at hd ⊢
  exact h.d15 hd
theorem J3.step(h:J3 A w0 c D f w)(hD:D 10=false){X:Nat→Prop}{d:Dv}{b:Bool}(hv:v=.tuple #[d.v,.bool b])(hA:A X d b w')(z:w.heap.size≤w'.heap.size)(keep:∀ a,w0.heap.size≤a→a<w.heap.size→w'.heap[a]?=w.heap[a]?∧¬X a):J3 A w0 c (updD D 10) (updF f 10 v) w':=by
 have no:∀ j,10<j→j<16→j≠14→¬D j=true:=fun j j1 j2 j3 e=>by have:=h.past j j1 j2 j3 e;rw[hD] at this;cases this
 refine⟨Nat.le_trans h.lo z,fun j hj hd=>?_,fun e=>absurd e (by simp[updD_same]),fun _=>⟨X,d,b,by rw[updF_same];exact hv,hA,fun e=>?_,fun e=>?_,fun e=>?_,fun e a ha=>?_⟩,fun j j1 j2 j3 hd=>updD_same _ _,fun hd=>?_,fun hd=>?_⟩
 ·rw[updD_other _ (by omega)] at hd
  rw[updF_other _ _ (by omega)]
  exact h.val j hj hd
 ·rw[updD_other _ (by omega)] at e;exact absurd e (no 11 (by omega) (by omega) (by omega))
 ·rw[updD_other _ (by omega)] at e;exact absurd e (no 12 (by omega) (by omega) (by omega))
 ·rw[updD_other _ (by omega)] at e;exact absurd e (no 13 (by omega) (by omega) (by omega))
 ·rw[updD_other _ (by omega)] at e
  rw[updF_other _ _ (by omega)] at ha
  obtain⟨a',cs,a1,a2,a3,a4⟩:=h.al e;obtain rfl:a=a':=gp_inj (ha.symm.trans a1);refine⟨(keep a a2 a3.lt).2,fun e=>?_⟩
  rw[updD_other _ (by omega)] at e
  exact absurd e (no 15 (by omega) (by omega) (by omega))
 ·rw[updD_other _ (by omega)] at hd
  obtain⟨a,cs,a1,a2,a3,a4⟩:=h.al hd;exact⟨a,cs,by rw[updF_other _ _ (by omega)];exact a1,a2,(keep a a2 a3.lt).1.trans a3,a4⟩
 ·rw[updD_other _ (by omega)] at hd ⊢
  exact h.d15 hd
theorem J3.part(h:J3 A w0 c D f w){i:Nat}(hi:i=11∨i=12∨i=13)(hD:D 10=true)(hv:∀ (d:Dv) b,f 10=.tuple #[d.v,.bool b]→(D 11=true→f 11=.tuple #[d.v,.bool b])→(i=11→v=.tuple #[d.v,.bool b])∧(i=12→v=d.v)∧(i=13→v=.bool b)):J3 A w0 c (updD D i) (updF f i v) w:=by
 obtain⟨X,d,b,p1,p2,p3,p4,p5,p6⟩:=h.post hD
 obtain⟨v1,v2,v3⟩:=hv d b p1 p3
 refine⟨h.lo,fun j hj hd=>?_,fun e=>?_,fun _=>⟨X,d,b,by rw[updF_other _ _ (by omega)];exact p1,p2,fun e=>?_,fun e=>?_,fun e=>?_,fun e a ha=>?_⟩,fun j j1 j2 j3 hd=>?_,fun hd=>?_,fun hd=>?_⟩
 ·rw[updD_other _ (by omega)] at hd
  rw[updF_other _ _ (by omega)]
  exact h.val j hj hd
 ·rw[updD_other _ (by omega),hD] at e;cases e
 ·by_cases q:11=i
  ·subst q;rw[updF_same];exact v1 rfl
  ·rw[updF_other _ _ q];rw[updD_other _ q] at e;exact p3 e
 ·by_cases q:12=i
  ·subst q;rw[updF_same];exact v2 rfl
  ·rw[updF_other _ _ q];rw[updD_other _ q] at e;exact p4 e
 ·by_cases q:13=i
  ·subst q;rw[updF_same];exact v3 rfl
  ·rw[updF_other _ _ q];rw[updD_other _ q] at e;exact p5 e
 ·rw[updD_other _ (by omega)] at e
  rw[updF_other _ _ (by omega)] at ha
  refine⟨(p6 e a ha).1,fun e2=>?_⟩
  rw[updD_other _ (by omega)] at e2
  exact (p6 e a ha).2 e2
 ·rw[updD_other _ (by omega)];exact hD
 ·rw[updD_other _ (by omega)] at hd
  rw[updF_other _ _ (by omega)]
  exact h.al hd
 ·rw[updD_other _ (by omega)] at hd ⊢
  exact h.d15 hd
theorem J3.alloc(h:J3 A w0 c D f w)(hD:D 14=false)(AB:∀ X d b,A X d b w→A X d b w')(AI:∀ X d b,A X d b w→∀ a,X a→a<w.heap.size)(k:Below w.heap.size w w'){cs:List Value}(l:Lies w' w.heap.size 57 cs)(hl:cs.length=16):J3 A w0 c (updD D 14) (updF f 14 (gp w.heap.size)) w':=by
 have n15:¬D 15=true:=fun e=>by have:=h.d15 e;rw[hD] at this;cases this
 refine⟨Nat.le_trans h.lo k.size,fun j hj hd=>?_,fun e=>?_,fun e=>?_,fun j j1 j2 j3 hd=>?_,fun hd=>⟨_,cs,updF_same _ _ _,h.lo,l,hl⟩,fun hd=>updD_same _ _⟩
 ·rw[updD_other _ (by omega)] at hd
  rw[updF_other _ _ (by omega)]
  exact h.val j hj hd
 ·rw[updD_other _ (by omega)] at e;exact after (h.pre e) k
 ·rw[updD_other _ (by omega)] at e
  obtain⟨X,d,b,p1,p2,p3,p4,p5,p6⟩:=h.post e;refine⟨X,d,b,by rw[updF_other _ _ (by omega)];exact p1,AB _ _ _ p2,fun e=>?_,fun e=>?_,fun e=>?_,fun _ a ha=>?_⟩
  ·rw[updD_other _ (by omega)] at e;rw[updF_other _ _ (by omega)];exact p3 e
  ·rw[updD_other _ (by omega)] at e;rw[updF_other _ _ (by omega)];exact p4 e
  ·rw[updD_other _ (by omega)] at e;rw[updF_other _ _ (by omega)];exact p5 e
  ·rw[updF_same] at ha
   obtain rfl:=gp_inj ha;refine⟨fun x=>absurd (AI _ _ _ p2 _ x) (by omega),fun e=>?_⟩
   rw[updD_other _ (by omega)] at e
   exact absurd e n15
 ·rw[updD_other _ (by omega)] at hd ⊢
  exact h.past j j1 j2 j3 hd
theorem J3.store(h:J3 A w0 c D f w)(hD:D 10=true)(h14:D 14=true){a:Nat}(ha:f 14=gp a)(AS:∀ X d b,A X d b w→¬X a→A X d b w')(k:w.grownBy w' (some a))(l:∀ (d:Dv) b,f 10=.tuple #[d.v,.bool b]→Lies w' a 57 d.cl):J3 A w0 c (updD D 15) (updF f 15 v) w':=by
 obtain⟨X,d,b,p1,p2,p3,p4,p5,p6⟩:=h.post hD
 obtain⟨a',cs,a1,a2,a3,a4⟩:=h.al h14
 obtain rfl:a=a':=gp_inj (ha.symm.trans a1)
 have L:=l d b p1
 refine⟨Nat.le_trans h.lo k.size,fun j hj hd=>?_,fun e=>?_,fun e=>⟨X,d,b,by rw[updF_other _ _ (by omega)];exact p1,AS _ _ _ p2 (p6 h14 a ha).1,fun e=>?_,fun e=>?_,fun e=>?_,fun _ x hx=>?_⟩,fun j j1 j2 j3 hd=>?_,fun hd=>⟨a,d.cl,by rw[updF_other _ _ (by omega)];exact ha,a2,L,rfl⟩,fun hd=>?_⟩
 ·rw[updD_other _ (by omega)] at hd
  rw[updF_other _ _ (by omega)]
  exact h.val j hj hd
 ·rw[updD_other _ (by omega),hD] at e;cases e
 ·rw[updD_other _ (by omega)] at e;rw[updF_other _ _ (by omega)];exact p3 e
 ·rw[updD_other _ (by omega)] at e;rw[updF_other _ _ (by omega)];exact p4 e
 ·rw[updD_other _ (by omega)] at e;rw[updF_other _ _ (by omega)];exact p5 e
 ·rw[updF_other _ _ (by omega)] at hx
  obtain rfl:x=a:=gp_inj (hx.symm.trans ha);exact⟨(p6 h14 x ha).1,fun _=>L⟩
 ·rw[updD_other _ (by omega)];exact hD
 ·rw[updD_other _ (by omega)];exact h14
end
def J3ps:List (Nat×Nat):=[(2,0),(2,1),(3,2),(5,4),(6,5),(8,7),(9,8),(10,3),(10,6),(10,9)]
def J3up(D:Nat→Bool):Prop:=∀ k j,(k,j)∈J3ps→D k=true→D j=true
theorem J3up.start{D:Nat→Bool}(hD:∀ k,D k=true→16≤k):J3up D:=fun k j h e=>by
 have:=hD k e
 unfold J3ps at h
 simp only[List.mem_cons,Prod.mk.injEq,List.not_mem_nil,or_false] at h
 omega
theorem J3up.put{D:Nat→Bool}(h:J3up D){i:Nat}(hd:∀ j,(i,j)∈J3ps→D j=true):J3up (updD D i):=fun k j m e=>by
 have:D j=true:=by
  by_cases q:k=i
  ·subst q;exact hd j m
  ·rw[updD_other _ q] at e;exact h k j m e
 by_cases q:j=i
 ·subst q;exact updD_same _ _
 ·rw[updD_other _ q];exact this
theorem J3up.of10{D:Nat→Bool}(h:J3up D)(e:D 10=true):∀ j,j<10→D j=true:=by
 have a3:=h 10 3 (by decide) e
 have a6:=h 10 6 (by decide) e
 have a9:=h 10 9 (by decide) e
 have a2:=h 3 2 (by decide) a3
 have a5:=h 6 5 (by decide) a6
 have a8:=h 9 8 (by decide) a9
 have a0:=h 2 0 (by decide) a2
 have a1:=h 2 1 (by decide) a2
 have a4:=h 5 4 (by decide) a5
 have a7:=h 8 7 (by decide) a8
 intro j hj
 match j,hj with
 |0,_=>exact a0
 |1,_=>exact a1
 |2,_=>exact a2
 |3,_=>exact a3
 |4,_=>exact a4
 |5,_=>exact a5
 |6,_=>exact a6
 |7,_=>exact a7
 |8,_=>exact a8
 |9,_=>exact a9
section
variable {c8:C8} {E:Ev} {q:Int→Option Nat} {T:Nat→MS} {Wf:Nat→Int×List Pn} {ws:List Nat} {w3 w6 wL w w':World} {ge:Nat} {k n:Nat} {b:Bool} {i n0:Nat} {pt bo:Bool} {s:St} {p:Nat→Int→Option Nat} {S:Int→Lists} {N:Nat} {n1:Int→Nat} {R:Nat→Nat→Prop} {X:Nat→Prop} {d:Dv} {td:Td}
theorem Al.lst{A:Option Addr}{m c:Nat}(h:Al c8 E q T Wf ws w3 w6 wL ge (.slice A m c) s p S N n1 R w){i wk:Nat}(e:ws[i]?=some wk):∃ bl off,A=some ⟨bl,off,none⟩∧w.cell? ⟨bl,off+i,none⟩=some (gp wk):=by
 have hl:=(List.getElem?_eq_some_iff.1 e).1
 obtain⟨b,_,hi⟩:=h.wl.is
 obtain⟨off,cap,e2,-,-,-,hc⟩:=hi.some_ wok (by omega)
 simp only[Value.slice.injEq] at e2
 exact⟨b,off,e2.1,by simpa using hc i wk e 0 _ rfl⟩
theorem Al.len{A:Option Addr}{m c:Nat}(h:Al c8 E q T Wf ws w3 w6 wL ge (.slice A m c) s p S N n1 R w):m=ws.length:=by
 obtain⟨b,_,hi⟩:=h.wl.is
 obtain⟨a,cap,e⟩:=hi.len
 simp only[Value.slice.injEq] at e
 exact e.2.1
theorem Nx.in3{wv:Value}(h:Nx c8 E q T Wf k n b pt td s p S N)(al:Al c8 E q T Wf ws w3 w6 wL ge wv s p S N n1 R w):∃ k' n' b' pt',In3 c8 E q T Wf ws w3 w6 wL ge wv k' n' b' 0 pt' s p S N n1 R w∧k'+c01 b'=k+c01 b+c01 td.bg∧k'+c01 pt'=k+c01 pt+c01 td.pt∧k'=k+c01 td.dn∧k'≤E.cs.length∧k*(c8.h.toNat+4)+n<k'*(c8.h.toNat+4)+n':=by
 rcases h with ⟨k',n',b',pt',h1,h2,h3,h4,h5,h6,h7,h8⟩|⟨j,n',pt',h1,h2,h3,h4,h5,h6,h7,h8,h9⟩
 ·exact⟨k',n',b',pt',⟨al,h2,.inl ⟨h1,h3⟩⟩,h5,h6,h7,h8,h4⟩
 ·refine⟨k,n',true,pt',⟨al,h2,.inr ⟨rfl,h9,j,Nat.zero_le _,h4,h1,h3⟩⟩,h6,h7,?_,by omega,by omega⟩
  rw[h8];rfl
theorem In3.last{wv:Value}(h:In3 c8 E q T Wf ws w3 w6 wL ge wv k n b i pt s p S N n1 R w)(hi:E.bs.length≤i):Top c8 E q T Wf k n b pt s p S N∧∀ j,s.L j=[]:=by
 rcases h.at_ with h|⟨-,-,j,h1,h2,-⟩
 ·exact h
 ·omega
end
end Cn
end Go.Proofs.YtfjlnniahfbdfaaGreat
