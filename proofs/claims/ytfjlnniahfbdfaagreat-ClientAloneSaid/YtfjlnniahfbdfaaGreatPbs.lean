/- A part of the proof. -/
import Derived.Test.YtfjlnniahfbdfaaGreatPbr
import Derived.Test.YtfjlnniahfbdfaaGreatPbp
import Derived.Test.YtfjlnniahfbdfaaGreatPaf
set_option linter.unusedVariables false
set_option maxHeartbeats 4000000
namespace Go.Proofs.YtfjlnniahfbdfaaGreat
open Lib (hid)
open Go.ChangeShapes Go.WideShapes Go.ChangeAt Go.RowKit
set_option maxRecDepth 100000
namespace Cn
open Small Foot Fm Ca Sh Sh.Sw Grp
abbrev St.took(s:St)(j:Nat)(L:List Ms.M):St:={s with L:=fun i=>if i=j then L else s.L i}
section
variable {w0 w w':World} {E:Ev} {s s':St} {R R':Nat→Nat→Prop} {c8:C8} {ws:List Nat} {p:Nat→Int→Option Nat} {q:Int→Option Nat} {S:Int→Lists} {N:Nat} {n:Int→Nat} {j wk bx:Nat} {L:List Ms.M} {fr gn mark:Int} {y:Cl} {st:Option Nat} {sh:Bool}
theorem same_p(p:Nat→Int→Option Nat)(j:Nat):(fun i=>if i=j then p j else p i)=p:=funext fun i=>by
 by_cases e:i=j
 ·rw[if_pos e,e]
 ·rw[if_neg e]
theorem wstep_none(C:Hid (CM w0 E s R w))(V:Hid (WM c8 E.bs ws p q S N n R w))(hc:E.cf=Md.cfOf c8)(h1:ws[j]?=some wk)(h2:E.bs[j]?=some bx)(hL:s.L j=[]):
  Calls Tryz.prog 17 #[gp wk,.int .i64 mark,.bool sh] w fun r w'=>r=.returned (.tuple #[zdid,.bool false])∧Below w.heap.size w w':=by
 obtain⟨F,hi,-⟩:=V.out.view C.out hc h1 h2
 rw[hL] at hi
 exact Sh.Sw.step_none mark sh w (hid hi)
theorem wstep_ask(C:Hid (CM w0 E s R w))(V:Hid (WM c8 E.bs ws p q S N n R w))(hc:E.cf=Md.cfOf c8)(h1:ws[j]?=some wk)(h2:E.bs[j]?=some bx)(hL:s.L j=⟨1,fr,y,gn,st⟩::L)(len:L.length≤100)(fc:Hid (Md.cfOf c8).Fit)(fy:Hid y.Fit)(hk:Hid (kd y.op=true))(HM:Hid (mayC (Md.cfOf c8) y)){a:Nat}(HG:p j (grpOf c8.r y)=some a)
  (z:Option (Nat×Int×Int×Int)) (hN:N≤8880) (fk:Hid ((Lit.int .i64 mark).wf=true)) (hkey:y.key.size≤maxLen) (T:Hid (Asg.Told c8.k c8.s c8.l c8.g c8.z y.t z)):
  Calls Tryz.prog 17 #[gp wk,.int .i64 mark,.bool false] w fun r w'=>∃ rv ov code P O c S1 n' R',r=.returned (.tuple #[Sh.Sw.dval ⟨1,fr,y,gn,st⟩ false code rv ov none,.bool true])∧Md.MAsked c8 (S (grpOf c8.r y)) mark y z code P O c S1∧P.length≤9000∧CM w0 E (s.took j L) R' w'∧WM c8 E.bs ws p q (fun x=>if x=grpOf c8.r y then S1 else S x) (N+c) n' R' w'∧On TW R w R' w'∧Sl.Own Pn.k w.heap.size w' rv P∧Sl.Own Pn.k w.heap.size w' ov O:=by
 obtain⟨F,hi,hF⟩:=V.out.view C.out hc h1 h2
 rw[hL] at hi
 obtain⟨x0,x1,gi⟩:=V.out.grp _ _ (V.out.own j _ a HG)
 have j8:=blt C.out h2
 have ap:Apart F (R (24+(grpOf c8.r y).toNat)):=fun b hb hq=>by
  rcases (hF b).1 hb with h|h
  ·exact C.out.fam.ap j _ (by omega) b h hq
  ·exact C.out.fam.ap (8+j) _ (by omega) b h hq
 have M:Asg.may c8.k c8.s c8.l c8.g c8.z c8.h c8.r c8.c:=HM.out.1
 have ff:=fc.out
 refine (Sh.Sw.step_has fr y gn st mark false w (hid hi) len fc fy hk HM (Sw.wf_small ⟨x0,x1⟩) (hid HG) rfl z (hid gi) (hid ap) hN (hid M) (hid ⟨(Num.fit ff.2.1).2,(Num.fit ff.2.2.1).2,(Num.fit ff.2.2.2.1).2,(Num.fit ff.2.2.2.2.1).2⟩) fk hkey T).mono ?_
 rintro r w' ⟨rv,ov,code,P,O,c,S1,n1,F',Fg',rfl,ma,hn,hP,hi',gi',ap',mv,o1,o2⟩
 have e1:(fun b=>F b∨∃ x,x=grpOf c8.r y∧R (24+x.toNat) b)=Sh.Sw.Or2 F (R (24+(grpOf c8.r y).toNat)):=funext fun b=>propext ⟨fun h=>h.imp id fun ⟨x,e,h⟩=>e▸h,fun h=>h.imp id fun h=>⟨_,rfl,h⟩⟩
 have e2:(fun b=>F' b∨∃ x,x=grpOf c8.r y∧Fg' b)=Sh.Sw.Or2 F' Fg':=funext fun b=>propext ⟨fun h=>h.imp id fun ⟨x,e,h⟩=>h,fun h=>h.imp id fun h=>⟨_,rfl,h⟩⟩
 have qa:=V.out.own j _ a HG
 obtain⟨R',c',on,v'⟩:=V.out.step C.out hc h1 h2 hF hi' (X:=fun x=>x=grpOf c8.r y) (FF':=fun _=>Fg') (fun x e=>by rw[e,qa];exact fun k=>by cases k) (by rw[e1,e2];exact mv) (fun x e=>ap') (fun x y e1 e2 ne=>absurd (e1.trans e2.symm) ne) (S':=fun x=>if x=grpOf c8.r y then S1 else S x) (n':=fun x=>if x=grpOf c8.r y then n1 else n x) (Nat.le_add_right N c)
  (fun x b e k=>by
   subst e;rw[qa] at k;cases k
   rw[if_pos rfl,if_pos rfl];exact gi') (fun x e=>⟨if_neg e,if_neg e⟩) (fun x b k=>V.out.own j x b k) (fun i x ne k=>by
   cases e:p i x with
   |none=>rfl
   |some b=>exact absurd (V.out.one i j x (by rw[e];exact fun k=>by cases k) k) ne)
 rw[same_p] at v'
 exact⟨rv,ov,code,P,O,c,S1,_,R',rfl,ma,hP,c',v',on,o1,o2⟩
theorem wstep_mark(C:Hid (CM w0 E s R w))(V:Hid (WM c8 E.bs ws p q S N n R w))(hc:E.cf=Md.cfOf c8)(h1:ws[j]?=some wk)(h2:E.bs[j]?=some bx)(hL:s.L j=⟨2,fr,y,gn,st⟩::L)(len:L.length≤100)(hN:N≤8880)(fz:Hid ((Lit.int .i64 c8.z).wf=true))(fk:Hid ((Lit.int .i64 mark).wf=true)):
  Calls Tryz.prog 17 #[gp wk,.int .i64 mark,.bool sh] w fun r w'=>∃ ov ks O S' n' R',r=.returned (.tuple #[Sh.Sw.dval ⟨2,fr,y,gn,st⟩ false 0 (.slice none 0 0) ov none,.bool true])∧KeysOf (p j) ks∧Mk c8.z mark S ks O S'∧O.length≤142080∧CM w0 E (s.took j L) R' w'∧WM c8 E.bs ws p q (fun x=>if p j x=none then S x else S' x) N n' R' w'∧On TW R w R' w'∧Sl.Own Pn.k w.heap.size w' ov O:=by
 obtain⟨F,hi,hF⟩:=V.out.view C.out hc h1 h2
 rw[hL] at hi
 have j8:=blt C.out h2
 have dom:=V.out.dom j
 have P:Pool w (p j) (fun x=>R (24+x.toNat)) c8 S N n:=⟨fun x a e=>(V.out.grp x a (V.out.own j x a e)).2.2,fun x y ne hx hy=>C.out.fam.ap _ _ (by have:=dom x hx;have:=dom y hy;omega)⟩
 have A:Apart F (UF (p j) fun x=>R (24+x.toNat)):=fun b hb ⟨x,hx,hq⟩=>by
  have:=dom x hx;rcases (hF b).1 hb with h|h
  ·exact C.out.fam.ap j _ (by omega) b h hq
  ·exact C.out.fam.ap (8+j) _ (by omega) b h hq
 refine (Sh.Sw.step_mark fr y gn st mark sh w (hid hi) len (hid P) (hid A) hN fz fk).mono ?_
 rintro r w' ⟨ov,ks,O,S',n1,F',FF',rfl,hks,mk,hO,hi',P',A',mv,o1⟩
 obtain⟨R',c',on,v'⟩:=V.out.step C.out hc h1 h2 hF hi' (X:=fun x=>p j x≠none) (FF':=FF') (fun x e k=>by
   cases e2:p j x with
   |none=>exact e e2
   |some a=>rw[V.out.own j x a e2] at k;cases k) mv (fun x e b hb hq=>A' b hb ⟨x,e,hq⟩) (fun x y e1 e2 ne=>P'.apart x y ne e1 e2) (S':=fun x=>if p j x=none then S x else S' x) (n':=fun x=>if p j x=none then n x else n1 x) (Nat.le_refl N)
  (fun x b e k=>by
   cases e2:p j x with
   |none=>exact absurd e2 e
   |some a=>
    rw[V.out.own j x a e2] at k;cases k
    have t:=P'.is x b e2;rw[if_neg (by simp),if_neg (by simp)]
    exact t) (fun x e=>⟨if_pos (Classical.not_not.1 e),if_pos (Classical.not_not.1 e)⟩) (fun x b k=>V.out.own j x b k) (fun i x ne k=>by
   cases e:p i x with
   |none=>rfl
   |some b=>exact absurd (V.out.one i j x (by rw[e];exact fun k=>by cases k) k) ne)
 rw[same_p] at v'
 exact⟨ov,ks,O,S',_,R',rfl,hks,mk,hO,c',v',on,o1⟩
theorem none_moves{F F':Nat→Prop}{Y:Nat→Nat→Prop}{Z:Int→Nat→Prop}(mv:Moves F F' w w'):Moves (fun b=>F b∨∃ x:Int,False∧Y (24+x.toNat) b) (fun b=>F' b∨∃ x:Int,False∧Z x b) w w':=by
 have e1:(fun b=>F b∨∃ x:Int,False∧Y (24+x.toNat) b)=F:=funext fun b=>propext ⟨fun h=>h.elim id fun ⟨x,f,_⟩=>f.elim,.inl⟩
 have e2:(fun b=>F' b∨∃ x:Int,False∧Z x b)=F':=funext fun b=>propext ⟨fun h=>h.elim id fun ⟨x,f,_⟩=>f.elim,.inl⟩
 rw[e1,e2]
 exact mv
theorem wstep_give(C:Hid (CM w0 E s R w))(V:Hid (WM c8 E.bs ws p q S N n R w))(hc:E.cf=Md.cfOf c8)(h1:ws[j]?=some wk)(h2:E.bs[j]?=some bx)(hL:s.L j=⟨3,fr,y,gn,st⟩::L)(len:L.length≤100)(hg:0≤gn∧gn<16):
  Calls Tryz.prog 17 #[gp wk,.int .i64 mark,.bool sh] w fun r w'=>∃ R',r=.returned (.tuple #[Sh.Sw.dval ⟨3,fr,y,gn,st⟩ false 0 (.slice none 0 0) (.slice none 0 0) (p j gn),.bool true])∧CM w0 E (s.took j L) R' w'∧WM c8 E.bs ws (fun i=>if i=j then Sh.updOf (p j) gn none else p i) q S N n R' w'∧On TW R w R' w':=by
 obtain⟨F,hi,hF⟩:=V.out.view C.out hc h1 h2
 rw[hL] at hi
 refine (Sh.Sw.step_give fr y gn st mark sh w (hid hi) len hg).mono ?_
 rintro r w' ⟨rfl,F',hi',mv⟩
 have low:∀ x b,Sh.updOf (p j) gn none x=some b→p j x=some b:=fun x b k=>by
  unfold Sh.updOf at k
  split at k
  ·cases k
  ·exact k
 obtain⟨R',c',on,v'⟩:=V.out.step C.out hc h1 h2 hF hi' (X:=fun _=>False) (FF':=fun _ _=>False) (fun x e=>e.elim) (none_moves mv) (fun x e=>e.elim) (fun x y e1=>e1.elim) (S':=S) (n':=n) (Nat.le_refl N) (fun x b e=>e.elim) (fun x e=>⟨rfl,rfl⟩) (fun x b k=>V.out.own j x b (low x b k)) (fun i x ne k=>by
  cases e:p i x with
  |none=>rfl
  |some b=>exact absurd (V.out.one i j x (by rw[e];exact fun k=>by cases k) (by
   cases e2:Sh.updOf (p j) gn none x with
   |none=>exact absurd e2 k
   |some c=>rw[low x c e2];exact fun k=>by cases k)) ne)
 exact⟨R',rfl,c',v',on⟩
theorem wstep_have(C:Hid (CM w0 E s R w))(V:Hid (WM c8 E.bs ws p q S N n R w))(hc:E.cf=Md.cfOf c8)(h1:ws[j]?=some wk)(h2:E.bs[j]?=some bx){a:Nat}(hL:s.L j=⟨4,fr,y,gn,some a⟩::L)(len:L.length≤100)(hg:0≤gn∧gn<16)(hq:q gn=some a)(free:∀ i,p i gn=none):
  Calls Tryz.prog 17 #[gp wk,.int .i64 mark,.bool sh] w fun r w'=>∃ R',r=.returned (.tuple #[Sh.Sw.dval ⟨4,fr,y,gn,some a⟩ false 0 (.slice none 0 0) (.slice none 0 0) none,.bool true])∧CM w0 E (s.took j L) R' w'∧WM c8 E.bs ws (fun i=>if i=j then Sh.updOf (p j) gn (some a) else p i) q S N n R' w'∧On TW R w R' w':=by
 obtain⟨F,hi,hF⟩:=V.out.view C.out hc h1 h2
 rw[hL] at hi
 refine (Sh.Sw.step_have fr y gn (some a) mark sh w (hid hi) len hg (Sh.updOf (p j) gn (some a)) (hid (by rw[if_neg (by simp)]))).mono ?_
 rintro r w' ⟨rfl,F',hi',mv⟩
 have cs:∀ x b,Sh.updOf (p j) gn (some a) x=some b→(x=gn∧b=a)∨p j x=some b:=fun x b k=>by
  unfold Sh.updOf at k
  split at k
  ·next h=>cases k;exact .inl ⟨h,rfl⟩
  ·exact .inr k
 obtain⟨R',c',on,v'⟩:=V.out.step C.out hc h1 h2 hF hi' (X:=fun _=>False) (FF':=fun _ _=>False) (fun x e=>e.elim) (none_moves mv) (fun x e=>e.elim) (fun x y e1=>e1.elim) (S':=S) (n':=n) (Nat.le_refl N) (fun x b e=>e.elim) (fun x e=>⟨rfl,rfl⟩) (fun x b k=>by
  rcases cs x b k with ⟨e1,e2⟩|e
  ·rw[e1,e2];exact hq
  ·exact V.out.own j x b e) (fun i x ne k=>by
  cases e:Sh.updOf (p j) gn (some a) x with
  |none=>exact absurd e k
  |some b=>
   rcases cs x b e with ⟨e1,e2⟩|e
   ·rw[e1];exact free i
   ·cases e3:p i x with
    |none=>rfl
    |some d=>exact absurd (V.out.one i j x (by rw[e3];exact fun k=>by cases k) (by rw[e];exact fun k=>by cases k)) ne)
 exact⟨R',rfl,c',v',on⟩
end
end Cn
namespace Sh.Sw
open Small Foot Pane Grp Ca Rel RelG
structure NS(w:World)(wk m bx g2:Nat)(cf:C8)(gs:List Int)(k:Nat)(p:Int→Option Nat)(FF:Int→Nat→Prop)(wr:World):Prop where
 q:Q false wr wk m bx (.slice none 0 0) cf p []
 pool:Pool wr p FF cf (fun _ _=>[]) 0 (fun _=>0)
 cfg:Lies wr g2 23 cf.cl
 below:Below w.heap.size w wr
 lo:w.heap.size≤g2∧w.heap.size≤wk∧w.heap.size≤m∧w.heap.size≤bx
 nf:∀ i,UF p FF i→w.heap.size≤i∧i≠wk∧i≠m∧i≠bx∧i≠g2
 ne:g2≠wk∧g2≠m∧g2≠bx
 has:∀ x,p x≠none↔(0≤x∧x<cf.r∧x∈gs.take k)
theorem NS.next{w:World}{wk m bx g2:Nat}{cf:C8}{gs:List Int}{k:Nat}{p:Int→Option Nat}{FF:Int→Nat→Prop}{wr wr':World}(h:NS w wk m bx g2 cf gs k p FF wr)(K:Below wr.heap.size wr wr'):NS w wk m bx g2 cf gs k p FF wr':=
 ⟨h.q.keep fun i hi=>K.block i (h.q.in i hi),h.pool.next K,h.cfg.next K,after h.below K,h.lo,h.nf,h.ne,h.has⟩
theorem NS.skip{w:World}{wk m bx g2:Nat}{cf:C8}{gs:List Int}{k:Nat}{p:Int→Option Nat}{FF:Int→Nat→Prop}{wr:World}{x:Int}(h:NS w wk m bx g2 cf gs k p FF wr)(hx:gs[k]?=some x)(ho:¬(0≤x∧x<cf.r)):NS w wk m bx g2 cf gs (k+1) p FF wr:=
 ⟨h.q,h.pool,h.cfg,h.below,h.lo,h.nf,h.ne,fun y=>by
  rw[h.has y,List.take_add_one,hx];simp only[Option.toList_some,List.mem_append,List.mem_singleton];exact⟨fun ⟨a,b,c⟩=>⟨a,b,.inl c⟩,fun ⟨a,b,c⟩=>⟨a,b,c.elim id fun e=>absurd (e▸⟨a,b⟩) ho⟩⟩⟩
theorem NS.put{w:World}{wk m bx g2:Nat}{cf:C8}{gs:List Int}{k:Nat}{p:Int→Option Nat}{FF:Int→Nat→Prop}{wr w1 w2:World}{x:Int}{g c':Nat}{F:Nat→Prop}(h:NS w wk m bx g2 cf gs k p FF wr)(hx:gs[k]?=some x)(ho:0≤x∧x<cf.r)(h16:cf.r≤16)
  (K:Below wr.heap.size wr w1) (G:Gr.Is w1 g F cf (fun _=>[]) 0 0) (hF:From wr.heap.size F) (o:Mi w2 m (updOf p x (some g)) c') (k2:w1.grownBy w2 (some m)):
  NS w wk m bx g2 cf gs (k+1) (updOf p x (some g)) (fun y=>if y=x then F else FF y) w2:=by
 have h1:=h.next K
 obtain⟨c0,hm0⟩:=h.q.map
 have lts:wk<wr.heap.size∧m<wr.heap.size∧bx<wr.heap.size∧g2<wr.heap.size:=⟨h.q.lies.lt,hm0.lt,h.q.box.lies.lt,h.cfg.lt⟩
 have pn:∀ y,y≠x→updOf p x (some g) y=p y:=fun y hy=>by simp[updOf,hy]
 have px:updOf p x (some g) x=some g:=by simp[updOf]
 have uf:∀ i,UF (updOf p x (some g)) (fun y=>if y=x then F else FF y) i→wr.heap.size≤i∨UF p FF i:=fun i ⟨y,hy,hi⟩=>by
  by_cases e:y=x
  ·simp only[e,if_true] at hi
   exact .inl (hF i hi)
  ·simp only[e,if_false] at hi
   exact .inr ⟨y,by rwa [pn y e] at hy,hi⟩
 have ap:∀ y,p y≠none→Apart F (FF y):=fun y hy i hi q=>by
  have:=hF i hi;have:=h.pool.in i ⟨y,hy,q⟩;omega
 have nm:∀ i,UF (updOf p x (some g)) (fun y=>if y=x then F else FF y) i→i≠m:=fun i hi=>by
  rcases uf i hi with q|q
  ·omega
  ·exact (h.nf i q).2.2.1
 have P2:Pool w2 (updOf p x (some g)) (fun y=>if y=x then F else FF y) cf (fun _ _=>[]) 0 (fun _=>0):=by
  have P1:Pool w1 (updOf p x (some g)) (fun y=>if y=x then F else FF y) cf (fun _ _=>[]) 0 (fun _=>0):=⟨fun y a ha=>by
   by_cases e:y=x
   ·subst e
    rw[px] at ha;obtain rfl:=Option.some.inj ha
    simpa using G
   ·simp only[e,if_false]
    rw[pn y e] at ha;exact h1.pool.is y a ha,fun y z hne hy hz=>by
   by_cases e:y=x
   ·subst e
    rw[if_pos rfl,if_neg (Ne.symm hne)];rw[pn z (Ne.symm hne)] at hz;exact ap z hz
   ·rw[pn y e] at hy
    by_cases e':z=x
    ·subst e'
     rw[if_pos rfl,if_neg e];exact (ap y hy).symm
    ·rw[if_neg e,if_neg e']
     rw[pn z e'] at hz;exact h.pool.apart y z hne hy hz⟩
  exact P1.row k2 fun b e q=>nm b q (Option.some.inj e).symm
 obtain⟨q2,v2⟩:=h1.q.mapped o k2 fun y hy=>by
  by_cases e:y=x
  ·subst e;omega
  ·rw[pn y e] at hy;exact h.q.dom y hy
 refine⟨q2,P2,(k2.block g2 h1.cfg.lt fun e=>h.ne.2.1 (Option.some.inj e)).trans h1.cfg,h1.below.grown k2 h1.below.size fun j hj=>by cases hj;exact h.lo.2.2.1,h.lo,fun i hi=>?_,h.ne,fun y=>?_⟩
 ·rcases uf i hi with q|q
  ·have:=h.below.size
   omega
  ·exact h.nf i q
 ·rw[List.take_add_one,hx]
  simp only[Option.toList_some,List.mem_append,List.mem_singleton];by_cases e:y=x
  ·subst e
   rw[px];exact⟨fun _=>⟨ho.1,ho.2,.inr rfl⟩,fun _=>by simp⟩
  ·rw[pn y e,h.has y]
   exact⟨fun ⟨a,b,c⟩=>⟨a,b,.inl c⟩,fun ⟨a,b,c⟩=>⟨a,b,c.elim id fun q=>absurd q e⟩⟩
def Ints(w:World)(v:Value)(gs:List Int):Prop:=∃ A cp,v=.slice A gs.length cp∧(0<gs.length→∃ b off,A=some ⟨b,off,none⟩∧b<w.heap.size∧∀ (k:Nat) (x:Int),gs[k]?=some x→w.cell? ⟨b,off+k,none⟩=some (.int .i64 x))
theorem new_any(cf:C8)(gs:List Int)(gv:Value)(w:World)(H:Hid (Ints w gv gs))(hn:gs.length≤maxLen)(M:Hid (Asg.may cf.k cf.s cf.l cf.g cf.z cf.h cf.r cf.c))(s1:cf.s≤9223372036854775807):
  Calls Tryz.prog 41 #[cf.v,gv] w fun r w'=>∃ wk bx F p FF,r=.returned (.tuple #[gp wk,.nilIface])∧Is bx false w' wk F cf p []∧Pool w' p FF cf (fun _ _=>[]) 0 (fun _=>0)∧Apart F (UF p FF)∧From w.heap.size F∧From w.heap.size (UF p FF)∧Below w.heap.size w w'∧∀ x,p x≠none↔(0≤x∧x<cf.r∧x∈gs):=by
 obtain⟨A0,cp,hv,hcl⟩:=H.out
 subst hv
 have HCL:=hid hcl
 clear hcl
 have r16:1≤cf.r∧cf.r≤16∧1≤cf.c∧cf.c≤16:=by have:=M.out;unfold Asg.may at this;omega
 unfold maxLen at hn
 have C0:=hid (Lies.new w 23 cf.cl)
 have K0:=hid (below1 w (Obj.cells #[.int .i64 cf.k,.int .i64 cf.s,.int .i64 cf.l,.int .i64 cf.g,.int .i64 cf.z,.int .i64 cf.h,.int .i64 cf.r,.int .i64 cf.c] 23))
 go_enter Tryz.func41,Tryz.ntmps41
 go_wp2_with fail
 refine (Asg.may_ok cf.k cf.s cf.l cf.g cf.z cf.h cf.r cf.c _ true (hid (by simp[M.out])) s1).mono ?_
 rintro r w1 ⟨rfl,k1⟩
 have C1:=hid (C0.out.next k1)
 have K1:=hid (after K0.out k1)
 clear k1
 have c7:=C1.out.cell (i:=7) rfl
 go_wp2_with fail
 refine (Ms.new_ok cf.c w1 (by omega) (by omega)).mono ?_
 rintro r w2 ⟨rfl,b2,k2⟩
 have B2:=hid b2
 have C2:=hid (C1.out.next k2)
 have K2:=hid (after K1.out k2)
 have S2:Hid (w.heap.size<w1.heap.size∧w1.heap.size<w2.heap.size):=hid ⟨C1.out.lt,b2.lies.lt⟩
 clear k2 b2 c7
 obtain⟨c0,c1,c2,c3,c4,c5,c6,c7⟩:(w2.cell? ⟨w.heap.size,0,none⟩=some (.int .i64 cf.k)∧w2.cell? ⟨w.heap.size,1,none⟩=some (.int .i64 cf.s)∧w2.cell? ⟨w.heap.size,2,none⟩=some (.int .i64 cf.l)∧w2.cell? ⟨w.heap.size,3,none⟩=some (.int .i64 cf.g)∧w2.cell? ⟨w.heap.size,4,none⟩=some (.int .i64 cf.z)∧w2.cell? ⟨w.heap.size,5,none⟩=some (.int .i64 cf.h)∧w2.cell? ⟨w.heap.size,6,none⟩=some (.int .i64 cf.r)∧w2.cell? ⟨w.heap.size,7,none⟩=some (.int .i64 cf.c)):=
  ⟨C2.out.cell (i:=0) rfl,C2.out.cell (i:=1) rfl,C2.out.cell (i:=2) rfl,C2.out.cell (i:=3) rfl,C2.out.cell (i:=4) rfl,C2.out.cell (i:=5) rfl,C2.out.cell (i:=6) rfl,C2.out.cell (i:=7) rfl⟩
 have hm:=run_makeMap (P:=Tryz.prog) 119 w2
 go_upto_region 7 with fail
 have k3:=below1 w2 (.map #[] 0)
 have mi3:=Mi.made w2
 have k4:=below1 (w2.alloc (.map #[] 0)) (Obj.cells (wcl cf w2.heap.size w1.heap.size).toArray 121)
 have lw4:=Lies.new (w2.alloc (.map #[] 0)) 121 (wcl cf w2.heap.size w1.heap.size)
 have hsz:(w2.alloc (.map #[] 0)).heap.size=w2.heap.size+1:=by simp
 have N0:Hid (NS w (w2.heap.size+1) w2.heap.size w1.heap.size w.heap.size cf gs 0 (fun _=>none) (fun _ _=>False) ((w2.alloc (.map #[] 0)).alloc (Obj.cells #[.int .i64 cf.k,.int .i64 cf.s,.int .i64 cf.l,.int .i64 cf.g,.int .i64 cf.z,.int .i64 cf.h,.int .i64 cf.r,.int .i64 cf.c,.map (some w2.heap.size),Bx.gp w1.heap.size] 121))):=hid (by
  have s2:=S2.out;refine⟨⟨?_,⟨0,mi3.next k4⟩,(B2.out.next k3).next k4,fun x hx=>absurd rfl hx,by omega,by omega,by omega,(by intro h;cases h),(by intro h;cases h)⟩,⟨fun x a h=>(by cases h),fun x y _ h=>absurd rfl h⟩,(C2.out.next k3).next k4,after K2.out (after k3 k4),⟨Nat.le_refl _,by omega,by omega,by omega⟩,fun i ⟨x,h,_⟩=>absurd rfl h,⟨by omega,by omega,by omega⟩,fun x=>⟨fun h=>absurd rfl h,fun h=>by simp at h⟩⟩
  rw[←hsz];exact lw4)
 generalize (w2.alloc (.map #[] 0)).alloc (Obj.cells #[.int .i64 cf.k,.int .i64 cf.s,.int .i64 cf.l,.int .i64 cf.g,.int .i64 cf.z,.int .i64 cf.h,.int .i64 cf.r,.int .i64 cf.c,.map (some w2.heap.size),Bx.gp w1.heap.size] 121)=w4 at N0 ⊢
 clear k3 k4 mi3 lw4 hsz hm c0 c1 c2 c3 c4 c5 c6 c7 B2 C2 K2 S2 C1 K1
 generalize hwk:w2.heap.size+1=wk at N0 ⊢
 generalize w2.heap.size=m at N0 ⊢
 generalize w1.heap.size=bx at N0 ⊢
 generalize hg2:w.heap.size=g2 at N0 ⊢
 clear hwk
 go_wp2_with fail
 go_loopw [7,10,31] (fun se sn si wr=>∃ (k:Nat) (p:Int→Option Nat) (FF:Int→Nat→Prop),k≤gs.length∧se=.nilIface∧si=.int .i64 k∧Hid (NS w wk m bx g2 cf gs k p FF wr)) (fun _ _ si _=>gs.length-(intOf si).toNat)
 case atStart=>exact⟨0,_,_,Nat.zero_le _,rfl,rfl,N0⟩
 case round=>
  obtain⟨k,p,FF,hk,rfl,rfl,NN⟩:=hrel;by_cases hlt:k<gs.length
  ·have i1:(k:Int)<gs.length:=by omega
   have i0:(0:Int)≤(k:Int):=by omega
   obtain⟨x,hx⟩:∃ x,gs[k]?=some x:=⟨_,List.getElem?_eq_getElem hlt⟩
   obtain⟨b,off,rfl,hcell⟩:∃ b off,A0=some ⟨b,off,none⟩∧wr.cell? ⟨b,off+k,none⟩=some (.int .i64 x):=by
    obtain⟨b,off,e,hbl,hc⟩:=HCL.out (by omega)
    exact⟨b,off,e,(World.cell?_of_block (a:=⟨b,off+k,none⟩) (NN.out.below.block b hbl)).trans (hc k x hx)⟩
   have HX:=hid hx;have cr:=NN.out.cfg.cell (i:=6) rfl;clear hx;by_cases h1:x<0
   ·go_wp2_with fail
    exact⟨⟨k+1,p,FF,by omega,rfl,by go_num,hid (NN.out.skip HX.out (by omega))⟩,by simp[intOf];omega⟩
   ·by_cases h2:cf.r≤x
    ·go_wp2_with fail
     exact⟨⟨k+1,p,FF,by omega,rfl,by go_num,hid (NN.out.skip HX.out (by omega))⟩,by simp[intOf];omega⟩
    ·have xo:0≤x∧x<cf.r:=by omega
     have wx:Wf x:=wf_small (by omega)
     obtain⟨c0,hm0⟩:=NN.out.q.map;have hc0:c0≤1048576:=Nat.le_trans (hm0.small NN.out.q.dom) (by omega)
     have HM:=hid hm0;have cw:=NN.out.q.lies.cell (i:=8) rfl;have d0:=NN.out.cfg.cell (i:=0) rfl;have d1:=NN.out.cfg.cell (i:=1) rfl;have d2:=NN.out.cfg.cell (i:=2) rfl;have d3:=NN.out.cfg.cell (i:=3) rfl;have d4:=NN.out.cfg.cell (i:=4) rfl;have d5:=NN.out.cfg.cell (i:=5) rfl;have d7:=NN.out.cfg.cell (i:=7) rfl;have XO:=hid (And.intro xo r16.2.1);clear hm0 xo;go_upto_region 11 with fail
     go_region_with (first
      |(go_at_call 76;refine (Gr.new_ok cf _ M s1).mono ?_;rintro r w9 ⟨g,F,rfl,G,hF,k9⟩;have kk:Below wr.heap.size wr w9:=after (Below.refl _ _).drew k9;obtain⟨w10,c10,st,o10,-,k10⟩:=(HM.out.next kk).store wx g hc0 (updOf_ok p x (some g));have N9:=hid (NN.out.put HX.out XO.out.1 XO.out.2 kk G hF o10 k10);have cw9:=(NN.out.next kk).q.lies.cell (i:=8) rfl;clear G hF k9 kk o10 k10 cw d0 d1 d2 d3 d4 d5 d7 cr hcell)
      |fail)
     all_goals
      go_wp2_with fail
      exact⟨⟨k+1,_,_,by omega,rfl,by go_num,N9⟩,by simp[intOf];omega⟩
  ·obtain rfl:k=gs.length:=by omega
   have i1:¬((gs.length:Int)<gs.length):=by omega
   clear i1;go_wp2;go_ret2;have nn:=NN.out;have hh:=nn.has;rw[List.take_length] at hh;refine⟨wk,bx,WF wk m bx (.slice none 0 0),p,FF,rfl,⟨m,.slice none 0 0,nn.q,fun _=>Iff.rfl⟩,nn.pool,fun i hi q=>?_,fun i hi=>?_,fun i hi=>?_,hg2▸nn.below,hh⟩
   ·have:=nn.nf i q
    rcases hi with rfl|rfl|rfl|hi
    ·exact this.2.1 rfl
    ·exact this.2.2.1 rfl
    ·exact this.2.2.2.1 rfl
    ·cases hi
   ·have lo:=nn.lo
    rcases hi with rfl|rfl|rfl|hi
    ·omega
    ·omega
    ·omega
    ·cases hi
   ·have:=(nn.nf i hi).1
    omega
end Sh.Sw
end Go.Proofs.YtfjlnniahfbdfaaGreat
