/- A part of the proof. -/
import Derived.Test.YtfjlnniahfbdfaaGreatPbu
import Derived.Test.YtfjlnniahfbdfaaGreatPbw
set_option linter.unusedVariables false
set_option maxHeartbeats 4000000
namespace Go.Proofs.YtfjlnniahfbdfaaGreat
open Lib (hid)
open Go.ChangeShapes Go.WideShapes Go.ChangeAt Go.RowKit
set_option maxRecDepth 100000
namespace Cn
open Small Foot Fm Ca Sh Grp
open Md (cfOf)
open Rm (RDid RAsked NoR)
structure Fx(c8:C8)(E:Ev)(z:Nat→Option (Nat×Int×Int×Int))(T:Nat→MS)(W:Nat→Int×List Pn):Prop where
 hc:E.cf=cfOf c8
 may:(cfOf c8).may
 fit:(cfOf c8).Fit
 cfit:∀ (k:Nat) (y:Cl),E.cs[k]?=some y→y.Fit
 bl:(E.bs.length:Int)=c8.h
 n20:E.cs.length≤20
 tr:Tr c8 E.cs z T W
abbrev c01(b:Bool):Nat:=if b=true then 1 else 0
def Nx(c8:C8)(E:Ev)(q:Int→Option Nat)(T:Nat→MS)(W:Nat→Int×List Pn)(k n:Nat)(b pt:Bool)(td:Td)(s':St)(p:Nat→Int→Option Nat)(S:Int→Lists)(N:Nat):Prop:=
 (∃ k' n' b' pt',Top c8 E q T W k' n' b' pt' s' p S N∧Rs W k' s'∧(∀ i,s'.L i=[])∧k*(c8.h.toNat+4)+n<k'*(c8.h.toNat+4)+n'∧k'+c01 b'=k+c01 b+c01 td.bg∧k'+c01 pt'=k+c01 pt+c01 td.pt∧k'=k+c01 td.dn∧k'≤E.cs.length)∨
 (∃ j n' pt',Mid c8 E q T W k n' pt' j s' p S N∧Rs W k s'∧(∀ i,i≠j→s'.L i=[])∧j<E.bs.length∧n<n'∧k+1=k+c01 b+c01 td.bg∧k+c01 pt'=k+c01 pt+c01 td.pt∧td.dn=false∧k<E.cs.length)
section
variable {c8:C8} {w0 w:World} {E:Ev} {q:Int→Option Nat} {T:Nat→MS} {W:Nat→Int×List Pn} {k:Nat} {s sX:St} {p:Nat→Int→Option Nat} {S:Int→Lists} {N:Nat} {R:Nat→Nat→Prop} {z:Nat→Option (Nat×Int×Int×Int)} {r:Rp}
theorem ended_all(h:s.g.held=none→s.hd=false):(s.ended r).M=s.M∧(s.ended r).wm=s.wm∧(s.ended r).sd=s.sd∧(s.ended r).sb=s.sb∧(s.ended r).L=s.L∧(s.ended r).rs=s.rs++[r]∧(s.ended r).g=g0∧(s.ended r).hd=false:=by
 unfold St.ended St.dropped
 by_cases e:s.g.held=none
 ·rw[if_pos e];exact⟨rfl,rfl,rfl,rfl,rfl,rfl,rfl,h e⟩
 ·rw[if_neg e];exact⟨rfl,rfl,rfl,rfl,rfl,rfl,rfl,rfl⟩
theorem fin(h:sX.g.held=none→sX.hd=false)(e:sX.rs=s.rs)(l:∀ i,sX.L i=[])(rs:Rs W k s)(r1:r.code=(W k).1)(r2:r.P=(W k).2)(co:Co c8 q (T (k+1)) (k+1) none sX p S N):
  Top c8 E q T W (k+1) 0 false false (sX.ended r) p S N∧Rs W (k+1) (sX.ended r)∧∀ i,(sX.ended r).L i=[]:=by
 obtain⟨h1,h2,h3,h4,h5,h6,h7,h8⟩:=ended_all (r:=r) h
 exact⟨.idle h7 h8 (co.same h2 h3 h4 h1),rs.more (by rw[h6,e]) r1 r2,by rw[h5];exact l⟩
theorem kgrp{r:Int}{x:Cl}(hk:kd x.op=true)(hr:1≤r):0≤grpOf r x∧grpOf r x<r:=by
 unfold grpOf
 rw[if_pos hk]
 have:=Fnv.grp_in (Fnv.num x.key.data.toList) r
 exact⟨this.1,this.2 hr⟩
theorem step_any(fx:Fx c8 E z T W){n:Nat}{b pt:Bool}(C:Hid (CM w0 E s R w))(tp:Top c8 E q T W k n b pt s p S N)(rs:Rs W k s)(emp:∀ i,s.L i=[])(hk:k<E.cs.length):
  ∃ td,td.mv=true∧Calls Tryz.prog 16 #[gp E.x,E.v] w (fun r w'=>∃ s',Went w0 E R w s s' td r w'∧Nx c8 E q T W k n b pt td s' p S N):=by
 have one:∀ {td:Td} {s':St},Calls Tryz.prog 16 #[gp E.x,E.v] w (Went w0 E R w s s' td)∧td.mv=true∧Nx c8 E q T W k n b pt td s' p S N→∃ td,td.mv=true∧Calls Tryz.prog 16 #[gp E.x,E.v] w (fun r w'=>∃ s',Went w0 E R w s s' td r w'∧Nx c8 E q T W k n b pt td s' p S N):=fun h=>⟨_,h.2.1,h.1.mono fun r w' h1=>⟨_,h1,h.2.2⟩⟩
 obtain⟨y,hy⟩:∃ y,E.cs[k]?=some y:=⟨_,List.getElem?_eq_getElem hk⟩
 have hr:s.rs.length≤1000:=by have:=rs.len;have:=fx.n20;omega
 have ny:Hid (E.cs[s.rs.length]?=some y):=hid (by rw[rs.len];exact hy)
 have fc:Hid E.cf.Fit:=hid (by rw[fx.hc];exact fx.fit)
 have fy:Hid y.Fit:=hid (fx.cfit k y hy)
 have D:=fx.tr.did k y hy
 have hm:Asg.may c8.k c8.s c8.l c8.g c8.z c8.h c8.r c8.c:=fx.may
 have hb:(1≤c8.h∧c8.h≤8)∧(1≤c8.r∧c8.r≤16)∧1≤c8.c∧c8.c≤16:=by unfold Asg.may at hm;omega
 have ec:E.cf.c=c8.c:=by rw[fx.hc]
 have eh:E.cf.h=c8.h:=by rw[fx.hc]
 have er:E.cf.r=c8.r:=by rw[fx.hc]
 have hc16:E.cf.c≤16:=by rw[ec];exact hb.2.2.2
 have room:∀ j,((s.L j).length:Int)<E.cf.c:=fun j=>by rw[emp j,ec];simp;omega
 have next:∀ {i},k*(c8.h.toNat+4)+i<(k+1)*(c8.h.toNat+4)+0↔i<c8.h.toNat+4:=fun {i}=>by rw[Nat.add_mul];omega
 cases tp with
 |idle g hd co=>
  have hh:Hid (Held E s):=hid (.inl (by rw[g]))
  have gb:Hid (s.g.b=false):=hid (by rw[g])
  by_cases mc:mayC (cfOf c8) y
  case neg=>
   obtain⟨d1,d2,d3,d4,d5⟩:=did_bad D mc;refine one ⟨step_bad C ny hh hr fc fy gb (hid (by rw[fx.hc];exact mc)),rfl,.inl ⟨k+1,0,false,false,?_⟩⟩
   obtain⟨t1,t2,t3⟩:=fin (E:=E) (s:=s) (sX:=s.beg) (r:=rc 6) (fun _=>hd) rfl emp rs (by rw[d1]) (by rw[d2]) ((co.next d3 d4 d5).same rfl rfl rfl rfl)
   exact⟨t1,t2,t3,by rw[next];omega,rfl,rfl,rfl,by omega⟩
  case pos=>
  have HM:Hid (mayC E.cf y):=hid (by rw[fx.hc];exact mc)
  by_cases kk:kd y.op=true
  case pos=>
   by_cases cl:(T k).cl=true
   case pos=>
    obtain⟨d1,d2,d3,d4,d5⟩:=did_shut D mc cl;have wy:Way E s.beg y tb (s.beg.ended (rc 3)) ⟨true,true,true,true,rc 3⟩:=.closed (show s.sd=true from co.sd.trans cl)
    refine one ⟨step_key_new C ny hh hr fc fy (hid kk) gb HM (hid fun w1 R1 h1=>keyed_st (hid h1) (hid (.inl (by show s.g.held=none;rw[g]))) hr hc16 fc fy (hid rfl) (.first (by show s.g.ask=0;rw[g]) wy)),rfl,.inl ⟨k+1,0,false,false,?_⟩⟩
    obtain⟨t1,t2,t3⟩:=fin (E:=E) (s:=s) (sX:=s.beg) (r:=rc 3) (fun _=>hd) rfl emp rs (by rw[d1]) (by rw[d2]) ((co.next d3 d4 d5).same rfl rfl rfl rfl)
    exact⟨t1,t2,t3,by rw[next];omega,rfl,rfl,rfl,by omega⟩
   case neg=>
    have cl:(T k).cl=false:=by simpa using cl
    have gr:=kgrp (x:=y) kk hb.2.1.1;obtain⟨x,hx⟩:∃ x:Nat,grpOf c8.r y=x:=⟨(grpOf c8.r y).toNat,by omega⟩
    obtain⟨o,o1,o2,o3,o4,o5,o6⟩:=co.tab x (by rw[←hx];exact gr.2)
    obtain⟨o7,o8⟩:=o6 (by simp)
    obtain⟨j,hj⟩:∃ j:Nat,o.s=j:=⟨o.s.toNat,by omega⟩
    have jl:j<E.bs.length:=by have:=fx.bl;omega
    obtain⟨gb1,hgb⟩:∃ gb1,E.bs[j]?=some gb1:=⟨_,List.getElem?_eq_getElem jl⟩
    have wy:Way E s.beg y tb {s.beg.msg j ⟨1,E.num,y,0,none⟩ with g:={s.beg.g with ask:=1}} ⟨true,true,false,false,r0⟩:=
     .put (i:=x) (j:=j) (g:=gb1) (o:=o) (show s.sd=false from co.sd.trans cl) (by rw[er];exact hx) o1 o7 hj hgb (show s.sb j=false from (co.sb j).trans cl) (room j)
    refine one ⟨step_key_new C ny hh hr fc fy (hid kk) gb HM (hid fun w1 R1 h1=>keyed_st (hid h1) (hid (.inl (by show s.g.held=none;rw[g]))) hr hc16 fc fy (hid rfl) (.first (by show s.g.ask=0;rw[g]) wy)),rfl,.inr ⟨j,1,false,?_⟩⟩
    refine⟨.ask hy kk mc (by show {s.g with b:=true,ask:=1}=_;rw[g]) hd (by show (if j=j then s.L j++[_] else s.L j)=_;rw[if_pos rfl,emp j];rfl) (by rw[hx];rw[hj] at o8;exact o8) (co.same rfl rfl rfl rfl) cl,rs.same rfl,fun i hi=>?_,jl,by omega,rfl,rfl,rfl,hk⟩
    show (if i=j then s.L j++[_] else s.L i)=[]
    rw[if_neg hi,emp i]
  case neg=>
   have kk:kd y.op=false:=by simpa using kk
   have gn:Hid (s.g.held=none):=hid (by rw[g])
   have ops:y.op=3∨y.op=6∨y.op=7:=by
    have h1:=mc.2.1;simp only[kd,decide_eq_false_iff_not] at kk;omega
   by_cases cl:(T k).cl=true
   case pos=>
    obtain⟨d1,d2,d3,d4,d5⟩:=did_shut D mc cl;refine one ⟨step_start_new C ny hh hr fc fy (hid kk) gn gb HM (hid fun w1 R1 h1=>start_closed (t:=tb) (hid h1) hr (hid hd) (hid (show s.sd=true from co.sd.trans cl))),rfl,.inl ⟨k+1,0,false,false,?_⟩⟩
    obtain⟨t1,t2,t3⟩:=fin (E:=E) (s:=s) (sX:=s.beg.hold E) (r:=rc 3) (fun e=>by cases e) rfl emp rs (by rw[d1]) (by rw[d2]) ((co.next d3 d4 d5).same rfl rfl rfl rfl)
    exact⟨t1,t2,t3,by rw[next];omega,rfl,rfl,rfl,by omega⟩
   case neg=>
   have cl:(T k).cl=false:=by simpa using cl
   have sd:Hid (s.beg.sd=false):=hid (show s.sd=false from co.sd.trans cl)
   rcases ops with ho|ho|ho
   ·by_cases ht:y.t≤(T k).mt
    ·obtain⟨d1,d2,d3,d4,d5⟩:=did_stale D mc cl ho ht
     refine one ⟨step_start_new C ny hh hr fc fy (hid kk) gn gb HM (hid fun w1 R1 h1=>start_stale (t:=tb) (hid h1) hr (hid hd) sd (hid ho) (hid rfl) (by show y.t≤s.wm;rw[co.wm];exact ht)),rfl,.inl ⟨k+1,0,false,false,?_⟩⟩
     obtain⟨t1,t2,t3⟩:=fin (E:=E) (s:=s) (sX:=s.beg.hold E) (r:=rc 5) (fun e=>by cases e) rfl emp rs (by rw[d1]) (by rw[d2]) ((co.next d3 d4 d5).same rfl rfl rfl rfl)
     exact⟨t1,t2,t3,by rw[next];omega,rfl,rfl,rfl,by omega⟩
    ·obtain⟨d1,d2,d3,d4,O,d5,d6⟩:=did_up D mc cl ho (by omega)
     refine one ⟨step_start_new C ny hh hr fc fy (hid kk) gn gb HM (hid fun w1 R1 h1=>start_raise (t:=tb) (hid h1) hr (hid hd) sd (hid ho) (hid rfl) (by show s.wm<y.t;rw[co.wm];omega)),rfl,.inl ⟨k,1+0,true,true,?_⟩⟩
     refine⟨.adv (j:=0) hy ho (by show {s.g with b:=true,held:=some E.gc}=_;rw[g];rfl) (by omega) ⟨rfl,rfl⟩ ⟨d3.symm,by rw[d4];exact co.sd,fun i=>by rw[d4];exact co.sb i,fun x hx=>?_,co.has,fun x h0 h1=>?_,by rw[d3];exact d6,by have:=co.few;omega,by rw[d3];exact fy.out.2.2.1⟩ (Prod.ext d1 d2) (d4.trans cl),rs.same rfl,emp,by omega,rfl,rfl,rfl,by omega⟩
     ·obtain⟨o,a1,a2,a3,a4,a5,a6⟩:=co.tab x hx
      exact⟨o,a1,a2,a3,a4,by omega,a6⟩
     ·rw[d3]
      exact (co.lag x h0 h1).up (by omega) d5 d6
   ·obtain⟨d1,d2,d3,d4,d5⟩:=did_still D mc cl ho
    obtain⟨⟨u0,u1⟩,v0,v1⟩:=mc.2.2.2.2 ho;have u1:y.u<c8.r:=u1;have v1:y.s<c8.h:=v1;obtain⟨x,hx⟩:∃ x:Nat,y.u=x:=⟨y.u.toNat,by omega⟩
    obtain⟨o,o1,o2,o3,o4,o5,o6⟩:=co.tab x (by omega)
    obtain⟨o7,o8⟩:=o6 (by simp)
    refine⟨_,rfl,(step_start_any (t':=⟨true,true,true,false,r0⟩) (sf:=fun hx=>{s.beg.hold E with M:=s.M.set x ⟨o.s,o.v,true⟩,hg:=x,ht:=y.s,hkd:=3,hs:=false,hst:=none,g:={s.beg.g with held:=some E.gc,hand:=some hx}}) C ny hh hr fc fy (hid kk) gn gb HM (hid fun w1 R1 h1=>start_move (t:=tb) (hid h1) hr (hid hd) sd (hid ho) (hid rfl) (hid hx) (hid (show s.beg.M[x]?=some o from o1)) o7 v0 (by rw[eh];exact v1) (hid (by show s.g.hand=none;rw[g])))).mono fun r w' ⟨hx2,h⟩=>⟨_,h,.inl ⟨k,1,true,true,?_⟩⟩⟩
    have xl:x<s.M.length:=(List.getElem?_eq_some_iff.1 o1).1
    refine⟨.mv0 (gi:=x) (hh:=hx2) (o:=⟨o.s,o.v,true⟩) hy ho (by show {s.g with b:=true,held:=some E.gc,hand:=some hx2}=_;rw[g]) ⟨rfl,rfl⟩ ⟨rfl,v0,v1,rfl,rfl,rfl⟩ ⟨List.getElem?_set_self xl,rfl,by omega,o5⟩ o8 ⟨co.wm.trans d4.symm,co.sd.trans d5.symm,fun i=>(co.sb i).trans d5.symm,fun i hi=>?_,co.has,fun i h0 h1=>by rw[d3,d4];exact co.lag i h0 h1,by rw[d3,d4];exact co.nor,by have:=co.few;omega,by rw[d4];exact co.wf⟩ (Prod.ext d1 d2) (d5.trans cl),rs.same rfl,emp,by omega,rfl,rfl,rfl,by omega⟩
    by_cases e:i=x
    ·subst e
     exact⟨_,List.getElem?_set_self xl,o2,o3,o4,by show o.v≤_;omega,fun ne=>absurd rfl ne⟩
    ·obtain⟨oo,a1,a2,a3,a4,a5,a6⟩:=co.tab i hi
     exact⟨oo,(List.getElem?_set_ne (fun q=>e q.symm)).trans a1,a2,a3,a4,by omega,fun _=>a6 (by simp)⟩
   ·obtain⟨d1,d2,d3,d4,d5⟩:=did_close D mc cl ho
    refine one ⟨step_start_new C ny hh hr fc fy (hid kk) gn gb HM (hid fun w1 R1 h1=>start_shut (t:=tb) (hid h1) hr (hid hd) sd (hid ho) (hid rfl)),rfl,.inl ⟨k,1,true,true,?_⟩⟩
    refine⟨.shut hy ho (by show {s.g with b:=true,held:=some E.gc}=_;rw[g]) ⟨rfl,rfl⟩ ⟨co.wm.trans d4.symm,d5.symm,fun i=>d5.symm,fun x hx=>?_,co.has,fun x h0 h1=>by rw[d3,d4];exact co.lag x h0 h1,by rw[d3,d4];exact co.nor,by have:=co.few;omega,by rw[d4];exact co.wf⟩ (Prod.ext d1 d2),rs.same rfl,emp,by omega,rfl,rfl,rfl,by omega⟩
    obtain⟨o,a1,a2,a3,a4,a5,a6⟩:=co.tab x hx;exact⟨o,a1,a2,a3,a4,by omega,a6⟩
 |@ans _ _ _ _ y' zz hy' kk g z1 z2 hd co=>
  rw[hy] at hy';cases hy'
  have zl:s.g.r.P.length≤9000:=by rw[g];show zz.P.length≤9000;rw[z2];exact fx.tr.len k y hy
  refine one ⟨step_key_old C ny (hid (.inl (by rw[g]))) hr fc fy (hid kk) (hid (by rw[g])) (hid fun w1 R1 h1=>keyed_st (hid h1) (hid (.inl (by rw[g]))) hr hc16 fc fy (hid rfl) (.done (by rw[g]) zl)),rfl,.inl ⟨k+1,0,false,false,?_⟩⟩
  obtain⟨t1,t2,t3⟩:=fin (E:=E) (s:=s) (sX:=s) (r:=s.g.r) (fun _=>hd) rfl emp rs (by rw[g];exact z1) (by rw[g];exact z2) co
  exact⟨t1,t2,t3,by rw[next];omega,rfl,rfl,rfl,by omega⟩
 |@adv _ _ _ _ y' j hy' ho g hj hd co w cl=>
  rw[hy] at hy';cases hy'
  have kk:kd y.op=false:=by unfold kd;rw[ho];decide
  have hh:Held E s:=.inr ⟨by rw[g],hd.1,hd.2⟩
  by_cases jh:(j:Int)<c8.h
  ·have jl:j<E.bs.length:=by have:=fx.bl;omega
   obtain⟨gb1,hgb⟩:∃ gb1,E.bs[j]?=some gb1:=⟨_,List.getElem?_eq_getElem jl⟩
   refine one ⟨step_further C ny (hid hh) hr fc fy (hid kk) (hid (by rw[g])) (hid (by rw[g])) (hid fun w1 R1 h1=>further_mark (hid h1) (hid ho) (hid fun w2 R2 h2=>mark_put (j:=j) (g1:=gb1) (hid h2) (hid (by rw[g])) (hid (by rw[eh];exact jh)) (hid hgb) (hid ((co.sb j).trans cl)) hc16 (by omega) (by rw[g];exact⟨Int.le_refl _,show (0:Int)≤100 by decide⟩) (room j))),rfl,.inr ⟨j,2+j,true,?_⟩⟩
   refine⟨.mark hy ho (by show {s.g with put:=(j:Int)+1,due:=s.g.due+1}=_;rw[g];rfl) jh hd (by show (if j=j then s.L j++[_] else s.L j)=_;rw[if_pos rfl,emp j];rfl) (co.same rfl rfl rfl rfl) w cl,rs.same rfl,fun i hi=>?_,jl,by omega,rfl,rfl,rfl,hk⟩
   show (if i=j then s.L j++[_] else s.L i)=[]
   rw[if_neg hi,emp i]
  ·refine one ⟨step_further C ny (hid hh) hr fc fy (hid kk) (hid (by rw[g])) (hid (by rw[g])) (hid fun w1 R1 h1=>further_mark (hid h1) (hid ho) (hid fun w2 R2 h2=>mark_end (hid h2) (hid (by rw[g,eh];show c8.h≤(j:Int);omega)) (by rw[g];show ¬(0:Int)<0;decide) (hid hh) hr)),rfl,.inl ⟨k+1,0,false,false,?_⟩⟩
   obtain⟨t1,t2,t3⟩:=fin (E:=E) (s:=s) (sX:=s) (r:=rc 0) (fun e=>by rw[g] at e;cases e) rfl emp rs (by rw[w]) (by rw[w]) co
   exact⟨t1,t2,t3,by rw[next];omega,rfl,rfl,rfl,by omega⟩
 |@mv0 _ _ _ _ y' gi hw o hy' ho g hd f x po co w cl=>
  rw[hy] at hy';cases hy'
  have kk:kd y.op=false:=by unfold kd;rw[ho];decide
  have hh:Held E s:=.inr ⟨by rw[g],hd.1,hd.2⟩
  obtain⟨o',o1,o2,o3,o4,o5,o6⟩:=co.tab gi x.2.2.1;rw[x.1] at o1;cases o1
  obtain⟨j,hj⟩:∃ j:Nat,o.s=j:=⟨o.s.toNat,by omega⟩
  have jl:j<E.bs.length:=by have:=fx.bl;omega
  obtain⟨gb1,hgb⟩:∃ gb1,E.bs[j]?=some gb1:=⟨_,List.getElem?_eq_getElem jl⟩
  refine one ⟨step_further C ny (hid hh) hr fc fy (hid kk) (hid (by rw[g])) (hid (by rw[g])) (hid fun w1 R1 h1=>further_move (hid h1) (hid ho) (hid fun w2 R2 h2=>move_put (j:=j) (g1:=gb1) (hid h2) (hid (by rw[g])) (hid f.2.2.2.2.1) (hid (.inl ⟨f.2.2.2.1,gi,o,f.1,x.1,hj⟩)) (hid hgb) (hid ((co.sb j).trans cl)) hc16 (room j))),rfl,.inr ⟨j,2,true,?_⟩⟩
  refine⟨.give (gi:=gi) (hh:=hw) (o:=o) hy ho g hd ⟨f.1,f.2.1,f.2.2.1,f.2.2.2.1,rfl,rfl⟩ x (by show (if j=j then s.L j++[_] else s.L j)=_;rw[if_pos rfl,emp j,f.2.2.2.1,f.1,f.2.2.2.2.2];rfl) (by rw[hj] at po;exact po) (co.same rfl rfl rfl rfl) w cl,rs.same rfl,fun i hi=>?_,jl,by omega,rfl,rfl,rfl,hk⟩
  show (if i=j then s.L j++[_] else s.L i)=[]
  rw[if_neg hi,emp i]
 |@mv1 _ _ _ _ y' gi hw o hy' ho g hd f x pn co w cl=>
  rw[hy] at hy';cases hy'
  have kk:kd y.op=false:=by unfold kd;rw[ho];decide
  have hh:Held E s:=.inr ⟨by rw[g],hd.1,hd.2⟩
  obtain⟨j,hj⟩:∃ j:Nat,s.ht=j:=⟨s.ht.toNat,by have:=f.2.1;omega⟩
  have jl:j<E.bs.length:=by have:=fx.bl;have:=f.2.2.1;omega
  obtain⟨gb1,hgb⟩:∃ gb1,E.bs[j]?=some gb1:=⟨_,List.getElem?_eq_getElem jl⟩
  obtain⟨a,ha⟩:∃ a,q gi=some a:=Option.ne_none_iff_exists'.1 ((co.has gi).2 ⟨by omega,x.2.2.1⟩)
  refine one ⟨step_further C ny (hid hh) hr fc fy (hid kk) (hid (by rw[g])) (hid (by rw[g])) (hid fun w1 R1 h1=>further_move (hid h1) (hid ho) (hid fun w2 R2 h2=>move_put (j:=j) (g1:=gb1) (hid h2) (hid (by rw[g])) (hid f.2.2.2.2.1) (hid (.inr ⟨f.2.2.2.1,hj⟩)) (hid hgb) (hid ((co.sb j).trans cl)) hc16 (room j))),rfl,.inr ⟨j,3,true,?_⟩⟩
  refine⟨.had (gi:=gi) (hh:=hw) (o:=o) (a:=a) hy ho g hd ⟨f.1,hj,f.2.2.1,f.2.2.2.1,rfl,rfl⟩ x (by show (if j=j then s.L j++[_] else s.L j)=_;rw[if_pos rfl,emp j,f.2.2.2.1,f.1,f.2.2.2.2.2,ha];rfl) ha pn (co.same rfl rfl rfl rfl) w cl,rs.same rfl,fun i hi=>?_,jl,by omega,rfl,rfl,rfl,hk⟩
  show (if i=j then s.L j++[_] else s.L i)=[]
  rw[if_neg hi,emp i]
 |@mv2 _ _ _ _ y' hw hy' ho g hd f co w=>
  rw[hy] at hy';cases hy'
  have kk:kd y.op=false:=by unfold kd;rw[ho];decide
  have hh:Held E s:=.inr ⟨by rw[g],hd.1,hd.2⟩
  refine one ⟨step_further C ny (hid hh) hr fc fy (hid kk) (hid (by rw[g])) (hid (by rw[g])) (hid fun w1 R1 h1=>further_move (hid h1) (hid ho) (hid fun w2 R2 h2=>move_end (hid h2) (hid (by rw[g])) f (hid hh) hr)),rfl,.inl ⟨k+1,0,false,false,?_⟩⟩
  obtain⟨t1,t2,t3⟩:=fin (E:=E) (s:=s) (sX:=s) (r:=rc 0) (fun e=>by rw[g] at e;cases e) rfl emp rs (by rw[w]) (by rw[w]) co
  exact⟨t1,t2,t3,by rw[next];omega,rfl,rfl,rfl,by omega⟩
 |@shut _ _ _ _ y' hy' ho g hd co w=>
  rw[hy] at hy';cases hy'
  have kk:kd y.op=false:=by unfold kd;rw[ho];decide
  have hh:Held E s:=.inr ⟨by rw[g],hd.1,hd.2⟩
  refine one ⟨step_further C ny (hid hh) hr fc fy (hid kk) (hid (by rw[g])) (hid (by rw[g])) (hid fun w1 R1 h1=>further_end (hid h1) (hid ho) (fun i _=>emp i) (hid hh) hr),rfl,.inl ⟨k+1,0,false,false,?_⟩⟩
  obtain⟨t1,t2,t3⟩:=fin (E:=E) (s:=s) (sX:=s) (r:=rc 0) (fun e=>by rw[g] at e;cases e) rfl emp rs (by rw[w]) (by rw[w]) co
  exact⟨t1,t2,t3,by rw[next];omega,rfl,rfl,rfl,by omega⟩
end
end Cn
namespace Cn
open Small Foot Fm Ca Sh Grp
open Md (cfOf)
open Rm (RDid RAsked NoR)
theorem nor_lag{c8:C8}{mt:Int}{S:Int→Lists}{R:List Pn}(hr:1≤c8.r)(h:∀ x:Int,0≤x→x<c8.r→Cm.Lag (Gk c8.r) x c8.z mt (S x) R):NoR c8.z mt R:=fun p hp=>by
 have g:=Fnv.grp_in (Fnv.num p.key.data.toList) c8.r
 have l:=h (Gk c8.r p.key) g.1 (g.2 hr)
 have m:p∈Rg.ofKey p.key R:=List.mem_filter.2 ⟨hp,by simp⟩
 have:=((l.perm p.key rfl).mem_iff.1 m)
 have:=(List.mem_filter.1 this).2
 simpa using this
theorem mk_at{z mt:Int}{S S':Int→Lists}{ks:List Int}{O:List Pn}(h:Sh.Sw.Mk z mt S ks O S')(nd:ks.Nodup):(∀ k,k∈ks→∃ Ok,Outs z mt (S k) Ok (S' k)∧NoneOver z mt (S' k))∧∀ k,k ∉ ks→S' k=S k:=by
 induction h with
 |nil=>exact⟨fun k h=>by simp at h,fun _ _=>rfl⟩
 |@snoc ks k O Ok S1 T1 h o no ih=>
  obtain⟨n1,-,n3⟩:=List.nodup_append.1 nd;have hk:k ∉ ks:=fun e=>n3 k e k (by simp) rfl
  obtain⟨i1,i2⟩:=ih n1;refine⟨fun x hx=>?_,fun x hx=>?_⟩
  ·by_cases e:x=k
   ·subst e
    rw[i2 x hk] at o;simp only[if_true];exact⟨Ok,o,no⟩
   ·have:x∈ks:=by simpa [e] using hx
    simp only[e,if_false];exact i1 x this
  ·have hx:¬x=k∧x ∉ ks:=by simp at hx;exact⟨hx.2,hx.1⟩
   simp only[hx.1,if_false];exact i2 x hx.2
theorem masked16{cf:C8}{S S':Lists}{mt:Int}{x:Cl}{z:Option (Nat×Int×Int×Int)}{code:Int}{P O:List Pn}{c:Nat}(h:Md.MAsked cf S mt x z code P O c S')(hz:∀ nn a d l,z=some (nn,a,d,l)→nn≤16∧1≤l):c≤16:=by
 rcases h with ⟨-,-,S1,-,-,tk⟩|⟨-,-,h,-⟩
 ·exact (Gr.taken16 tk hz).1
 ·omega
theorem own_lit{base:Nat}{w:World}{v:Value}{L:List Pn}(h:Sl.Own Pn.k base w v L):∃ A n c,v=.slice A n c:=lit_pn h
section
variable {c8:C8} {w0 w:World} {E:Ev} {q:Int→Option Nat} {T:Nat→MS} {W:Nat→Int×List Pn} {k n j wk:Nat} {pt:Bool} {s:St} {p:Nat→Int→Option Nat} {S:Int→Lists} {N:Nat} {nn:Int→Nat} {R:Nat→Nat→Prop} {z:Nat→Option (Nat×Int×Int×Int)} {ws:List Nat}
def DidTo(c8:C8)(w0:World)(E:Ev)(q:Int→Option Nat)(T:Nat→MS)(W:Nat→Int×List Pn)(k n:Nat)(d:Value)(rr:Rp)(s:St)(p:Nat→Int→Option Nat)(S:Int→Lists)(N:Nat):Prop:=
 ∀ w2 R2,CM w0 E s R2 w2→Out.Rd w2 rr.pv rr.P→Calls Tryz.prog 20 #[gp E.x,d] w2 fun e w'=>e=.returned (.bool true)∧∃ s2 R',CM w0 E s2 R' w'∧On TT R2 w2 R' w'∧Top c8 E q T W k n true true s2 p S N∧Rs W k s2∧∀ i,s2.L i=[]
def StepTo(c8:C8)(w0:World)(E:Ev)(q:Int→Option Nat)(T:Nat→MS)(W:Nat→Int×List Pn)(ws:List Nat)(k n:Nat)(pt:Bool)(R:Nat→Nat→Prop)(w:World)(s:St)(r:Ending)(w':World):Prop:=
 ∃ m rr oa on oc st s1 p1 S1 N1 n1 R',r=.returned (.tuple #[dval m false rr oa on oc st,.bool true])∧((m.kind == 1)=!pt)∧CM w0 E s1 R' w'∧WM c8 E.bs ws p1 q S1 N1 n1 R' w'∧On TW R w R' w'∧s1.wm=s.wm∧s1.sd=s.sd∧s1.rs=s.rs∧s1.g=s.g∧Sl.Own Pn.k w.heap.size w' rr.pv rr.P∧DidTo c8 w0 E q T W k n (dval m false rr oa on oc st) rr s1 p1 S1 N1
theorem mid_any(fx:Fx c8 E z T W)(C:Hid (CM w0 E s R w))(V:Hid (WM c8 E.bs ws p q S N nn R w))(md:Mid c8 E q T W k n pt j s p S N)(rs:Rs W k s)(emp:∀ i,i≠j→s.L i=[])(jl:j<E.bs.length)(hk:k<E.cs.length)(h1:ws[j]?=some wk):
  Calls Tryz.prog 17 #[gp wk,.int .i64 s.wm,.bool s.sd] w (StepTo c8 w0 E q T W ws k n pt R w s):=by
 obtain⟨bx,h2⟩:∃ bx,E.bs[j]?=some bx:=⟨_,List.getElem?_eq_getElem jl⟩
 have hm:Asg.may c8.k c8.s c8.l c8.g c8.z c8.h c8.r c8.c:=fx.may
 have hb:(1≤c8.h∧c8.h≤8)∧(1≤c8.r∧c8.r≤16)∧1≤c8.c∧c8.c≤16:=by unfold Asg.may at hm;omega
 have k20:k<20:=by have:=fx.n20;omega
 have emp2:∀ i,(s.took j []).L i=[]:=fun i=>by
  show (if i=j then [] else s.L i)=[]
  by_cases e:i=j
  ·rw[if_pos e]
  ·rw[if_neg e];exact emp i e
 have F:=fx.fit
 cases md with
 |@ask _ _ _ _ y _ hy kk mc g hd l po co cl=>
  have sdf:s.sd=false:=co.sd.trans cl;rw[sdf];have fy:=fx.cfit k y hy;have gr:=kgrp (x:=y) kk hb.2.1.1;obtain⟨a,ha⟩:∃ a,q (grpOf c8.r y)=some a:=Option.ne_none_iff_exists'.1 ((co.has _).2 gr);have B:c8.s≤9223372036854775807∧c8.l≤9223372036854775807∧c8.g≤9223372036854775807∧c8.z≤9223372036854775807:=⟨(Num.fit F.2.1).2,(Num.fit F.2.2.1).2,(Num.fit F.2.2.2.1).2,(Num.fit F.2.2.2.2.1).2⟩;have told:=fx.tr.told k y hy;have hz:=Gr.told16 hm (Num.fit fy.2.2.1).1 B.1 B.2.2.1 told;have N8:N≤8880:=by have:=co.few;omega
  have ok:=(V.out.grp _ a ha).2.2.ok;refine (wstep_ask C V fx.hc h1 h2 l (by simp) (hid fx.fit) (hid fy) (hid kk) (hid mc) (po.trans ha) (z k) N8 (hid (by rw[co.wm];exact co.wf)) (Nat.le_trans (mc.2.2.1 kk).2 (by decide)) (hid told)).mono ?_
  rintro r w' ⟨rv,ov,code,P,O,c,S1,n',R',rfl,ma,hP,c',v',on,o1,o2⟩;obtain⟨O2,ra,t1,t2⟩:=did_key (fx.tr.did k y hy) mc cl kk;have lag:=co.lag _ gr.1 gr.2;rw[co.wm] at ma;obtain⟨e1,e2,-,l1,l2⟩:=lag.ask (grp_key kk).symm ok N8 hz co.nor ma ra;obtain⟨A1,a2,a3,rfl⟩:=own_lit o1;obtain⟨A2,b2,b3,rfl⟩:=own_lit o2
  have lags:∀ x:Int,0≤x→x<c8.r→Cm.Lag (Gk c8.r) x c8.z (T (k+1)).mt ((fun x=>if x=grpOf c8.r y then S1 else S x) x) (T (k+1)).R:=fun x x0 x1=>by
   show Cm.Lag _ x _ _ (if x=grpOf c8.r y then S1 else S x) _
   rw[t1];by_cases e:x=grpOf c8.r y
   ·rw[if_pos e,e];exact l1
   ·rw[if_neg e]
    exact (co.lag x x0 x1).other fun y' hy'=>l2 y' fun e2=>e (by rw[←hy',e2,grp_key kk])
  have co':Co c8 q (T (k+1)) (k+1) none (s.took j []) p (fun x=>if x=grpOf c8.r y then S1 else S x) (N+c):=
   ⟨co.wm.trans t1.symm,co.sd.trans t2.symm,fun i=>(co.sb i).trans t2.symm,fun x hx=>by
    obtain⟨o,u1,u2,u3,u4,u5,u6⟩:=co.tab x hx;exact⟨o,u1,u2,u3,u4,by omega,u6⟩,co.has,lags,nor_lag hb.2.1.1 lags,by have:=co.few;have:=masked16 ma hz;omega,by rw[t1];exact co.wf⟩
  refine⟨⟨1,E.num,y,0,none⟩,⟨code,A1,a2,a3,P⟩,A2,b2,b3,none,s.took j [],p,_,_,n',R',rfl,rfl,c',v',on,rfl,rfl,rfl,rfl,o1,fun w2 R2 c2 rd2=>?_⟩
  refine (did_ok (y:=y) (hid c2) (hid (by show E.cs[s.rs.length]?=some y;rw[rs.len];exact hy)) (hid (by show s.g.ask=1;rw[g])) (hid rfl) (hid rfl) (hid rfl) (hid rfl) (hid rd2) hP).mono ?_
  rintro e w3 ⟨rfl,z',R3,z1,z2,c3,o3⟩;exact⟨rfl,_,R3,c3,o3,.ans hy kk (by show {s.g with ask:=2,r:=z'}=_;rw[g]) (z1.trans e1) (z2.trans e2) hd (co'.same rfl rfl rfl rfl),rs.same rfl,emp2⟩
 |@mark _ _ _ _ y _ hy ho g hj hd l co w cl=>
  have N8:N≤8880:=by have:=co.few;omega
  refine (wstep_mark C V fx.hc h1 h2 l (by simp) N8 (hid F.2.2.2.2.1) (hid (by rw[co.wm];exact co.wf))).mono ?_
  rintro r w' ⟨ov,ks,O,S',n',R',rfl,hks,mk,hO,c',v',on,o1⟩;obtain⟨A2,b2,b3,rfl⟩:=own_lit o1;obtain⟨m1,m2⟩:=mk_at mk (hks.up.imp fun {a b} q e=>by omega)
  have lags:∀ x:Int,0≤x→x<c8.r→Cm.Lag (Gk c8.r) x c8.z (T (k+1)).mt ((fun x=>if p j x=none then S x else S' x) x) (T (k+1)).R:=fun x x0 x1=>by
   show Cm.Lag _ x _ _ (if p j x=none then S x else S' x) _
   by_cases e:p j x=none
   ·rw[if_pos e];exact co.lag x x0 x1
   ·rw[if_neg e]
    obtain⟨a,ha⟩:=Option.ne_none_iff_exists'.1 e;obtain⟨Ok,u1,u2⟩:=m1 x ((hks.mem x).2 e);rw[co.wm] at u1 u2;exact (co.lag x x0 x1).marked u1 u2 ((V.out.grp x a (V.out.own j x a ha)).2.2.fine N8)
  have co':Co c8 q (T (k+1)) (k+1) none (s.took j []) p (fun x=>if p j x=none then S x else S' x) N:=⟨co.wm,co.sd,co.sb,co.tab,co.has,lags,co.nor,co.few,co.wf⟩
  refine⟨⟨2,0,c0z,0,none⟩,r0,A2,b2,b3,none,s.took j [],p,_,_,n',R',rfl,rfl,c',v',on,rfl,rfl,rfl,rfl,Sl.Own.nil _ _ _,fun w2 R2 c2 rd2=>?_⟩
  refine (did_mark (n:=0) (hid c2) (hid rfl) (hid (by show s.g.due=_;rw[g];rfl)) (by omega)).mono ?_
  rintro e w3 ⟨rfl,R3,c3,o3⟩
  exact⟨rfl,_,R3,c3,o3,by
   have t:Top c8 E q T W k (1+(j+1)) true true {(s.took j []) with g:={(s.took j []).g with due:=((0:Nat):Int)}} p (fun x=>if p j x=none then S x else S' x) N:=
    .adv (j:=j+1) hy ho (by show {s.g with due:=((0:Nat):Int)}=_;rw[g];rfl) (by omega) hd (co'.same rfl rfl rfl rfl) w cl
   rw[show 2+j=1+(j+1) by omega]
   exact t,rs.same rfl,emp2⟩
 |@give _ _ _ _ y gi hw _ o hy ho g hd f x l po co w cl=>
  have gl:0≤(gi:Int)∧(gi:Int)<16:=⟨by omega,by have:=x.2.2.1;omega⟩
  obtain⟨a,ha⟩:∃ a,q gi=some a:=Option.ne_none_iff_exists'.1 ((co.has gi).2 ⟨by omega,x.2.2.1⟩)
  refine (wstep_give (mark:=s.wm) (sh:=s.sd) C V fx.hc h1 h2 l (by simp) gl).mono ?_
  rintro r w' ⟨R',rfl,c',v',on⟩;have pg:p j gi=some a:=po.trans ha
  have pn:∀ i,(fun i=>if i=j then Sh.updOf (p j) gi none else p i) i gi=none:=fun i=>by
   show (if i=j then Sh.updOf (p j) gi none else p i) gi=none
   by_cases e:i=j
   ·rw[if_pos e];unfold Sh.updOf;rw[if_pos rfl]
   ·rw[if_neg e]
    cases e2:p i gi with
    |none=>rfl
    |some b=>exact absurd (V.out.one i j gi (by rw[e2];simp) (by rw[pg];simp)) e
  have co':Co c8 q (T (k+1)) (k+1) (some gi) (s.took j []) (fun i=>if i=j then Sh.updOf (p j) gi none else p i) S N:=⟨co.wm,co.sd,co.sb,fun x hx=>by
   obtain⟨o',u1,u2,u3,u4,u5,u6⟩:=co.tab x hx;refine⟨o',u1,u2,u3,u4,u5,fun ne=>⟨(u6 ne).1,?_⟩⟩
   have e:¬((x:Int)=gi):=fun e=>ne (by rw[show x=gi by omega])
   show (if o'.s.toNat=j then Sh.updOf (p j) gi none else p o'.s.toNat) x=q x
   rw[←(u6 ne).2];by_cases e2:o'.s.toNat=j
   ·rw[if_pos e2,e2];unfold Sh.updOf;rw[if_neg e]
   ·rw[if_neg e2],co.has,co.lag,co.nor,co.few,co.wf⟩
  refine⟨⟨3,0,c0z,gi,none⟩,r0,none,0,0,p j gi,s.took j [],_,S,N,nn,R',rfl,rfl,c',v',on,rfl,rfl,rfl,rfl,Sl.Own.nil _ _ _,fun w2 R2 c2 rd2=>?_⟩
  have hg:(s.took j []).hg=gi:=f.1;refine (Calls.mono (by have h:=did_give (hh:=hw) (ms:=none) (ds:=p j gi) (hid c2) (hid (by show s.g.hand=_;rw[g])) (hid f.2.2.2.1) (hid f.2.2.2.2.1);rw[hg] at h;exact h) ?_)
  rintro e w3 ⟨rfl,R3,c3,o3⟩;exact⟨rfl,_,R3,c3,o3,.mv1 (gi:=gi) (hh:=hw) (o:=o) hy ho g hd ⟨rfl,f.2.1,f.2.2.1,rfl,rfl,po⟩ x pn (co'.same rfl rfl rfl rfl) w cl,rs.same rfl,emp2⟩
 |@had _ _ _ _ y gi hw _ a o hy ho g hd f x l qa pn co w cl=>
  have gl:0≤(gi:Int)∧(gi:Int)<16:=⟨by omega,by have:=x.2.2.1;omega⟩
  refine (wstep_have (mark:=s.wm) (sh:=s.sd) C V fx.hc h1 h2 l (by simp) gl qa pn).mono ?_
  rintro r w' ⟨R',rfl,c',v',on⟩;refine⟨⟨4,0,c0z,gi,some a⟩,r0,none,0,0,none,s.took j [],_,S,N,nn,R',rfl,rfl,c',v',on,rfl,rfl,rfl,rfl,Sl.Own.nil _ _ _,fun w2 R2 c2 rd2=>?_⟩
  obtain⟨o',u1,u2,u3,u4,u5,u6⟩:=co.tab gi x.2.2.1;rw[x.1] at u1;cases u1
  refine (did_have (hh:=hw) (i:=gi) (o:=o) (ms:=some a) (ds:=none) (hid c2) (hid (by show s.g.hand=_;rw[g])) (hid f.2.2.2.1) (hid f.2.2.2.2.1) (hid f.1) (hid x.1) (hid ⟨x.2.1,by show 0≤s.ht;rw[f.2.1];omega,by show s.ht<E.cf.h;rw[fx.hc];exact f.2.2.1,u4,by have:=x.2.2.2;omega⟩)).mono ?_
  rintro e w3 ⟨rfl,R3,c3,o3⟩;have xl:gi<s.M.length:=(List.getElem?_eq_some_iff.1 x.1).1
  refine⟨rfl,_,R3,c3,o3,.mv2 (hh:=hw) hy ho g hd rfl ⟨co.wm,co.sd,co.sb,fun i hi=>?_,co.has,co.lag,co.nor,co.few,co.wf⟩ w,rs.same rfl,emp2⟩
  show ∃ o,(s.M.set gi ⟨s.ht,_,false⟩)[i]?=some o∧_
  by_cases e:i=gi
  ·subst e
   refine⟨_,List.getElem?_set_self xl,by show 0≤s.ht;rw[f.2.1];omega,f.2.2.1,by show 0≤o.v+1;omega,by show o.v+1≤_;have:=x.2.2.2;omega,fun _=>⟨rfl,?_⟩⟩
   show (if s.ht.toNat=j then Sh.updOf (p j) i (some a) else p s.ht.toNat) i=q i
   rw[if_pos (by rw[f.2.1];simp)]
   unfold Sh.updOf;rw[if_pos rfl,qa]
  ·obtain⟨oo,a1,a2,a3,a4,a5,a6⟩:=co.tab i hi
   have ne:(some gi)≠some i:=fun q=>e (Option.some.inj q).symm
   refine⟨oo,(List.getElem?_set_ne (fun q=>e q.symm)).trans a1,a2,a3,a4,a5,fun _=>⟨(a6 ne).1,?_⟩⟩
   have e3:¬((i:Int)=gi):=fun q=>e (by omega)
   show (if oo.s.toNat=j then Sh.updOf (p j) gi (some a) else p oo.s.toNat) i=q i
   rw[←(a6 ne).2];by_cases e2:oo.s.toNat=j
   ·rw[if_pos e2,e2];unfold Sh.updOf;rw[if_neg e3]
   ·rw[if_neg e2]
end
end Cn
end Go.Proofs.YtfjlnniahfbdfaaGreat
