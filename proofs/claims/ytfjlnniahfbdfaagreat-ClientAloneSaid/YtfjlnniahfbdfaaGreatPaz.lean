/- A part of the proof. -/
import Derived.Test.YtfjlnniahfbdfaaGreatPav
import Derived.Test.YtfjlnniahfbdfaaGreatPay
import Derived.Test.YtfjlnniahfbdfaaGreatPaf
set_option linter.unusedVariables false
set_option maxHeartbeats 4000000
namespace Go.Proofs.YtfjlnniahfbdfaaGreat
open Lib (hid)
open Go.ChangeShapes Go.WideShapes Go.ChangeAt Go.RowKit
set_option maxRecDepth 100000
namespace Rm
open Small Foot Pane Grp Ca Rg Md
theorem filter_len(q:Pn→Bool)(L:List Pn)(i:Nat):((L.take i).filter q).length≤i:=by
 have:=List.length_filter_le q (L.take i)
 rw[List.length_take] at this
 omega
theorem filter_next(q:Pn→Bool)(L:List Pn)(i:Nat)(p:Pn)(h:L[i]?=some p):(L.take (i+1)).filter q=(L.take i).filter q++(if q p=true then [p] else []):=by
 rw[List.take_add_one,h,List.filter_append,Option.toList_some,List.filter_cons,List.filter_nil]
def NoR(late mark:Int)(R:List Pn):Prop:=∀ q,q∈R→¬q.e+late≤mark
def RAsked(cf:C8)(R:List Pn)(mark:Int)(x:Cl)(z:Option (Nat×Int×Int×Int))(code:Int)(P O R':List Pn):Prop:=
 (puts x.op∧P=[]∧∃ R1,ROuts cf.z mark R O R1∧NoR cf.z mark R1∧RTaken cf.k x.key x.v cf.z mark z R1 code R')∨
 (¬puts x.op∧code=0∧ROuts cf.z mark R O R'∧NoR cf.z mark R'∧∃ Q,Q.Perm (ofKey x.key R')∧Rises Q∧P=if x.op=4 then only x.t x.e Q else Q)
def Asked(w:World)(g:Nat)(F:Nat→Prop)(cf:C8)(R:List Pn)(x:Cl)(mark:Int)(z:Option (Nat×Int×Int×Int))(r:Ending)(w':World):Prop:=
 ∃ rv ov code P O R' F',r=.returned (.tuple #[rep code rv,ov])∧RAsked cf R mark x z code P O R'∧Rr.Is w' g F' cf R'∧Moves F F' w w'∧Sl.Own Pn.k w.heap.size w' rv P∧Sl.Own Pn.k w.heap.size w' ov O∧O.length≤R.length∧∀ a,rv.ownBlock=some a→¬F' a
theorem own_apart{base:Nat}{w:World}{v:Value}{L:List Pn}{F:Nat→Prop}(o:Sl.Own Pn.k base w v L)(h:∀ a,F a→a<base):∀ a,v.ownBlock=some a→¬F a:=fun a ha hq=>by have:=(o.lt a ha).1;have:=h a hq;omega
theorem asked_end{w w2 w3:World}{g:Nat}{F F':Nat→Prop}{cf:C8}{R':List Pn}(K0:Below w.heap.size w w2)(sz:w2.heap.size=w.heap.size+1+1)(nF:¬F (w.heap.size+1))(hw:In w F)(V3:Moves F F' w2 w3)(G3:Rr.Is w3 g F' cf R')
  (y:Lies w3 (w.heap.size+1) 43 [.int .i64 0,.slice none 0 0]) (u v:Value):
  ((w3.setCell ⟨w.heap.size+1,0,none⟩ u).setCell ⟨w.heap.size+1,1,none⟩ v).cell? ⟨w.heap.size+1,0,none⟩=some u∧((w3.setCell ⟨w.heap.size+1,0,none⟩ u).setCell ⟨w.heap.size+1,1,none⟩ v).cell? ⟨w.heap.size+1,1,none⟩=some v∧
  Rr.Is ((w3.setCell ⟨w.heap.size+1,0,none⟩ u).setCell ⟨w.heap.size+1,1,none⟩ v) g F' cf R'∧Moves F F' w ((w3.setCell ⟨w.heap.size+1,0,none⟩ u).setCell ⟨w.heap.size+1,1,none⟩ v)∧
  ∀ (p:Value) (L:List Pn),Sl.Own Pn.k w2.heap.size w3 p L→Sl.Own Pn.k w.heap.size ((w3.setCell ⟨w.heap.size+1,0,none⟩ u).setCell ⟨w.heap.size+1,1,none⟩ v) p L:=by
 have Z:=(y.put 0 u).put 1 v
 have k:=put_two (w:=w3) (gy:=w.heap.size+1) (a:=u) (b:=v) u v
 have nF':¬F' (w.heap.size+1):=fun q=>by
  rcases (V3.new _ q).1 with r|r
  ·exact nF r
  ·omega
 have V:=(Moves.of_below K0 hw).trans V3
 exact⟨Z.cell (i:=0) rfl,Z.cell (i:=1) rfl,G3.grown k nF',moves_grown V k (fun b e=>by have:=Option.some.inj e;omega),fun p L o=>Gr.own_base (Gr.own_grown o k (by omega)) (by omega)⟩
theorem ask_ok{g:Nat}{cf:C8}{R:List Pn}{F:Nat→Prop}(x:Cl)(mark:Int)(z:Option (Nat×Int×Int×Int))(w:World)(H:Hid (Rr.Is w g F cf R))(hN:R.length≤8880)(M:Hid (Asg.may cf.k cf.s cf.l cf.g cf.z cf.h cf.r cf.c))(B:Hid (cf.s≤9223372036854775807∧cf.l≤9223372036854775807∧cf.g≤9223372036854775807∧cf.z≤9223372036854775807))
  (ft:Hid ((Lit.int .i64 x.t).wf=true)) (fk:Hid ((Lit.int .i64 mark).wf=true)) (fe:Hid (∀ p∈R,(Lit.int .i64 p.e).wf=true)) (D:Hid ((ofKey x.key R).Pairwise fun p q=>¬Eq2 p q.s q.e)) (ho1:1≤x.op) (T:Hid (Asg.Told cf.k cf.s cf.l cf.g cf.z x.t z)):
  Calls Tryz.prog 47 #[gp g,x.val,.int .i64 mark] w (Asked w g F cf R x mark z):=by
 have fz:Hid ((Lit.int .i64 cf.z).wf=true):=hid (wf_of (by have:=M.out.2.1;omega) B.out.2.2.2)
 obtain⟨op,key,t,v,e,u,s⟩:=x
 dsimp only at *
 have hw:=H.out.in
 have X0:=hid ((Lies.new w 46 [.int .i64 op,.string key,.int .i64 t,.int .i64 v,.int .i64 e,.int .i64 u,.int .i64 s]).next (below1 _ (Obj.cells #[.int .i64 0,.slice none 0 0] 43)))
 have y00:=Lies.new (w.alloc (Obj.cells #[.int .i64 op,.string key,.int .i64 t,.int .i64 v,.int .i64 e,.int .i64 u,.int .i64 s] 46)) 43 [.int .i64 0,.slice none 0 0]
 simp only[World.size_alloc] at y00
 have Y0:=hid y00
 clear y00
 have k00:=below2 w (Obj.cells #[.int .i64 op,.string key,.int .i64 t,.int .i64 v,.int .i64 e,.int .i64 u,.int .i64 s] 46) (Obj.cells #[.int .i64 0,.slice none 0 0] 43)
 have G0:=hid (H.out.next k00)
 have K0:=hid k00
 clear k00
 have s00:((w.alloc (Obj.cells #[.int .i64 op,.string key,.int .i64 t,.int .i64 v,.int .i64 e,.int .i64 u,.int .i64 s] 46)).alloc (Obj.cells #[.int .i64 0,.slice none 0 0] 43)).heap.size=w.heap.size+1+1:=by simp
 have sz:=hid s00
 clear s00
 go_enter Tryz.func47,Tryz.ntmps47
 go_upto_region 1 with fail
 generalize ((w.alloc (Obj.cells #[.int .i64 op,.string key,.int .i64 t,.int .i64 v,.int .i64 e,.int .i64 u,.int .i64 s] 46)).alloc (Obj.cells #[.int .i64 0,.slice none 0 0] 43))=w2 at X0 Y0 K0 G0 sz ⊢
 have nF:Hid (¬F (w.heap.size+1)):=hid fun q=>by have:=hw _ q;omega
 have nX:Hid (¬F w.heap.size):=hid fun q=>by have:=hw _ q;omega
 by_cases hp:puts op
 ·have r3:op<3:=by simp[puts] at hp;omega
  have HP:=hid hp;clear hp;have x1:=X0.out.cell (i:=1) rfl;have x2:=X0.out.cell (i:=2) rfl;have x3:=X0.out.cell (i:=3) rfl;have x0:=X0.out.cell (i:=0) rfl;go_wp2_with fail
  refine (Rr.take_ok key t v mark z w2 G0 (by omega) M B ft fk fe T).mono ?_
  rintro r w3 ⟨sv,O,R1,code,R',F',rfl,ho,hno,htk,hlen,G3,V3,o3⟩;have hno:NoR cf.z mark R1:=fun q hq=>by have:=hno q hq;omega
  have Y3:=V3.lies nF.out Y0.out;have y0:=Y3.cell (i:=0) rfl;have y1:=Y3.cell (i:=1) rfl;have f0:=Y3.open_ 0;have f1:=Y3.open_ 1;have HH:=hid (And.intro ho (And.intro hno (And.intro htk (And.intro hlen (And.intro G3 (And.intro V3 o3))))));clear ho hno htk hlen G3 V3 o3 x0 x1 x2 x3 r3;go_wp2;obtain⟨ho,hno,htk,hlen,G3,V3,o3⟩:=HH.out;obtain⟨q0,q1,q2,q3,q4⟩:=asked_end K0.out sz.out nF.out hw V3 G3 Y3 (.int .i64 code) (.slice none 0 0)
  exact bodyPost_ret (v:=.tuple #[rep code (.slice none 0 0),sv]) (by simp[results,Tryz.results47,go_sem,q0,q1]) rfl
   ⟨_,_,code,[],O,R',F',rfl,.inl ⟨HP.out,rfl,R1,ho,hno,htk⟩,q2,q3,Sl.Own.nil _ _ _,q4 _ _ o3,by omega,fun a h=>by cases h⟩
 ·have r3:¬op<3:=by simp[puts] at hp;omega
  have HP:=hid hp;clear hp;have x0:=X0.out.cell (i:=0) rfl;go_wp2_with fail
  refine (Rr.settle_ok mark w2 G0 (by omega) fz fk fe).mono ?_
  rintro r w3 ⟨sv,O,R',F',rfl,ho,hno,hlen,g3,v3,o3⟩;have hno:NoR cf.z mark R':=fun q hq=>by have:=hno q hq;omega
  have G3:=hid g3;have V3:=hid v3;have D3:=hid (Rr.routs_apart ho D.out);have O3:=hid (And.intro ho (And.intro hno (And.intro hlen o3)));have Y3:=hid (v3.lies nF.out Y0.out);have X3:=hid (v3.lies nX.out X0.out);have hR':R'.length≤8880:=by omega
  clear x0 ho hno hlen g3 v3 o3;have x1:=X3.out.cell (i:=1) rfl;go_wp2_with fail
  refine (Rr.panesR_ok key w3 G3 (by omega) D3).mono ?_
  rintro r w4 ⟨lv,Q,rfl,hperm,hup,o4,k4⟩;have s3:=hid V3.out.size;have G4:=hid (G3.out.next k4);have V4:=hid (V3.out.trans (Moves.of_below k4 G3.out.in));have Y4:=hid (Y3.out.next k4);have X4:=hid (X3.out.next k4);have P4:=hid (Gr.own_base o4 s3.out);have AP4:=hid (own_apart o4 G3.out.in);have O4:Hid (Sl.Own Pn.k w2.heap.size w4 sv O):=hid (O3.out.2.2.2.next k4);have HQ:=hid (And.intro hperm hup)
  have hQn:Q.length≤8880:=by
   have h1:=hperm.length_eq;have h2:=List.length_filter_le (fun p:Pn=>decide (p.key=key)) R'
   simp only[ofKey] at h1;omega
  clear x1 o4 k4 Y3 X3 hperm hup;have x0:=X4.out.cell (i:=0) rfl;obtain⟨b4,-,i4⟩:=P4.out.is;obtain⟨Av,cv,rfl⟩:=i4.len;have I4:=hid i4;clear i4;by_cases h4:op=4
  ·have r4:(op != 4)=false:=by simp[h4]
   have H4:=hid h4;clear h4;go_wp2_with fail
   go_loopw [12,13] (fun so si wr=>∃ i:Nat,i≤Q.length∧si=.int .i64 i∧Hid (Sl.Own Pn.k w4.heap.size wr so (only t e (Q.take i)))∧Hid (Below w4.heap.size w4 wr)) (fun _ si _=>Q.length-(intOf si).toNat)
   case atStart=>exact⟨0,by omega,rfl,hid (Sl.Own.nil _ _ _),hid (Below.refl _ _)⟩
   case round=>
    obtain⟨i,hi,rfl,OM,K⟩:=hrel;by_cases hlt:i<Q.length
    ·obtain⟨off,cap',he,h2,h3,h4,hcell⟩:=I4.out.some_ Pn.ok (by omega)
     obtain⟨rfl,rfl⟩:Av=some ⟨b4,off,none⟩∧cv=cap':=by simpa using he
     obtain⟨p,hp⟩:=at_some hlt;obtain⟨c0,c1,c2,c3,c4,c5,c6⟩:=Tmr.pane_cells hp hcell;have HPp:=hid hp;have c0:=cell_keep K.out c0;have c1:=cell_keep K.out c1;have c2:=cell_keep K.out c2;have c3:=cell_keep K.out c3;have c4:=cell_keep K.out c4;have c5:=cell_keep K.out c5;have c6:=cell_keep K.out c6;have Xr:=X4.out.next K.out;have x2:=Xr.cell (i:=2) rfl;have x4:=Xr.cell (i:=4) rfl;have i0:(i:Int)<Q.length:=by omega
     have hsz:=hid K.out.size;have ht:Hid ((only t e (Q.take i)).length≤i):=hid (filter_len _ _ _);clear hcell he h2 h3 h4 hp Xr;by_cases hs:p.s=t
     ·have e1:(p.s == t)=true:=by simpa using hs
      by_cases hE:p.e=e
      ·subst hs hE
       have e2:(p.e == p.e)=true:=by simp
       have e3:(p.s == p.s)=true:=by simp
       go_wp2_with fail
       go_quiet (fail)
       have B6:=drewN_below wr nq;have K6:=hid (after K.out B6);have OM6:=hid (OM.out.next B6);have hsz6:=hid K6.out.size;have c0:=cell_keep B6 c0;have c1:=cell_keep B6 c1;have c2:=cell_keep B6 c2;have c3:=cell_keep B6 c3;have c4:=cell_keep B6 c4;have c5:=cell_keep B6 c5;have c6:=cell_keep B6 c6;clear x2 x4 B6 K OM;generalize wr.drewN nq=w6 at K6 OM6 c0 c1 c2 c3 c4 c5 c6 hsz6 ⊢;go_wp2_with (at_builtin;refine wpList_plain rfl fun K' hK'=>Sl.wp_append (K:=Pn.k) Pn.ok (.tmp 71) (.tmp 76) rfl (base:=w4.heap.size) (l:=only p.s p.e (Q.take i)) (l2:=[p]) (by exact OM6.out.next (below1 _ _)) (by exact Sl.Is.one Pn.ok (x:=p) (Lies.new _ _ _)) (by have:=ht.out;simp only[List.length_singleton];omega) (by have:=hsz6.out;simp;omega) (fun v' w7 x1 x2 x3=>hK' _ _ ?_))
       have O7:=hid x1;have K7:Hid (Below w4.heap.size w4 w7):=hid ((after K6.out (below1 _ _)).grown x2 (by have:=hsz6.out;simp;omega) (fun a ha=>(OM6.out.lt a ha).1))
       clear x1 x2 x3;go_wp2_with fail
       exact⟨⟨i+1,by omega,by go_num,hid (by rw[only,filter_next _ _ _ _ HPp.out,if_pos (by simp)];exact O7.out),K7⟩,by simp[intOf];omega⟩
      ·have e2:(p.e == e)=false:=by simpa using hE
       have HNE:Hid (¬(p.s=t∧p.e=e)):=hid fun q=>hE q.2
       clear hE;go_wp2_with fail
       go_quiet (fail)
       have B6:=drewN_below wr nq;have K6:=hid (after K.out B6);have OM6:=hid (OM.out.next B6);have hsz6:=hid K6.out.size;clear c0 c1 c2 c3 c4 c5 c6 x2 x4 B6 K OM;generalize wr.drewN nq=w6 at K6 OM6 ⊢;go_wp2_with fail
       exact⟨⟨i+1,by omega,by go_num,hid (by rw[only,filter_next _ _ _ _ HPp.out,if_neg (by simpa using HNE.out),List.append_nil];exact OM6.out),K6⟩,by simp[intOf];omega⟩
     ·have e1:(p.s == t)=false:=by simpa using hs
      have HNE:Hid (¬(p.s=t∧p.e=e)):=hid fun q=>hs q.1
      clear hs;go_wp2_with fail
      go_quiet (fail)
      have B6:=drewN_below wr nq;have K6:=hid (after K.out B6);have OM6:=hid (OM.out.next B6);have hsz6:=hid K6.out.size;clear c0 c1 c2 c3 c4 c5 c6 x2 x4 B6 K OM;generalize wr.drewN nq=w6 at K6 OM6 ⊢;go_wp2_with fail
      exact⟨⟨i+1,by omega,by go_num,hid (by rw[only,filter_next _ _ _ _ HPp.out,if_neg (by simpa using HNE.out),List.append_nil];exact OM6.out),K6⟩,by simp[intOf];omega⟩
    ·obtain rfl:i=Q.length:=by omega
     have OM2:=OM.out;rw[List.take_length] at OM2;have OM2:=hid OM2;have Yr:=hid (Y4.out.next K.out);have Gx:=hid (G4.out.next K.out);have Vr:=hid (V4.out.trans (Moves.of_below K.out G4.out.in));have s4:=hid V4.out.size;have Pr:=hid (Gr.own_base OM2.out s4.out);have APr:=hid (own_apart OM2.out G4.out.in);have Or:=hid (O4.out.next K.out);have y0:=Yr.out.cell (i:=0) rfl;have y1:=Yr.out.cell (i:=1) rfl;have f0:=Yr.out.open_ 0;have f1:=Yr.out.open_ 1;clear OM OM2 K;obtain⟨Am,nm,cm,rfl⟩:=lit Pr.out;go_wp2;obtain⟨q0,q1,q2,q3,q4⟩:=asked_end K0.out sz.out nF.out hw Vr.out Gx.out Yr.out (.int .i64 0) (.slice Am nm cm);obtain⟨ho,hno,hlen,-⟩:=O3.out
     exact bodyPost_ret (v:=.tuple #[rep 0 (.slice Am nm cm),sv]) (by simp[results,Tryz.results47,go_sem,q0,q1]) rfl
      ⟨_,_,0,only t e Q,O,R',F',rfl,.inr ⟨HP.out,rfl,ho,hno,Q,HQ.out.1,HQ.out.2,by simp[H4.out]⟩,q2,q3,q4 _ _ Pr.out,q4 _ _ Or.out,by omega,APr.out⟩
  ·have r4:(op != 4)=true:=by simp[h4]
   have y0:=Y4.out.cell (i:=0) rfl;have y1:=Y4.out.cell (i:=1) rfl;have f0:=Y4.out.open_ 0;have f1:=Y4.out.open_ 1;go_wp2;obtain⟨q0,q1,q2,q3,q4⟩:=asked_end K0.out sz.out nF.out hw V4.out G4.out Y4.out (.int .i64 0) (.slice Av Q.length cv);obtain⟨ho,hno,hlen,-⟩:=O3.out
   exact bodyPost_ret (v:=.tuple #[rep 0 (.slice Av Q.length cv),sv]) (by simp[results,Tryz.results47,go_sem,q0,q1]) rfl
    ⟨_,_,0,Q,O,R',F',rfl,.inr ⟨HP.out,rfl,ho,hno,Q,HQ.out.1,HQ.out.2,by simp[h4]⟩,q2,q3,q4 _ _ P4.out,q4 _ _ O4.out,by omega,AP4.out⟩
end Rm
open Rel
namespace Out
open Small
theorem wp_append_lit{w:World}{o:Oper}{a:Act}{Kc:Act→World→Prop}{Q:Exit→Act→World→Prop}{l l2:List Pn}{base:Nat}(s x:Operand)(hop:o.op=Op.call {callee:=Callee.builtin Builtin.append,args:=#[s,x],argTypes:=#[Pn.k.t,Pn.k.t]})
  (h:Sl.Own Pn.k base w (a.eval s) l) (hx:Rd w (a.eval x) l2) (hn:l.length+l2.length≤1048576) (hb:base≤w.heap.size)
  (hK:∀ A n c w',Sl.Own Pn.k base w' (.slice A n c) (l++l2)→w.grownBy w' (a.eval s).ownBlock→((Value.slice A n c).ownBlock=(a.eval s).ownBlock∨(Value.slice A n c).ownBlock=some w.heap.size)→Kc (a.put o.dst (.slice A n c)) w'):o.wp Tryz.prog a w Kc Q:=by
 obtain⟨v',w',hr,q1,q2,q3⟩:=run_append_rd o.type h hx hn hb
 obtain⟨A,c,rfl⟩:∃ A c,v'=.slice A (l++l2).length c:=by obtain⟨b,_,h⟩:=q1.is;exact h.len
 unfold Oper.wp
 simp[execOp,hop,resolve,invoke,builtin,hr,Result.andThen]
 have:=hK A _ c w' q1 q2 q3
 rw[List.length_append] at this
 exact this
end Out
namespace Rm
open Small Foot Pane Grp Ca Rg Md
abbrev rmcl(gr:Nat)(ov:Value)(mark:Int)(cl:Bool):List Value:=[.pointer (some ⟨gr,0,none⟩),ov,.int .i64 mark,.bool cl]
structure Rq(w:World)(rm gr:Nat)(Fr:Nat→Prop)(ov:Value)(cf:C8)(R:List Pn)(mark:Int)(L:List Pn)(cl:Bool):Prop where
 lies:Lies w rm 68 (rmcl gr ov mark cl)
 grp:Rr.Is w gr Fr cf R
 own:Sl.Own Pn.k (rm+1) w ov L
 rm_g:¬Fr rm
 ov_g:∀ a,ov.ownBlock=some a→¬Fr a
def RF(rm:Nat)(Fr:Nat→Prop)(ov:Value):Nat→Prop:=fun k=>k=rm∨Fr k∨ov.ownBlock=some k
def Is(w:World)(rm:Nat)(F:Nat→Prop)(cf:C8)(R:List Pn)(mark:Int)(L:List Pn)(cl:Bool):Prop:=∃ gr Fr ov,Rq w rm gr Fr ov cf R mark L cl∧∀ k,F k↔RF rm Fr ov k
section
variable {w w':World} {rm gr:Nat} {Fr F:Nat→Prop} {ov:Value} {cf:C8} {R:List Pn} {mark:Int} {L:List Pn} {cl:Bool}
theorem Rq.keep(h:Rq w rm gr Fr ov cf R mark L cl)(k:∀ i,RF rm Fr ov i→w'.heap[i]?=w.heap[i]?)(s:w.heap.size≤w'.heap.size):Rq w' rm gr Fr ov cf R mark L cl:=
 ⟨(k rm (.inl rfl)).trans h.lies,h.grp.keep (fun i hi=>k i (.inr (.inl hi))) s,h.own.move fun a ha=>k a (.inr (.inr ha)),h.rm_g,h.ov_g⟩
theorem Rq.in(h:Rq w rm gr Fr ov cf R mark L cl):In w (RF rm Fr ov):=fun k hk=>by
 rcases hk with rfl|hk|hk
 ·exact h.lies.lt
 ·exact h.grp.in k hk
 ·exact (h.own.lt k hk).2
theorem Rq.next(h:Rq w rm gr Fr ov cf R mark L cl)(k:Below w.heap.size w w'):Rq w' rm gr Fr ov cf R mark L cl:=h.keep (fun i hi=>k.block i (h.in i hi)) k.size
theorem Is.in(h:Is w rm F cf R mark L cl):In w F:=by
 obtain⟨gr,Fr,ov,q,hF⟩:=h
 exact fun k hk=>q.in k ((hF k).1 hk)
theorem Is.keep(h:Is w rm F cf R mark L cl)(k:∀ i,F i→w'.heap[i]?=w.heap[i]?)(s:w.heap.size≤w'.heap.size):Is w' rm F cf R mark L cl:=by
 obtain⟨gr,Fr,ov,q,hF⟩:=h
 exact⟨gr,Fr,ov,q.keep (fun i hi=>k i ((hF i).2 hi)) s,hF⟩
theorem Is.next(h:Is w rm F cf R mark L cl)(k:Below w.heap.size w w'):Is w' rm F cf R mark L cl:=h.keep (fun i hi=>k.block i (h.in i hi)) k.size
theorem Is.grown{b:Nat}(h:Is w rm F cf R mark L cl)(k:w.grownBy w' (some b))(hb:¬F b):Is w' rm F cf R mark L cl:=h.keep (fun i hi=>k.block i (h.in i hi) fun e=>hb (Option.some.inj e▸hi)) k.size
theorem went{Fr':Nat→Prop}{ov':Value}{R':List Pn}{mark':Int}{L':List Pn}{cl':Bool}(h:Rq w rm gr Fr ov cf R mark L cl)(k:Out.Wr (RF rm Fr ov) w w')(l:Lies w' rm 68 (rmcl gr ov' mark' cl'))
  (G:Rr.Is w' gr Fr' cf R') (hG:∀ i,Fr' i→Fr i∨w.heap.size≤i) (O:Sl.Own Pn.k (rm+1) w' ov' L') (hO:∀ i,ov'.ownBlock=some i→(ov.ownBlock=some i∨w.heap.size≤i)∧¬Fr' i):
  Rq w' rm gr Fr' ov' cf R' mark' L' cl'∧Moves (RF rm Fr ov) (RF rm Fr' ov') w w':=by
 have hm:=h.lies.lt
 refine⟨⟨l,G,O,fun q=>?_,fun a ha=>(hO a ha).2⟩,k.os,k.tape,k.output,k.size,k.block,fun i hi=>?_⟩
 ·rcases hG _ q with r|r
  ·exact h.rm_g r
  ·omega
 ·rcases hi with rfl|hi|hi
  ·exact⟨.inl (.inl rfl),l.lt⟩
  ·exact⟨(hG i hi).elim (fun r=>.inl (.inr (.inl r))) .inr,G.in i hi⟩
  ·exact⟨(hO i hi).1.elim (fun r=>.inl (.inr (.inr r))) .inr,(O.lt i hi).2⟩
theorem out_end{w5 w6:World}{rm gr B:Nat}{Fr Fr':Nat→Prop}{ov ov':Value}{cf:C8}{R':List Pn}(hG:∀ i,Fr' i→Fr i∨B≤i)(G5:Rr.Is w5 gr Fr' cf R')(hv:∀ a,ov.ownBlock=some a→a<B)(hB:B≤w5.heap.size)
  (n2:∀ a,ov.ownBlock=some a→¬Fr a) (k6:w5.grownBy w6 ov.ownBlock) (e6:ov'.ownBlock=ov.ownBlock∨ov'.ownBlock=some w5.heap.size):
  Rr.Is w6 gr Fr' cf R'∧∀ i,ov'.ownBlock=some i→(ov.ownBlock=some i∨B≤i)∧¬Fr' i:=by
 have no:∀ i,Fr' i→ov.ownBlock≠some i:=fun i hi q=>by
  have:=hv _ q;rcases hG _ hi with r|r
  ·exact n2 _ q r
  ·omega
 refine⟨G5.keep (fun i hi=>k6.block i (G5.in i hi) (fun e=>no i hi e.symm)) k6.size,fun i hi=>?_⟩
 rcases e6 with e|e
 ·rw[e] at hi
  exact⟨.inl hi,fun q=>no i q hi⟩
 ·rw[e] at hi
  have:=Option.some.inj hi;exact⟨.inr (by omega),fun q=>by have:=G5.in _ q;omega⟩
end
def KP(w5 W:World)(b g:Nat)(Fg Fg':Nat→Prop)(cf:C8)(R':List Pn)(code:Int)(rv ov:Value)(P O:List Pn):Prop:=
 W.cell? ⟨b,0,none⟩=some (.int .i64 code)∧W.cell? ⟨b,1,none⟩=some rv∧Rr.Is W g Fg' cf R'∧Sl.Own Pn.k w5.heap.size W rv P∧Sl.Own Pn.k w5.heap.size W ov O∧Out.Wr Fg w5 W∧(∀ i,Fg' i→Fg i∨w5.heap.size≤i)∧w5.heap.size≤b
section
variable {w5 w9:World} {g:Nat} {Fg Fg':Nat→Prop} {cf:C8} {R':List Pn} {code:Int} {rv ov:Value} {P O:List Pn}
theorem pack1(V9:Moves Fg Fg' (w5.drew.alloc (Obj.cells #[.int .i64 0,.slice none 0 0] 43)) w9)(hF:In w5 Fg)(G9:Rr.Is w9 g Fg' cf R')
  (o9:Sl.Own Pn.k (w5.drew.alloc (Obj.cells #[.int .i64 0,.slice none 0 0] 43)).heap.size w9 rv P) (oo9:Sl.Own Pn.k (w5.drew.alloc (Obj.cells #[.int .i64 0,.slice none 0 0] 43)).heap.size w9 ov O):
  KP w5 ((w9.setCell ⟨w5.heap.size,0,none⟩ (.int .i64 code)).setCell ⟨w5.heap.size,1,none⟩ rv) w5.heap.size g Fg Fg' cf R' code rv ov P O:=by
 have sz:(w5.drew.alloc (Obj.cells #[.int .i64 0,.slice none 0 0] 43)).heap.size=w5.heap.size+1:=by
  have:w5.drew.heap.size=w5.heap.size:=rfl;simp[this]
 have l:Lies w9 w5.heap.size 43 [.int .i64 0,.slice none 0 0]:=V9.lies (fun q=>by have:=hF _ q;omega) (Lies.new w5.drew 43 [.int .i64 0,.slice none 0 0])
 have Z:=(l.put 0 (.int .i64 code)).put 1 rv
 have k:=put_two (w:=w9) (gy:=w5.heap.size) (a:=rv) (b:=rv) (.int .i64 code) rv
 have nF':¬Fg' w5.heap.size:=fun q=>by
  rcases (V9.new _ q).1 with r|r
  ·have:=hF _ r;omega
  ·omega
 have kb:Below w5.heap.size w5 (w5.drew.alloc (Obj.cells #[.int .i64 0,.slice none 0 0] 43)):=after (Below.refl _ _).drew (below1 _ _)
 refine⟨Z.cell (i:=0) rfl,Z.cell (i:=1) rfl,G9.grown k nF',Gr.own_base (Gr.own_grown o9 k (by omega)) (by omega),Gr.own_base (Gr.own_grown oo9 k (by omega)) (by omega),?_,fun i hi=>((V9.new i hi).1).imp id fun r=>by omega,Nat.le_refl _⟩
 exact Out.Wr.set (Out.Wr.set ((Out.Wr.of_below kb).trans (Out.Wr.of_moves V9)) _ (Nat.le_refl _)) _ (Nat.le_refl _)
theorem pack2(V9:Moves Fg Fg' w5.drew w9)(hF:In w5 Fg)(G9:Rr.Is w9 g Fg' cf R')(o9:Sl.Own Pn.k w5.drew.heap.size w9 rv P)(oo9:Sl.Own Pn.k w5.drew.heap.size w9 ov O):
  KP w5 (w9.alloc (Obj.cells #[.int .i64 code,rv] 43)) w9.heap.size g Fg Fg' cf R' code rv ov P O:=by
 have k:=below1 w9 (Obj.cells #[.int .i64 code,rv] 43)
 have l:=Lies.new w9 43 [.int .i64 code,rv]
 exact⟨l.cell (i:=0) rfl,l.cell (i:=1) rfl,G9.next k,o9.next k,oo9.next k,(Out.Wr.drew.trans (Out.Wr.of_moves V9)).trans (Out.Wr.of_below k),fun i hi=>(V9.new i hi).1,V9.size⟩
end
theorem new_ok(cf:C8)(w:World):
  Calls Tryz.prog 11 #[cf.v] w fun r w'=>∃ rm F,r=.returned (gp rm)∧Is w' rm F cf [] (-9223372036854775808) [] false∧From w.heap.size F∧Below w.heap.size w w':=by
 go_enter Tryz.func11,Tryz.ntmps11
 go_wp2
 go_ret
 have L1:=Lies.new (w.alloc (Obj.cells #[.int .i64 cf.k,.int .i64 cf.s,.int .i64 cf.l,.int .i64 cf.g,.int .i64 cf.z,.int .i64 cf.h,.int .i64 cf.r,.int .i64 cf.c] 23)) 88 (rcl cf (.slice none 0 0))
 have K:=below3 w (Obj.cells #[.int .i64 cf.k,.int .i64 cf.s,.int .i64 cf.l,.int .i64 cf.g,.int .i64 cf.z,.int .i64 cf.h,.int .i64 cf.r,.int .i64 cf.c] 23) (Obj.cells (rcl cf (.slice none 0 0)).toArray 88) (Obj.cells (rmcl (w.heap.size+1) (.slice none 0 0) (-9223372036854775808) false).toArray 68)
 have L2:=Lies.new ((w.alloc (Obj.cells #[.int .i64 cf.k,.int .i64 cf.s,.int .i64 cf.l,.int .i64 cf.g,.int .i64 cf.z,.int .i64 cf.h,.int .i64 cf.r,.int .i64 cf.c] 23)).alloc (Obj.cells (rcl cf (.slice none 0 0)).toArray 88)) 68 (rmcl (w.heap.size+1) (.slice none 0 0) (-9223372036854775808) false)
 have L1':=L1.next (below1 _ (Obj.cells (rmcl (w.heap.size+1) (.slice none 0 0) (-9223372036854775808) false).toArray 68))
 simp only[World.size_alloc] at L1 L2 L1'
 refine⟨w.heap.size+1+1,RF (w.heap.size+1+1) (fun k=>k=w.heap.size+1) (.slice none 0 0),rfl,⟨w.heap.size+1,fun k=>k=w.heap.size+1,.slice none 0 0,⟨L2,⟨_,w.heap.size+1,⟨L1',Sl.Is.nil _ _ _,fun q=>absurd rfl q⟩,L1'.lt,fun k=>by simp⟩,Sl.Own.nil _ _ _,by omega,fun a ha=>by cases ha⟩,fun _=>Iff.rfl⟩,fun k hk=>?_,K⟩
 rcases hk with rfl|rfl|hk
 ·omega
 ·omega
 ·cases hk
def SetTo(B:Nat)(Fr:Nat→Prop)(gr:Nat)(cf:C8)(R:List Pn)(t:Int)(u:Value)(w:World):Prop:=
 ∃ O R' F',ROuts cf.z t R O R'∧NoR cf.z t R'∧O.length+R'.length=R.length∧Rr.Is w gr F' cf R'∧(∀ i,F' i→Fr i∨B≤i)∧Sl.Own Pn.k B w u O
def AppTo(B rm:Nat)(Fr:Nat→Prop)(ov:Value)(gr:Nat)(cf:C8)(R:List Pn)(L:List Pn)(t:Int)(u:Value)(w:World):Prop:=
 ∃ A n c O R' F',u=.slice A n c∧ROuts cf.z t R O R'∧NoR cf.z t R'∧Rr.Is w gr F' cf R'∧(∀ i,F' i→Fr i∨B≤i)∧Sl.Own Pn.k (rm+1) w u (L++O)∧∀ i,u.ownBlock=some i→(ov.ownBlock=some i∨B≤i)∧¬F' i
theorem AppTo.next{B rm gr:Nat}{Fr:Nat→Prop}{ov:Value}{cf:C8}{R L:List Pn}{t:Int}{u:Value}{w w':World}(h:AppTo B rm Fr ov gr cf R L t u w)(k:Below w.heap.size w w'):AppTo B rm Fr ov gr cf R L t u w':=by
 obtain⟨A,n,c,O,R',F',h1,h2,h3,h4,h5,h6,h7⟩:=h
 exact⟨A,n,c,O,R',F',h1,h2,h3,h4.next k,h5,h6.next k,h7⟩
def Ov(ov:Value):Nat→Prop:=fun i=>ov.ownBlock=some i
def Dv(Fr:Nat→Prop)(ov:Value):Nat→Prop:=fun i=>Fr i∨Ov ov i
def Sx(Fr:Nat→Prop)(ov:Value)(j:Nat)(a b:World):Prop:=if j=13 then Out.Wr Fr a b else if j=14 then Out.Wr (Ov ov) a b else Below a.heap.size a b
section
variable {Fr:Nat→Prop} {ov:Value} {j k:Nat} {a b:World}
theorem Sx.of(h:j≠13∧j≠14)(k:Below a.heap.size a b):Sx Fr ov j a b:=by unfold Sx;rw[if_neg h.1,if_neg h.2];exact k
theorem Sx.call(k:Out.Wr Fr a b):Sx Fr ov 13 a b:=by unfold Sx;rw[if_pos rfl];exact k
theorem Sx.app(k:Out.Wr (Ov ov) a b):Sx Fr ov 14 a b:=by unfold Sx;rw[if_neg (by decide),if_pos rfl];exact k
theorem Sx.below(h:j≠13)(h':j≠14)(k:Sx Fr ov j a b):Below a.heap.size a b:=by unfold Sx at k;rwa [if_neg h,if_neg h'] at k
theorem Sx.no13(h:j≠13)(k:Sx Fr ov j a b):Out.Wr (Ov ov) a b:=by
 by_cases h':j=14
 ·subst h';unfold Sx at k;rwa [if_neg (by decide),if_pos rfl] at k
 ·exact Out.Wr.of_below (k.below h h')
theorem Sx.no14(h:j≠14)(k:Sx Fr ov j a b):Out.Wr Fr a b:=by
 by_cases h':j=13
 ·subst h';unfold Sx at k;rwa [if_pos rfl] at k
 ·exact Out.Wr.of_below (k.below h' h)
theorem Sx.wr(k:Sx Fr ov j a b):Out.Wr (Dv Fr ov) a b:=by
 by_cases h:j=13
 ·exact (k.no14 (by omega)).more fun i hi=>.inl hi
 ·exact (k.no13 h).more fun i hi=>.inr hi
end
def Tx(Fr:Nat→Prop)(ov:Value)(k:Nat)(a b:World):Prop:=if k=13 then Out.Wr (Ov ov) a b else if k=14 then Out.Wr Fr a b else Out.Wr (Dv Fr ov) a b
theorem wr_goes(Fr:Nat→Prop):Goes fun a b=>Out.Wr Fr a b:=⟨fun w=>Out.Wr.of_below (Below.refl _ _),fun h k=>h.trans k,fun w=>Out.Wr.drew⟩
theorem Tx.goes(Fr:Nat→Prop)(ov:Value)(k:Nat):Goes (Tx Fr ov k):=by
 unfold Tx
 by_cases h:k=13
 ·simp only[h,if_true];exact wr_goes _
 ·by_cases h':k=14
  ·subst h';simp only[if_true,if_neg (show ¬(14:Nat)=13 by decide)];exact wr_goes _
  ·simp only[h,h',if_false];exact wr_goes _
theorem Tx.of{Fr:Nat→Prop}{ov:Value}{k j:Nat}{a b:World}(h:j≠k)(s:Sx Fr ov j a b):Tx Fr ov k a b:=by
 unfold Tx
 by_cases q:k=13
 ·rw[if_pos q];exact s.no13 (fun e=>h (e.trans q.symm))
 ·by_cases q':k=14
  ·rw[if_neg q,if_pos q'];exact s.no14 (fun e=>h (e.trans q'.symm))
  ·rw[if_neg q,if_neg q'];exact s.wr
def My(B rm gr:Nat)(Fr:Nat→Prop)(ov:Value)(cf:C8)(R L:List Pn)(t:Int)(i:Nat)(u:Value)(w:World):Prop:=match i with
 |0=>u=gp rm
 |1=>u=gp rm
 |2=>u=gp rm
 |3=>u=.pointer (some ⟨rm,1,none⟩)
 |4=>u=ov
 |5=>u=gp rm
 |6=>u=gp rm
 |7=>u=.pointer (some ⟨rm,0,none⟩)
 |8=>u=gp gr
 |9=>u=gp rm
 |10=>u=gp rm
 |11=>u=.pointer (some ⟨rm,2,none⟩)
 |12=>u=.int .i64 t
 |13=>SetTo B Fr gr cf R t u w
 |14=>AppTo B rm Fr ov gr cf R L t u w
 |_=>True
inductive RDid(cf:C8)(R:List Pn)(mark:Int)(L:List Pn)(cl:Bool)(x:Cl)(z:Option (Nat×Int×Int×Int)):Int→List Pn→List Pn→Int→List Pn→Bool→Prop
 |bad (h:¬mayC (cfOf cf) x):RDid cf R mark L cl x z 6 [] R mark L cl
 |closed (h:mayC (cfOf cf) x) (hc:cl=true):RDid cf R mark L cl x z 3 [] R mark L cl
 |stale (h:mayC (cfOf cf) x) (hc:cl=false) (ho:x.op=3) (ht:x.t≤mark):RDid cf R mark L cl x z 5 [] R mark L cl
 |ask (h:mayC (cfOf cf) x) (hc:cl=false) (hk:kd x.op=true) {code:Int} {P O R':List Pn} (a:RAsked cf R mark x z code P O R'):RDid cf R mark L cl x z code P R' mark (L++O) cl
 |up (h:mayC (cfOf cf) x) (hc:cl=false) (ho:x.op=3) (ht:mark<x.t) {O R':List Pn} (o:ROuts cf.z x.t R O R') (no:NoR cf.z x.t R'):RDid cf R mark L cl x z 0 [] R' x.t (L++O) cl
 |still (h:mayC (cfOf cf) x) (hc:cl=false) (ho:x.op=6):RDid cf R mark L cl x z 0 [] R mark L cl
 |shut (h:mayC (cfOf cf) x) (hc:cl=false) (ho:x.op=7):RDid cf R mark L cl x z 0 [] R mark L true
def Did(w:World)(rm:Nat)(F:Nat→Prop)(cf:C8)(R:List Pn)(mark:Int)(L:List Pn)(cl:Bool)(x:Cl)(z:Option (Nat×Int×Int×Int))(r:Ending)(w':World):Prop:=
 ∃ rv code P R' mark' L' cl' F',r=.returned (rep code rv)∧RDid cf R mark L cl x z code P R' mark' L' cl'∧Is w' rm F' cf R' mark' L' cl'∧Moves F F' w w'∧Sl.Own Pn.k w.heap.size w' rv P∧∀ a,rv.ownBlock=some a→¬F' a
theorem do_end{w w2 w3:World}{rm:Nat}{F F':Nat→Prop}{cf:C8}{R':List Pn}{mark':Int}{L':List Pn}{cl':Bool}{a b:Value}(K0:Below w.heap.size w w2)(sz:w2.heap.size=w.heap.size+1+1)(hw:In w F)(V3:Moves F F' w2 w3)(H:Is w3 rm F' cf R' mark' L' cl')
  (y:Lies w3 (w.heap.size+1) 43 [a,b]) (u v:Value):
  ((w3.setCell ⟨w.heap.size+1,0,none⟩ u).setCell ⟨w.heap.size+1,1,none⟩ v).cell? ⟨w.heap.size+1,0,none⟩=some u∧((w3.setCell ⟨w.heap.size+1,0,none⟩ u).setCell ⟨w.heap.size+1,1,none⟩ v).cell? ⟨w.heap.size+1,1,none⟩=some v∧
  Is ((w3.setCell ⟨w.heap.size+1,0,none⟩ u).setCell ⟨w.heap.size+1,1,none⟩ v) rm F' cf R' mark' L' cl'∧Moves F F' w ((w3.setCell ⟨w.heap.size+1,0,none⟩ u).setCell ⟨w.heap.size+1,1,none⟩ v)∧
  ∀ (p:Value) (L:List Pn),Sl.Own Pn.k w2.heap.size w3 p L→Sl.Own Pn.k w.heap.size ((w3.setCell ⟨w.heap.size+1,0,none⟩ u).setCell ⟨w.heap.size+1,1,none⟩ v) p L:=by
 have Z:=(y.put 0 u).put 1 v
 have k:=put_two (w:=w3) (gy:=w.heap.size+1) (a:=u) (b:=v) u v
 have nF':¬F' (w.heap.size+1):=fun q=>by
  rcases (V3.new _ q).1 with r|r
  ·have:=hw _ r;omega
  ·omega
 have V:=(Moves.of_below K0 hw).trans V3
 exact⟨Z.cell (i:=0) rfl,Z.cell (i:=1) rfl,H.grown k nF',moves_grown V k (fun b e=>by have:=Option.some.inj e;omega),fun p L o=>Gr.own_base (Gr.own_grown o k (by omega)) (by omega)⟩
theorem do_ok{rm:Nat}{F:Nat→Prop}{cf:C8}{R:List Pn}{mark:Int}{L:List Pn}{cl:Bool}(x:Cl)(z:Option (Nat×Int×Int×Int))(w:World)(H:Hid (Is w rm F cf R mark L cl))(hN:R.length≤8880)(hL:L.length≤8880)(M:Hid (Asg.may cf.k cf.s cf.l cf.g cf.z cf.h cf.r cf.c))(hc:Hid (cfOf cf).Fit)(hx:Hid x.Fit)
  (fk:Hid ((Lit.int .i64 mark).wf=true)) (fe:Hid (∀ p∈R,(Lit.int .i64 p.e).wf=true)) (D:Hid ((ofKey x.key R).Pairwise fun p q=>¬Eq2 p q.s q.e)) (T:Hid (Asg.Told cf.k cf.s cf.l cf.g cf.z x.t z)):
  Calls Tryz.prog 12 #[gp rm,x.val] w (Did w rm F cf R mark L cl x z):=by
 have fz:Hid ((Lit.int .i64 cf.z).wf=true):=hid hc.out.2.2.2.2.1
 have B:Hid (cf.s≤9223372036854775807∧cf.l≤9223372036854775807∧cf.g≤9223372036854775807∧cf.z≤9223372036854775807):=hid ⟨(fit hc.out.2.1).2,(fit hc.out.2.2.1).2,(fit hc.out.2.2.2.1).2,(fit hc.out.2.2.2.2.1).2⟩
 obtain⟨m,hm⟩:∃ m:Bool,m=true↔mayC (cfOf cf) x:=by classical exact⟨decide (mayC (cfOf cf) x),by simp⟩
 have M1:=hid fun w=>Ca.rmay_ok (cfOf cf) x w m (hid hm) hc.out hx.out
 have HM:=hid hm
 obtain⟨gr,Fr,ov,q,hF⟩:=H.out
 obtain rfl:F=RF rm Fr ov:=funext fun k=>propext (hF k)
 have Q:=hid q
 have ft:Hid ((Lit.int .i64 x.t).wf=true):=hid hx.out.2.2.1
 clear hF hm H q
 have hw:=hid Q.out.in
 obtain⟨op,key,t,v,e,u,s⟩:=x
 dsimp only at *
 have X0:=hid ((Lies.new w 46 [.int .i64 op,.string key,.int .i64 t,.int .i64 v,.int .i64 e,.int .i64 u,.int .i64 s]).next (below1 _ (Obj.cells #[.int .i64 0,.slice none 0 0] 43)))
 have y00:=Lies.new (w.alloc (Obj.cells #[.int .i64 op,.string key,.int .i64 t,.int .i64 v,.int .i64 e,.int .i64 u,.int .i64 s] 46)) 43 [.int .i64 0,.slice none 0 0]
 simp only[World.size_alloc] at y00
 have Y0:=hid y00
 clear y00
 have k00:=below2 w (Obj.cells #[.int .i64 op,.string key,.int .i64 t,.int .i64 v,.int .i64 e,.int .i64 u,.int .i64 s] 46) (Obj.cells #[.int .i64 0,.slice none 0 0] 43)
 have Q0:=hid (Q.out.next k00)
 have K0:=hid k00
 clear k00
 have s00:((w.alloc (Obj.cells #[.int .i64 op,.string key,.int .i64 t,.int .i64 v,.int .i64 e,.int .i64 u,.int .i64 s] 46)).alloc (Obj.cells #[.int .i64 0,.slice none 0 0] 43)).heap.size=w.heap.size+1+1:=by simp
 have sz:=hid s00
 clear s00
 go_enter Tryz.func12,Tryz.ntmps12
 go_upto_region 1 with fail
 generalize ((w.alloc (Obj.cells #[.int .i64 op,.string key,.int .i64 t,.int .i64 v,.int .i64 e,.int .i64 u,.int .i64 s] 46)).alloc (Obj.cells #[.int .i64 0,.slice none 0 0] 43))=w2 at X0 Y0 K0 Q0 sz ⊢
 obtain⟨lvr,br,Rg0,-⟩:=Q0.out.grp
 have c8:=Later.cell (Q0.out.lies.cell (i:=0) rfl)
 have c0:=Later.cell (Rg0.lies.cell (i:=0) rfl)
 have c1:=Later.cell (Rg0.lies.cell (i:=1) rfl)
 have c2:=Later.cell (Rg0.lies.cell (i:=2) rfl)
 have c3:=Later.cell (Rg0.lies.cell (i:=3) rfl)
 have c4:=Later.cell (Rg0.lies.cell (i:=4) rfl)
 have c5:=Later.cell (Rg0.lies.cell (i:=5) rfl)
 have c6:=Later.cell (Rg0.lies.cell (i:=6) rfl)
 have c7:=Later.cell (Rg0.lies.cell (i:=7) rfl)
 have d0:=Later.cell (X0.out.cell (i:=0) rfl)
 have d1:=Later.cell (X0.out.cell (i:=1) rfl)
 have d2:=Later.cell (X0.out.cell (i:=2) rfl)
 have d3:=Later.cell (X0.out.cell (i:=3) rfl)
 have d4:=Later.cell (X0.out.cell (i:=4) rfl)
 have d5:=Later.cell (X0.out.cell (i:=5) rfl)
 have d6:=Later.cell (X0.out.cell (i:=6) rfl)
 clear Rg0
 refine wp_region_later (by kernel_rfl) (by kernel_rfl) ?_
 repeat (go_big_quiet_step (first
  |(go_at_call 45;with_reducible exact Later.call _ (M1.out _))))
 refine wpQuiet_nil ?_
 rintro _ ⟨u3,rfl⟩
 have B3:=u3.below
 have X3:=hid (X0.out.next B3)
 have Y3:=hid (Y0.out.next B3)
 have Q3:=hid (Q0.out.next B3)
 have K3:=hid (B3)
 clear c0 c1 c2 c3 c4 c5 c6 c7 c8 d0 d1 d2 d3 d4 d5 d6 B3 X0 Y0
 generalize u3.w=w3 at X3 Y3 Q3 K3 ⊢
 cases m with
 |false=>
  have NM:¬mayC (cfOf cf) ⟨op,key,t,v,e,u,s⟩:=by have:=HM.out;simpa using this
  have y0:=Y3.out.cell (i:=0) rfl;have y1:=Y3.out.cell (i:=1) rfl;have f0:=Y3.out.open_ 0;have f1:=Y3.out.open_ 1;go_wp2;obtain⟨q0,q1,q2,q3,q4⟩:=do_end K0.out sz.out hw.out (Moves.of_below K3.out Q0.out.in) (⟨gr,Fr,ov,Q3.out,fun _=>Iff.rfl⟩:Is _ rm (RF rm Fr ov) cf R mark L cl) Y3.out (.int .i64 6) (.slice none 0 0)
  exact bodyPost_ret (v:=rep 6 (.slice none 0 0)) (by simp[results,Tryz.results12,go_sem,q0,q1]) rfl
   ⟨_,6,[],_,_,_,_,_,rfl,.bad NM,q2,q3,Sl.Own.nil _ _ _,fun a h=>by cases h⟩
 |true=>
  have MC:Hid (mayC (cfOf cf) ⟨op,key,t,v,e,u,s⟩):=hid (HM.out.1 rfl);have m3:=Q3.out.lies.cell (i:=3) rfl;cases cl with
  |true=>
   have y0:=Y3.out.cell (i:=0) rfl;have y1:=Y3.out.cell (i:=1) rfl;have f0:=Y3.out.open_ 0;have f1:=Y3.out.open_ 1;go_wp2;obtain⟨q0,q1,q2,q3,q4⟩:=do_end K0.out sz.out hw.out (Moves.of_below K3.out Q0.out.in) (⟨gr,Fr,ov,Q3.out,fun _=>Iff.rfl⟩:Is _ rm (RF rm Fr ov) cf R mark L true) Y3.out (.int .i64 3) (.slice none 0 0)
   exact bodyPost_ret (v:=rep 3 (.slice none 0 0)) (by simp[results,Tryz.results12,go_sem,q0,q1]) rfl
    ⟨_,3,[],_,_,_,_,_,rfl,.closed MC.out rfl,q2,q3,Sl.Own.nil _ _ _,fun a h=>by cases h⟩
  |false=>
   have x0:=X3.out.cell (i:=0) rfl;have x2:=X3.out.cell (i:=2) rfl;have m2:=Q3.out.lies.cell (i:=2) rfl;by_cases h3:op=3
   ·subst h3
    by_cases ht:t≤mark
    ·have dt:decide (t≤mark)=true:=decide_eq_true ht
     have HT:=hid ht;clear ht;go_wp2_with fail
     go_quiet (fail)
     have B4:=drewN_below w3 nq;have X4:=hid (X3.out.next B4);have Y4:=hid (Y3.out.next B4);have Q4:=hid (Q3.out.next B4);have K4:=hid (after K3.out B4);clear B4 x0 x2 m2 m3 X3 Y3 Q3 K3;generalize w3.drewN nq=w4 at X4 Y4 Q4 K4 ⊢;have y0:=Y4.out.cell (i:=0) rfl;have y1:=Y4.out.cell (i:=1) rfl;have f0:=Y4.out.open_ 0;have f1:=Y4.out.open_ 1;go_wp2;obtain⟨q0,q1,q2,q3,q4⟩:=do_end K0.out sz.out hw.out (Moves.of_below K4.out Q0.out.in) (⟨gr,Fr,ov,Q4.out,fun _=>Iff.rfl⟩:Is _ rm (RF rm Fr ov) cf R mark L false) Y4.out (.int .i64 5) (.slice none 0 0)
     exact bodyPost_ret (v:=rep 5 (.slice none 0 0)) (by simp[results,Tryz.results12,go_sem,q0,q1]) rfl
      ⟨_,5,[],_,_,_,_,_,rfl,.stale MC.out rfl rfl HT.out,q2,q3,Sl.Own.nil _ _ _,fun a h=>by cases h⟩
    ·have dt:decide (t≤mark)=false:=decide_eq_false ht
     have HT:Hid (mark<t):=hid (by omega)
     clear ht;go_wp2_with fail
     go_quiet (fail)
     have B4:=drewN_below w3 nq;have X4:=hid (X3.out.next B4);have Y4:=hid (Y3.out.next B4);have Q4:=hid (Q3.out.next B4);have K4:=hid (after K3.out B4);clear B4 x0 x2 m2 m3 X3 Y3 Q3 K3;generalize w3.drewN nq=w4 at X4 Y4 Q4 K4 ⊢;have x0:=X4.out.cell (i:=0) rfl;have x2:=X4.out.cell (i:=2) rfl;have m2:=Q4.out.lies.cell (i:=2) rfl;have fm2:=Q4.out.lies.open_ 2;go_upto_region 10 with fail
     have k5:w4.grownBy (w4.setCell ⟨rm,2,none⟩ (.int .i64 t)) (some rm):=⟨rfl,rfl,rfl,by simp,fun i hi hn=>Below.heap_setCell _ _ _ _ fun e=>hn (by rw[e])⟩
     have hrw:=hw.out rm (.inl rfl);have Y5:Hid (Lies (w4.setCell ⟨rm,2,none⟩ (.int .i64 t)) (w.heap.size+1) 43 [.int .i64 0,.slice none 0 0]):=hid ((k5.block (w.heap.size+1) Y4.out.lt fun e=>by have:=Option.some.inj e;omega).trans Y4.out)
     have L5:=hid (Q4.out.lies.put 2 (.int .i64 t));have G5:=hid (Q4.out.grp.grown k5 Q4.out.rm_g);have O5:=hid (Gr.own_grown Q4.out.own k5 (by omega))
     have KW5:Hid (Out.Wr (RF rm Fr ov) w2 (w4.setCell ⟨rm,2,none⟩ (.int .i64 t))):=hid ((Out.Wr.of_below K4.out).trans ⟨k5.os,k5.tape,k5.output,k5.size,fun i hi hn=>k5.block i hi fun e=>hn (.inl (Option.some.inj e))⟩)
     have nrm:Hid (¬Dv Fr ov rm):=hid fun q=>by
      rcases q with q|q
      ·exact Q4.out.rm_g q
      ·have:=(Q4.out.own.lt rm q).1;omega
     have novg:Hid (∀ a,ov.ownBlock=some a→¬Fr a):=hid Q4.out.ov_g;have ngy:Hid (¬Fr (w.heap.size+1)):=hid fun q=>by have:=hw.out _ (.inr (.inl q));omega
     clear k5 x0 x2 m2 fm2 X4 Y4;generalize w4.setCell ⟨rm,2,none⟩ (.int .i64 t)=w5 at Y5 L5 G5 O5 KW5 ⊢;have L5:Hid (Lies w5 rm 68 (rmcl gr ov t false)):=L5
     have SET:Hid (∀ w',Out.Wr (Ov ov) w5 w'→Calls Tryz.prog 46 #[gp gr,.int .i64 t] w' fun r w2=>∃ v,r=.returned v∧SetTo w5.heap.size Fr gr cf R t v w2∧Out.Wr Fr w' w2):=hid fun w' k=>(Rr.settle_ok t w' (hid (G5.out.keep (fun i hi=>k.block i (G5.out.in i hi) fun e=>novg.out i e hi) k.size)) (by omega) fz ft fe).mono (by
      rintro r w2 ⟨sv,O,R',F',rfl,ho,hno,hlen,g3,v3,o3⟩;exact⟨sv,rfl,⟨O,R',F',ho,hno,hlen,g3,fun i hi=>((v3.new i hi).1).imp id fun q=>Nat.le_trans k.size q,Gr.own_base o3 k.size⟩,Out.Wr.of_moves v3⟩)
     refine wp_region_each (R:=fun a b=>Out.Wr (Dv Fr ov) a b) (wr_goes _) (S:=Sx Fr ov) (T:=Tx Fr ov) (fun k=>Tx.goes Fr ov k) (fun j a b h=>h.wr) (fun k j a b h q=>Tx.of h q) 15 92 (My w5.heap.size rm gr Fr ov cf R L t) (by show _=_;kernel_rfl) (by show _=_;kernel_rfl) (by show _=_;kernel_rfl) ?_ ?_ ?_
     ·intro i j uu a b hji hnd h hS
      match i,h with
      |0,h=>exact h
      |1,h=>exact h
      |2,h=>exact h
      |3,h=>exact h
      |4,h=>exact h
      |5,h=>exact h
      |6,h=>exact h
      |7,h=>exact h
      |8,h=>exact h
      |9,h=>exact h
      |10,h=>exact h
      |11,h=>exact h
      |12,h=>exact h
      |13,h=>
       have k:=Sx.no13 hji hS;obtain⟨O,R',F',h1,h2,h3,h4,h5,h6⟩:=h
       exact⟨O,R',F',h1,h2,h3,h4.keep (fun i hi=>k.block i (h4.in i hi) fun e=>by
        rcases h5 i hi with r|r
        ·exact novg.out i e r
        ·have:=(O5.out.lt i e).2;omega) k.size,h5,h6.move fun a' ha=>k.block a' (h6.lt a' ha).2 fun e=>by have:=(h6.lt a' ha).1;have:=(O5.out.lt a' e).2;omega⟩
      |14,h=>exact AppTo.next h (hS.below (fun q=>hnd (by subst q;exact mem_of (by show _=_;kernel_rfl))) hji)
      |i+15,h=>exact trivial
     ·intro i hi o ho a' w' Kc hd hout hdep hB hK
      match i,hi,ho with
      |0,_,ho=>exact Sl.wp_move _ (Reg.Has.op (p:=Op.move (.tmp 0)) (t:=41) (by show _=_;kernel_rfl) ho).1 (hK _ _ (hout 0 (Reg.Free.out (by show _=_;kernel_rfl))) (Sx.of (by decide) (Below.refl _ _)))
      |1,_,ho=>exact Sl.wp_move _ (Reg.Has.op (p:=Op.move (.tmp 0)) (t:=42) (by show _=_;kernel_rfl) ho).1 (hK _ _ (hout 0 (Reg.Free.out (by show _=_;kernel_rfl))) (Sx.of (by decide) (Below.refl _ _)))
      |2,_,ho=>
       refine wp_val (V:=gp rm) (w':=w') ?_ (hK _ _ rfl (Sx.of (by decide) (Below.refl _ _)))
       have hop:=(Reg.Has.op (p:=Op.nilCheck (.tmp 42)) (t:=43) (by show _=_;kernel_rfl) ho).1
       have h6:a'.eval (.tmp 42)=gp rm:=(hdep 1 (mem_of (by show _=_;kernel_rfl)) 42 (by show _=_;kernel_rfl))
       generalize a'.eval=ev at h6;simp[execOp,hop,h6,go_sem]
      |3,_,ho=>
       refine wp_val (V:=.pointer (some ⟨rm,1,none⟩)) (w':=w') ?_ (hK _ _ rfl (Sx.of (by decide) (Below.refl _ _)))
       have hop:=(Reg.Has.op (p:=Op.fieldAddr 68 (.tmp 43) 1) (t:=44) (by show _=_;kernel_rfl) ho).1
       have h6:a'.eval (.tmp 43)=gp rm:=(hdep 2 (mem_of (by show _=_;kernel_rfl)) 43 (by show _=_;kernel_rfl))
       generalize a'.eval=ev at h6;simp[execOp,hop,h6,go_sem]
      |4,_,ho=>
       refine wp_val (V:=ov) (w':=w') ?_ (hK _ _ rfl (Sx.of (by decide) (Below.refl _ _)))
       have hop:=(Reg.Has.op (p:=Op.load 41 (.tmp 44)) (t:=45) (by show _=_;kernel_rfl) ho).1
       have h6:a'.eval (.tmp 44)=.pointer (some ⟨rm,1,none⟩):=(hdep 3 (mem_of (by show _=_;kernel_rfl)) 44 (by show _=_;kernel_rfl))
       have k0:=(Out.Wr.lies (show Out.Wr (Dv Fr ov) w5 w' from hB) nrm.out L5.out).cell (i:=1) rfl
       generalize a'.eval=ev at h6;simp[execOp,hop,h6,go_sem,k0]
      |5,_,ho=>exact Sl.wp_move _ (Reg.Has.op (p:=Op.move (.tmp 0)) (t:=46) (by show _=_;kernel_rfl) ho).1 (hK _ _ (hout 0 (Reg.Free.out (by show _=_;kernel_rfl))) (Sx.of (by decide) (Below.refl _ _)))
      |6,_,ho=>
       refine wp_val (V:=gp rm) (w':=w') ?_ (hK _ _ rfl (Sx.of (by decide) (Below.refl _ _)))
       have hop:=(Reg.Has.op (p:=Op.nilCheck (.tmp 46)) (t:=47) (by show _=_;kernel_rfl) ho).1
       have h6:a'.eval (.tmp 46)=gp rm:=(hdep 5 (mem_of (by show _=_;kernel_rfl)) 46 (by show _=_;kernel_rfl))
       generalize a'.eval=ev at h6;simp[execOp,hop,h6,go_sem]
      |7,_,ho=>
       refine wp_val (V:=.pointer (some ⟨rm,0,none⟩)) (w':=w') ?_ (hK _ _ rfl (Sx.of (by decide) (Below.refl _ _)))
       have hop:=(Reg.Has.op (p:=Op.fieldAddr 68 (.tmp 47) 0) (t:=48) (by show _=_;kernel_rfl) ho).1
       have h6:a'.eval (.tmp 47)=gp rm:=(hdep 6 (mem_of (by show _=_;kernel_rfl)) 47 (by show _=_;kernel_rfl))
       generalize a'.eval=ev at h6;simp[execOp,hop,h6,go_sem]
      |8,_,ho=>
       refine wp_val (V:=gp gr) (w':=w') ?_ (hK _ _ rfl (Sx.of (by decide) (Below.refl _ _)))
       have hop:=(Reg.Has.op (p:=Op.load 66 (.tmp 48)) (t:=49) (by show _=_;kernel_rfl) ho).1
       have h6:a'.eval (.tmp 48)=.pointer (some ⟨rm,0,none⟩):=(hdep 7 (mem_of (by show _=_;kernel_rfl)) 48 (by show _=_;kernel_rfl))
       have k0:=(Out.Wr.lies (show Out.Wr (Dv Fr ov) w5 w' from hB) nrm.out L5.out).cell (i:=0) rfl
       generalize a'.eval=ev at h6;simp[execOp,hop,h6,go_sem,k0]
      |9,_,ho=>exact Sl.wp_move _ (Reg.Has.op (p:=Op.move (.tmp 0)) (t:=50) (by show _=_;kernel_rfl) ho).1 (hK _ _ (hout 0 (Reg.Free.out (by show _=_;kernel_rfl))) (Sx.of (by decide) (Below.refl _ _)))
      |10,_,ho=>
       refine wp_val (V:=gp rm) (w':=w') ?_ (hK _ _ rfl (Sx.of (by decide) (Below.refl _ _)))
       have hop:=(Reg.Has.op (p:=Op.nilCheck (.tmp 50)) (t:=51) (by show _=_;kernel_rfl) ho).1
       have h6:a'.eval (.tmp 50)=gp rm:=(hdep 9 (mem_of (by show _=_;kernel_rfl)) 50 (by show _=_;kernel_rfl))
       generalize a'.eval=ev at h6;simp[execOp,hop,h6,go_sem]
      |11,_,ho=>
       refine wp_val (V:=.pointer (some ⟨rm,2,none⟩)) (w':=w') ?_ (hK _ _ rfl (Sx.of (by decide) (Below.refl _ _)))
       have hop:=(Reg.Has.op (p:=Op.fieldAddr 68 (.tmp 51) 2) (t:=52) (by show _=_;kernel_rfl) ho).1
       have h6:a'.eval (.tmp 51)=gp rm:=(hdep 10 (mem_of (by show _=_;kernel_rfl)) 51 (by show _=_;kernel_rfl))
       generalize a'.eval=ev at h6;simp[execOp,hop,h6,go_sem]
      |12,_,ho=>
       refine wp_val (V:=.int .i64 t) (w':=w') ?_ (hK _ _ rfl (Sx.of (by decide) (Below.refl _ _)))
       have hop:=(Reg.Has.op (p:=Op.load 2 (.tmp 52)) (t:=53) (by show _=_;kernel_rfl) ho).1
       have h6:a'.eval (.tmp 52)=.pointer (some ⟨rm,2,none⟩):=(hdep 11 (mem_of (by show _=_;kernel_rfl)) 52 (by show _=_;kernel_rfl))
       have k0:=(Out.Wr.lies (show Out.Wr (Dv Fr ov) w5 w' from hB) nrm.out L5.out).cell (i:=2) rfl
       generalize a'.eval=ev at h6;simp[execOp,hop,h6,go_sem,k0]
      |13,_,ho=>
       refine wp_call (S:=fun u w2=>SetTo w5.heap.size Fr gr cf R t u w2∧Out.Wr Fr w' w2) (Reg.Has.op (p:=Op.call {callee:=Callee.value (.func 46),args:=#[.tmp 49,.tmp 53],argTypes:=#[66,2]}) (t:=54) (by show _=_;kernel_rfl) ho).1 #[gp gr,.int .i64 t] (by simp[show a'.eval (.tmp 49)=_ from (hdep 8 (mem_of (by show _=_;kernel_rfl)) 49 (by show _=_;kernel_rfl)),show a'.eval (.tmp 53)=_ from (hdep 12 (mem_of (by show _=_;kernel_rfl)) 53 (by show _=_;kernel_rfl))]) (fun _ _=>enters Tryz.func46 (by kernel_rfl) rfl _ _) ((SET.out w' hB).mono (fun _ _ ⟨v',h1,h2,h3⟩=>⟨v',h1,h2,h3⟩)) ?_
       rintro u w2 ⟨h1,h2⟩;exact hK _ _ h1 (Sx.call h2)
      |14,_,ho=>
       have h45:a'.eval (.tmp 45)=ov:=(hdep 4 (mem_of (by show _=_;kernel_rfl)) 45 (by show _=_;kernel_rfl))
       have h54:SetTo w5.heap.size Fr gr cf R t (a'.eval (.tmp 54)) w':=(hdep 13 (mem_of (by show _=_;kernel_rfl)) 54 (by show _=_;kernel_rfl))
       have hB:Out.Wr Fr w5 w':=hB;obtain⟨O,R',F',hro,hno,hlen,g6,hF',o6⟩:=h54;have OV6:Sl.Own Pn.k (rm+1) w' ov L:=O5.out.move fun a ha=>hB.block a (O5.out.lt a ha).2 (novg.out a ha)
       refine Out.wp_append_lit (.tmp 45) (.tmp 54) (Reg.Has.op (p:=Op.call {callee:=Callee.builtin Builtin.append,args:=#[.tmp 45,.tmp 54],argTypes:=#[41,41]}) (t:=55) (by show _=_;kernel_rfl) ho).1 (base:=rm+1) (l:=L) (l2:=O) (by rw[h45];exact OV6) (Out.Rd.own o6) (by omega) (by have:=hB.size;have:=L5.out.lt;omega) (fun A n c w7 y1 y2 y3=>?_)
       rw[h45] at y2 y3;obtain⟨g7,q7⟩:=out_end (rm:=rm) (B:=w5.heap.size) hF' g6 (fun a ha=>(O5.out.lt a ha).2) hB.size novg.out y2 y3
       exact hK _ _ ⟨A,n,c,O,R',F',rfl,hro,hno,g7,hF',y1,q7⟩ (Sx.app ⟨y2.os,y2.tape,y2.output,y2.size,fun i hi hn=>y2.block i hi fun e=>hn e.symm⟩)
     ·intro f w' hv hB hev
      have e0:f 0=gp rm:=hv 0 (by omega)
      have e4:f 4=ov:=hv 4 (by omega)
      have e14:AppTo w5.heap.size rm Fr ov gr cf R L t (f 14) w':=hv 14 (by omega)
      have hB:Out.Wr (Dv Fr ov) w5 w':=hB
      change wpList _ _ _ [_,_,_] (Act.put (Act.put (Act.put (Act.put (Act.put (Act.put (Act.put (Act.put (Act.put (Act.put (Act.put (Act.put (Act.put (Act.put (Act.put _ (some 41) (f 0)) (some 42) (f 1)) (some 43) (f 2)) (some 44) (f 3)) (some 45) (f 4)) (some 46) (f 5)) (some 47) (f 6)) (some 48) (f 7)) (some 49) (f 8)) (some 50) (f 9)) (some 51) (f 10)) (some 52) (f 11)) (some 53) (f 12)) (some 54) (f 13)) (some 55) (f 14)) _
      rw[Rel.puts_zero];obtain⟨A7,n7,c7,O,R',F',e7,ho,hno,g7,hF',P1,q7⟩:=e14;rw[e7] at P1 q7;rw[e0,e7];have HO:=hid (And.intro ho hno);have G7:=hid g7;have HF':=hid hF';have P7:=hid P1;have Q7:=hid q7;have L7:=hid (hB.lies nrm.out L5.out)
      have Y7:=hid (hB.lies (fun q=>by
       rcases q with q|q
       ·exact ngy.out q
       ·have:=hw.out _ (.inr (.inr q));omega) Y5.out)
      have HB7:=hid hB;have c1:=L7.out.cell (i:=1) rfl;have f1:=L7.out.open_ 1;clear hv hev hB e0 e4 e7 ho hno g7 hF' P1 q7;generalize f 1=g1,f 2=g2,f 3=g3,f 4=g4,f 5=g5,f 6=g6,f 7=g7,f 8=g8,f 9=g9,f 10=g10,f 11=g11,f 12=g12,f 13=g13;go_upto_region 11 with fail
      have k8:w'.grownBy (w'.setCell ⟨rm,1,none⟩ (.slice A7 n7 c7)) (some rm):=⟨rfl,rfl,rfl,by simp,fun i hi hn=>Below.heap_setCell _ _ _ _ fun e=>hn (by rw[e])⟩
      have nrm':¬F' rm:=fun q=>by
       rcases HF'.out _ q with r|r
       ·exact nrm.out (.inl r)
       ·have:=L5.out.lt;omega
      have WW:Out.Wr (RF rm Fr ov) w2 (w'.setCell ⟨rm,1,none⟩ (.slice A7 n7 c7)):=(KW5.out.trans (HB7.out.more fun i hi=>.inr hi)).trans ⟨k8.os,k8.tape,k8.output,k8.size,fun i hi hn=>k8.block i hi fun e=>hn (.inl (Option.some.inj e))⟩
      have s5:w2.heap.size≤w5.heap.size:=KW5.out.size;obtain⟨m9,v9⟩:=went Q0.out WW (L7.out.put 1 (.slice A7 n7 c7)) (G7.out.grown k8 nrm') (fun i hi=>(HF'.out i hi).imp id fun q=>Nat.le_trans s5 q) (Gr.own_grown P7.out k8 (by omega)) (fun i hi=>⟨(Q7.out i hi).1.imp id fun q=>Nat.le_trans s5 q,(Q7.out i hi).2⟩)
      have Y9:Hid (Lies (w'.setCell ⟨rm,1,none⟩ (.slice A7 n7 c7)) (w.heap.size+1) 43 [.int .i64 0,.slice none 0 0]):=hid ((k8.block (w.heap.size+1) Y7.out.lt fun e=>by have:=Option.some.inj e;omega).trans Y7.out)
      have M9:=hid m9;have V9:=hid v9;clear m9 v9 WW k8 nrm' c1 f1;generalize w'.setCell ⟨rm,1,none⟩ (.slice A7 n7 c7)=w9 at Y9 M9 V9 ⊢;have y0:=Y9.out.cell (i:=0) rfl;have y1:=Y9.out.cell (i:=1) rfl;have f0:=Y9.out.open_ 0;have f1:=Y9.out.open_ 1;go_wp2;obtain⟨q0,q1,q2,q3,q4⟩:=do_end K0.out sz.out hw.out V9.out (⟨gr,F',(.slice A7 n7 c7),M9.out,fun _=>Iff.rfl⟩:Is _ rm (RF rm F' (.slice A7 n7 c7)) cf R' t (L++O) false) Y9.out (.int .i64 0) (.slice none 0 0)
      exact bodyPost_ret (v:=rep 0 (.slice none 0 0)) (by simp[results,Tryz.results12,go_sem,q0,q1]) rfl
       ⟨_,0,[],_,_,_,_,_,rfl,.up MC.out rfl rfl HT.out HO.out.1 HO.out.2,q2,q3,Sl.Own.nil _ _ _,fun a h=>by cases h⟩
   ·have r3:(op == 3)=false:=by simp[h3]
    by_cases h7:op=7
    ·subst h7
     have fm3:=Q3.out.lies.open_ 3;go_upto_region 15 with fail
     have k5:w3.grownBy (w3.setCell ⟨rm,3,none⟩ (.bool true)) (some rm):=⟨rfl,rfl,rfl,by simp,fun i hi hn=>Below.heap_setCell _ _ _ _ fun e=>hn (by rw[e])⟩
     have hrw:=hw.out rm (.inl rfl);have Y5:Hid (Lies (w3.setCell ⟨rm,3,none⟩ (.bool true)) (w.heap.size+1) 43 [.int .i64 0,.slice none 0 0]):=hid ((k5.block (w.heap.size+1) Y3.out.lt fun e=>by have:=Option.some.inj e;omega).trans Y3.out)
     have KW:Out.Wr (RF rm Fr ov) w3 (w3.setCell ⟨rm,3,none⟩ (.bool true)):=⟨k5.os,k5.tape,k5.output,k5.size,fun i hi hn=>k5.block i hi fun e=>hn (.inl (Option.some.inj e))⟩
     obtain⟨m5,v5⟩:=went Q3.out KW (Q3.out.lies.put 3 (.bool true)) (Q3.out.grp.grown k5 Q3.out.rm_g) (fun i hi=>.inl hi) (Gr.own_grown Q3.out.own k5 (by omega)) (fun i hi=>⟨.inl hi,Q3.out.ov_g i hi⟩)
     have M5:=hid m5;have V5:=hid ((Moves.of_below K3.out Q0.out.in).trans v5);clear m5 v5 k5 KW x0 x2 m2 m3 fm3 Y3;generalize w3.setCell ⟨rm,3,none⟩ (.bool true)=w5 at M5 V5 Y5 ⊢;have y0:=Y5.out.cell (i:=0) rfl;have y1:=Y5.out.cell (i:=1) rfl;have f0:=Y5.out.open_ 0;have f1:=Y5.out.open_ 1;go_wp2;obtain⟨q0,q1,q2,q3,q4⟩:=do_end K0.out sz.out hw.out V5.out (⟨gr,Fr,ov,M5.out,fun _=>Iff.rfl⟩:Is _ rm (RF rm Fr ov) cf R mark L true) Y5.out (.int .i64 0) (.slice none 0 0)
     exact bodyPost_ret (v:=rep 0 (.slice none 0 0)) (by simp[results,Tryz.results12,go_sem,q0,q1]) rfl
      ⟨_,0,[],_,_,_,_,_,rfl,.shut MC.out rfl rfl,q2,q3,Sl.Own.nil _ _ _,fun a h=>by cases h⟩
    ·have r7:(op == 7)=false:=by simp[h7]
     by_cases h5:5<op
     ·have h6:Hid (op=6):=hid (by have:=MC.out.2.1;simp only at this;omega)
      clear h7 h3;have y0:=Y3.out.cell (i:=0) rfl;have y1:=Y3.out.cell (i:=1) rfl;have f0:=Y3.out.open_ 0;have f1:=Y3.out.open_ 1;go_wp2;obtain⟨q0,q1,q2,q3,q4⟩:=do_end K0.out sz.out hw.out (Moves.of_below K3.out Q0.out.in) (⟨gr,Fr,ov,Q3.out,fun _=>Iff.rfl⟩:Is _ rm (RF rm Fr ov) cf R mark L false) Y3.out (.int .i64 0) (.slice none 0 0)
      exact bodyPost_ret (v:=rep 0 (.slice none 0 0)) (by simp[results,Tryz.results12,go_sem,q0,q1]) rfl
       ⟨_,0,[],_,_,_,_,_,rfl,.still MC.out rfl h6.out,q2,q3,Sl.Own.nil _ _ _,fun a h=>by cases h⟩
     ·have HK:Hid (kd op=true):=hid (by have:=MC.out.2.1;simp only at this;simp only[kd,decide_eq_true_eq];omega)
      have ho1:Hid (1≤op):=hid (MC.out.2.1.1);clear h7 h3;have ng1:Hid (¬Fr (w.heap.size+1)):=hid fun q=>by have:=hw.out _ (.inr (.inl q));omega
      have ng:Hid (¬Fr w.heap.size):=hid fun q=>by have:=hw.out _ (.inr (.inl q));omega
      have hF9:Hid (In w3 Fr):=hid Q3.out.grp.in;have CS:Hid (∀ w',Out.Wr Fr w3 w'→(w'.cell? ⟨rm,0,none⟩=some (gp gr)∧w'.cell? ⟨rm,2,none⟩=some (.int .i64 mark)∧w'.cell? ⟨w.heap.size,0,none⟩=some (.int .i64 op)∧w'.cell? ⟨w.heap.size,1,none⟩=some (.string key)∧w'.cell? ⟨w.heap.size,2,none⟩=some (.int .i64 t)∧w'.cell? ⟨w.heap.size,3,none⟩=some (.int .i64 v)∧w'.cell? ⟨w.heap.size,4,none⟩=some (.int .i64 e)∧w'.cell? ⟨w.heap.size,5,none⟩=some (.int .i64 u)∧w'.cell? ⟨w.heap.size,6,none⟩=some (.int .i64 s))∧Out.Wr Fr w3 w'):=hid fun w' hB=>⟨⟨(hB.lies Q3.out.rm_g Q3.out.lies).cell (i:=0) rfl,(hB.lies Q3.out.rm_g Q3.out.lies).cell (i:=2) rfl,(hB.lies ng.out X3.out).cell (i:=0) rfl,(hB.lies ng.out X3.out).cell (i:=1) rfl,(hB.lies ng.out X3.out).cell (i:=2) rfl,(hB.lies ng.out X3.out).cell (i:=3) rfl,(hB.lies ng.out X3.out).cell (i:=4) rfl,(hB.lies ng.out X3.out).cell (i:=5) rfl,(hB.lies ng.out X3.out).cell (i:=6) rfl⟩,hB⟩
      have CB:Hid (∀ w',(w'.cell? ⟨rm,0,none⟩=some (gp gr)∧w'.cell? ⟨rm,2,none⟩=some (.int .i64 mark)∧w'.cell? ⟨w.heap.size,0,none⟩=some (.int .i64 op)∧w'.cell? ⟨w.heap.size,1,none⟩=some (.string key)∧w'.cell? ⟨w.heap.size,2,none⟩=some (.int .i64 t)∧w'.cell? ⟨w.heap.size,3,none⟩=some (.int .i64 v)∧w'.cell? ⟨w.heap.size,4,none⟩=some (.int .i64 e)∧w'.cell? ⟨w.heap.size,5,none⟩=some (.int .i64 u)∧w'.cell? ⟨w.heap.size,6,none⟩=some (.int .i64 s))∧Out.Wr Fr w3 w'→Out.Wr Fr w3 w'):=hid fun w' h=>h.2
      go_wp2_with fail
      clear x0 x2 m2 m3
      go_region_held3 (fun w'=>(w'.cell? ⟨rm,0,none⟩=some (gp gr)∧w'.cell? ⟨rm,2,none⟩=some (.int .i64 mark)∧w'.cell? ⟨w.heap.size,0,none⟩=some (.int .i64 op)∧w'.cell? ⟨w.heap.size,1,none⟩=some (.string key)∧w'.cell? ⟨w.heap.size,2,none⟩=some (.int .i64 t)∧w'.cell? ⟨w.heap.size,3,none⟩=some (.int .i64 v)∧w'.cell? ⟨w.heap.size,4,none⟩=some (.int .i64 e)∧w'.cell? ⟨w.heap.size,5,none⟩=some (.int .i64 u)∧w'.cell? ⟨w.heap.size,6,none⟩=some (.int .i64 s))∧Out.Wr Fr w3 w')
       (first|exact CS.out _ Out.Wr.drew|exact CS.out _ (Out.Wr.trans Out.Wr.drew (Out.Wr.of_moves V9))|exact CS.out _ (Out.Wr.trans (CB.out _ (by assumption)) (Out.Wr.of_moves V9))|exact CS.out _ (Out.Wr.trans (by first|exact CB.out _ (by assumption)|exact Out.Wr.drew) (Out.Wr.of_below (below1 _ _)))|exact CS.out _ (Out.Wr.trans (Out.Wr.trans Out.Wr.drew (Out.Wr.of_moves V9)) (Out.Wr.of_below (below1 _ _)))|exact CS.out _ (Out.Wr.set (Out.Wr.set (CB.out _ (by assumption)) _ (by first|exact Nat.le_refl _|simp)) _ (by first|exact Nat.le_refl _|simp)))
       (first|(go_at_call 47;refine (ask_ok ⟨op,key,t,v,e,u,s⟩ mark z _ (hid (Q3.out.grp.next (by first|exact (Below.refl _ _).drew|exact after (Below.refl _ _).drew (below1 _ _)))) hN M B ft fk fe D ho1.out T).mono ?_;rintro r w9 ⟨rv,oov,code,P,O,R',Fr',rfl,hA,G9,V9,o9,oo9,hOl,hap⟩;obtain⟨A,nv,cv,rfl⟩:=lit o9;first|(obtain⟨z0,z1,e0,e1⟩:=box_kept V9 hF9.out)|skip))
      ·have KPh:=hid (pack2 (code:=code) V9 hF9.out G9 o9 oo9)
       generalize (World.alloc w9 (Obj.cells #[.int .i64 code,.slice A nv cv] 43))=W at KPh ⊢;have W5:=hid KPh.out.2.2.2.2.2.1;have LW:=hid (W5.out.lies Q3.out.rm_g Q3.out.lies);have YW:=hid (W5.out.lies ng1.out Y3.out);have OW:Hid (Sl.Own Pn.k (rm+1) W ov L):=hid (Q3.out.own.move fun a ha=>W5.out.block a (Q3.out.own.lt a ha).2 (Q3.out.ov_g a ha))
       have m1:=LW.out.cell (i:=1) rfl;have hrm:rm+1≤W.heap.size:=LW.out.lt;have HA:=hid hA;have OO:=hid KPh.out.2.2.2.2.1;clear hA CS CB;go_upto_region 18 with (at_builtin;refine wpList_plain rfl fun K' hK'=>Out.wp_append_lit (.tmp 86) (.tmp 87) rfl (base:=rm+1) (l:=L) (l2:=O) (by exact OW.out) (by exact Out.Rd.own OO.out) (by omega) (by exact hrm) (fun A7 n7 c7 w7 y1 y2 y3=>hK' _ _ ?_);have P1:=hid y1;have P2:Hid (W.grownBy w7 ov.ownBlock):=hid y2;have P3:Hid ((Value.slice A7 n7 c7).ownBlock=ov.ownBlock∨(Value.slice A7 n7 c7).ownBlock=some W.heap.size):=hid y3;have L7:Hid (Lies w7 rm 68 (rmcl gr ov mark false)):=hid ((P2.out.block rm LW.out.lt fun e=>by have:=(OW.out.lt rm e.symm).1;omega).trans LW.out);have c1:=L7.out.cell (i:=1) rfl;have f1:=L7.out.open_ 1;clear y1 y2 y3)
       have k8:w7.grownBy (w7.setCell ⟨rm,1,none⟩ (.slice A7 n7 c7)) (some rm):=⟨rfl,rfl,rfl,by simp,fun i hi hn=>Below.heap_setCell _ _ _ _ fun e=>hn (by rw[e])⟩
       obtain⟨hb0,hb1,GW,PW,-,-,nW,hbb⟩:=KPh.out;have hv:∀ a,ov.ownBlock=some a→a<w3.heap.size:=fun a ha=>(Q3.out.own.lt a ha).2
       have s5:w3.heap.size≤W.heap.size:=W5.out.size;have hrw:=hw.out rm (.inl rfl);have hs3:w.heap.size+1<w3.heap.size:=Y3.out.lt;obtain⟨g7',q7⟩:=out_end (rm:=rm) (B:=w3.heap.size) nW GW hv s5 Q3.out.ov_g P2.out P3.out
       have nrm':¬Fr' rm:=fun q=>by
        rcases nW _ q with r|r
        ·exact Q3.out.rm_g r
        ·omega
       have WW:Out.Wr (RF rm Fr ov) w3 (w7.setCell ⟨rm,1,none⟩ (.slice A7 n7 c7)):=((W5.out.more fun i hi=>.inr (.inl hi)).trans ⟨P2.out.os,P2.out.tape,P2.out.output,P2.out.size,fun i hi hn=>P2.out.block i hi fun e=>hn (.inr (.inr e.symm))⟩).trans ⟨k8.os,k8.tape,k8.output,k8.size,fun i hi hn=>k8.block i hi fun e=>hn (.inl (Option.some.inj e))⟩
       obtain⟨m9,v9⟩:=went Q3.out WW (L7.out.put 1 (.slice A7 n7 c7)) (g7'.grown k8 nrm') nW (Gr.own_grown P1.out k8 (by omega)) q7
       have nb:∀ i,w3.heap.size≤i→i<W.heap.size→(w7.setCell ⟨rm,1,none⟩ (.slice A7 n7 c7)).heap[i]?=W.heap[i]?:=fun i hi hi2=>(k8.block i (Nat.lt_of_lt_of_le hi2 P2.out.size) fun e=>by have:=Option.some.inj e;omega).trans (P2.out.block i hi2 fun e=>by have:=hv _ e.symm;omega)
       have B0:=World.block_lt_of_cell? _ _ hb0;have z0:(w7.setCell ⟨rm,1,none⟩ (.slice A7 n7 c7)).cell? ⟨w9.heap.size,0,none⟩=some (.int .i64 code):=(World.cell?_of_block (a:=⟨w9.heap.size,0,none⟩) (nb _ hbb B0)).trans hb0
       have z1:(w7.setCell ⟨rm,1,none⟩ (.slice A7 n7 c7)).cell? ⟨w9.heap.size,1,none⟩=some (.slice A nv cv):=(World.cell?_of_block (a:=⟨w9.heap.size,1,none⟩) (nb _ hbb B0)).trans hb1
       have AP6:Hid (∀ a,(Value.slice A nv cv).ownBlock=some a→¬RF rm Fr' (.slice A7 n7 c7) a):=hid fun a ha hq=>by
        have q1:=PW.lt a ha;rcases hq with e|e|e
        ·omega
        ·exact hap a ha e
        ·rcases P3.out with p|p
         ·rw[p] at e;have:=hv a e;omega
         ·rw[p] at e;have:=Option.some.inj e;omega
       have P6:Hid (Sl.Own Pn.k w2.heap.size (w7.setCell ⟨rm,1,none⟩ (.slice A7 n7 c7)) (.slice A nv cv) P):=hid (Gr.own_base (PW.move fun a ha=>nb a (PW.lt a ha).1 (PW.lt a ha).2) K3.out.size)
       have Y9:Hid (Lies (w7.setCell ⟨rm,1,none⟩ (.slice A7 n7 c7)) (w.heap.size+1) 43 [.int .i64 0,.slice none 0 0]):=hid ((k8.block (w.heap.size+1) (by have:=P2.out.size;have:=YW.out.lt;omega) fun e=>by have:=Option.some.inj e;omega).trans ((P2.out.block (w.heap.size+1) YW.out.lt fun e=>by have:=hw.out _ (.inr (.inr e.symm));omega).trans YW.out))
       have M9:=hid m9;have V9':=hid ((Moves.of_below K3.out Q0.out.in).trans v9);clear m9 v9 WW k8 g7' q7 nrm' c1 f1 nb B0 hb0 hb1 GW PW nW m1 hv s5;generalize w7.setCell ⟨rm,1,none⟩ (.slice A7 n7 c7)=w10 at Y9 M9 V9' P6 z0 z1 ⊢;have y0:=Y9.out.cell (i:=0) rfl;have y1:=Y9.out.cell (i:=1) rfl;have f0:=Y9.out.open_ 0;have f1:=Y9.out.open_ 1;go_wp2;obtain⟨q0,q1,q2,q3,q4⟩:=do_end K0.out sz.out hw.out V9'.out (⟨gr,Fr',.slice A7 n7 c7,M9.out,fun _=>Iff.rfl⟩:Is _ rm (RF rm Fr' (.slice A7 n7 c7)) cf R' mark (L++O) false) Y9.out (.int .i64 code) (.slice A nv cv)
       exact bodyPost_ret (v:=rep code (.slice A nv cv)) (by simp[results,Tryz.results12,go_sem,q0,q1]) rfl
        ⟨_,code,P,_,_,_,_,_,rfl,.ask MC.out rfl HK.out HA.out,q2,q3,q4 _ _ P6.out,AP6.out⟩
      ·have KPh:=hid (pack1 (code:=code) V9 hF9.out G9 o9 oo9)
       generalize (World.setCell (World.setCell w9 ⟨w3.heap.size,0,none⟩ (.int .i64 code)) ⟨w3.heap.size,1,none⟩ (.slice A nv cv))=W at KPh ⊢;have W5:=hid KPh.out.2.2.2.2.2.1;have LW:=hid (W5.out.lies Q3.out.rm_g Q3.out.lies);have YW:=hid (W5.out.lies ng1.out Y3.out);have OW:Hid (Sl.Own Pn.k (rm+1) W ov L):=hid (Q3.out.own.move fun a ha=>W5.out.block a (Q3.out.own.lt a ha).2 (Q3.out.ov_g a ha))
       have m1:=LW.out.cell (i:=1) rfl;have hrm:rm+1≤W.heap.size:=LW.out.lt;have HA:=hid hA;have OO:=hid KPh.out.2.2.2.2.1;clear hA CS CB;go_upto_region 18 with (at_builtin;refine wpList_plain rfl fun K' hK'=>Out.wp_append_lit (.tmp 86) (.tmp 87) rfl (base:=rm+1) (l:=L) (l2:=O) (by exact OW.out) (by exact Out.Rd.own OO.out) (by omega) (by exact hrm) (fun A7 n7 c7 w7 y1 y2 y3=>hK' _ _ ?_);have P1:=hid y1;have P2:Hid (W.grownBy w7 ov.ownBlock):=hid y2;have P3:Hid ((Value.slice A7 n7 c7).ownBlock=ov.ownBlock∨(Value.slice A7 n7 c7).ownBlock=some W.heap.size):=hid y3;have L7:Hid (Lies w7 rm 68 (rmcl gr ov mark false)):=hid ((P2.out.block rm LW.out.lt fun e=>by have:=(OW.out.lt rm e.symm).1;omega).trans LW.out);have c1:=L7.out.cell (i:=1) rfl;have f1:=L7.out.open_ 1;clear y1 y2 y3)
       have k8:w7.grownBy (w7.setCell ⟨rm,1,none⟩ (.slice A7 n7 c7)) (some rm):=⟨rfl,rfl,rfl,by simp,fun i hi hn=>Below.heap_setCell _ _ _ _ fun e=>hn (by rw[e])⟩
       obtain⟨hb0,hb1,GW,PW,-,-,nW,hbb⟩:=KPh.out;have hv:∀ a,ov.ownBlock=some a→a<w3.heap.size:=fun a ha=>(Q3.out.own.lt a ha).2
       have s5:w3.heap.size≤W.heap.size:=W5.out.size;have hrw:=hw.out rm (.inl rfl);have hs3:w.heap.size+1<w3.heap.size:=Y3.out.lt;obtain⟨g7',q7⟩:=out_end (rm:=rm) (B:=w3.heap.size) nW GW hv s5 Q3.out.ov_g P2.out P3.out
       have nrm':¬Fr' rm:=fun q=>by
        rcases nW _ q with r|r
        ·exact Q3.out.rm_g r
        ·omega
       have WW:Out.Wr (RF rm Fr ov) w3 (w7.setCell ⟨rm,1,none⟩ (.slice A7 n7 c7)):=((W5.out.more fun i hi=>.inr (.inl hi)).trans ⟨P2.out.os,P2.out.tape,P2.out.output,P2.out.size,fun i hi hn=>P2.out.block i hi fun e=>hn (.inr (.inr e.symm))⟩).trans ⟨k8.os,k8.tape,k8.output,k8.size,fun i hi hn=>k8.block i hi fun e=>hn (.inl (Option.some.inj e))⟩
       obtain⟨m9,v9⟩:=went Q3.out WW (L7.out.put 1 (.slice A7 n7 c7)) (g7'.grown k8 nrm') nW (Gr.own_grown P1.out k8 (by omega)) q7
       have nb:∀ i,w3.heap.size≤i→i<W.heap.size→(w7.setCell ⟨rm,1,none⟩ (.slice A7 n7 c7)).heap[i]?=W.heap[i]?:=fun i hi hi2=>(k8.block i (Nat.lt_of_lt_of_le hi2 P2.out.size) fun e=>by have:=Option.some.inj e;omega).trans (P2.out.block i hi2 fun e=>by have:=hv _ e.symm;omega)
       have B0:=World.block_lt_of_cell? _ _ hb0;have z0:(w7.setCell ⟨rm,1,none⟩ (.slice A7 n7 c7)).cell? ⟨w3.heap.size,0,none⟩=some (.int .i64 code):=(World.cell?_of_block (a:=⟨w3.heap.size,0,none⟩) (nb _ hbb B0)).trans hb0
       have z1:(w7.setCell ⟨rm,1,none⟩ (.slice A7 n7 c7)).cell? ⟨w3.heap.size,1,none⟩=some (.slice A nv cv):=(World.cell?_of_block (a:=⟨w3.heap.size,1,none⟩) (nb _ hbb B0)).trans hb1
       have AP6:Hid (∀ a,(Value.slice A nv cv).ownBlock=some a→¬RF rm Fr' (.slice A7 n7 c7) a):=hid fun a ha hq=>by
        have q1:=PW.lt a ha;rcases hq with e|e|e
        ·omega
        ·exact hap a ha e
        ·rcases P3.out with p|p
         ·rw[p] at e;have:=hv a e;omega
         ·rw[p] at e;have:=Option.some.inj e;omega
       have P6:Hid (Sl.Own Pn.k w2.heap.size (w7.setCell ⟨rm,1,none⟩ (.slice A7 n7 c7)) (.slice A nv cv) P):=hid (Gr.own_base (PW.move fun a ha=>nb a (PW.lt a ha).1 (PW.lt a ha).2) K3.out.size)
       have Y9:Hid (Lies (w7.setCell ⟨rm,1,none⟩ (.slice A7 n7 c7)) (w.heap.size+1) 43 [.int .i64 0,.slice none 0 0]):=hid ((k8.block (w.heap.size+1) (by have:=P2.out.size;have:=YW.out.lt;omega) fun e=>by have:=Option.some.inj e;omega).trans ((P2.out.block (w.heap.size+1) YW.out.lt fun e=>by have:=hw.out _ (.inr (.inr e.symm));omega).trans YW.out))
       have M9:=hid m9;have V9':=hid ((Moves.of_below K3.out Q0.out.in).trans v9);clear m9 v9 WW k8 g7' q7 nrm' c1 f1 nb B0 hb0 hb1 GW PW nW m1 hv s5;generalize w7.setCell ⟨rm,1,none⟩ (.slice A7 n7 c7)=w10 at Y9 M9 V9' P6 z0 z1 ⊢;have y0:=Y9.out.cell (i:=0) rfl;have y1:=Y9.out.cell (i:=1) rfl;have f0:=Y9.out.open_ 0;have f1:=Y9.out.open_ 1;go_wp2;obtain⟨q0,q1,q2,q3,q4⟩:=do_end K0.out sz.out hw.out V9'.out (⟨gr,Fr',.slice A7 n7 c7,M9.out,fun _=>Iff.rfl⟩:Is _ rm (RF rm Fr' (.slice A7 n7 c7)) cf R' mark (L++O) false) Y9.out (.int .i64 code) (.slice A nv cv)
       exact bodyPost_ret (v:=rep code (.slice A nv cv)) (by simp[results,Tryz.results12,go_sem,q0,q1]) rfl
        ⟨_,code,P,_,_,_,_,_,rfl,.ask MC.out rfl HK.out HA.out,q2,q3,q4 _ _ P6.out,AP6.out⟩
end Rm
namespace Rm
open Small Foot Pane Grp Ca Rg Md
section
variable {cf:C8} {S S':Lists} {R R':List Pn} {mark mark' mark2:Int} {L L' L2 P P2 O O2:List Pn} {cl cl' cl2:Bool} {x:Cl} {z:Option (Nat×Int×Int×Int)} {code code2:Int} {c N:Nat}
end
end Rm
end Go.Proofs.YtfjlnniahfbdfaaGreat
