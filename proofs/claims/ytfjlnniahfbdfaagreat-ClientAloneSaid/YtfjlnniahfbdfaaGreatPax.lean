/- A part of the proof. -/
import Derived.Test.YtfjlnniahfbdfaaGreatPar
import Derived.Test.YtfjlnniahfbdfaaGreatPag
import Derived.Test.YtfjlnniahfbdfaaGreatPae
import Derived.Test.YtfjlnniahfbdfaaGreatPaf
import Derived.Test.YtfjlnniahfbdfaaGreatPam
import Derived.Deep.DeepCutAuto
import Derived.Test.YtfjlnniahfbdfaaGreatPaw
import Derived.Test.YtfjlnniahfbdfaaGreatPas
set_option linter.unusedVariables false
set_option maxHeartbeats 4000000
namespace Go.Proofs.YtfjlnniahfbdfaaGreat
open Lib (hid)
open Go.ChangeShapes Go.WideShapes Go.ChangeAt Go.RowKit
namespace Rg
open Small Foot Pane Grp
abbrev rcl(x:C8)(v:Value):List Value:=[.int .i64 x.k,.int .i64 x.s,.int .i64 x.l,.int .i64 x.g,.int .i64 x.z,.int .i64 x.h,.int .i64 x.r,.int .i64 x.c,v]
structure Rg(w:World)(gr:Nat)(cf:C8)(v:Value)(L:List Pn)(b:Nat):Prop where
 lies:Lies w gr 88 (rcl cf v)
 list:Sl.Is Pn.k w v L b
 ne:L≠[]→b≠gr
section
variable {w w':World} {gr b:Nat} {cf:C8} {v:Value} {L:List Pn}
theorem Rg.next(h:Rg w gr cf v L b)(k:Below w.heap.size w w'):Rg w' gr cf v L b:=⟨h.lies.next k,h.list.next k,h.ne⟩
theorem Rg.put{u:Value}{L2:List Pn}(h:Rg w gr cf v L b){base:Nat}(o:Sl.Own Pn.k base w u L2)(hb:gr<base):∃ b2,base≤b2∧Rg (w.setCell ⟨gr,8,none⟩ u) gr cf u L2 b2:=by
 obtain⟨b2,hb2,i2⟩:=o.is
 have hne:b2≠gr:=by omega
 exact⟨b2,hb2,h.lies.put 8 u,i2.keep (Below.heap_setCell w ⟨gr,8,none⟩ u b2 hne) (by simp),fun _=>hne⟩
end
theorem set_grown(w:World)(gr i:Nat)(u:Value):w.grownBy (w.setCell ⟨gr,i,none⟩ u) (some gr):=grown_cells _ (grown_refl _ _)
set_option maxRecDepth 100000 in
theorem without_ok(l:Value)(L:List Pn)(b k:Nat)(w:World)(H:Hid (Sl.Is Pn.k w l L b))(hn:L.length≤100000)(hk:k<L.length):
  Calls Tryz.prog 80 #[l,.int .i64 k] w fun r w'=>∃ v',r=.returned v'∧Sl.Own Pn.k w.heap.size w' v' (L.take k++L.drop (k+1))∧Below w.heap.size w w':=by
 obtain⟨v1,hr1,i1⟩:=Sl.run_take Pn.ok H.out (m:=k) (by omega)
 obtain⟨v2,hr2,i2⟩:=Sl.run_drop Pn.ok H.out (m:=k+1) (by omega)
 have hr2:∀ w1,(Instr.slice Pn.k.t l (some (.int .i64 ((k:Int)+1))) none none).run Tryz.prog w1=.ok v2 w1:=hr2
 have I1:=hid i1
 have I2:=hid i2
 have KA:=hid (below1 w (Obj.cells #[] 133))
 have hl1:Hid ((L.take k).length≤100000∧(L.drop (k+1)).length≤100000):=hid (by rw[List.length_take,List.length_drop];omega)
 have k0:(0:Int)≤k:=by omega
 have k1:(k:Int)+1≤100000:=by omega
 clear i1 i2
 go_enter Tryz.func80,Tryz.ntmps80
 go_wp2_with (at_builtin;first
  |(refine wpList_plain rfl fun K' hK'=>Sl.wp_append_empty (K:=Pn.k) Pn.ok (.tmp 6) (.tmp 9) rfl (base:=w.heap.size) (b:=w.heap.size) (l2:=L.take k) rfl (by exact heap_alloc_new _ _) (Nat.le_refl _) (by exact I1.out.next KA.out) (by have:=hl1.out;omega) (by simp) (fun va wa y1 y2=>hK' _ _ ?_);have O1:=hid y1;have K1:=hid (after KA.out y2);clear y1 y2)
  |(refine wpList_plain rfl fun K' hK'=>Sl.wp_append (K:=Pn.k) Pn.ok (.tmp 11) (.tmp 15) rfl (base:=w.heap.size) (l:=L.take k) (l2:=L.drop (k+1)) (by exact O1.out) (by exact I2.out.next K1.out) (by have:=hl1.out;omega) (by exact K1.out.size) (fun vb wb y1 y2 y3=>hK' _ _ ?_);have O2:=hid y1;have K2:=hid (K1.out.grown y2 K1.out.size (fun b hb=>(O1.out.lt b hb).1));clear y1 y2 y3))
 go_ret
 exact⟨_,rfl,O2.out,K2.out⟩
end Rg
namespace Rg
open Small Foot Pane Grp
inductive ROuts(late mark:Int)(R:List Pn):List Pn→List Pn→Prop
 |none:ROuts late mark R [] R
 |more {O R1:List Pn} {p:Pn} {k:Nat} (h:ROuts late mark R O R1) (hp:R1[k]?=some p) (ho:p.e+late≤mark) (hl:∀ q,q∈R1→q.e+late≤mark→Tmr.le (tmOf p) (tmOf q)):ROuts late mark R (O++[p]) (R1.take k++R1.drop (k+1))
def Fo(late mark:Int)(R:List Pn)(i:Nat)(best:Int):Prop:=
 (best = -1∧∀ j q,j<i→R[j]?=some q→¬q.e+late≤mark)∨(∃ (k:Nat) (x:Pn),best=k∧k<i∧R[k]?=some x∧x.e+late≤mark∧∀ j q,j<i→R[j]?=some q→q.e+late≤mark→Tmr.le (tmOf x) (tmOf q))
section
variable {late mark:Int} {R:List Pn} {i:Nat} {best:Int} {y:Pn}
theorem Fo.zero:Fo late mark R 0 (-1):=.inl ⟨rfl,fun j q h=>absurd h (by omega)⟩
theorem Fo.not(h:Fo late mark R i best)(hy:R[i]?=some y)(ho:¬y.e+late≤mark):Fo late mark R (i+1) best:=by
 have case_:∀ {j q},j<i+1→R[j]?=some q→j<i∨q=y:=fun {j q} hj hq=>by
  by_cases e:j=i
  ·subst e;rw[hy] at hq;exact .inr (Option.some.inj hq).symm
  ·exact .inl (by omega)
 rcases h with ⟨rfl,h⟩|⟨k,x,rfl,hk,hx,hox,h⟩
 ·refine .inl ⟨rfl,fun j q hj hq=>?_⟩
  rcases case_ hj hq with r|rfl
  ·exact h j q r hq
  ·exact ho
 ·refine .inr ⟨k,x,rfl,by omega,hx,hox,fun j q hj hq hoq=>?_⟩
  rcases case_ hj hq with r|rfl
  ·exact h j q r hq hoq
  ·exact absurd hoq ho
theorem Fo.first(h:Fo late mark R i (-1))(hy:R[i]?=some y)(ho:y.e+late≤mark):Fo late mark R (i+1) i:=by
 rcases h with ⟨-,h⟩|⟨k,x,e,_⟩
 ·refine .inr ⟨i,y,rfl,by omega,hy,ho,fun j q hj hq hoq=>?_⟩
  by_cases e:j=i
  ·subst e;rw[hy] at hq;obtain rfl:=Option.some.inj hq;exact Tmr.le_refl _
  ·exact absurd hoq (h j q (by omega) hq)
 ·omega
theorem Fo.less{k:Nat}{x:Pn}(hk:k<i)(hx:R[k]?=some x)(hox:x.e+late≤mark)(h:∀ j q,j<i→R[j]?=some q→q.e+late≤mark→Tmr.le (tmOf x) (tmOf q))(hy:R[i]?=some y)(ho:y.e+late≤mark)(hl:Tmr.lt (tmOf y) (tmOf x)=true):Fo late mark R (i+1) i:=by
 refine .inr ⟨i,y,rfl,by omega,hy,ho,fun j q hj hq hoq=>?_⟩
 by_cases e:j=i
 ·subst e;rw[hy] at hq;obtain rfl:=Option.some.inj hq;exact Tmr.le_refl _
 ·exact Tmr.le_trans (Tmr.le_of_lt hl) (h j q (by omega) hq hoq)
theorem Fo.more{k:Nat}{x:Pn}(hk:k<i)(hx:R[k]?=some x)(hox:x.e+late≤mark)(h:∀ j q,j<i→R[j]?=some q→q.e+late≤mark→Tmr.le (tmOf x) (tmOf q))(hy:R[i]?=some y)(hl:Tmr.lt (tmOf y) (tmOf x)=false):Fo late mark R (i+1) k:=by
 refine .inr ⟨k,x,rfl,by omega,hx,hox,fun j q hj hq hoq=>?_⟩
 by_cases e:j=i
 ·subst e;rw[hy] at hq;obtain rfl:=Option.some.inj hq;exact hl
 ·exact h j q (by omega) hq hoq
end
def RSettled(w:World)(gr:Nat)(cf:C8)(R:List Pn)(b0:Nat)(mark:Int)(r:Ending)(w':World):Prop:=
 ∃ sv O R1 v b,r=.returned sv∧ROuts cf.z mark R O R1∧(∀ q,q∈R1→¬q.e+cf.z≤mark)∧Sl.Own Pn.k w.heap.size w' sv O∧Rg w' gr cf v R1 b∧w.grownBy w' (some gr)∧O.length+R1.length=R.length∧(b=b0∨w.heap.size≤b)
structure RS(w:World)(gr:Nat)(cf:C8)(R:List Pn)(b0:Nat)(mark:Int)(sv:Value)(O R1:List Pn)(v:Value)(b:Nat)(wr:World):Prop where
 outs:ROuts cf.z mark R O R1
 out:Sl.Own Pn.k w.heap.size wr sv O
 rg:Rg wr gr cf v R1 b
 grown:w.grownBy wr (some gr)
 len:O.length+R1.length=R.length
 ap:R1≠[]→∀ a,sv.ownBlock=some a→a≠b
 fr:b=b0∨w.heap.size≤b
theorem RS.next{w wr w':World}{gr b b0:Nat}{cf:C8}{R O R1:List Pn}{mark:Int}{sv v:Value}(h:RS w gr cf R b0 mark sv O R1 v b wr)(k:Below wr.heap.size wr w'):RS w gr cf R b0 mark sv O R1 v b w':=
 ⟨h.outs,h.out.next k,h.rg.next k,h.grown.andThen ⟨k.os,k.tape,k.output,k.size,fun i hi _=>k.block i hi⟩ (fun j hj=>.inr hj),h.len,h.ap,h.fr⟩
theorem RS.app{w wr w' w4:World}{gr b b0:Nat}{cf:C8}{R O R1 L2:List Pn}{mark:Int}{sv v vo:Value}(Q:RS w gr cf R b0 mark sv O R1 v b wr)(hg:gr<w.heap.size)(ne:R1≠[])(k:Below wr.heap.size wr w')(y1:Sl.Own Pn.k w.heap.size w4 vo L2)(y2:w'.grownBy w4 sv.ownBlock)(y3:vo.ownBlock=sv.ownBlock∨vo.ownBlock=some w'.heap.size):
  Sl.Own Pn.k w.heap.size w4 vo L2∧Rg w4 gr cf v R1 b∧w.grownBy w4 (some gr)∧(∀ a,vo.ownBlock=some a→a≠b):=by
 have R0:=Q.rg.next k
 have hgs:gr<w'.heap.size:=R0.lies.lt
 have hb:b<w'.heap.size:=is_lt R0.list ne
 have n1:some gr≠sv.ownBlock:=fun e=>by have:=(Q.out.lt gr e.symm).1;omega
 have n2:some b≠sv.ownBlock:=fun e=>Q.ap ne b e.symm rfl
 have k2:=k.size
 refine⟨y1,⟨(y2.block gr hgs n1).trans R0.lies,R0.list.keep (y2.block b hb n2) y2.size,R0.ne⟩,?_,fun a ha e=>?_⟩
 ·have g1:w.grownBy w' (some gr):=Q.grown.andThen ⟨k.os,k.tape,k.output,k.size,fun i hi _=>k.block i hi⟩ (fun j hj=>.inr hj)
  exact g1.andThen y2 fun j hj=>.inl (Q.out.lt j hj).1
 ·subst e
  rcases y3 with e|e
  ·exact n2 (ha.symm.trans e)
  ·rw[e] at ha
   have:=Option.some.inj ha;omega
theorem RS.cut{w w4 w5:World}{gr b b0 k:Nat}{cf:C8}{R O R1:List Pn}{mark:Int}{sv vo v u:Value}{x:Pn}{wr:World}(Q:RS w gr cf R b0 mark sv O R1 v b wr)(hg:gr<w.heap.size)(hx:R1[k]?=some x)(ho:x.e+cf.z≤mark)(hl:∀ q,q∈R1→q.e+cf.z≤mark→Tmr.le (tmOf x) (tmOf q))
  (o:Sl.Own Pn.k w.heap.size w4 vo (O++[x])) (r:Rg w4 gr cf v R1 b) (g:w.grownBy w4 (some gr)) (k5:Below w4.heap.size w4 w5) (p:Sl.Own Pn.k w4.heap.size w5 u (R1.take k++R1.drop (k+1))):
  ∃ b2,RS w gr cf R b0 mark vo (O++[x]) (R1.take k++R1.drop (k+1)) u b2 (w5.setCell ⟨gr,8,none⟩ u):=by
 have hg4:gr<w4.heap.size:=Nat.lt_of_lt_of_le hg g.size
 obtain⟨b2,hb2,i2⟩:=p.is
 have hne:b2≠gr:=by omega
 have g5:w.grownBy w5 (some gr):=g.andThen ⟨k5.os,k5.tape,k5.output,k5.size,fun i hi _=>k5.block i hi⟩ (fun j hj=>.inr hj)
 refine⟨b2,.more Q.outs hx ho hl,?_,⟨(r.next k5).lies.put 8 u,i2.keep (Below.heap_setCell w5 ⟨gr,8,none⟩ u b2 hne) (by simp),fun _=>hne⟩,?_,?_,fun _ a ha=>?_,.inr (by have:=g.size;omega)⟩
 ·exact (o.next k5).move fun a ha=>Below.heap_setCell w5 ⟨gr,8,none⟩ u a (fun e=>by have:=(o.lt a ha).1;simp only at e;omega)
 ·exact g5.andThen (set_grown w5 gr 8 u) (fun j hj=>.inr hj)
 ·have:=Q.len
  have:=lt_of_at hx;simp only[List.length_append,List.length_singleton,List.length_take,List.length_drop];omega
 ·have:=(o.lt a ha).2
  omega
set_option maxRecDepth 100000 in
theorem settle_ok(gr:Nat)(cf:C8)(v:Value)(R:List Pn)(b:Nat)(mark:Int)(w:World)(H:Hid (Rg w gr cf v R b))(hn:R.length≤10000)(fz:Hid ((Lit.int .i64 cf.z).wf=true))(fk:Hid ((Lit.int .i64 mark).wf=true))(fe:Hid (∀ p∈R,(Lit.int .i64 p.e).wf=true)):
  Calls Tryz.prog 46 #[gp gr,.int .i64 mark] w (RSettled w gr cf R b mark):=by
 have hgr:gr<w.heap.size:=H.out.lies.lt
 go_enter Tryz.func46,Tryz.ntmps46
 go_wp2_with fail
 go_loopw [5] (fun so wr=>∃ O R1 v1 b1,Hid (RS w gr cf R b mark so O R1 v1 b1 wr)∧Hid (∀ q∈R1,q∈R)) (fun so _=>R.length-slen so)
 case atStart=>exact⟨[],R,v,b,hid ⟨.none,Sl.Own.nil _ _ _,H.out,grown_refl _ _,by simp,fun _ a ha=>(by cases ha),.inl rfl⟩,hid (fun q hq=>hq)⟩
 case round=>
  obtain⟨O,R1,v1,b1,Q,SB⟩:=hrel;have hlen:=Q.out.len;obtain⟨bo,-,io⟩:=Q.out.out.is;obtain⟨AO,co,hv⟩:=io.len;subst hv;clear io;obtain⟨AV,cv,hv⟩:=Q.out.rg.list.len;subst hv;go_wp2_with fail
  go_loopw [6,7] (fun sb si wk=>∃ (i:Nat) (best:Int),i≤R1.length∧si=.int .i64 i∧sb=.int .i64 best∧Hid (Fo cf.z mark R1 i best)∧Hid (Below wr.heap.size wr wk)) (fun _ si _=>R1.length-(intOf si).toNat)
  case atStart=>exact⟨0,-1,Nat.zero_le _,rfl,rfl,hid Fo.zero,hid (Below.refl _ _)⟩
  case round=>
   obtain⟨i,best,hi,rfl,rfl,HF,K⟩:=hrel;have c8:=cell_keep K.out (Q.out.rg.lies.cell (i:=8) rfl);by_cases hlt:i<R1.length
   ·obtain⟨off,cap',he,h2,h3,h4,hcell⟩:=Q.out.rg.list.some_ Pn.ok (by omega)
    obtain⟨rfl,rfl⟩:AV=some ⟨b1,off,none⟩∧cv=cap':=by simpa using he
    obtain⟨y,hy⟩:=at_some hlt;obtain⟨c0,c1,c2,c3,c4,c5,c6⟩:=Tmr.pane_cells hy hcell;have cz:=cell_keep K.out (Q.out.rg.lies.cell (i:=4) rfl);have c0:=cell_keep K.out c0;have c1:=cell_keep K.out c1;have c2:=cell_keep K.out c2;have c3:=cell_keep K.out c3;have c4:=cell_keep K.out c4;have c5:=cell_keep K.out c5;have c6:=cell_keep K.out c6;have HC:=hid hcell;have HY:=hid hy;have fy:=fit (fe.out y (SB.out y (List.mem_of_getElem? hy)));have z0:=fit fz.out;have m0:=fit fk.out;obtain⟨ov,hov⟩:∃ ov,ov=decide (y.e+cf.z≤mark):=⟨_,rfl⟩
    have OV:Hid (∀ w,Calls Tryz.prog 78 #[win y.s y.e,.int .i64 cf.z,.int .i64 mark] w fun r w'=>r=.returned (.bool ov)∧Below w.heap.size w w'):=
     hid fun w=>by rw[hov];exact RefSpan.over_ok y.s y.e cf.z mark w fy.1 fy.2 z0.1 z0.2 m0.1 m0.2
    have i0:(i:Int)<R1.length:=by omega
    clear hcell he h2 h3 h4 hy fy z0 m0;go_upto_region 6 with fail
    have f8:=Later.cell c8;have fzc:=Later.cell cz;have f1:=Later.cell c1;have f2:=Later.cell c2;refine wp_region_later (by kernel_rfl) (by kernel_rfl) ?_
    repeat (go_big_quiet_step (with_reducible exact Later.call _ (OV.out _)))
    refine wpQuiet_nil ?_
    rintro _ ⟨u,rfl⟩;have K2:=hid (after K.out u.below);have c8:=f8 u;have c0:=Later.cell c0 u;have c1:=f1 u;have c2:=f2 u;have c3:=Later.cell c3 u;have c4:=Later.cell c4 u;have c5:=Later.cell c5 u;have c6:=Later.cell c6 u;clear f8 fzc f1 f2 cz K OV;generalize u.w=w3 at *;cases ov
    ·have ho:¬y.e+cf.z≤mark:=of_decide_eq_false hov.symm
     have HF2:=hid (HF.out.not HY.out ho);clear hov c0 c1 c2 c3 c4 c5 c6 c8;go_wp2_with fail
     exact⟨⟨i+1,best,by omega,by go_num,rfl,HF2,K2⟩,by simp[intOf];omega⟩
    ·have ho:y.e+cf.z≤mark:=of_decide_eq_true hov.symm
     clear hov;rcases HF.out with ⟨rfl,h⟩|⟨k,x,rfl,hk,hx,hox,hle⟩
     ·have HF2:=hid (Fo.first HF.out HY.out ho)
      clear c0 c1 c2 c3 c4 c5 c6 c8 h;go_wp2_with fail
      exact⟨⟨i+1,i,by omega,by go_num,rfl,HF2,K2⟩,by simp[intOf];omega⟩
     ·obtain⟨d0,d1,d2,d3,d4,d5,d6⟩:=Tmr.pane_cells hx HC.out
      have kn:decide ((k:Int)<0)=false:=decide_eq_false (by omega)
      have k0:(k:Int)<R1.length:=by omega
      have HX:=hid hx;have HLE:=hid hle;clear hx hle HF;go_upto_region 10 with fail
      have f8:=Later.cell c8;have f0:=Later.cell c0;have f1:=Later.cell c1;have f2:=Later.cell c2;have f3:=Later.cell c3;have f4:=Later.cell c4;have f5:=Later.cell c5;have f6:=Later.cell c6;have g0:=Later.cell (cell_keep K2.out d0);have g1:=Later.cell (cell_keep K2.out d1);have g2:=Later.cell (cell_keep K2.out d2);have g3:=Later.cell (cell_keep K2.out d3);have g4:=Later.cell (cell_keep K2.out d4);have g5:=Later.cell (cell_keep K2.out d5);have g6:=Later.cell (cell_keep K2.out d6);clear c0 c1 c2 c3 c4 c5 c6 c8 d0 d1 d2 d3 d4 d5 d6;refine wp_region_later (by kernel_rfl) (by kernel_rfl) ?_
      repeat (go_big_quiet_step (with_reducible exact Later.call _ (Pn.less_ok y x _)))
      refine wpQuiet_nil ?_
      rintro _ ⟨u,rfl⟩;have K3:=hid (after K2.out u.below);clear f0 f1 f2 f3 f4 f5 f6 f8 g0 g1 g2 g3 g4 g5 g6 K2;generalize u.w=w4 at *;cases hls:Tmr.lt y.tm x.tm
      ·have HF2:=hid (Fo.more hk HX.out hox HLE.out HY.out hls)
       go_wp2_with fail
       exact⟨⟨i+1,k,by omega,by go_num,rfl,HF2,K3⟩,by simp[intOf];omega⟩
      ·have HF2:=hid (Fo.less hk HX.out hox HLE.out HY.out ho hls)
       go_wp2_with fail
       exact⟨⟨i+1,i,by omega,by go_num,rfl,HF2,K3⟩,by simp[intOf];omega⟩
   ·obtain rfl:i=R1.length:=by omega
    have Q2:=hid (Q.out.next K.out);rcases HF.out with ⟨rfl,h⟩|⟨k,x,rfl,hk,hx,hox,hle⟩
    ·have HN:=hid h
     clear h Q K;go_wp2_with fail
     go_ret
     exact⟨_,O,R1,_,b1,rfl,Q2.out.outs,fun q hq=>by
      obtain⟨j,hj⟩:=List.mem_iff_getElem?.1 hq;have:=HN.out j q (lt_of_at hj) hj;omega,Q2.out.out,Q2.out.rg,Q2.out.grown,Q2.out.len,Q2.out.fr⟩
    ·obtain⟨off,cap',he,h2,h3,h4,hcell⟩:=Q2.out.rg.list.some_ Pn.ok (by omega)
     obtain⟨rfl,rfl⟩:AV=some ⟨b1,off,none⟩∧cv=cap':=by simpa using he
     obtain⟨d0,d1,d2,d3,d4,d5,d6⟩:=Tmr.pane_cells hx hcell;have kn:decide ((k:Int)<0)=false:=decide_eq_false (by omega)
     have k0:(k:Int)<R1.length:=by omega
     have HX:=hid hx;have HLE:=hid hle;have ne1:Hid (R1≠[]):=hid fun e=>by rw[e] at hk;simp at hk
     have hws:=hid Q2.out.grown.size;clear hcell he h2 h3 h4 hx hle HF Q K;go_wp2_with (at_builtin;refine wpList_plain rfl fun K' hK'=>Sl.wp_append (K:=Pn.k) Pn.ok (.tmp 57) (.tmp 65) rfl (base:=w.heap.size) (l:=O) (l2:=[x]) (by exact Q2.out.out.next (below1 _ _)) (by exact Sl.Is.one Pn.ok (x:=x) (Lies.new _ _ _)) (by simp only[List.length_singleton];omega) (by have:=hws.out;simp;omega) (fun vo w4 y1 y2 y3=>hK' _ _ ?_);have R4:=hid (Q2.out.app hgr ne1.out (below1 _ _) y1 y2 y3);clear y1 y2 y3;have c8:=R4.out.2.1.lies.cell (i:=8) rfl)
     refine (without_ok _ R1 b1 k _ (hid R4.out.2.1.list) (by omega) hk).mono ?_
     rintro r w5 ⟨u,rfl,ow,k5⟩;obtain⟨b5,-,i5⟩:=ow.is;obtain⟨A5,q5,e5⟩:=i5.len;subst e5;clear i5
     have hfin:=Q2.out.cut hgr HX.out hox (fun q hq ho=>by
      obtain⟨j,hj⟩:=List.mem_iff_getElem?.1 hq;exact HLE.out j q (lt_of_at hj) hj ho) R4.out.1 R4.out.2.1 R4.out.2.2.1 k5 ow
     obtain⟨b2,Q5⟩:=hfin;have Q5:=hid Q5;have l5:=(R4.out.2.1.next k5).lies;have c8:=l5.cell (i:=8) rfl;have o8:=l5.open_ 8;clear ow k5 l5
     have hvo:slen vo=O.length+1:=by
      obtain⟨b6,-,i6⟩:=R4.out.1.is;obtain⟨A6,q6,e6⟩:=i6.len;rw[e6];simp[slen]
     have hle:=Q5.out.len;simp only[List.length_append,List.length_singleton] at hle;have SB2:Hid (∀ q∈R1.take k++R1.drop (k+1),q∈R):=hid fun q hq=>SB.out q (cut_mem hq)
     generalize R1.take k++R1.drop (k+1)=R2 at *;go_wp2_with fail
     exact⟨⟨_,_,_,_,Q5,SB2⟩,by rw[hvo];simp only[slen];omega⟩
end Rg
namespace Rg
open Small Foot Pane Grp
def same(k s e:Int)(p:Pn):Bool:=if k=2 then meets s e p else decide (Eq2 p s e)
def hit(k:Int)(key:ByteArray)(s e:Int)(p:Pn):Bool:=decide (p.key=key)&&same k s e p
abbrev rest(k:Int)(key:ByteArray)(s e:Int)(R:List Pn):List Pn:=R.filter fun p=>!hit k key s e p
abbrev made(k:Int)(key:ByteArray)(s e v:Int)(R:List Pn):Pn:=(R.filter (hit k key s e)).foldl join2 (one key s e v)
theorem take_no{k s e:Int}{key:ByteArray}{R:List Pn}{i:Nat}{p:Pn}(h:R[i]?=some p)(hm:hit k key s e p=false):rest k key s e (R.take (i+1))=rest k key s e (R.take i)++[p]∧(R.take (i+1)).filter (hit k key s e)=(R.take i).filter (hit k key s e):=by
 rw[List.take_add_one,h]
 simp only[rest,List.filter_append,Option.toList_some,List.filter_cons,List.filter_nil,hm]
 simp
theorem take_yes{k s e:Int}{key:ByteArray}{R:List Pn}{i:Nat}{p:Pn}(h:R[i]?=some p)(hm:hit k key s e p=true):rest k key s e (R.take (i+1))=rest k key s e (R.take i)∧(R.take (i+1)).filter (hit k key s e)=(R.take i).filter (hit k key s e)++[p]:=by
 rw[List.take_add_one,h]
 simp only[rest,List.filter_append,Option.toList_some,List.filter_cons,List.filter_nil,hm]
 simp
abbrev zp:Pn:=⟨⟨#[]⟩,0,0,0,0,0,0⟩
structure PS(B:World)(g6 g8:Nat)(s e:Int)(x:Pn)(vr:Value)(R:List Pn)(w:World):Prop where
 below:Below B.heap.size B w
 lo6:B.heap.size≤g6
 lo8:B.heap.size≤g8
 ne:g6≠g8
 win:Lies w g6 129 [.int .i64 s,.int .i64 e]
 one:Lies w g8 133 x.cl
 rest:Sl.Own Pn.k B.heap.size w vr R
 nr:∀ a,vr.ownBlock=some a→a≠g6∧a≠g8
section
variable {B w w':World} {g6 g8:Nat} {s e:Int} {x x':Pn} {vr v':Value} {R R':List Pn}
theorem PS.next(h:PS B g6 g8 s e x vr R w)(k:Below w.heap.size w w'):PS B g6 g8 s e x vr R w':=
 ⟨after h.below k,h.lo6,h.lo8,h.ne,h.win.next k,h.one.next k,h.rest.next k,h.nr⟩
theorem PS.rested(h:PS B g6 g8 s e x vr R w)(o:Sl.Own Pn.k B.heap.size w' v' R')(k:w.grownBy w' vr.ownBlock)(q:v'.ownBlock=vr.ownBlock∨v'.ownBlock=some w.heap.size):PS B g6 g8 s e x v' R' w':=by
 have n6:some g6≠vr.ownBlock:=fun e=>(h.nr g6 e.symm).1 rfl
 have n8:some g8≠vr.ownBlock:=fun e=>(h.nr g8 e.symm).2 rfl
 refine⟨h.below.grown k h.below.size (fun a ha=>(h.rest.lt a ha).1),h.lo6,h.lo8,h.ne,lies_grown h.win k n6,lies_grown h.one k n8,o,fun a ha=>?_⟩
 rcases q with r|r
 ·exact h.nr a (r▸ha)
 ·rw[r] at ha
  have:=Option.some.inj ha;have:=h.win.lt;have:=h.one.lt;omega
theorem PS.oned(h:PS B g6 g8 s e x vr R w)(o:Lies w' g8 133 x'.cl)(k:w.grownBy w' (some g8)):PS B g6 g8 s e x' vr R w':=by
 refine⟨h.below.grown k h.below.size (fun a ha=>by have:=Option.some.inj ha;have:=h.lo8;omega),h.lo6,h.lo8,h.ne,lies_grown h.win k (fun e=>h.ne (Option.some.inj e)),o,h.rest.move fun a ha=>k.block a (h.rest.lt a ha).2 (fun e=>(h.nr a ha).2 (Option.some.inj e)),h.nr⟩
end
def Mq(B g6:Nat)(key:ByteArray)(s e v:Int)(i:Nat)(u:Value)(w:World):Prop:=match i with
 |0=>u=.string key
 |1=>u=win s e
 |2=>u=.int .i64 v
 |3=>u=Agg.agv 1 v v v
 |4=>u=(one key s e v).v
 |5=>∃ g,u=.pointer (some ⟨g,0,none⟩)∧Lies w g 133 zp.cl∧B≤g
 |_=>True
theorem Mq.mono(B g6:Nat)(key:ByteArray)(s e v:Int):∀ i u w w',Mq B g6 key s e v i u w→Below w.heap.size w w'→Mq B g6 key s e v i u w'
 |0,u,w,w',h,k=>h
 |1,u,w,w',h,k=>h
 |2,u,w,w',h,k=>h
 |3,u,w,w',h,k=>h
 |4,u,w,w',h,k=>h
 |5,u,w,w',⟨g,h1,h2,h3⟩,k=>⟨g,h1,h2.next k,h3⟩
 |i+6,u,w,w',h,k=>trivial
def RPutTo(w:World)(gr:Nat)(cf:C8)(R:List Pn)(key:ByteArray)(s e v:Int)(r:Ending)(w':World):Prop:=
 r=.returned (.tuple #[])∧∃ u b,w.heap.size≤b∧Rg w' gr cf u (rest cf.k key s e R++[made cf.k key s e v R]) b∧w.grownBy w' (some gr)
set_option maxRecDepth 100000 in
theorem put_ok(gr:Nat)(cf:C8)(lv:Value)(R:List Pn)(b:Nat)(key:ByteArray)(s e v:Int)(w:World)(H:Hid (Rg w gr cf lv R b))(hn:R.length≤10000):
  Calls Tryz.prog 117 #[gp gr,.string key,win s e,.int .i64 v] w (RPutTo w gr cf R key s e v):=by
 have hgr:gr<w.heap.size:=H.out.lies.lt
 obtain⟨AV,cv,hv⟩:=H.out.list.len
 subst hv
 have X1:=hid (Lies.new w 129 [.int .i64 s,.int .i64 e])
 have KA:=hid (below1 w (Obj.cells #[.int .i64 s,.int .i64 e] 129))
 have X1:Hid (Lies (w.alloc (Obj.cells #[.int .i64 s,.int .i64 e] 129)) w.heap.size 129 [.int .i64 s,.int .i64 e]):=X1
 go_enter Tryz.func117,Tryz.ntmps117
 go_upto_region 1 with fail
 obtain⟨g6,hg6⟩:∃ g,g=w.heap.size:=⟨_,rfl⟩
 rw[←hg6] at X1 ⊢
 have HG:=hid hg6
 clear hg6
 generalize w.alloc (Obj.cells #[.int .i64 s,.int .i64 e] 129)=w2 at *
 refine wp_region_goes Goes.below 6 78 (Mq w2.heap.size g6 key s e v) (by show _=_;kernel_rfl) (by show _=_;kernel_rfl) (by show _=_;kernel_rfl) (Mq.mono w2.heap.size g6 key s e v) ?_ ?_
 ·intro i hi o ho a' w' Kc hd hout hdep hB hK
  match i,hi,ho with
  |0,_,ho=>exact Sl.wp_move _ (Reg.Has.op (p:=Op.move (.tmp 1)) (t:=13) (by show _=_;kernel_rfl) ho).1 (hK _ _ (hout 1 (Reg.Free.out (by show _=_;kernel_rfl))) (Below.refl _ _))
  |1,_,ho=>
   refine wp_val (V:=win s e) (w':=w') ?_ (hK _ _ rfl (Below.refl _ _))
   have hop:=(Reg.Has.op (p:=Op.load 129 (.tmp 6)) (t:=14) (by show _=_;kernel_rfl) ho).1
   have h6:a'.eval (.tmp 6)=.pointer (some ⟨g6,0,none⟩):=(hout 6 (Reg.Free.out (by show _=_;kernel_rfl)))
   have c1:=(X1.out.next hB).cell (i:=0) rfl;have c2:=(X1.out.next hB).cell (i:=1) rfl;generalize a'.eval=ev at h6;simp[execOp,hop,h6,go_sem,c1,c2]
  |2,_,ho=>exact Sl.wp_move _ (Reg.Has.op (p:=Op.move (.tmp 3)) (t:=15) (by show _=_;kernel_rfl) ho).1 (hK _ _ (hout 3 (Reg.Free.out (by show _=_;kernel_rfl))) (Below.refl _ _))
  |3,_,ho=>
   refine wp_call (S:=fun u w2=>u=Agg.agv 1 v v v∧Below w'.heap.size w' w2) (Reg.Has.op (p:=Op.call {callee:=Callee.value (.func 148),args:=#[.tmp 15],argTypes:=#[2]}) (t:=16) (by show _=_;kernel_rfl) ho).1 #[.int .i64 v] (by simp[show a'.eval (.tmp 15)=_ from (hdep 2 (mem_of (by show _=_;kernel_rfl)) 15 (by show _=_;kernel_rfl))]) (fun _ _=>enters Tryz.func148 (by kernel_rfl) rfl _ _) ((Agg.one_ok v w').mono (fun e w2 ⟨h1,h2⟩=>⟨_,h1,rfl,h2⟩)) ?_
   rintro u w2 ⟨rfl,h2⟩;exact hK _ _ rfl h2
  |4,_,ho=>
   refine wp_val (V:=(one key s e v).v) (w':=w') ?_ (hK _ _ rfl (Below.refl _ _))
   have hop:=(Reg.Has.op (p:=Op.build 133 #[(0,.tmp 13),(1,.tmp 14),(2,.tmp 16)]) (t:=17) (by show _=_;kernel_rfl) ho).1
   have h2:a'.eval (.tmp 13)=.string key:=(hdep 0 (mem_of (by show _=_;kernel_rfl)) 13 (by show _=_;kernel_rfl))
   have h3:a'.eval (.tmp 14)=win s e:=(hdep 1 (mem_of (by show _=_;kernel_rfl)) 14 (by show _=_;kernel_rfl))
   have h5:a'.eval (.tmp 16)=Agg.agv 1 v v v:=(hdep 3 (mem_of (by show _=_;kernel_rfl)) 16 (by show _=_;kernel_rfl))
   generalize a'.eval=ev at h2 h3 h5;simp[execOp,hop,h2,h3,h5,go_sem]
  |5,_,ho=>
   refine wp_val (V:=.pointer (some ⟨w'.heap.size,0,none⟩)) (w':=w'.alloc (.cells zp.cl.toArray 133)) ?_ (hK _ _ ⟨_,rfl,Lies.new _ _ _,hB.size⟩ (below1 _ _))
   have hop:=(Reg.Has.op (p:=Op.alloc 133) (t:=8) (by show _=_;kernel_rfl) ho).1
   simp[execOp,hop,go_sem]
 ·intro f w' hv hB hev
  obtain⟨g8,e5,z7,hg⟩:=hv 5 (by omega)
  have e4:f 4=(one key s e v).v:=hv 4 (by omega)
  change wpList _ _ _ [_] (Act.put (Act.put (Act.put (Act.put (Act.put (Act.put _ (some 13) (f 0)) (some 14) (f 1)) (some 15) (f 2)) (some 16) (f 3)) (some 17) (f 4)) (some 8) (f 5)) _
  rw[Rel.puts_zero];clear hv hev;rw[e4,e5];have X2:=hid (X1.out.next hB);have hgl:Hid (g6<w2.heap.size):=hid X1.out.lt
  have D0:PS w g6 g8 s e zp (.slice none 0 0) [] w':=
   ⟨after KA.out hB,by rw[HG.out];exact Nat.le_refl _,by have:=KA.out.size;omega,by have:=hgl.out;omega,X2.out,z7,Sl.Own.nil _ _ _,fun a ha=>(by cases ha)⟩
  obtain⟨⟨z0,z1,z2,z3,z4,z5',z6⟩,y0,y1,y2,y3,y4,y5,y6⟩:=seven z7;have O1:=put7_lies z7 (.string key) (.int .i64 s) (.int .i64 e) (.int .i64 1) (.int .i64 v) (.int .i64 v) (.int .i64 v);have D1:Hid (PS w g6 g8 s e (one key s e v) (.slice none 0 0) [] _):=hid (D0.oned (x':=one key s e v) O1 (grown_cells _ (grown_cells _ (grown_cells _ (grown_cells _ (grown_cells _ (grown_cells _ (grown_cells _ (grown_refl _ _)))))))));go_wp2_with fail
  clear O1 D0 z0 z1 z2 z3 z4 z5' z6 y0 y1 y2 y3 y4 y5 y6 z7 e4 e5 hB X1 X2;go_loopw [9,10] (fun so si wr=>∃ (i:Nat),i≤R.length∧si=.int .i64 i∧Hid (PS w g6 g8 s e (((R.take i).filter (hit cf.k key s e)).foldl join2 (one key s e v)) so (rest cf.k key s e (R.take i)) wr)) (fun _ si _=>R.length-(intOf si).toNat)
  case atStart=>exact⟨0,Nat.zero_le _,rfl,D1⟩
  case round=>
   obtain⟨i,hi,rfl,DI⟩:=hrel;have G1:=hid (H.out.next DI.out.below);have c8:=G1.out.lies.cell (i:=8) rfl;by_cases hlt:i<R.length
   ·obtain⟨off,cap',he,h2,h3,h4,hcell⟩:=G1.out.list.some_ Pn.ok (by omega)
    obtain⟨rfl,rfl⟩:AV=some ⟨b,off,none⟩∧cv=cap':=by simpa using he
    obtain⟨p,hp⟩:=at_some hlt;have HP:=hid hp;obtain⟨x0,x1,x2,x3,x4,x5,x6⟩:=Tmr.pane_cells hp hcell;have i0:(i:Int)<R.length:=by omega
    have XB:=hid (Lies.new wr 133 p.cl);have XB:Hid (Lies (wr.alloc (Obj.cells #[.string p.key,.int .i64 p.s,.int .i64 p.e,.int .i64 p.c,.int .i64 p.m,.int .i64 p.l,.int .i64 p.u] 133)) wr.heap.size 133 p.cl):=XB;have D2:=hid (DI.out.next (below1 wr (Obj.cells #[.string p.key,.int .i64 p.s,.int .i64 p.e,.int .i64 p.c,.int .i64 p.m,.int .i64 p.l,.int .i64 p.u] 133)));clear hcell he h2 h3 h4 hp;go_upto_region 7 with fail
    obtain⟨gx,hgx⟩:∃ g,g=wr.heap.size:=⟨_,rfl⟩;rw[←hgx] at XB ⊢;have ngx:gx≠g8:=by have:=DI.out.one.lt;omega
    clear hgx DI x0 x1 x2 x3 x4 x5 x6 c8;generalize wr.alloc (Obj.cells #[.string p.key,.int .i64 p.s,.int .i64 p.e,.int .i64 p.c,.int .i64 p.m,.int .i64 p.l,.int .i64 p.u] 133)=w3 at *;have G2:=hid (H.out.next D2.out.below);have s1:=D2.out.win.cell (i:=0) rfl;have s2:=D2.out.win.cell (i:=1) rfl;have y1:=XB.out.cell (i:=1) rfl;have y2:=XB.out.cell (i:=2) rfl;clear G1;go_cut [12] from 18 to 70 (fun q wx=>q=.bool (decide (Eq2 p s e))∧wx=w3)
    case first=>
     by_cases h1:p.s=s
     ·by_cases h2:p.e=e
      ·have hd:=hid (show decide (Eq2 p s e)=true from decide_eq_true ⟨h1,h2⟩)
       have b1:(p.s == s)=true:=by simpa using h1
       have b2:(p.e == e)=true:=by simpa using h2
       clear h1 h2;go_wp2_with fail
       go_meet
       case rel=>exact⟨by rw[hd.out],rfl⟩
      ·have hd:=hid (show decide (Eq2 p s e)=false from decide_eq_false fun q=>h2 q.2)
       have b1:(p.s == s)=true:=by simpa using h1
       have b2:(p.e == e)=false:=by simpa using h2
       clear h1 h2;go_wp2_with fail
       go_meet
       case rel=>exact⟨by rw[hd.out],rfl⟩
     ·have hd:=hid (show decide (Eq2 p s e)=false from decide_eq_false fun q=>h1 q.1)
      have b1:(p.s == s)=false:=by simpa using h1
      clear h1;go_wp2_with fail
      go_meet
      case rel=>exact⟨by rw[hd.out],rfl⟩
    case rest=>
    obtain⟨rfl,hwc⟩:=hcut;subst hwc;have c0:=G2.out.lies.cell (i:=0) rfl;go_upto_if 43 with fail
    go_cut [12] from 18 to 70 (fun q wx=>q=.bool (same cf.k s e p)∧Hid (PS w g6 g8 s e (((R.take i).filter (hit cf.k key s e)).foldl join2 (one key s e v)) u9 (rest cf.k key s e (R.take i)) wx)∧Hid (Lies wx gx 133 p.cl))
    case first=>
     by_cases h2:cf.k=2
     ·have e2:(cf.k == 2)=true:=by simpa using h2
      go_wp2_with fail
      refine (RefSpan.meet_ok p.s p.e s e _).mono ?_
      rintro r w4 ⟨rfl,k4⟩;have D3:=hid (D2.out.next k4);have XC:=hid (XB.out.next k4);go_wp2_with fail
      go_meet
      case rel=>exact⟨by rw[same,if_pos h2],D3,XC⟩
     ·have e2:(cf.k == 2)=false:=by simpa using h2
      go_wp2_with fail
      go_meet
      case rel=>exact⟨by rw[same,if_neg h2],D2,XB⟩
    case rest=>
     obtain⟨rfl,D3,XC⟩:=hcut;clear s1 s2 y1 y2 c0 D2 XB G2;obtain⟨sm,hsm⟩:∃ sm,sm=same cf.k s e p:=⟨_,rfl⟩;rw[←hsm];have x0:=XC.out.cell (i:=0) rfl;have x1:=XC.out.cell (i:=1) rfl;have x2:=XC.out.cell (i:=2) rfl;have x3:=XC.out.cell (i:=3) rfl;have x4:=XC.out.cell (i:=4) rfl;have x5:=XC.out.cell (i:=5) rfl;have x6:=XC.out.cell (i:=6) rfl;have hw:=hid D3.out.below.size
     have hfl:Hid ((rest cf.k key s e (R.take i)).length≤R.length):=hid (by
      have h1:=List.length_filter_le (fun p=>!hit cf.k key s e p) (R.take i)
      rw[List.length_take] at h1;simp only[rest];omega)
     by_cases hk:p.key=key
     ·have hkk:(p.key.toList == key.toList)=true:=by simp[hk]
      cases sm
      ·have HT:Hid (hit cf.k key s e p=false):=hid (by simp[hit,←hsm])
       clear hsm hk;obtain⟨t1,t2⟩:=take_no HP.out HT.out;have T1:=hid t1;have T2:=hid t2;clear t1 t2;go_wp2_with (at_builtin;refine wpList_plain rfl fun K' hK'=>Sl.wp_append (K:=Pn.k) Pn.ok (.tmp 67) (.tmp 69) rfl (base:=w.heap.size) (l:=rest cf.k key s e (R.take i)) (l2:=[p]) (by exact D3.out.rest.next (below1 _ _)) (by exact Sl.Is.one Pn.ok (x:=p) (Lies.new _ _ _)) (by have:=hfl.out;simp only[List.length_singleton];omega) (by have:=hw.out;simp;omega) (fun v' w5 q1 q2 q3=>hK' _ _ ?_);have D5:=hid ((D3.out.next (below1 _ _)).rested q1 q2 q3);clear q1 q2 q3)
       exact⟨⟨i+1,by omega,by go_num,hid (by rw[T1.out,T2.out];exact D5.out)⟩,by simp[intOf];omega⟩
      ·have HT:Hid (hit cf.k key s e p=true):=hid (by simp[hit,←hsm,hk])
       clear hsm hk;obtain⟨t1,t2⟩:=take_yes HP.out HT.out;have T1:=hid t1;have T2:=hid t2;clear t1 t2;obtain⟨x,hx⟩:∃ x,x=((R.take i).filter (hit cf.k key s e)).foldl join2 (one key s e v):=⟨_,rfl⟩;rw[←hx] at D3;have X:=hid hx;clear hx;obtain⟨ns,hns⟩:∃ ns,Hid (ns=min x.s p.s):=⟨_,hid rfl⟩;obtain⟨ne,hne⟩:∃ ne,Hid (ne=max x.e p.e):=⟨_,hid rfl⟩;have J:=hid fun w:World=>RefSpan.join_ok x.s x.e p.s p.e ns ne w hns hne
       have G:=hid fun w:World=>Agg.ref_ok (ag x) (ag p) w
       have XJ:Hid (join2 x p=mk x.key ns ne (Agg.mrg (ag x) (ag p))):=hid (by rw[hns.out,hne.out])
       generalize Agg.mrg (ag x) (ag p)=z at *;have o1:=D3.out.one.cell (i:=1) rfl;have o2:=D3.out.one.cell (i:=2) rfl;go_wp2_with fail
       refine (J.out _).mono ?_
       rintro r w5 ⟨rfl,k5⟩;have D4:=hid (D3.out.next k5);have XD:=hid (XC.out.next k5);clear D3 XC k5 o1 o2 x0 x1 x2 x3 x4 x5 x6;obtain⟨⟨o0,o1,o2,o3,o4,o5,o6⟩,z0,z1,z2,z3,z4,z5,z6⟩:=seven D4.out.one;have G8:=grown_cells (i:=2) (.int .i64 ne) (grown_cells (i:=1) (.int .i64 ns) (grown_refl w5 g8))
       have D5:Hid (PS w g6 g8 s e ⟨x.key,ns,ne,x.c,x.m,x.l,x.u⟩ u9 (rest cf.k key s e (R.take i)) ((w5.setCell ⟨g8,1,none⟩ (.int .i64 ns)).setCell ⟨g8,2,none⟩ (.int .i64 ne))):=
        hid (D4.out.oned (x':=⟨x.key,ns,ne,x.c,x.m,x.l,x.u⟩) ((D4.out.one.put 1 (.int .i64 ns)).put 2 (.int .i64 ne)) G8)
       have XE:Hid (Lies ((w5.setCell ⟨g8,1,none⟩ (.int .i64 ns)).setCell ⟨g8,2,none⟩ (.int .i64 ne)) gx 133 p.cl):=hid (lies_grown XD.out G8 (fun q=>ngx (Option.some.inj q)))
       clear G8;go_upto_region 12 with fail
       generalize (w5.setCell ⟨g8,1,none⟩ (.int .i64 ns)).setCell ⟨g8,2,none⟩ (.int .i64 ne)=w6 at *;clear D4 XD o0 o1 o2 o3 o4 o5 o6 z0 z1 z2 z3 z4 z5 z6;have o3:=D5.out.one.cell (i:=3) rfl;have o4:=D5.out.one.cell (i:=4) rfl;have o5:=D5.out.one.cell (i:=5) rfl;have o6:=D5.out.one.cell (i:=6) rfl;have x3:=XE.out.cell (i:=3) rfl;have x4:=XE.out.cell (i:=4) rfl;have x5:=XE.out.cell (i:=5) rfl;have x6:=XE.out.cell (i:=6) rfl;go_wp2_with fail
       refine (G.out _).mono ?_
       rintro r w7 ⟨rfl,k7⟩;have D6:=hid (D5.out.next k7);clear D5 XE k7 o3 o4 o5 o6 x3 x4 x5 x6;obtain⟨⟨o0,o1,o2,o3,o4,o5,o6⟩,z0,z1,z2,z3,z4,z5,z6⟩:=seven D6.out.one
       have D7:Hid (PS w g6 g8 s e ⟨x.key,ns,ne,z.c,z.s,z.l,z.u⟩ u9 (rest cf.k key s e (R.take i)) ((((w7.setCell ⟨g8,3,none⟩ (.int .i64 z.c)).setCell ⟨g8,4,none⟩ (.int .i64 z.s)).setCell ⟨g8,5,none⟩ (.int .i64 z.l)).setCell ⟨g8,6,none⟩ (.int .i64 z.u))):=
        hid (D6.out.oned (x':=⟨x.key,ns,ne,z.c,z.s,z.l,z.u⟩) ((((D6.out.one.put 3 (.int .i64 z.c)).put 4 (.int .i64 z.s)).put 5 (.int .i64 z.l)).put 6 (.int .i64 z.u)) (grown_cells _ (grown_cells _ (grown_cells _ (grown_cells _ (grown_refl _ _))))))
       have hfold:Hid (((R.take (i+1)).filter (hit cf.k key s e)).foldl join2 (one key s e v)=⟨x.key,ns,ne,z.c,z.s,z.l,z.u⟩):=hid (by
        rw[T2.out,List.foldl_append];show join2 (((R.take i).filter (hit cf.k key s e)).foldl join2 (one key s e v)) p=_
        rw[←X.out];exact XJ.out)
       go_wp2_with fail
       exact⟨⟨i+1,by omega,by go_num,hid (by rw[hfold.out,T1.out];exact D7.out)⟩,by simp[intOf];omega⟩
     ·have hkk:(p.key.toList == key.toList)=false:=by
       rw[beq_eq_false_iff_ne];exact fun q=>hk (Pn.bytes_ext.1 q)
      have HT:Hid (hit cf.k key s e p=false):=hid (by simp[hit,hk])
      clear hsm hk;obtain⟨t1,t2⟩:=take_no HP.out HT.out;have T1:=hid t1;have T2:=hid t2;clear t1 t2;go_wp2_with (at_builtin;refine wpList_plain rfl fun K' hK'=>Sl.wp_append (K:=Pn.k) Pn.ok (.tmp 67) (.tmp 69) rfl (base:=w.heap.size) (l:=rest cf.k key s e (R.take i)) (l2:=[p]) (by exact D3.out.rest.next (below1 _ _)) (by exact Sl.Is.one Pn.ok (x:=p) (Lies.new _ _ _)) (by have:=hfl.out;simp only[List.length_singleton];omega) (by have:=hw.out;simp;omega) (fun v' w5 q1 q2 q3=>hK' _ _ ?_);have D5:=hid ((D3.out.next (below1 _ _)).rested q1 q2 q3);clear q1 q2 q3)
      exact⟨⟨i+1,by omega,by go_num,hid (by rw[T1.out,T2.out];exact D5.out)⟩,by simp[intOf];omega⟩
   ·obtain rfl:i=R.length:=by omega
    rw[List.take_length] at DI;obtain⟨x,hx⟩:∃ x,x=(R.filter (hit cf.k key s e)).foldl join2 (one key s e v):=⟨_,rfl⟩;have X:=hid hx;rw[←hx] at DI;clear hx;have o0:=DI.out.one.cell (i:=0) rfl;have o1:=DI.out.one.cell (i:=1) rfl;have o2:=DI.out.one.cell (i:=2) rfl;have o3:=DI.out.one.cell (i:=3) rfl;have o4:=DI.out.one.cell (i:=4) rfl;have o5:=DI.out.one.cell (i:=5) rfl;have o6:=DI.out.one.cell (i:=6) rfl;have hw:=hid DI.out.below.size;have hfl:Hid ((rest cf.k key s e R).length≤R.length):=hid (List.length_filter_le _ _);go_wp2_with (at_builtin;refine wpList_plain rfl fun K' hK'=>Sl.wp_append (K:=Pn.k) Pn.ok (.tmp 72) (.tmp 74) rfl (base:=w.heap.size) (l:=rest cf.k key s e R) (l2:=[x]) (by exact DI.out.rest.next (below1 _ _)) (by exact Sl.Is.one Pn.ok (x:=x) (Lies.new _ _ _)) (by have:=hfl.out;simp only[List.length_singleton];omega) (by have:=hw.out;simp;omega) (fun u w5 q1 q2 q3=>hK' _ _ ?_);have D5:=hid ((DI.out.next (below1 _ _)).rested q1 q2 q3);clear q1 q2 q3;have hR:∃ R2,Hid (R2=rest cf.k key s e R++[x]):=⟨_,hid rfl⟩;obtain⟨R2,hR2⟩:=hR;rw[←hR2.out] at D5;obtain⟨b9,-,i9⟩:=D5.out.rest.is;obtain⟨A9,c9,e9⟩:=i9.len;subst e9;clear i9;have G5:=hid (H.out.next D5.out.below);have c8:=G5.out.lies.cell (i:=8) rfl;have y8:=G5.out.lies.open_ 8)
    have fin:=G5.out.put D5.out.rest hgr;obtain⟨b2,hb2,FR⟩:=fin;have FR:=hid FR;have FG:=hid ((⟨D5.out.below.os,D5.out.below.tape,D5.out.below.output,D5.out.below.size,fun i hi _=>D5.out.below.block i hi⟩:w.grownBy w5 (some gr)).andThen (set_grown w5 gr 8 (.slice A9 R2.length c9)) (fun j hj=>.inr hj))
    exact bodyPost_end (v:=.tuple #[]) (by simp[results,Tryz.results117,go_sem]) rfl ⟨rfl,_,b2,hb2,by show Rg _ gr cf _ (rest cf.k key s e R++[(R.filter (hit cf.k key s e)).foldl join2 (one key s e v)]) b2;rw[←X.out,←hR2.out];exact FR.out,FG.out⟩
end Rg
namespace Rg
open Small Foot Pane Grp
def putR(k:Int)(key:ByteArray)(s e v:Int)(R:List Pn):List Pn:=rest k key s e R++[made k key s e v R]
theorem putR_len(k:Int)(key:ByteArray)(s e v:Int)(R:List Pn):(putR k key s e v R).length≤R.length+1:=by
 have:=List.length_filter_le (fun p=>!hit k key s e p) R
 simp only[putR,List.length_append,List.length_singleton,rest]
 omega
def tk(k:Int)(key:ByteArray)(v z mark a d l:Int)(R:List Pn):Nat→List Pn
 |0=>R
 |i+1=>if a+i*d+l+z≤mark then tk k key v z mark a d l R i else putR k key (a+i*d) (a+i*d+l) v (tk k key v z mark a d l R i)
theorem tk_len(k:Int)(key:ByteArray)(v z mark a d l:Int)(R:List Pn)(i:Nat):(tk k key v z mark a d l R i).length≤R.length+i:=by
 induction i with
 |zero=>exact Nat.le_refl _
 |succ i ih=>
  simp only[tk]
  split
  ·omega
  ·have:=putR_len k key (a+i*d) (a+i*d+l) v (tk k key v z mark a d l R i)
   omega
theorem wins_stay{w w':World}{gr gw nn b b':Nat}{cf:C8}{v v':Value}{L L':List Pn}{a d l:Int}(h:Rg w gr cf v L b)(h':Rg w' gr cf v' L' b')(k:w.grownBy w' (some gr))(hw:Asg.Wins w gw nn a d l):Asg.Wins w' gw nn a d l:=by
 intro i hi
 by_cases e:gw=gr
 ·subst e
  have four:i<4:=by
   rcases Nat.lt_or_ge i 4 with q|q
   ·exact q
   ·have h8:=(hw 4 (by omega)).1
    rw[show 4*2=8 from rfl,h.lies.cell (i:=8) rfl] at h8
    obtain⟨A,c,hv⟩:=h.list.len;rw[hv] at h8;cases h8
  obtain⟨h0,h1⟩:=hw i hi
  match i,four with
  |0,_=>exact⟨by rw[←h0];exact (h'.lies.cell (i:=0) rfl).trans (h.lies.cell (i:=0) rfl).symm,by rw[←h1];exact (h'.lies.cell (i:=1) rfl).trans (h.lies.cell (i:=1) rfl).symm⟩
  |1,_=>exact⟨by rw[←h0];exact (h'.lies.cell (i:=2) rfl).trans (h.lies.cell (i:=2) rfl).symm,by rw[←h1];exact (h'.lies.cell (i:=3) rfl).trans (h.lies.cell (i:=3) rfl).symm⟩
  |2,_=>exact⟨by rw[←h0];exact (h'.lies.cell (i:=4) rfl).trans (h.lies.cell (i:=4) rfl).symm,by rw[←h1];exact (h'.lies.cell (i:=5) rfl).trans (h.lies.cell (i:=5) rfl).symm⟩
  |3,_=>exact⟨by rw[←h0];exact (h'.lies.cell (i:=6) rfl).trans (h.lies.cell (i:=6) rfl).symm,by rw[←h1];exact (h'.lies.cell (i:=7) rfl).trans (h.lies.cell (i:=7) rfl).symm⟩
 ·obtain⟨h0,h1⟩:=hw i hi
  have hl:=World.block_lt_of_cell? _ _ h0;have hb:=k.block gw hl (fun q=>e (Option.some.inj q))
  exact⟨(cell_block (a:=⟨gw,i*2,none⟩) hb).trans h0,(cell_block (a:=⟨gw,i*2+1,none⟩) hb).trans h1⟩
structure RT(w:World)(gr:Nat)(cf:C8)(b0:Nat)(sv:Value)(O R':List Pn)(u:Value)(b:Nat)(wr:World):Prop where
 rg:Rg wr gr cf u R' b
 grown:w.grownBy wr (some gr)
 out:Sl.Own Pn.k w.heap.size wr sv O
 fr:b=b0∨w.heap.size≤b
section
variable {w wr w':World} {gr b b0:Nat} {cf:C8} {sv u:Value} {O R':List Pn}
theorem RT.next(h:RT w gr cf b0 sv O R' u b wr)(k:Below wr.heap.size wr w'):RT w gr cf b0 sv O R' u b w':=
 ⟨h.rg.next k,h.grown.andThen ⟨k.os,k.tape,k.output,k.size,fun i hi _=>k.block i hi⟩ (fun j hj=>.inr hj),h.out.next k,h.fr⟩
theorem RT.put{R2:List Pn}{u2:Value}{b2:Nat}(h:RT w gr cf b0 sv O R' u b wr)(hg:gr<w.heap.size)(hb2:wr.heap.size≤b2)(r:Rg w' gr cf u2 R2 b2)(k:wr.grownBy w' (some gr)):RT w gr cf b0 sv O R2 u2 b2 w':=
 ⟨r,h.grown.andThen k (fun j hj=>.inr hj),h.out.move fun a ha=>k.block a (h.out.lt a ha).2 (fun e=>by have:=(h.out.lt a ha).1;have:=Option.some.inj e;omega),.inr (by have:=h.grown.size;omega)⟩
end
def RTaken(k:Int)(key:ByteArray)(v z mark:Int):Option (Nat×Int×Int×Int)→List Pn→Int→List Pn→Prop
 |none,R1,code,R'=>code=4∧R'=R1
 |some (nn,a,d,l),R1,code,R'=>R'=tk k key v z mark a d l R1 nn∧code=if live a d l z mark nn=0 then 1 else 0
def RTakeTo(w:World)(gr:Nat)(cf:C8)(R:List Pn)(b0:Nat)(key:ByteArray)(v mark:Int)(x:Option (Nat×Int×Int×Int))(r:Ending)(w':World):Prop:=
 ∃ sv O R1 R' u b code,r=.returned (.tuple #[.int .i64 code,sv])∧ROuts cf.z mark R O R1∧(∀ q,q∈R1→¬q.e+cf.z≤mark)∧RTaken cf.k key v cf.z mark x R1 code R'∧RT w gr cf b0 sv O R' u b w'∧O.length+R1.length=R.length
def codeL(n:Nat):Int:=if n=0 then 1 else 0
set_option maxRecDepth 100000 in
theorem take_ok(gr:Nat)(cf:C8)(lv:Value)(R:List Pn)(b:Nat)(key:ByteArray)(t v mark:Int)(x:Option (Nat×Int×Int×Int))(w:World)(H:Hid (Rg w gr cf lv R b))(hn:R.length≤9000)(M:Hid (Asg.may cf.k cf.s cf.l cf.g cf.z cf.h cf.r cf.c))(B:Hid (cf.s≤9223372036854775807∧cf.l≤9223372036854775807∧cf.g≤9223372036854775807∧cf.z≤9223372036854775807))
  (ft:Hid ((Lit.int .i64 t).wf=true)) (fk:Hid ((Lit.int .i64 mark).wf=true)) (fe:Hid (∀ p∈R,(Lit.int .i64 p.e).wf=true)) (T:Hid (Asg.Told cf.k cf.s cf.l cf.g cf.z t x)):
  Calls Tryz.prog 81 #[gp gr,.string key,.int .i64 t,.int .i64 v,.int .i64 mark] w (RTakeTo w gr cf R b key v mark x):=by
 have fz:Hid ((Lit.int .i64 cf.z).wf=true):=hid (wf_of (by have:=M.out.2.1;omega) B.out.2.2.2)
 have hgr:gr<w.heap.size:=H.out.lies.lt
 go_enter Tryz.func81,Tryz.ntmps81
 go_wp2_with fail
 refine (settle_ok gr cf lv R b mark w H (by omega) fz fk fe).mono ?_
 rintro r w1 ⟨sv,O,R1,lv1,b1,rfl,ho,hno,out1,rg1,gr1,hlen,fr1⟩
 have T1:Hid (RT w gr cf b sv O R1 lv1 b1 w1):=hid ⟨rg1,gr1,out1,fr1⟩
 have OU:=hid ho
 have NO:=hid hno
 have c0:=rg1.lies.cell (i:=0) rfl
 have c1:=rg1.lies.cell (i:=1) rfl
 have c2:=rg1.lies.cell (i:=2) rfl
 have c3:=rg1.lies.cell (i:=3) rfl
 have c4:=rg1.lies.cell (i:=4) rfl
 have c5:=rg1.lies.cell (i:=5) rfl
 have c6:=rg1.lies.cell (i:=6) rfl
 have c7:=rg1.lies.cell (i:=7) rfl
 have hR1:R1.length≤9000:=by omega
 clear ho hno out1 rg1 gr1 fr1
 go_wp2_with fail
 refine (RefAsg.of_ok cf.k cf.s cf.l cf.g cf.z cf.h cf.r cf.c t x _ B.out.1 B.out.2.1 B.out.2.2.1 B.out.2.2.2 (fit ft.out).1 (fit ft.out).2 M.out T.out).mono ?_
 rintro r w2 ⟨u1,u2,rfl,hR,k2⟩
 have T2:=hid (T1.out.next k2)
 clear c0 c1 c2 c3 c4 c5 c6 c7 T1
 cases x with
 |none=>
  obtain⟨rfl,rfl⟩:=hR;clear k2;go_wp2_with fail
  go_ret2;exact⟨_,_,_,_,_,_,_,rfl,OU.out,fun q hq=>by have:=NO.out q hq;omega,⟨rfl,rfl⟩,T2.out,hlen⟩
 |some y=>
  obtain⟨nn,a,d,l⟩:=y;obtain⟨gw,gc,rfl,rfl,hW⟩:=hR;obtain⟨n16,n0,l0,n2,FW⟩:=told_fits M.out (fit ft.out).1 B.out.1 B.out.2.2.1 T.out;have FW:=hid FW;have WN:=hid hW;clear hW k2;go_wp2_with fail
  go_loopw [15,16] (fun sc si wr=>∃ (i:Nat) (u:Value) (b':Nat),i≤nn∧sc=.int .i64 (codeL (live a d l cf.z mark i))∧si=.int .i64 i∧Hid (RT w gr cf b sv O (tk cf.k key v cf.z mark a d l R1 i) u b' wr)∧Hid (Asg.Wins wr gw nn a d l)) (fun _ si _=>nn-(intOf si).toNat)
  case atStart=>exact⟨0,lv1,b1,Nat.zero_le _,rfl,rfl,T2,WN⟩
  case round=>
   obtain⟨i,u,b',hi,rfl,rfl,Q,W⟩:=hrel;by_cases hlt:i<nn
   ·obtain⟨x0,x1⟩:=W.out i hlt
    obtain⟨b0,b1⟩:=FW.out i hlt;have z0:=M.out.2.1;have f0:=Later.cell x0;have f1:=Later.cell x1;have f4:=Later.cell (Q.out.rg.lies.cell (i:=4) rfl);have i0:(i:Int)<(nn:Int):=by omega
    have hm:=fit fk.out;have hzf:=fit fz.out
    have htl:(tk cf.k key v cf.z mark a d l R1 i).length≤10000:=by
     have:=tk_len cf.k key v cf.z mark a d l R1 i;omega
    obtain⟨ov,hov⟩:∃ ov,ov=decide (a+(i:Int)*d+l+cf.z≤mark):=⟨_,rfl⟩
    have OV:Hid (∀ w,Calls Tryz.prog 78 #[win (a+i*d) (a+i*d+l),.int .i64 cf.z,.int .i64 mark] w fun r w'=>r=.returned (.bool ov)∧Below w.heap.size w w'):=
     hid fun w=>by rw[hov];exact RefSpan.over_ok (a+i*d) (a+i*d+l) cf.z mark w (by omega) (by omega) hzf.1 hzf.2 hm.1 hm.2
    clear x0 x1 hm hzf;go_upto_region 9 with fail
    refine wp_region_later (by kernel_rfl) (by kernel_rfl) ?_
    repeat (go_big_quiet_step (with_reducible exact Later.call _ (OV.out _)))
    refine wpQuiet_nil ?_
    rintro _ ⟨q,rfl⟩;have Q2:=hid (Q.out.next q.below);have W2:=hid (W.out.next q.below);clear f0 f1 f4 Q W OV;generalize q.w=w4 at *;cases ov
    ·have ho:¬a+(i:Int)*d+l+cf.z≤mark:=of_decide_eq_false hov.symm
     clear hov;obtain⟨x0,x1⟩:=W2.out i hlt;have e1:Hid (tk cf.k key v cf.z mark a d l R1 (i+1)=putR cf.k key (a+i*d) (a+i*d+l) v (tk cf.k key v cf.z mark a d l R1 i)):=hid (by simp only[tk];rw[if_neg ho])
     have e2:Hid (live a d l cf.z mark (i+1)=live a d l cf.z mark i+1):=hid (by simp only[live];rw[if_neg ho])
     clear ho;go_wp2_with fail
     refine (put_ok gr cf u _ b' key (a+i*d) (a+i*d+l) v _ (hid Q2.out.rg) htl).mono ?_
     rintro r w5 ⟨rfl,u5,b5,fb5,r5,g5⟩;have Q5:Hid (RT w gr cf b sv O (tk cf.k key v cf.z mark a d l R1 (i+1)) u5 b5 w5):=hid (by rw[e1.out];exact Q2.out.put hgr fb5 r5 g5)
     have W5:=hid (wins_stay Q2.out.rg r5 g5 W2.out);clear Q2 W2 fb5 r5 g5 x0 x1;go_wp2_with fail
     go_roundw
     case rel=>exact⟨i+1,u5,b5,by omega,by rw[e2.out];rfl,by go_num,Q5,W5⟩
     case measure=>simp[intOf];omega
    ·have ho:a+(i:Int)*d+l+cf.z≤mark:=of_decide_eq_true hov.symm
     clear hov;have e1:Hid (tk cf.k key v cf.z mark a d l R1 (i+1)=tk cf.k key v cf.z mark a d l R1 i):=hid (by simp only[tk];rw[if_pos ho])
     have e2:Hid (live a d l cf.z mark (i+1)=live a d l cf.z mark i):=hid (by simp only[live];rw[if_pos ho];rfl)
     clear ho;go_wp2_with fail
     go_roundw
     case rel=>exact⟨i+1,u,b',by omega,by rw[e2.out],by go_num,hid (by rw[e1.out];exact Q2.out),W2⟩
     case measure=>simp[intOf];omega
   ·obtain rfl:i=nn:=by omega
    go_wp2_with fail
    go_ret2;exact⟨_,_,_,_,_,_,_,rfl,OU.out,fun q hq=>by have:=NO.out q hq;omega,⟨rfl,rfl⟩,Q.out,hlen⟩
end Rg
namespace Rg
open Small Foot Pane Grp
abbrev ofKey(key:ByteArray)(R:List Pn):List Pn:=R.filter fun p=>decide (p.key=key)
abbrev Ahd(p q:Pn):Prop:=p.s<q.s∨(p.s=q.s∧p.e<q.e)
theorem cmp_neg{p q:Pn}:decide (Spn.cmpW p.s p.e q.s q.e<0)=decide (Ahd p q):=by
 simp only[Spn.cmpW,Spn.cmp3,Ahd]
 rw[Bool.eq_iff_iff]
 simp only[decide_eq_true_eq]
 split
 ·omega
 ·split
  ·omega
  ·split
   ·omega
   ·split<;>omega
def Beh(p:Pn)(P:List Pn)(k:Nat):Prop:=∀ j q,k≤j→P[j]?=some q→Ahd p q
theorem beh_at{p:Pn}{P:List Pn}{k:Nat}(R:Rises P)(hk:k≤P.length)(h:Beh p P k)(ne:∀ x∈P,¬Eq2 x p.s p.e)(stop:∀ q,0<k→P[k-1]?=some q→¬Ahd p q):At P p.s p.e k:=by
 refine⟨hk,fun i x hi hx=>?_,fun i x hi hx=>?_⟩
 ·obtain⟨q,hq⟩:=at_some (L:=P) (i:=k-1) (by omega)
  have h1:=stop q (by omega) hq
  have h2:=ne q (List.mem_of_getElem? hq);by_cases e:i=k-1
  ·subst e
   rw[hx] at hq;obtain rfl:=Option.some.inj hq;simp only[Ahd,Eq2,Ah] at *;omega
  ·have h3:=R.at (by omega:i<k-1) hx hq
   simp only[Ahd,Eq2,Ah] at *;omega
 ·have:=h i x hi hx
  simp only[Ahd,Ah] at *;omega
structure PSt(key:ByteArray)(R:List Pn)(i:Nat)(P:List Pn):Prop where
 perm:P.Perm (ofKey key (R.take i))
 up:Rises P
theorem PSt.not{key:ByteArray}{R P:List Pn}{i:Nat}{p:Pn}(h:PSt key R i P)(hp:R[i]?=some p)(hk:p.key≠key):PSt key R (i+1) P:=by
 refine⟨?_,h.up⟩
 rw[List.take_add_one,hp]
 simp only[ofKey,List.filter_append,Option.toList_some,List.filter_cons,List.filter_nil]
 simpa [hk] using h.perm
theorem PSt.fresh{key:ByteArray}{R P:List Pn}{i:Nat}{p:Pn}(h:PSt key R i P)(hp:R[i]?=some p)(hk:p.key=key)(D:(ofKey key R).Pairwise fun p q=>¬Eq2 p q.s q.e):∀ x∈P,¬Eq2 x p.s p.e:=by
 intro x hx
 have hx:=h.perm.mem_iff.1 hx
 have e:ofKey key R=ofKey key (R.take i)++ofKey key (R.drop i):=by rw[ofKey,ofKey,ofKey,←List.filter_append,List.take_append_drop]
 rw[e] at D
 refine (List.pairwise_append.1 D).2.2 x hx p ?_
 refine List.mem_filter.2 ⟨?_,by simpa using hk⟩
 rw[List.mem_iff_getElem?]
 exact⟨0,by rw[List.getElem?_drop];simpa using hp⟩
theorem PSt.yes{key:ByteArray}{R P:List Pn}{i k:Nat}{p:Pn}(h:PSt key R i P)(hp:R[i]?=some p)(hk:p.key=key)(ne:∀ x∈P,¬Eq2 x p.s p.e)(a:At P p.s p.e k):PSt key R (i+1) (P.take k++p::P.drop k):=by
 refine⟨?_,rises_ins h.up a ne⟩
 rw[List.take_add_one,hp]
 simp only[ofKey,List.filter_append,Option.toList_some,List.filter_cons,List.filter_nil]
 simp only[hk,decide_true,if_true]
 refine List.perm_middle.trans ((List.Perm.cons p ?_).trans (List.perm_append_singleton p _).symm)
 rw[List.take_append_drop]
 exact h.perm
theorem PSt.len{key:ByteArray}{R P:List Pn}{i:Nat}(h:PSt key R i P):P.length≤R.length:=by
 rw[h.perm.length_eq]
 have:=List.length_filter_le (fun p:Pn=>decide (p.key=key)) (R.take i)
 rw[List.length_take] at this
 simp only[ofKey]
 omega
set_option maxRecDepth 100000 in
theorem panes_ok(gr:Nat)(cf:C8)(lv:Value)(R:List Pn)(b:Nat)(key:ByteArray)(w:World)(H:Hid (Rg w gr cf lv R b))(hn:R.length≤10000)(D:Hid ((ofKey key R).Pairwise fun p q=>¬Eq2 p q.s q.e)):
  Calls Tryz.prog 82 #[gp gr,.string key] w fun r w'=>∃ v' P,r=.returned v'∧P.Perm (ofKey key R)∧Rises P∧Sl.Own Pn.k w.heap.size w' v' P∧Below w.heap.size w w':=by
 obtain⟨AV,cv,hv⟩:=H.out.list.len
 subst hv
 go_enter Tryz.func82,Tryz.ntmps82
 go_wp2_with fail
 go_loopw [5,6] (fun so si wr=>∃ (i:Nat) (P:List Pn),i≤R.length∧si=.int .i64 i∧Hid (PSt key R i P)∧Hid (Sl.Own Pn.k w.heap.size wr so P)∧Hid (Below w.heap.size w wr)) (fun _ si _=>R.length-(intOf si).toNat)
 case atStart=>exact⟨0,[],Nat.zero_le _,rfl,hid ⟨by simp[ofKey],List.Pairwise.nil⟩,hid (Sl.Own.nil _ _ _),hid (Below.refl _ _)⟩
 case round=>
  obtain⟨i,P,hi,rfl,PP,O,K⟩:=hrel;have G1:=hid (H.out.next K.out);have c8:=G1.out.lies.cell (i:=8) rfl;obtain⟨bo,-,io⟩:=O.out.is;obtain⟨AO,co,hv⟩:=io.len;subst hv;have IO:=hid io;clear io;by_cases hlt:i<R.length
  ·obtain⟨off,cap',he,h2,h3,h4,hcell⟩:=G1.out.list.some_ Pn.ok (by omega)
   obtain⟨rfl,rfl⟩:AV=some ⟨b,off,none⟩∧cv=cap':=by simpa using he
   obtain⟨p,hp⟩:=at_some hlt;have HP:=hid hp;have CELL:=hid (Tmr.pane_cells hp hcell);obtain⟨x0,-,-,-,-,-,-⟩:=CELL.out;have i0:(i:Int)<R.length:=by omega
   have hpl:=PP.out.len;clear hcell he h2 h3 h4 hp;by_cases hk:p.key=key
   ·have hkk:(p.key.toList == key.toList)=true:=by simp[hk]
    have NE:=hid (PP.out.fresh HP.out hk D.out);have HK:=hid hk;clear hk;go_wp2_with fail
    go_loopw [7] (fun sa wk=>∃ k:Nat,k≤P.length∧sa=.int .i64 k∧Hid (Beh p P k)∧Hid (Below wr.heap.size wr wk)) (fun sa _=>(intOf sa).toNat)
    case atStart=>exact⟨P.length,Nat.le_refl _,rfl,hid (fun j q hj hq=>absurd (lt_of_at hq) (by omega)),hid (Below.refl _ _)⟩
    case round=>
     obtain⟨k,hkl,rfl,BH,K2⟩:=hrel;rcases Nat.eq_zero_or_pos k with hk0|hk0
     ·have STOP:Hid (∀ q,0<k→P[k-1]?=some q→¬Ahd p q):=hid (fun q h=>absurd h (by omega))
      subst hk0;go_upto_region 7 with fail
      have f8:=Later.cell (cell_keep K2.out c8);refine wp_region_later (by kernel_rfl) (by kernel_rfl) ?_
      repeat (go_big_quiet_step (fail))
      refine wpQuiet_nil ?_
      rintro _ ⟨u,rfl⟩;have K2:=hid (after K2.out u.below);clear f8;generalize u.w=w3 at *;have AT:=hid (beh_at PP.out.up hkl BH.out NE.out STOP.out);have PN:=hid (PP.out.yes HP.out HK.out NE.out AT.out);obtain⟨v1,hr1,i1⟩:=Sl.run_take Pn.ok (IO.out.next K2.out) (m:=0) hkl;have hr1:∀ w1,(Instr.slice Pn.k.t (.slice AO P.length co) none (some (.int .i64 0)) none).run Tryz.prog w1=.ok v1 w1:=hr1;obtain⟨v2,hr2,i2⟩:=Sl.run_drop Pn.ok (IO.out.next K2.out) (m:=0) hkl;have hr2:∀ w1,(Instr.slice Pn.k.t (.slice AO P.length co) (some (.int .i64 0)) none none).run Tryz.prog w1=.ok v2 w1:=hr2;have I1:=hid i1;have I2:=hid i2;obtain⟨x0,x1,x2,x3,x4,x5,x6⟩:=CELL.out;have x0:=cell_keep K2.out x0;have x1:=cell_keep K2.out x1;have x2:=cell_keep K2.out x2;have x3:=cell_keep K2.out x3;have x4:=cell_keep K2.out x4;have x5:=cell_keep K2.out x5;have x6:=cell_keep K2.out x6;have c8:=cell_keep K2.out c8;have KW:=hid (after K.out K2.out);have hlk:Hid ((P.take 0).length≤10000∧(P.drop 0).length≤10000):=hid (by rw[List.length_take,List.length_drop];omega)
      clear i1 i2 STOP
      go_wp2_with (at_builtin;first
       |(refine wpList_plain rfl fun K' hK'=>Sl.wp_append_empty (K:=Pn.k) Pn.ok (.tmp 52) (.tmp 55) rfl (base:=w3.heap.size) (b:=w3.heap.size) (l2:=P.take 0) rfl (by exact heap_alloc_new _ _) (Nat.le_refl _) (by exact I1.out.next (below1 _ _)) (by have:=hlk.out;omega) (by simp) (fun va wa y1 y2=>hK' _ _ ?_);have O1:=hid y1;have K3:=hid (after (below1 w3 _) y2);clear y1 y2;have x0:=cell_keep K3.out x0;have x1:=cell_keep K3.out x1;have x2:=cell_keep K3.out x2;have x3:=cell_keep K3.out x3;have x4:=cell_keep K3.out x4;have x5:=cell_keep K3.out x5;have x6:=cell_keep K3.out x6;have c8:=cell_keep K3.out c8)
       |(refine wpList_plain rfl fun K' hK'=>Sl.wp_append (K:=Pn.k) Pn.ok (.tmp 57) (.tmp 65) rfl (base:=w3.heap.size) (l:=P.take 0) (l2:=[p]) (by exact O1.out.next (below1 _ _)) (by exact Sl.Is.one Pn.ok (x:=p) (Lies.new _ _ _)) (by have:=hlk.out;simp only[List.length_singleton];omega) (by have:=K3.out.size;simp;omega) (fun vb wb y1 y2 y3=>hK' _ _ ?_);have O2:=hid y1;have K4:=hid ((after K3.out (below1 _ _)).grown y2 (by have:=K3.out.size;simp;omega) (fun b hb=>(O1.out.lt b hb).1));clear y1 y2 y3)
       |(refine wpList_plain rfl fun K' hK'=>Sl.wp_append (K:=Pn.k) Pn.ok (.tmp 67) (.tmp 70) rfl (base:=w3.heap.size) (l:=P.take 0++[p]) (l2:=P.drop 0) (by exact O2.out) (by exact I2.out.next K4.out) (by have:=hlk.out;simp only[List.length_append,List.length_singleton];omega) (by exact K4.out.size) (fun vc wc y1 y2 y3=>hK' _ _ ?_);have O3:=hid y1;have K5:=hid (K4.out.grown y2 K4.out.size (fun b hb=>(O2.out.lt b hb).1));clear y1 y2 y3))
      exact⟨⟨i+1,_,by omega,by go_num,PN,hid (by have:=own_base2 O3.out KW.out.size;rwa [List.append_assoc] at this),hid (after KW.out K5.out)⟩,by simp[intOf];omega⟩
     ·obtain⟨k,rfl⟩:∃ k',k=k'+1:=⟨k-1,by omega⟩
      obtain⟨q,hq⟩:=at_some (L:=P) (i:=k) (by omega)
      obtain⟨offo,capo,heo,-,-,-,hcello⟩:=(IO.out.next K2.out).some_ Pn.ok (by omega)
      obtain⟨rfl,rfl⟩:AO=some ⟨bo,offo,none⟩∧co=capo:=by simpa using heo
      obtain⟨-,y1,y2,-,-,-,-⟩:=Tmr.pane_cells hq hcello;obtain⟨-,x1,x2,-,-,-,-⟩:=CELL.out;have f1:=Later.cell (cell_keep K2.out x1);have f2:=Later.cell (cell_keep K2.out x2);have f8:=Later.cell (cell_keep K2.out c8);have g1:=Later.cell y1;have g2:=Later.cell y2;obtain⟨cv2,hcv⟩:∃ z,z=Spn.cmpW p.s p.e q.s q.e:=⟨_,rfl⟩;have CM:Hid (∀ w,Calls Tryz.prog 118 #[win p.s p.e,win q.s q.e] w fun r w'=>r=.returned (.int .i64 cv2)∧Below w.heap.size w w'):=hid fun w=>by rw[hcv];exact RefSpan.comp_ok p.s p.e q.s q.e w
      have CV:=hid hcv;have HQ:=hid hq;have k00:(0:Int)≤k:=by omega
      have k01:(k:Int)≤10000:=by omega
      have k02:(k:Int)<P.length:=by omega
      have kd:decide ((0:Int)<(k:Int)+1)=true:=decide_eq_true (by omega)
      clear hcello heo x1 x2 y1 y2 hcv hq hk0;go_upto_region 7 with fail
      refine wp_region_later (by kernel_rfl) (by kernel_rfl) ?_
      repeat (go_big_quiet_step (with_reducible exact Later.call _ (CM.out _)))
      refine wpQuiet_nil ?_
      rintro _ ⟨u,rfl⟩;have K2:=hid (after K2.out u.below);clear f1 f2 f8 g1 g2;generalize u.w=w3 at *;by_cases hA:Ahd p q
      ·have e1:decide (cv2<0)=true:=by rw[CV.out,cmp_neg];exact decide_eq_true hA
       have e2:cv2<0:=of_decide_eq_true e1
       have BH2:Hid (Beh p P k):=hid (fun j x hj hx=>by
        by_cases e:j=k
        ·subst e
         rw[HQ.out] at hx;obtain rfl:=Option.some.inj hx;exact hA
        ·exact BH.out j x (by omega) hx)
       clear hA;go_wp2_with fail
       exact⟨⟨k,by omega,by go_num,BH2,K2⟩,by simp[intOf]⟩
      ·have e1:decide (cv2<0)=false:=by rw[CV.out,cmp_neg];exact decide_eq_false hA
       have e2:¬cv2<0:=of_decide_eq_false e1
       have STOP:Hid (∀ x,0<k+1→P[k+1-1]?=some x→¬Ahd p x):=hid (fun x _ hx=>by
        rw[show k+1-1=k from rfl,HQ.out] at hx
        obtain rfl:=Option.some.inj hx;exact hA)
       clear hA;have AT:=hid (beh_at PP.out.up hkl BH.out NE.out STOP.out);have PN:=hid (PP.out.yes HP.out HK.out NE.out AT.out);obtain⟨v1,hr1,i1⟩:=Sl.run_take Pn.ok (IO.out.next K2.out) (m:=(k+1)) hkl;have hr1:∀ w1,(Instr.slice Pn.k.t (.slice (some ⟨bo,offo,none⟩) P.length co) none (some (.int .i64 ((k:Int)+1))) none).run Tryz.prog w1=.ok v1 w1:=hr1;obtain⟨v2,hr2,i2⟩:=Sl.run_drop Pn.ok (IO.out.next K2.out) (m:=(k+1)) hkl;have hr2:∀ w1,(Instr.slice Pn.k.t (.slice (some ⟨bo,offo,none⟩) P.length co) (some (.int .i64 ((k:Int)+1))) none none).run Tryz.prog w1=.ok v2 w1:=hr2;have I1:=hid i1;have I2:=hid i2;obtain⟨x0,x1,x2,x3,x4,x5,x6⟩:=CELL.out;have x0:=cell_keep K2.out x0;have x1:=cell_keep K2.out x1;have x2:=cell_keep K2.out x2;have x3:=cell_keep K2.out x3;have x4:=cell_keep K2.out x4;have x5:=cell_keep K2.out x5;have x6:=cell_keep K2.out x6;have c8:=cell_keep K2.out c8;have KW:=hid (after K.out K2.out);have hlk:Hid ((P.take (k+1)).length≤10000∧(P.drop (k+1)).length≤10000):=hid (by rw[List.length_take,List.length_drop];omega)
       clear i1 i2 STOP
       go_wp2_with (at_builtin;first
        |(refine wpList_plain rfl fun K' hK'=>Sl.wp_append_empty (K:=Pn.k) Pn.ok (.tmp 52) (.tmp 55) rfl (base:=w3.heap.size) (b:=w3.heap.size) (l2:=P.take (k+1)) rfl (by exact heap_alloc_new _ _) (Nat.le_refl _) (by exact I1.out.next (below1 _ _)) (by have:=hlk.out;omega) (by simp) (fun va wa y1 y2=>hK' _ _ ?_);have O1:=hid y1;have K3:=hid (after (below1 w3 _) y2);clear y1 y2;have x0:=cell_keep K3.out x0;have x1:=cell_keep K3.out x1;have x2:=cell_keep K3.out x2;have x3:=cell_keep K3.out x3;have x4:=cell_keep K3.out x4;have x5:=cell_keep K3.out x5;have x6:=cell_keep K3.out x6;have c8:=cell_keep K3.out c8)
        |(refine wpList_plain rfl fun K' hK'=>Sl.wp_append (K:=Pn.k) Pn.ok (.tmp 57) (.tmp 65) rfl (base:=w3.heap.size) (l:=P.take (k+1)) (l2:=[p]) (by exact O1.out.next (below1 _ _)) (by exact Sl.Is.one Pn.ok (x:=p) (Lies.new _ _ _)) (by have:=hlk.out;simp only[List.length_singleton];omega) (by have:=K3.out.size;simp;omega) (fun vb wb y1 y2 y3=>hK' _ _ ?_);have O2:=hid y1;have K4:=hid ((after K3.out (below1 _ _)).grown y2 (by have:=K3.out.size;simp;omega) (fun b hb=>(O1.out.lt b hb).1));clear y1 y2 y3)
        |(refine wpList_plain rfl fun K' hK'=>Sl.wp_append (K:=Pn.k) Pn.ok (.tmp 67) (.tmp 70) rfl (base:=w3.heap.size) (l:=P.take (k+1)++[p]) (l2:=P.drop (k+1)) (by exact O2.out) (by exact I2.out.next K4.out) (by have:=hlk.out;simp only[List.length_append,List.length_singleton];omega) (by exact K4.out.size) (fun vc wc y1 y2 y3=>hK' _ _ ?_);have O3:=hid y1;have K5:=hid (K4.out.grown y2 K4.out.size (fun b hb=>(O2.out.lt b hb).1));clear y1 y2 y3))
       exact⟨⟨i+1,_,by omega,by go_num,PN,hid (by have:=own_base2 O3.out KW.out.size;rwa [List.append_assoc] at this),hid (after KW.out K5.out)⟩,by simp[intOf];omega⟩
   ·have hkk:(p.key.toList == key.toList)=false:=by
     rw[beq_eq_false_iff_ne];exact fun q=>hk (Pn.bytes_ext.1 q)
    have PN:=hid (PP.out.not HP.out hk);clear hk;go_wp2_with fail
    exact⟨⟨i+1,P,by omega,by go_num,PN,O,K⟩,by simp[intOf];omega⟩
  ·obtain rfl:i=R.length:=by omega
   go_wp2_with fail
   go_ret;exact⟨_,P,rfl,by have:=PP.out.perm;rwa [List.take_length] at this,PP.out.up,O.out,K.out⟩
end Rg
namespace Rg
open Small Foot Pane Grp
def Rep(S:Lists)(R:List Pn):Prop:=∀ x,(ofKey x R).Perm (S x)
section
variable {S:Lists} {R:List Pn}
theorem Rep.mem(h:Rep S R){p:Pn}:p∈R↔p∈S p.key:=by
 rw[←(h p.key).mem_iff,List.mem_filter]
 simp
end
theorem join2_pos{x p:Pn}(hx:1≤x.c)(hp:1≤p.c)(h:x.c+p.c≤9000):join2 x p=⟨x.key,min x.s p.s,max x.e p.e,x.c+p.c,wrap64 (x.m+p.m),min x.l p.l,max x.u p.u⟩:=by
 unfold join2
 rw[mrg_both (x:=ag x) (y:=ag p) hx hp]
 simp only[mk]
 rw[Pane.wrap_small (by omega) (by omega)]
theorem sumC_perm{T T':List Pn}(h:T.Perm T'):sumC T=sumC T':=by
 induction h with
 |nil=>rfl
 |cons a _ ih=>rw[sumC_cons,sumC_cons,ih]
 |swap a b l=>rw[sumC_cons,sumC_cons,sumC_cons,sumC_cons];omega
 |trans _ _ i1 i2=>exact i1.trans i2
theorem fold_perm{T T':List Pn}(h:T.Perm T'):∀ x:Pn,1≤x.c→(∀ p∈T,1≤p.c)→x.c+sumC T≤9000→T.foldl join2 x=T'.foldl join2 x:=by
 induction h with
 |nil=>intros;rfl
 |@cons a l1 l2 hp ih=>
  intro x h1 h2 h3;have ha:=h2 a (by simp)
  have hT:∀ q∈l1,1≤q.c:=fun q hq=>h2 q (by simp[hq])
  have h0:=(sum_pos hT).1;rw[sumC_cons] at h3;rw[List.foldl_cons,List.foldl_cons];refine ih _ ?_ hT ?_
  ·rw[join2_pos h1 ha (by omega)];simp only;omega
  ·rw[join2_pos h1 ha (by omega)];simp only;omega
 |swap a b l=>
  intro x h1 h2 h3;have ha:=h2 a (by simp)
  have hb:=h2 b (by simp)
  have hT:∀ q∈l,1≤q.c:=fun q hq=>h2 q (by simp[hq])
  have h0:=(sum_pos hT).1;rw[sumC_cons,sumC_cons] at h3;rw[List.foldl_cons,List.foldl_cons,List.foldl_cons,List.foldl_cons]
  congr 1
  rw[join2_pos h1 hb (by omega),join2_pos h1 ha (by omega),join2_pos (by simp only;omega) ha (by simp only;omega),join2_pos (by simp only;omega) hb (by simp only;omega)]
  simp only[Pn.mk.injEq,true_and];refine⟨by omega,by omega,by omega,?_,by omega,by omega⟩
  unfold wrap64;omega
 |@trans l1 l2 l3 p1 p2 i1 i2=>
  intro x h1 h2 h3;have hc:=sumC_perm p1;exact (i1 x h1 h2 h3).trans (i2 x h1 (fun p hp=>h2 p (p1.mem_iff.2 hp)) (by omega))
theorem Rep.put{kind s e v:Int}{key:ByteArray}{S:Lists}{R:List Pn}{L':List Pn}{N:Nat}(h:Rep S R)(O:Ok kind S N)(hN:N≤8900)(hse:s<e)(hp:Put1 kind key s e v (S key) L'):Rep (S.set key L') (putR kind key s e v R):=by
 obtain⟨n,c,hn⟩:=O.cnt key
 have hkS:=O.key key
 have hkm:(made kind key s e v R).key=key:=by
  have hc:∀ q∈R.filter (hit kind key s e),1≤q.c:=fun q hq=>by
   have:=h.mem.1 (List.mem_filter.1 hq).1;obtain⟨n',c',-⟩:=O.cnt q.key;exact c'.pos q this
  have e1:R.filter (hit kind key s e)=(ofKey key R).filter (same kind s e):=by
   rw[ofKey,List.filter_filter]
   congr 1
   funext p
   simp[hit,Bool.and_comm]
  have hs:sumC (R.filter (hit kind key s e))≤n:=by
   rw[e1,sumC_perm ((h key).filter _)];have h1:sumC ((S key).filter fun p=>!same kind s e p)+sumC ((S key).filter (same kind s e))=sumC (S key):=(part_sum (same kind s e) (S key)).1
   have h2:=(sum_pos (L:=(S key).filter fun p=>!same kind s e p) fun q hq=>c.pos q (List.mem_filter.1 hq).1).1
   have:=c.cnt;omega
  exact (fold_join (R.filter (hit kind key s e)) (Pane.one key s e v) (by simp only;omega) hc (by simp only;omega)).2.2.1
 intro x
 by_cases ex:x=key
 ·subst ex
  rw[set_same]
  have eR:ofKey x (putR kind x s e v R)=(ofKey x R).filter (fun p=>!same kind s e p)++[made kind x s e v R]:=by
   simp only[ofKey,putR,List.filter_append,List.filter_cons,List.filter_nil,hkm,decide_true,if_true,rest,List.filter_filter]
   congr 1
   refine List.filter_congr fun p hp=>?_
   by_cases q:p.key=x<;>simp[hit,q]
  have eM:made kind x s e v R=((S x).filter (same kind s e)).foldl join2 (Pane.one x s e v):=by
   have e1:R.filter (hit kind x s e)=(ofKey x R).filter (same kind s e):=by
    rw[ofKey,List.filter_filter]
    congr 1
    funext p
    simp[hit,Bool.and_comm]
   rw[made,e1];have h1:sumC ((S x).filter fun p=>!same kind s e p)+sumC ((S x).filter (same kind s e))=sumC (S x):=(part_sum (same kind s e) (S x)).1
   have h2:=(sum_pos (L:=(S x).filter fun p=>!same kind s e p) fun q hq=>c.pos q (List.mem_filter.1 hq).1).1
   have hc:=c.cnt;have hs:=sumC_perm ((h x).filter (same kind s e));exact fold_perm ((h x).filter _) _ (by simp only;omega) (fun p hp=>c.pos p ((h x).mem_iff.1 (List.mem_filter.1 hp).1)) (by simp only;omega)
  rw[eR,eM];refine ((h x).filter _ |>.append_right _).trans ?_
  rcases hp with ⟨h2,k,a,rfl⟩|⟨h2,k,a,⟨p,hpk,he,rfl⟩|⟨hno,rfl⟩⟩
  ·have q1:(S x).filter (fun p=>!same kind s e p)=restOf s e (S x):=by
    show (S x).filter _=(S x).filter _
    congr 1
    funext p
    rw[same,if_pos h2]
   have q2:(S x).filter (same kind s e)=metOf s e (S x):=by
    show (S x).filter _=(S x).filter _
    congr 1
    funext p
    rw[same,if_pos h2]
   rw[q1,q2];refine (List.perm_append_singleton _ _).trans ?_
   refine List.Perm.trans ?_ List.perm_middle.symm
   rw[List.take_append_drop]
  ·have q1:(S x).filter (fun p=>!same kind s e p)=(S x).take k++(S x).drop (k+1):=filter_cut c.rises a hpk he _ fun y _=>by rw[same,if_neg h2,Bool.not_eq_true',decide_eq_false_iff_not]
   have q2:(S x).filter (same kind s e)=[p]:=by
    have hpm:=List.mem_of_getElem? hpk
    have h3:∀ y∈(S x).take k++(S x).drop (k+1),same kind s e y=false:=fun y hy=>by
     rw[←q1] at hy
     simpa using (List.mem_filter.1 hy).2
    have h4:same kind s e p=true:=by rw[same,if_neg h2];simpa using he
    conv=>lhs;rw[Grp.split_at hpk]
    rw[List.filter_append,List.filter_cons,h4,if_pos rfl];have z1:((S x).take k).filter (same kind s e)=[]:=List.filter_eq_nil_iff.2 fun y hy=>by rw[h3 y (List.mem_append_left _ hy)];simp
    have z2:((S x).drop (k+1)).filter (same kind s e)=[]:=List.filter_eq_nil_iff.2 fun y hy=>by rw[h3 y (List.mem_append_right _ hy)];simp
    rw[z1,z2];rfl
   rw[q1,q2,Pane.set_split hpk]
   have hm:[p].foldl join2 (Pane.one x s e v)=mk p.key p.s p.e (Agg.mrg (ag p) (Agg.one4 v)):=by
    have hc:Agg.mrg (Agg.one4 v) (ag p)=Agg.mrg (ag p) (Agg.one4 v):=Agg.mrg_comm fun q _=>absurd q (by simp[Agg.one4])
    show mk x (min s p.s) (max e p.e) (Agg.mrg (Agg.one4 v) (ag p))=_
    rw[hc,hkS p (List.mem_of_getElem? hpk),he.1,he.2,Int.min_self,Int.max_self]
   rw[hm];refine (List.perm_append_singleton _ _).trans ?_
   exact List.perm_middle.symm
  ·have hnn:∀ y∈S x,same kind s e y=false:=fun y hy=>by
    rw[same,if_neg h2];exact decide_eq_false fun q=>hno y (a.found c.rises hy q) q
   have q1:(S x).filter (fun p=>!same kind s e p)=S x:=List.filter_eq_self.2 fun y hy=>by rw[hnn y hy];rfl
   have q2:(S x).filter (same kind s e)=[]:=List.filter_eq_nil_iff.2 fun y hy=>by rw[hnn y hy];simp
   rw[q1,q2,List.foldl_nil];refine (List.perm_append_singleton _ _).trans ?_
   refine List.Perm.trans ?_ List.perm_middle.symm
   rw[List.take_append_drop]
 ·rw[set_other _ _ ex]
  have eR:ofKey x (putR kind key s e v R)=ofKey x R:=by
   simp only[ofKey,putR,List.filter_append,List.filter_cons,List.filter_nil,hkm,rest,List.filter_filter];rw[if_neg (by simpa using fun q=>ex q.symm),List.append_nil]
   refine List.filter_congr fun p hp=>?_
   by_cases q:p.key=x
   ·have:p.key≠key:=fun r=>ex (q.symm.trans r)
    simp[hit,q,ex]
   ·simp[q]
  rw[eR];exact h x
theorem Rep.taken{kind v late mark a d l:Int}{key:ByteArray}{S:Lists}{R:List Pn}{N:Nat}(h:Rep S R)(O:Ok kind S N)(hl:1≤l):∀ i {c:Nat} {S':Lists},N+i≤8900→Tk kind key v late mark a d l S i c S'→Rep S' (tk kind key v late mark a d l R i):=by
 intro i
 induction i with
 |zero=>intro c S' hN t;cases t;exact h
 |succ i ih=>
  intro c S' hN t;cases t with
  |over t ho=>simp only[tk];rw[if_pos ho];exact ih (by omega) t
  |@put _ c1 S1 L1 t ho hp=>
   simp only[tk];rw[if_neg ho];exact (ih (by omega) t).put (t.ok O hl (by omega)) (by have:=t.le;omega) (by omega) hp
theorem Rep.panes{S:Lists}{R P:List Pn}{key:ByteArray}(h:Rep S R)(F:Fine S)(hP:P.Perm (ofKey key R))(up:Rises P):P=S key:=by
 refine List.Perm.eq_of_pairwise (le:=fun p q:Pn=>p=q∨Ah p q.s q.e) (fun p q _ _ h1 h2=>?_) (up.imp fun h=>.inr h) ((F.rises key).imp fun h=>.inr h) (hP.trans (h key))
 rcases h1 with r|r
 ·exact r
 ·rcases h2 with q|q
  ·exact q.symm
  ·simp only[Ah] at r q
   omega
end Rg
end Go.Proofs.YtfjlnniahfbdfaaGreat
