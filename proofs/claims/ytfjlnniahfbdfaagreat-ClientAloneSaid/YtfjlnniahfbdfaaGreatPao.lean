/- A part of the proof. -/
import Derived.Test.YtfjlnniahfbdfaaGreatPal
import Derived.Test.YtfjlnniahfbdfaaGreatPan
set_option linter.unusedVariables false
set_option maxHeartbeats 4000000
namespace Go.Proofs.YtfjlnniahfbdfaaGreat
open Lib (hid)
open Go.ChangeShapes Go.WideShapes Go.ChangeAt Go.RowKit
namespace Grp
open Small Foot Pane
abbrev tmOf(p:Pn):Tmr.Tm:=⟨p.key,p.s,p.e⟩
def duesOf(S:Lists):Tmr.Tm→Prop:=fun y=>∃ p∈S y.key,p.s=y.s∧p.e=y.e
structure Fine(S:Lists):Prop where
 rises:∀ x,Rises (S x)
 key:∀ x p,p∈S x→p.key=x
 few:∀ x,(S x).length≤9000
inductive Outs(late mark:Int)(S:Lists):List Pn→Lists→Prop
 |none:Outs late mark S [] S
 |more {O:List Pn} {S':Lists} {p:Pn} {k:Nat} (h:Outs late mark S O S') (hp:(S' p.key)[k]?=some p) (ho:p.e+late≤mark) (hl:∀ x q,q∈S' x→Tmr.le (tmOf p) (tmOf q)):
  Outs late mark S (O++[p]) (S'.set p.key ((S' p.key).take k++(S' p.key).drop (k+1)))
theorem cut_mem{L:List Pn}{k:Nat}{q:Pn}(h:q∈L.take k++L.drop (k+1)):q∈L:=by
 rcases List.mem_append.1 h with h|h
 ·exact List.mem_of_mem_take h
 ·exact List.mem_of_mem_drop h
theorem Fine.cut{S:Lists}(h:Fine S)(x:ByteArray)(k:Nat):Fine (S.set x ((S x).take k++(S x).drop (k+1))):=by
 refine⟨fun y=>?_,fun y p hp=>?_,fun y=>?_⟩
 ·by_cases e:y=x
  ·subst e;rw[set_same];exact rises_cut (h.rises y) k
  ·rw[set_other _ _ e];exact h.rises y
 ·by_cases e:y=x
  ·subst e;rw[set_same] at hp;exact h.key y p (cut_mem hp)
  ·rw[set_other _ _ e] at hp;exact h.key y p hp
 ·by_cases e:y=x
  ·subst e;rw[set_same];have:=h.few y;simp only[List.length_append,List.length_take,List.length_drop];omega
  ·rw[set_other _ _ e];exact h.few y
theorem split_at{L:List Pn}{k:Nat}{x:Pn}(hx:L[k]?=some x):L=L.take k++x::L.drop (k+1):=by
 obtain⟨h1,h2⟩:=List.getElem?_eq_some_iff.1 hx
 conv=>lhs;rw[←List.take_append_drop k L,List.drop_eq_getElem_cons h1,h2]
theorem dues_cut{S:Lists}(h:Fine S){p:Pn}{k:Nat}(hp:(S p.key)[k]?=some p)(y:Tmr.Tm):(y≠tmOf p∧duesOf S y)↔duesOf (S.set p.key ((S p.key).take k++(S p.key).drop (k+1))) y:=by
 unfold duesOf
 by_cases e:y.key=p.key
 ·rw[e,set_same]
  have hs:=split_at hp;have hr:=h.rises p.key;rw[hs] at hr;obtain⟨r1,r2,r3⟩:=List.pairwise_append.1 hr;obtain⟨r4,r5⟩:=List.pairwise_cons.1 r2
  constructor
  ·rintro⟨hne,q,hq,q1,q2⟩
   refine⟨q,?_,q1,q2⟩
   rw[hs] at hq;rcases List.mem_append.1 hq with hq|hq
   ·exact List.mem_append_left _ hq
   ·rcases List.mem_cons.1 hq with rfl|hq
    ·refine absurd ?_ hne
     cases y
     simp only at e q1 q2;subst e q1 q2;rfl
    ·exact List.mem_append_right _ hq
  ·rintro⟨q,hq,q1,q2⟩
   refine⟨fun hy=>?_,q,cut_mem hq,q1,q2⟩
   have e1:q.s=p.s:=by rw[q1,hy]
   have e2:q.e=p.e:=by rw[q2,hy]
   rcases List.mem_append.1 hq with hq|hq
   ·have:=r3 q hq p (List.mem_cons_self ..)
    simp only[Ah] at this;omega
   ·have:=r4 q hq
    simp only[Ah] at this;omega
 ·rw[set_other _ _ e]
  constructor
  ·exact fun h=>h.2
  ·exact fun h=>⟨fun hy=>e (by rw[hy]),h⟩
def NoneOver(late mark:Int)(S:Lists):Prop:=∀ x q,q∈S x→¬q.e+late≤mark
def slen:Value→Nat
 |.slice _ l _=>l
 |_=>0
structure SS(w:World)(g m tg:Nat)(cf:C8)(S:Lists)(n cnt:Nat)(FT Bk:Nat→Prop)(mark:Int)(sv:Value)(O:List Pn)(S':Lists)(n' cnt':Nat)(f':ByteArray→Option Value)(FT' Bk':Nat→Prop)(wr:World):Prop where
 q:Gq wr g m tg cf S' (duesOf S') n' cnt' f' FT' Bk'
 outs:Outs cf.z mark S O S'
 out:Sl.Own Pn.k w.heap.size wr sv O
 len:O.length+n'=n
 cnt:cnt'≤cnt
 v:Moves (Fp g m FT) (Fp g m FT') w wr
 bk:∀ b,Bk' b→(Bk b∨w.heap.size≤b)∧b<wr.heap.size
 ap:∀ b,sv.ownBlock=some b→¬Fp g m FT' b∧¬Bk' b
 fine:Fine S'
theorem Gq.grown{w w':World}{g m tg n cnt:Nat}{cf:C8}{S:Lists}{M:Tmr.Tm→Prop}{f:ByteArray→Option Value}{FT Bk:Nat→Prop}{row:Option Nat}(h:Gq w g m tg cf S M n cnt f FT Bk)(k:w.grownBy w' row)(hr:∀ b,row=some b→¬Fp g m FT b∧¬Bk b):Gq w' g m tg cf S M n cnt f FT Bk:=by
 cases row with
 |none=>exact h.next ⟨k.os,k.tape,k.output,k.size,fun i hi=>k.block i hi (by simp)⟩
 |some b=>
  obtain⟨h1,h2⟩:=hr b rfl;exact h.beside k (fun e=>h1 (.inl e)) (fun e=>h1 (.inr (.inl e))) (fun e=>h1 (.inr (.inr e))) h2
theorem moves_grown{F F':Nat→Prop}{w wr w':World}{row:Option Nat}(V:Moves F F' w wr)(k:wr.grownBy w' row)(hr:∀ b,row=some b→w.heap.size≤b):Moves F F' w w':=
 ⟨k.os.trans V.os,k.tape.trans V.tape,k.output.trans V.output,Nat.le_trans V.size k.size,fun i hi hn=>(k.block i (Nat.lt_of_lt_of_le hi V.size) (fun e=>by have:=hr i e.symm;omega)).trans (V.block i hi hn),
  fun i hi=>⟨(V.new i hi).1,Nat.lt_of_lt_of_le (V.new i hi).2 k.size⟩⟩
section
variable {w wr w':World} {g m tg n cnt n' cnt' n1:Nat} {cf:C8} {S S':Lists} {fm f':ByteArray→Option Value} {FT Bk FT' Bk' FT1:Nat→Prop} {mark:Int} {sv:Value} {O:List Pn} {M1:Tmr.Tm→Prop} {x:Tmr.Tm}
theorem SS.out_pop(Q:SS w g m tg cf S n cnt FT Bk mark sv O S' n' cnt' f' FT' Bk' wr)(hV:Moves FT' FT1 wr w'):Sl.Own Pn.k w.heap.size w' sv O:=
 Q.out.move fun a ha=>hV.block a (Q.out.lt a ha).2 fun h=>(Q.ap a ha).1 (.inr (.inr h))
theorem SS.stop(Q:SS w g m tg cf S n cnt FT Bk mark sv O S' n' cnt' f' FT' Bk' wr)(hQ:Gq w' g m tg cf S' M1 n1 cnt' f' FT1 Bk')(hV:Moves FT' FT1 wr w')(P:Tmr.Pops cf.z mark n' (duesOf S') false x n1 M1):
  SS w g m tg cf S n cnt FT Bk mark sv O S' n' cnt' f' FT1 Bk' w'∧NoneOver cf.z mark S':=by
 rcases P with ⟨h,_⟩|⟨-,-,rfl,hno,rfl⟩
 ·cases h
 ·refine⟨⟨hQ,Q.outs,Q.out_pop hV,Q.len,Q.cnt,Q.v.trans (Q.q.moves_ts hV),fun b hb=>⟨(Q.bk b hb).1,Nat.lt_of_lt_of_le (Q.bk b hb).2 hV.size⟩,fun b hb=>?_,Q.fine⟩,fun y q hq ho=>?_⟩
  ·have hb2:=(Q.out.lt b hb).2
   refine⟨fun h=>?_,(Q.ap b hb).2⟩
   rcases h with h|h|h
   ·exact (Q.ap b hb).1 (.inl h)
   ·exact (Q.ap b hb).1 (.inr (.inl h))
   ·rcases (hV.new b h).1 with r|r
    ·exact (Q.ap b hb).1 (.inr (.inr r))
    ·omega
  ·have hd:duesOf S' (tmOf q):=⟨q,by rw[show (tmOf q).key=y from Q.fine.key y q hq];exact hq,rfl,rfl⟩
   by_cases h0:0<n1
   ·obtain⟨z,hz⟩:=hQ.ts.least h0
    have:=Tmr.le_end (hz.2 _ hd);have:=hno z hz;simp only at *;omega
   ·obtain rfl:n1=0:=by omega
    exact hQ.ts.none_ _ hd
theorem SS.step{w2 w3 W:World}{c2 k:Nat}{f2:ByteArray→Option Value}{Bk2:Nat→Prop}{p:Pn}{v':Value}(Q:SS w g m tg cf S n cnt FT Bk mark sv O S' n' cnt' f' FT' Bk' wr)(hQ:Gq w' g m tg cf S' M1 n1 cnt' f' FT1 Bk')(hV:Moves FT' FT1 wr w')
  (P:Tmr.Pops cf.z mark n' (duesOf S') true x n1 M1) (hp:(S' x.key)[k]?=some p) (he:Eq2 p x.s x.e) (hc2:c2≤cnt') (Q2:Gq w2 g m tg cf (S'.set x.key ((S' x.key).take k++(S' x.key).drop (k+1))) M1 n1 c2 f2 FT1 Bk2) (V2:Moves (Fp g m FT1) (Fp g m FT1) w' w2)
  (B2:∀ b,Bk2 b→Bk' b∨(w'.heap.size≤b∧b<w2.heap.size)) (K:Below w2.heap.size w2 W) (x1:Sl.Own Pn.k w.heap.size w3 v' (O++[p])) (x2:W.grownBy w3 sv.ownBlock) (x3:v'.ownBlock=sv.ownBlock∨v'.ownBlock=some W.heap.size):
  SS w g m tg cf S n cnt FT Bk mark v' (O++[p]) (S'.set x.key ((S' x.key).take k++(S' x.key).drop (k+1))) n1 c2 f2 FT1 Bk2 w3:=by
 rcases P with ⟨-,hle,ho,hn,hM⟩|⟨h,_⟩
 ·have hpk:p.key=x.key:=Q.fine.key _ p (List.mem_of_getElem? hp)
  have hx:tmOf p=x:=by
   obtain⟨e1,e2⟩:=he;cases x
   simp only at hpk e1 e2;subst hpk e1 e2;rfl
  have hp':(S' p.key)[k]?=some p:=by rw[hpk];exact hp
  have sz1:=hV.size;have sz2:=V2.size;have sz3:=K.size
  have apb:∀ b,sv.ownBlock=some b→(¬Fp g m FT1 b∧¬Bk2 b)∧b<wr.heap.size:=fun b hb=>by
   have hb2:=(Q.out.lt b hb).2;refine⟨⟨fun h=>?_,fun h=>?_⟩,hb2⟩
   ·rcases h with h|h|h
    ·exact (Q.ap b hb).1 (.inl h)
    ·exact (Q.ap b hb).1 (.inr (.inl h))
    ·rcases (hV.new b h).1 with r|r
     ·exact (Q.ap b hb).1 (.inr (.inr r))
     ·omega
   ·rcases B2 b h with r|r
    ·exact (Q.ap b hb).2 r
    ·omega
  have M2:∀ y,M1 y↔duesOf (S'.set x.key ((S' x.key).take k++(S' x.key).drop (k+1))) y:=fun y=>by
   rw[←hpk];exact (hM y).trans (hx▸dues_cut Q.fine hp' y)
  have Q3:=(Q2.next K).grown x2 fun b hb=>(apb b hb).1
  have bk2:∀ b,Bk2 b→b<w2.heap.size:=fun b hb=>by
   rcases B2 b hb with r|r
   ·have:=(Q.bk b r).2;omega
   ·exact r.2
  refine⟨⟨Q3.lies,Q3.map,Q3.ts.congr M2,Q3.ne,Q3.ng,Q3.nm,Q3.lists⟩,?_,x1,by rw[List.length_append];have:=Q.len;simp;omega,Nat.le_trans hc2 Q.cnt,?_,fun b hb=>⟨?_,Nat.lt_of_lt_of_le (bk2 b hb) (Nat.le_trans sz3 x2.size)⟩,fun b hb=>?_,Q.fine.cut _ _⟩
  ·have h:=Outs.more Q.outs hp' (by rw[show p.e=x.e from he.2];exact ho) fun y q hq=>by
    rw[hx];exact hle.2 _ ⟨q,by rw[show (tmOf q).key=y from Q.fine.key y q hq];exact hq,rfl,rfl⟩
   rw[hpk] at h;exact h
  ·have V3:=((Q.v.trans (Q.q.moves_ts hV)).trans V2).trans (Moves.of_below K Q2.in)
   exact moves_grown V3 x2 fun b hb=>(Q.out.lt b hb).1
  ·rcases B2 b hb with r|r
   ·exact (Q.bk b r).1
   ·exact .inr (by have:=Q.v.size;omega)
  ·rcases x3 with h|h
   ·exact (apb b (h▸hb)).1
   ·rw[h] at hb
    obtain rfl:=Option.some.inj hb;exact⟨fun r=>by have:=Q2.in _ r;omega,fun r=>by have:=bk2 _ r;omega⟩
 ·cases h
end
def Settled(w:World)(g m tg:Nat)(cf:C8)(S:Lists)(n cnt:Nat)(FT Bk:Nat→Prop)(mark:Int)(r:Ending)(w':World):Prop:=
 ∃ v' O S' n' cnt' f' FT' Bk',r=.returned v'∧SS w g m tg cf S n cnt FT Bk mark v' O S' n' cnt' f' FT' Bk' w'∧NoneOver cf.z mark S'
set_option maxRecDepth 100000 in
theorem settle_ok{g m tg n cnt:Nat}{cf:C8}{S:Lists}{fm:ByteArray→Option Value}{FT Bk:Nat→Prop}(mark:Int)(w:World)(H:Hid (Gq w g m tg cf S (duesOf S) n cnt fm FT Bk))(FS:Hid (Fine S))(hB:Hid (∀ b,Bk b→b<w.heap.size))(hc:cnt≤1048576)
  (fz:Hid ((Lit.int .i64 cf.z).wf=true)) (fmk:Hid ((Lit.int .i64 mark).wf=true)):
  Calls Tryz.prog 102 #[gp g,.int .i64 mark] w (Settled w g m tg cf S n cnt FT Bk mark):=by
 go_enter Tryz.func102,Tryz.ntmps102
 go_wp2_with fail
 go_loopw [5] (fun sv wr=>∃ O S' n' cnt' f' FT' Bk',Hid (SS w g m tg cf S n cnt FT Bk mark sv O S' n' cnt' f' FT' Bk' wr)) (fun sv _=>n-slen sv)
 case atStart=>exact⟨[],S,n,cnt,fm,FT,Bk,hid ⟨H.out,.none,Sl.Own.nil _ _ _,by simp,Nat.le_refl _,Moves.refl H.out.in,fun b hb=>⟨.inl hb,hB.out b hb⟩,fun b hb=>(by cases hb),FS.out⟩⟩
 case round=>
  obtain⟨O,S',n',cnt',f',FT',Bk',Q⟩:=hrel;obtain⟨bo,-,io⟩:=Q.out.out.is;obtain⟨AO,co,hv⟩:=io.len;subst hv;clear io
  have hBk:∀ i,Fp g m FT' i∨Bk' i→i<wr.heap.size:=fun i hi=>by
   rcases hi with hi|hi
   ·exact Q.out.q.in i hi
   ·exact (Q.out.bk i hi).2
  go_upto_region 2 with fail
  refine wp_region_inv 16 31 (JS g m tg cf S' (duesOf S') n' cnt' f' FT' Bk' wr mark) (by show _=_;kernel_rfl) (by show _=_;kernel_rfl) (by show _=_;kernel_rfl) (fun D f hD=>JS_start Q.out.q hD) ?_ ?_
  ·intro i hi
   match i,hi with
   |0,_=>
    intro o ho a' w' D f Kc hd hout hDi hdep hJ hK;have hJ0:=hJ;obtain⟨b,x,n1,M1,FT1,hQ,hV,h10,h10',hall,hdn,h14⟩:=hJ;have e0:a'.eval (.tmp 0)=gp g:=(hout 0 (Reg.Free.out (by show _=_;kernel_rfl)))
    exact Sl.wp_move _ (Reg.Has.op (p:=Op.move (.tmp 0)) (t:=9) (by show _=_;kernel_rfl) ho).1 (by rw[e0];exact hK _ _ (fun t hn=>absurd ((Reg.Has.op (p:=Op.move (.tmp 0)) (t:=9) (by show _=_;kernel_rfl) ho).2.symm.trans hn) (by simp)) (JS_val 0 (by decide) hDi hJ0 (fun h=>absurd h (by decide)) (fun b x hall=>rfl)))
   |1,_=>
    intro o ho a' w' D f Kc hd hout hDi hdep hJ hK;have hJ0:=hJ;obtain⟨b,x,n1,M1,FT1,hQ,hV,h10,h10',hall,hdn,h14⟩:=hJ;refine wp_val (V:=gp g) (w':=w') ?_ (hK _ _ (fun t hn=>absurd ((Reg.Has.op (p:=Op.nilCheck (.tmp 9)) (t:=10) (by show _=_;kernel_rfl) ho).2.symm.trans hn) (by simp)) (JS_val 1 (by decide) hDi hJ0 (fun h=>absurd h (by decide)) (fun b x hall=>rfl)))
    have hop:=(Reg.Has.op (p:=Op.nilCheck (.tmp 9)) (t:=10) (by show _=_;kernel_rfl) ho).1
    have e0:a'.eval (.tmp 9)=gp g:=((hdep 0 (mem_of (by show _=_;kernel_rfl))).2 9 (by show _=_;kernel_rfl)).trans (hall 0 (hdep 0 (mem_of (by show _=_;kernel_rfl))).1)
    generalize a'.eval=ev at e0;simp[execOp,hop,go_sem,e0]
   |2,_=>
    intro o ho a' w' D f Kc hd hout hDi hdep hJ hK;have hJ0:=hJ;obtain⟨b,x,n1,M1,FT1,hQ,hV,h10,h10',hall,hdn,h14⟩:=hJ;refine wp_val (V:=.pointer (some ⟨g,9,none⟩)) (w':=w') ?_ (hK _ _ (fun t hn=>absurd ((Reg.Has.op (p:=Op.fieldAddr 190 (.tmp 10) 2) (t:=11) (by show _=_;kernel_rfl) ho).2.symm.trans hn) (by simp)) (JS_val 2 (by decide) hDi hJ0 (fun h=>absurd h (by decide)) (fun b x hall=>rfl)))
    have hop:=(Reg.Has.op (p:=Op.fieldAddr 190 (.tmp 10) 2) (t:=11) (by show _=_;kernel_rfl) ho).1
    have e1:a'.eval (.tmp 10)=gp g:=((hdep 1 (mem_of (by show _=_;kernel_rfl))).2 10 (by show _=_;kernel_rfl)).trans (hall 1 (hdep 1 (mem_of (by show _=_;kernel_rfl))).1)
    generalize a'.eval=ev at e1;simp[execOp,hop,go_sem,e1]
   |3,_=>
    intro o ho a' w' D f Kc hd hout hDi hdep hJ hK;have hJ0:=hJ;obtain⟨b,x,n1,M1,FT1,hQ,hV,h10,h10',hall,hdn,h14⟩:=hJ;refine wp_val (V:=Tmr.tp tg) (w':=w') ?_ (hK _ _ (fun t hn=>absurd ((Reg.Has.op (p:=Op.load 187 (.tmp 11)) (t:=12) (by show _=_;kernel_rfl) ho).2.symm.trans hn) (by simp)) (JS_val 3 (by decide) hDi hJ0 (fun h=>absurd h (by decide)) (fun b x hall=>rfl)))
    have hop:=(Reg.Has.op (p:=Op.load 187 (.tmp 11)) (t:=12) (by show _=_;kernel_rfl) ho).1
    have e2:a'.eval (.tmp 11)=.pointer (some ⟨g,9,none⟩):=((hdep 2 (mem_of (by show _=_;kernel_rfl))).2 11 (by show _=_;kernel_rfl)).trans (hall 2 (hdep 2 (mem_of (by show _=_;kernel_rfl))).1)
    have k0:=hQ.lies.cell (i:=9) rfl;generalize a'.eval=ev at e2;simp[execOp,hop,go_sem,e2,k0]
   |4,_=>
    intro o ho a' w' D f Kc hd hout hDi hdep hJ hK;have hJ0:=hJ;obtain⟨b,x,n1,M1,FT1,hQ,hV,h10,h10',hall,hdn,h14⟩:=hJ;have e0:a'.eval (.tmp 0)=gp g:=(hout 0 (Reg.Free.out (by show _=_;kernel_rfl)))
    exact Sl.wp_move _ (Reg.Has.op (p:=Op.move (.tmp 0)) (t:=13) (by show _=_;kernel_rfl) ho).1 (by rw[e0];exact hK _ _ (fun t hn=>absurd ((Reg.Has.op (p:=Op.move (.tmp 0)) (t:=13) (by show _=_;kernel_rfl) ho).2.symm.trans hn) (by simp)) (JS_val 4 (by decide) hDi hJ0 (fun h=>absurd h (by decide)) (fun b x hall=>rfl)))
   |5,_=>
    intro o ho a' w' D f Kc hd hout hDi hdep hJ hK;have hJ0:=hJ;obtain⟨b,x,n1,M1,FT1,hQ,hV,h10,h10',hall,hdn,h14⟩:=hJ;refine wp_val (V:=gp g) (w':=w') ?_ (hK _ _ (fun t hn=>absurd ((Reg.Has.op (p:=Op.nilCheck (.tmp 13)) (t:=14) (by show _=_;kernel_rfl) ho).2.symm.trans hn) (by simp)) (JS_val 5 (by decide) hDi hJ0 (fun h=>absurd h (by decide)) (fun b x hall=>rfl)))
    have hop:=(Reg.Has.op (p:=Op.nilCheck (.tmp 13)) (t:=14) (by show _=_;kernel_rfl) ho).1
    have e4:a'.eval (.tmp 13)=gp g:=((hdep 4 (mem_of (by show _=_;kernel_rfl))).2 13 (by show _=_;kernel_rfl)).trans (hall 4 (hdep 4 (mem_of (by show _=_;kernel_rfl))).1)
    generalize a'.eval=ev at e4;simp[execOp,hop,go_sem,e4]
   |6,_=>
    intro o ho a' w' D f Kc hd hout hDi hdep hJ hK;have hJ0:=hJ;obtain⟨b,x,n1,M1,FT1,hQ,hV,h10,h10',hall,hdn,h14⟩:=hJ;refine wp_val (V:=.pointer (some ⟨g,0,none⟩)) (w':=w') ?_ (hK _ _ (fun t hn=>absurd ((Reg.Has.op (p:=Op.fieldAddr 190 (.tmp 14) 0) (t:=15) (by show _=_;kernel_rfl) ho).2.symm.trans hn) (by simp)) (JS_val 6 (by decide) hDi hJ0 (fun h=>absurd h (by decide)) (fun b x hall=>rfl)))
    have hop:=(Reg.Has.op (p:=Op.fieldAddr 190 (.tmp 14) 0) (t:=15) (by show _=_;kernel_rfl) ho).1
    have e5:a'.eval (.tmp 14)=gp g:=((hdep 5 (mem_of (by show _=_;kernel_rfl))).2 14 (by show _=_;kernel_rfl)).trans (hall 5 (hdep 5 (mem_of (by show _=_;kernel_rfl))).1)
    generalize a'.eval=ev at e5;simp[execOp,hop,go_sem,e5]
   |7,_=>
    intro o ho a' w' D f Kc hd hout hDi hdep hJ hK;have hJ0:=hJ;obtain⟨b,x,n1,M1,FT1,hQ,hV,h10,h10',hall,hdn,h14⟩:=hJ;refine wp_val (V:=.pointer (some ⟨g,4,none⟩)) (w':=w') ?_ (hK _ _ (fun t hn=>absurd ((Reg.Has.op (p:=Op.fieldAddr 23 (.tmp 15) 4) (t:=16) (by show _=_;kernel_rfl) ho).2.symm.trans hn) (by simp)) (JS_val 7 (by decide) hDi hJ0 (fun h=>absurd h (by decide)) (fun b x hall=>rfl)))
    have hop:=(Reg.Has.op (p:=Op.fieldAddr 23 (.tmp 15) 4) (t:=16) (by show _=_;kernel_rfl) ho).1
    have e6:a'.eval (.tmp 15)=.pointer (some ⟨g,0,none⟩):=((hdep 6 (mem_of (by show _=_;kernel_rfl))).2 15 (by show _=_;kernel_rfl)).trans (hall 6 (hdep 6 (mem_of (by show _=_;kernel_rfl))).1)
    generalize a'.eval=ev at e6;simp[execOp,hop,go_sem,e6]
   |8,_=>
    intro o ho a' w' D f Kc hd hout hDi hdep hJ hK;have hJ0:=hJ;obtain⟨b,x,n1,M1,FT1,hQ,hV,h10,h10',hall,hdn,h14⟩:=hJ;refine wp_val (V:=.int .i64 cf.z) (w':=w') ?_ (hK _ _ (fun t hn=>absurd ((Reg.Has.op (p:=Op.load 2 (.tmp 16)) (t:=17) (by show _=_;kernel_rfl) ho).2.symm.trans hn) (by simp)) (JS_val 8 (by decide) hDi hJ0 (fun h=>absurd h (by decide)) (fun b x hall=>rfl)))
    have hop:=(Reg.Has.op (p:=Op.load 2 (.tmp 16)) (t:=17) (by show _=_;kernel_rfl) ho).1
    have e7:a'.eval (.tmp 16)=.pointer (some ⟨g,4,none⟩):=((hdep 7 (mem_of (by show _=_;kernel_rfl))).2 16 (by show _=_;kernel_rfl)).trans (hall 7 (hdep 7 (mem_of (by show _=_;kernel_rfl))).1)
    have k0:=hQ.lies.cell (i:=4) rfl;generalize a'.eval=ev at e7;simp[execOp,hop,go_sem,e7,k0]
   |9,_=>
    intro o ho a' w' D f Kc hd hout hDi hdep hJ hK;have hJ0:=hJ;obtain⟨b,x,n1,M1,FT1,hQ,hV,h10,h10',hall,hdn,h14⟩:=hJ;have e0:a'.eval (.tmp 1)=.int .i64 mark:=(hout 1 (Reg.Free.out (by show _=_;kernel_rfl)))
    exact Sl.wp_move _ (Reg.Has.op (p:=Op.move (.tmp 1)) (t:=18) (by show _=_;kernel_rfl) ho).1 (by rw[e0];exact hK _ _ (fun t hn=>absurd ((Reg.Has.op (p:=Op.move (.tmp 1)) (t:=18) (by show _=_;kernel_rfl) ho).2.symm.trans hn) (by simp)) (JS_val 9 (by decide) hDi hJ0 (fun h=>absurd h (by decide)) (fun b x hall=>rfl)))
   |10,_=>
    intro o ho a' w' D f Kc hd hout hDi hdep hJ hK;have hJ0:=hJ;obtain⟨b,x,n1,M1,FT1,hQ,hV,h10,h10',hall,hdn,h14⟩:=hJ;obtain⟨rfl,rfl,rfl⟩:=h10 hDi;have e3:a'.eval (.tmp 12)=Tmr.tp tg:=((hdep 3 (mem_of (by show _=_;kernel_rfl))).2 12 (by show _=_;kernel_rfl)).trans (hall 3 (hdep 3 (mem_of (by show _=_;kernel_rfl))).1)
    have e8:a'.eval (.tmp 17)=.int .i64 cf.z:=((hdep 8 (mem_of (by show _=_;kernel_rfl))).2 17 (by show _=_;kernel_rfl)).trans (hall 8 (hdep 8 (mem_of (by show _=_;kernel_rfl))).1)
    have e9:a'.eval (.tmp 18)=.int .i64 mark:=((hdep 9 (mem_of (by show _=_;kernel_rfl))).2 18 (by show _=_;kernel_rfl)).trans (hall 9 (hdep 9 (mem_of (by show _=_;kernel_rfl))).1)
    refine wp_call (S:=fun u w2=>∃ b x n2 M2 F2,u=.tuple #[Tmr.tv x,.bool b]∧Tmr.Pops cf.z mark n1 (duesOf S') b x n2 M2∧Tmr.Ts w2 tg n2 M2 F2∧Moves FT1 F2 w' w2) (Reg.Has.op (p:=Op.call {callee:=Callee.value (.func 140),args:=#[.tmp 12,.tmp 17,.tmp 18],argTypes:=#[187,2,2]}) (t:=19) (by show _=_;kernel_rfl) ho).1 #[Tmr.tp tg,.int .i64 cf.z,.int .i64 mark] (by simp[e3,e8,e9]) (fun _ _=>enters Tryz.func140 (by kernel_rfl) rfl _ _) ((Tmr.pop_foot w' (hid hQ.ts) fz fmk).mono (fun e w2 ⟨b,x,n',M',F',h1,h2,h3,h4⟩=>⟨_,h1,b,x,n',M',F',rfl,h2,h3,h4⟩)) ?_
    rintro u w2 ⟨b2,x2,n',M',F',rfl,h2,h3,h4⟩;exact hK _ _ (fun t hn=>absurd ((Reg.Has.op (p:=Op.call {callee:=Callee.value (.func 140),args:=#[.tmp 12,.tmp 17,.tmp 18],argTypes:=#[187,2,2]}) (t:=19) (by show _=_;kernel_rfl) ho).2.symm.trans hn) (by simp)) (JS_pop hDi hQ hV hall hdn (fun _=>⟨rfl,rfl,rfl⟩) h14 h2 h3 h4)
   |11,_=>
    intro o ho a' w' D f Kc hd hout hDi hdep hJ hK;have hJ0:=hJ;obtain⟨b,x,n1,M1,FT1,hQ,hV,h10,h10',hall,hdn,h14⟩:=hJ;have e10:a'.eval (.tmp 19)=f 10:=((hdep 10 (mem_of (by show _=_;kernel_rfl))).2 19 (by show _=_;kernel_rfl))
    exact Sl.wp_move _ (Reg.Has.op (p:=Op.move (.tmp 19)) (t:=8) (by show _=_;kernel_rfl) ho).1 (by rw[e10];exact hK _ _ (fun t hn=>absurd ((Reg.Has.op (p:=Op.move (.tmp 19)) (t:=8) (by show _=_;kernel_rfl) ho).2.symm.trans hn) (by simp)) (JS_val 11 (by decide) hDi hJ0 (fun _=>(hdep 10 (mem_of (by show _=_;kernel_rfl))).1) (fun b x hall=>hall 10 (hdep 10 (mem_of (by show _=_;kernel_rfl))).1)))
   |12,_=>
    intro o ho a' w' D f Kc hd hout hDi hdep hJ hK;have hJ0:=hJ;obtain⟨b,x,n1,M1,FT1,hQ,hV,h10,h10',hall,hdn,h14⟩:=hJ;have e11:a'.eval (.tmp 8)=.tuple #[Tmr.tv x,.bool b]:=((hdep 11 (mem_of (by show _=_;kernel_rfl))).2 8 (by show _=_;kernel_rfl)).trans (hall 11 (hdep 11 (mem_of (by show _=_;kernel_rfl))).1)
    refine wp_val (V:=Tmr.tv x) (w':=w') ?_ (hK _ _ (fun t hn=>absurd ((Reg.Has.op (p:=Op.extract (.tmp 8) 0) (t:=20) (by show _=_;kernel_rfl) ho).2.symm.trans hn) (by simp)) (JS_val 12 (by decide) hDi hJ0 (fun _=>(hdn 11 (by simp) (hdep 11 (mem_of (by show _=_;kernel_rfl))).1).1) (fun b2 x2 hall2=>tup_fst ((hall 11 (hdep 11 (mem_of (by show _=_;kernel_rfl))).1).symm.trans (hall2 11 (hdep 11 (mem_of (by show _=_;kernel_rfl))).1)))))
    have hop:=(Reg.Has.op (p:=Op.extract (.tmp 8) 0) (t:=20) (by show _=_;kernel_rfl) ho).1
    generalize a'.eval=ev at e11;simp[execOp,hop,e11,go_sem]
   |13,_=>
    intro o ho a' w' D f Kc hd hout hDi hdep hJ hK;have hJ0:=hJ;obtain⟨b,x,n1,M1,FT1,hQ,hV,h10,h10',hall,hdn,h14⟩:=hJ;have e11:a'.eval (.tmp 8)=.tuple #[Tmr.tv x,.bool b]:=((hdep 11 (mem_of (by show _=_;kernel_rfl))).2 8 (by show _=_;kernel_rfl)).trans (hall 11 (hdep 11 (mem_of (by show _=_;kernel_rfl))).1)
    refine wp_val (V:=.bool b) (w':=w') ?_ (hK _ _ (fun t hn=>absurd ((Reg.Has.op (p:=Op.extract (.tmp 8) 1) (t:=21) (by show _=_;kernel_rfl) ho).2.symm.trans hn) (by simp)) (JS_val 13 (by decide) hDi hJ0 (fun _=>(hdn 11 (by simp) (hdep 11 (mem_of (by show _=_;kernel_rfl))).1).1) (fun b2 x2 hall2=>tup_snd ((hall 11 (hdep 11 (mem_of (by show _=_;kernel_rfl))).1).symm.trans (hall2 11 (hdep 11 (mem_of (by show _=_;kernel_rfl))).1)))))
    have hop:=(Reg.Has.op (p:=Op.extract (.tmp 8) 1) (t:=21) (by show _=_;kernel_rfl) ho).1
    generalize a'.eval=ev at e11;simp[execOp,hop,e11,go_sem]
   |14,_=>
    intro o ho a' w' D f Kc hd hout hDi hdep hJ hK;have hJ0:=hJ;obtain⟨b,x,n1,M1,FT1,hQ,hV,h10,h10',hall,hdn,h14⟩:=hJ;refine wp_val (V:=gp w'.heap.size) (w':=w'.alloc (Obj.cells #[.string ⟨#[]⟩,.int .i64 0,.int .i64 0] 218)) ?_ (hK _ _ (fun t hn=>absurd ((Reg.Has.op (p:=Op.alloc 218) (t:=6) (by show _=_;kernel_rfl) ho).2.symm.trans hn) (by simp)) (JS_alloc hDi hQ hV h10 h10' hall hdn))
    have hop:=(Reg.Has.op (p:=Op.alloc 218) (t:=6) (by show _=_;kernel_rfl) ho).1
    simp[execOp,hop,go_sem]
   |15,_=>
    intro o ho a' w' D f Kc hd hout hDi hdep hJ hK;have hJ0:=hJ;obtain⟨b,x,n1,M1,FT1,hQ,hV,h10,h10',hall,hdn,h14⟩:=hJ;have hops:=op_at (p:=Op.store 218 (.tmp 6) (.tmp 20)) (d:=none) (by show _=_;kernel_rfl) ho
    have hop:=hops.1;have hdn':=hops.2;obtain⟨g6,q,p1,p2,p3,p4,p5⟩:=h14 (hdep 14 (mem_of (by show _=_;kernel_rfl))).1
    have e14:a'.eval (.tmp 6)=gp g6:=((hdep 14 (mem_of (by show _=_;kernel_rfl))).2 6 (by show _=_;kernel_rfl)).trans p1
    have e12:a'.eval (.tmp 20)=Tmr.tv x:=((hdep 12 (mem_of (by show _=_;kernel_rfl))).2 20 (by show _=_;kernel_rfl)).trans (hall 12 (hdep 12 (mem_of (by show _=_;kernel_rfl))).1)
    have z0:=p4.cell (i:=0) rfl;have z1:=p4.cell (i:=1) rfl;have z2:=p4.cell (i:=2) rfl;have y0:=p4.open_ 0;have y1:=p4.open_ 1;have y2:=p4.open_ 2;refine wp_skip (w':=((w'.setCell ⟨g6,0,none⟩ (.string x.key)).setCell ⟨g6,1,none⟩ (.int .i64 x.s)).setCell ⟨g6,2,none⟩ (.int .i64 x.e)) ?_ ?_
    ·generalize a'.eval=ev at e14 e12
     simp[execOp,hop,e14,e12,go_sem,z0,z1,z2,y0,y1,y2]
    ·have:=hK (a'.eval (.tmp 6)) _ (fun t _ hs=>by
      have h6:=hs.symm.trans (show RelA.slotOf _ 15=some 6 from (by show _=_;kernel_rfl))
      cases h6
      rfl) (JS_store hQ hV h10 h10' hall hdn (hdep 12 (mem_of (by show _=_;kernel_rfl))).1 (hdep 14 (mem_of (by show _=_;kernel_rfl))).1 p1 p2 p3 p4 (hall 12 (hdep 12 (mem_of (by show _=_;kernel_rfl))).1) hBk (a'.eval (.tmp 6)))
     rw[hdn'] at this ⊢;exact this
   |i+16,hi=>exact absurd hi (by omega)
  ·intro f D w' hD hJ hlink hev
   obtain⟨b,x,n1,M1,FT1,hQ,hV,-,h10',hall,-,h14⟩:=hJ;have P:=h10' (hD 10 (by omega))
   obtain⟨g6,q,p1,p2,p3,p4,p5⟩:=h14 (hD 14 (by omega))
   have e13:f 13=.bool b:=hall 13 (hD 13 (by omega))
   have hxq:x=q:=Tmr.tv_inj ((hall 12 (hD 12 (by omega))).symm.trans (p5 (hD 15 (by omega))))
   subst hxq
   change wpList _ _ _ [_] (Act.put (Act.put (Act.put (Act.put (Act.put (Act.put (Act.put (Act.put (Act.put (Act.put (Act.put (Act.put (Act.put (Act.put (Act.put (Act.put _ (some 9) (f 0)) (some 10) (f 1)) (some 11) (f 2)) (some 12) (f 3)) (some 13) (f 4)) (some 14) (f 5)) (some 15) (f 6)) (some 16) (f 7)) (some 17) (f 8)) (some 18) (f 9)) (some 19) (f 10)) (some 8) (f 11)) (some 20) (f 12)) (some 21) (f 13)) (some 6) (f 14)) none (f 15)) _
   rw[Rel.puts_zero];rw[put_none];rw[p1,e13];have HQ:=hid hQ;have HV:=hid hV;have L6:=hid p4;have PP:=hid P;clear hD hall h14 h10' hlink hev p5 p4 hQ hV P e13 p1;cases b
   ·have ST:=hid (Q.out.stop HQ.out HV.out PP.out)
    go_wp2_with fail
    go_ret;exact⟨_,_,_,_,_,_,_,_,rfl,ST.out.1,ST.out.2⟩
   ·have hle:Tmr.IsLeast (duesOf S') x:=by
     rcases PP.out with h|h
     ·exact h.2.1
     ·cases h.1
    obtain⟨pp,hpp,e1,e2⟩:=hle.1;obtain⟨k,hk⟩:=At.ex (Q.out.fine.rises x.key) x.s x.e;have AT:=hid hk;have HE:Hid (Eq2 pp x.s x.e):=hid ⟨e1,e2⟩;have HP:=hid (hk.found (Q.out.fine.rises x.key) hpp HE.out);have hks:=(Q.out.q.ts.fits hle.1).1
    have hO:O.length+1≤1048576:=by
     have:=Q.out.q.few;have:=Q.out.len
     have:0<n':=Nat.pos_of_ne_zero fun e=>by
      have:=Q.out.q.ts;rw[e] at this;exact this.none_ _ hle.1
     have:=H.out.few;omega
    have l0:=L6.out.cell (i:=0) rfl;have l1:=L6.out.cell (i:=1) rfl;have l2:=L6.out.cell (i:=2) rfl;clear hle hpp e1 e2 hk;go_wp2_with fail
    refine (cut_ok x pp _ HQ (hid (Q.out.fine.rises x.key)) AT HP HE (Q.out.fine.few _) hks (Nat.le_trans Q.out.cnt hc)).mono ?_
    rintro r w2 ⟨f2,c2,Bk2,rfl,hc2,Q2,V2,B2⟩
    have OW:Hid (Sl.Own Pn.k w.heap.size w2 (.slice AO O.length co) O):=hid ((Q.out.out_pop HV.out).move fun a ha=>V2.block a (Nat.lt_of_lt_of_le (Q.out.out.lt a ha).2 HV.out.size) fun h=>by
     rcases h with h|h|h
     ·exact (Q.out.ap a ha).1 (.inl h)
     ·exact (Q.out.ap a ha).1 (.inr (.inl h))
     ·rcases (HV.out.new a h).1 with r|r
      ·exact (Q.out.ap a ha).1 (.inr (.inr r))
      ·have:=(Q.out.out.lt a ha).2;omega)
    have hw:Hid (w.heap.size≤w2.heap.size):=hid (Nat.le_trans Q.out.v.size (Nat.le_trans HV.out.size V2.size));have Q2:=hid Q2;have V2:=hid V2;have B2:=hid B2;clear l0 l1 l2;dsimp only;go_wp2_with (at_builtin;refine wpList_plain rfl fun K' hK'=>Sl.wp_append (K:=Pn.k) Pn.ok (.tmp 25) (.tmp 29) rfl (base:=w.heap.size) (l:=O) (l2:=[pp]) (by exact OW.out.next (below1 _ _)) (by exact Sl.Is.one Pn.ok (x:=pp) (Lies.new _ _ _)) (by simp only[List.length_singleton];omega) (by have:=hw.out;simp;omega) (fun v' w3 x1 x2 x3=>hK' _ _ ?_);have D6:=hid (Q.out.step HQ.out HV.out PP.out HP.out HE.out hc2 Q2.out V2.out B2.out (below1 _ _) x1 x2 x3);clear x1 x2 x3)
    obtain⟨b9,-,i9⟩:=D6.out.out.is;obtain⟨A9,c9,rfl⟩:=i9.len;exact⟨⟨_,_,_,_,_,_,_,D6⟩,by have:=D6.out.len;simp only[slen,List.length_append,List.length_singleton] at this ⊢;omega⟩
end Grp
end Go.Proofs.YtfjlnniahfbdfaaGreat
