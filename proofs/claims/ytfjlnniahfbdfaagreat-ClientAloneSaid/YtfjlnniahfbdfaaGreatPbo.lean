/- A part of the proof. -/
import Derived.Test.YtfjlnniahfbdfaaGreatPaf
import Derived.Test.YtfjlnniahfbdfaaGreatPbn
set_option linter.unusedVariables false
set_option maxHeartbeats 4000000
namespace Go.Proofs.YtfjlnniahfbdfaaGreat
open Lib (hid)
open Go.RowKit Rel
namespace RelW
section
variable {P:Program} {ops:Array Oper} {md:Region.Mode} {n:Nat} {R:World→World→Prop}
def guardOf(ops:Array Oper)(k:Nat):Option (Nat×Bool):=(ops[k]?).bind (·.guard)
def fitB(ops:Array Oper)(n N:Nat):Bool:=
 decide (n<ops.size)&&Region.sinkB .any ops n&&Region.chainB .any ops n&&Region.seqB .any ops (ops.size-n) n (doneArr ops.size n) &&
  (List.range n).all (fun k=>match ops[k]? with|none=>false|some o=>(match o.guard with|none=>true|some (j,_)=>(deps ops k).contains j&&decide (j<n)&&(match dstOf ops j with|none=>false|some t=>decide (t<N)))&&(match o.dst with|none=>false|some t=>decide (t<N))&&(o.after.all fun e=>!Region.binds .any e||decide (e.on<k))) &&
  (List.range n).all (fun k=>(List.range n).all fun j=>decide (k=j)||decide (dstOf ops k≠dstOf ops j))
structure Fit(ops:Array Oper)(n N:Nat):Prop where
 lt:n<ops.size
 sink:Region.sinkB .any ops n=true
 chain:Region.chainB .any ops n=true
 seq:Region.seqB .any ops (ops.size-n) n (doneArr ops.size n)=true
 each:∀ k,k<n→∃ o t,ops[k]?=some o∧(∀ j b,o.guard=some (j,b)→j∈deps ops k∧j<n∧∃ u,dstOf ops j=some u∧u<N)∧o.dst=some t∧t<N∧∀ e∈o.after,Region.binds .any e=true→e.on<k
 apart:∀ k j,k<n→j<n→k≠j→dstOf ops k≠dstOf ops j
theorem fit_of{N:Nat}(h:fitB ops n N=true):Fit ops n N:=by
 simp only[fitB,Bool.and_eq_true,decide_eq_true_eq,List.all_eq_true,List.mem_range] at h
 obtain⟨⟨⟨⟨⟨h1,h2⟩,h3⟩,h4⟩,h5⟩,h6⟩:=h
 refine⟨h1,h2,h3,h4,fun k hk=>?_,fun k j hk hj hne=>?_⟩
 ·have:=h5 k hk
  cases ho:ops[k]? with
  |none=>rw[ho] at this;cases this
  |some o=>
   rw[ho] at this;simp only[Bool.and_eq_true] at this;obtain⟨⟨a,b⟩,c⟩:=this;cases hd:o.dst with
   |none=>rw[hd] at b;cases b
   |some t=>
    rw[hd] at b;simp only[decide_eq_true_eq] at b;refine⟨o,t,rfl,fun j b hg=>?_,hd,b,fun e he hb=>?_⟩
    ·rw[hg] at a
     simp only[Bool.and_eq_true,decide_eq_true_eq,List.contains_iff_mem] at a;obtain⟨⟨a1,a2⟩,a3⟩:=a;refine⟨a1,a2,?_⟩
     cases hj:dstOf ops j with
     |none=>rw[hj] at a3;cases a3
     |some u=>rw[hj] at a3;exact⟨u,rfl,by simpa using a3⟩
    ·have:=Array.all_eq_true_iff_forall_mem.1 c e he
     simpa [hb] using this
 ·have:=h6 k hk j hj
  simp only[Bool.or_eq_true,decide_eq_true_eq] at this;rcases this with q|q
  ·exact absurd q hne
  ·exact q
theorem wanted_of{o:Oper}{a:Act}{N:Nat}(hN:a.tmps.size=N)(h:∀ j b,o.guard=some (j,b)→∃ u,dstOf ops j=some u∧u<N∧a.tmps.getD u undef=.bool b):Region.wanted o (yielded ops a.tmps)=true:=by
 unfold Region.wanted
 cases hg:o.guard with
 |none=>rfl
 |some jb=>
  obtain⟨j,b⟩:=jb;obtain⟨u,h1,h2,h3⟩:=h j b hg;have hu:u<a.tmps.size:=by rw[hN];exact h2
  have h4:a.tmps[u]?=some (.bool b):=by
   rw[Array.getD_eq_getD_getElem?,Array.getElem?_eq_getElem hu] at h3
   rw[Array.getElem?_eq_getElem hu,←h3]
   rfl
  have h5:yielded ops a.tmps j=some b:=by
   unfold yielded;have:(ops[j]?).bind (·.dst)=some u:=h1
   rw[this,Option.bind_some,h4]
  simp[h5]
structure Inv(R:World→World→Prop)(ops:Array Oper)(n:Nat)(a0:Act)(w0:World)(Ψ:Nat→Value→World→Prop)(s:Array Bool)(a:Act)(w:World):Prop where
 head:HeadInv .any ops n s
 defers:a.defers=a0.defers
 size:a.tmps.size=a0.tmps.size
 others:∀ t,(∀ k,k<n→s.getD k false=true→dstOf ops k≠some t)→a.tmps.getD t undef=a0.tmps.getD t undef
 vals:∀ k,k<n→s.getD k false=true→∀ t,dstOf ops k=some t→Ψ k (a.tmps.getD t undef) w
 below:R w0 w
def Step(R:World→World→Prop)(P:Program)(ops:Array Oper)(n:Nat)(a0:Act)(w0:World)(Q:Exit→Act→World→Prop)(Ψ:Nat→Value→World→Prop)(k:Nat):Prop:=
 ∀ o,ops[k]?=some o→∀ (a:Act) (w:World) (K:Act→World→Prop),a.defers=a0.defers→
   (∀ t,(∀ j,j<n→dstOf ops j≠some t)→a.tmps.getD t undef=a0.tmps.getD t undef)→
   (∀ j∈deps ops k,∀ t,dstOf ops j=some t→Ψ j (a.tmps.getD t undef) w)→R w0 w→
   (∀ v w',Ψ k v w'→R w w'→K (a.put o.dst v) w')→o.wp P a w K Q
theorem rel_any(HR:Goes R){a0:Act}{w0:World}{Q:Exit→Act→World→Prop}{Ψ:Nat→Value→World→Prop}{N:Nat}(F:Fit ops n N)(hN:a0.tmps.size=N)
  (mono:∀ k v w w',Ψ k v w→R w w'→Ψ k v w') (grd:∀ k j b,k<n→guardOf ops k=some (j,b)→∀ v w,Ψ j v w→v=.bool b) (step:∀ k,k<n→Step R P ops n a0 w0 Q Ψ k)
  (tail:∀ f w,(∀ k,k<n→Ψ k (f k) w)→R w0 w→wpAny P .any ops Q (ops.size-n) (doneArr ops.size n) (puts ops a0 f n) w):
  ∀ (c:Nat) (s:Array Bool) (a:Act) (w:World),Inv R ops n a0 w0 Ψ s a w→cnt n s=c→wpAny P .any ops Q (c+(ops.size-n)) s a w:=by
 intro c
 induction c with
 |zero=>
  intro s a w I hc;rw[Nat.zero_add]
  have all:∀ k,k<n→s.getD k true=true:=fun k hk=>by
   simp only[cnt,List.countP_eq_zero,List.mem_range] at hc
   simpa using hc k hk
  have allf:∀ k,k<n→s.getD k false=true:=fun k hk=>by rw[←getD_true (by rw[I.head.size];have:=F.lt;omega)];exact all k hk
  have hs:s=doneArr ops.size n:=by
   have hz:(doneArr ops.size n).size=ops.size:=by simp[doneArr];have:=F.lt;omega
   refine Array.ext (I.head.size.trans hz.symm) fun i hi hi'=>?_
   by_cases h:i<n
   ·have:=all i h
    simp only[Array.getD_eq_getD_getElem?,Array.getElem?_eq_getElem hi,Option.getD_some] at this
    rw[this];simp[doneArr,h]
   ·have:=I.head.tail i (by omega) (by rw[←I.head.size];exact hi)
    simp only[Array.getD_eq_getD_getElem?,Array.getElem?_eq_getElem hi,Option.getD_some] at this
    rw[this];simp[doneArr,Array.getElem_append,h]
  have ha:a=puts ops a0 (fun k=>a.tmps.getD ((dstOf ops k).getD 0) undef) n:=by
   refine act_ext (I.defers.trans (puts_size ops a0 _ n).2.symm) (I.size.trans (puts_size ops a0 _ n).1.symm) fun t=>?_
   by_cases h:∃ k,k<n∧dstOf ops k=some t
   ·obtain⟨k,hk,hd⟩:=h
    obtain⟨o,t',ho,_,ho2,ht,_⟩:=F.each k hk
    have:t'=t:=by
     have:dstOf ops k=some t':=by simp[dstOf,ho,ho2]
     rw[hd] at this;exact (Option.some.inj this).symm
    subst this;rw[puts_at hd (by rw[hN];exact ht) n hk (fun j hj hne e=>F.apart j k hj hk hne (e.trans hd.symm)),hd]
    rfl
   ·rw[puts_other n (fun k hk e=>h ⟨k,hk,e⟩)]
    exact I.others t (fun k hk _ e=>h ⟨k,hk,e⟩)
  rw[hs,ha];refine tail _ _ (fun k hk=>?_) I.below
  obtain⟨o,t,ho,_,hd,_,_⟩:=F.each k hk;have hd':dstOf ops k=some t:=by simp[dstOf,ho,hd]
  rw[hd'];exact I.vals k hk (allf k hk) t hd'
 |succ c ih=>
  intro s a w I hc
  have some_:∃ i,i<n∧s.getD i true=false:=by
   have:0<(List.range n).countP fun k=>!s.getD k true:=by unfold cnt at hc;omega
   obtain⟨i,hi,hs⟩:=List.countP_pos_iff.1 this;exact⟨i,by simpa using hi,by simpa using hs⟩
  rw[show c+1+(ops.size-n)=(c+(ops.size-n))+1 by omega]
  have bound:∀ j∈Region.ready .any ops s,j<n:=fun j hj=>by
   obtain⟨i,hi,hs⟩:=some_;rcases Nat.lt_or_ge j n with h|h
   ·exact h
   ·exact absurd hj (tail_waits F.sink F.chain F.lt I.head _ i rfl hi hs j h)
  refine⟨fun he=>?_,fun i hi=>?_⟩
  ·exfalso
   have key:∀ m,m<n→s.getD m true=false→False:=fun m=>by
    induction m using Nat.strongRecOn with
    |_ m ih=>
     intro hm hs;obtain⟨o,t,ho,_,_,_,hb⟩:=F.each m hm
     have:m∈Region.ready .any ops s:=mem_ready.2 ⟨hs,o,ho,fun e he hbe=>by
      have hlt:=hb e he hbe;cases hx:s.getD e.on false with
      |true=>rfl
      |false=>exact absurd (getD_in (by rw[I.head.size];have:=F.lt;omega) hx) (fun q=>ih e.on hlt (by omega) q)⟩
     rw[he] at this;cases this
   obtain⟨i,hi,hs⟩:=some_;exact key i hi hs
  ·have hin:=bound i hi
   obtain⟨hun,o',ho',hall⟩:=mem_ready.1 hi;obtain⟨o,t,ho,hg,hd,ht,hb⟩:=F.each i hin;obtain rfl:o=o':=by rw[ho] at ho';exact Option.some.inj ho'
   have hd':dstOf ops i=some t:=by simp[dstOf,ho,hd]
   have hlt:=F.lt
   have hdep:∀ j∈deps ops i,j<i∧s.getD j false=true:=fun j hj=>by
    simp only[deps,ho,Option.map_some,Option.getD_some,List.mem_map,List.mem_filter] at hj;obtain⟨e,⟨he,hbe⟩,rfl⟩:=hj;have he':e∈o.after:=by simpa using he
    exact⟨hb e he' hbe,hall e he' hbe⟩
   unfold wpOp;simp only[ho]
   rw[if_pos (wanted_of (N:=N) (I.size.trans hN) fun j b hgb=>(by
    obtain⟨q1,q2,u,q3,q4⟩:=hg j b hgb;exact⟨u,q3,q4,grd i j b hin (by simp[guardOf,ho,hgb]) _ _ (I.vals j q2 (hdep j q1).2 u q3)⟩))]
   refine .inl (step i hin o ho a w _ I.defers (fun t ht=>I.others t (fun k hk _=>ht k hk)) (fun j hj t ht=>I.vals j (by have:=(hdep j hj).1;omega) (hdep j hj).2 t ht) I.below ?_)
   intro v w' hv hw;rw[hd]
   have hset:∀ k d,k≠i→(s.setIfInBounds i true).getD k d=s.getD k d:=fun k d hk=>by
    simp[Array.getD_eq_getD_getElem?,Ne.symm hk]
   have hseti:∀ d,(s.setIfInBounds i true).getD i d=true:=fun d=>by
    simp[Array.getD_eq_getD_getElem?,show i<s.size by rw[I.head.size];omega]
   refine ih _ _ _ ⟨I.head.set hi hin,I.defers,by simpa [Act.put] using I.size,fun u hu=>?_,fun k hk hk2 u hu=>?_,HR.trans I.below hw⟩ ?_
   ·have hne:t≠u:=fun e=>hu i hin (hseti _) (by rw[hd',e])
    rw[put_get,if_neg (fun x=>hne x.1)]
    exact I.others u (fun k hk hs=>by
     by_cases e:k=i
     ·subst e;exact hu k hk (hseti _)
     ·exact hu k hk (by rw[hset k _ e];exact hs))
   ·by_cases e:k=i
    ·subst e
     obtain rfl:t=u:=Option.some.inj (hd'.symm.trans hu);rw[put_get,if_pos ⟨rfl,by rw[I.size,hN];exact ht⟩]
     exact hv
    ·have hne:t≠u:=fun q=>F.apart k i hk hin e (by rw[hu,hd',q])
     rw[put_get,if_neg (fun x=>hne x.1)]
     exact mono _ _ _ _ (I.vals k hk (by rw[hset k _ e] at hk2;exact hk2) u hu) hw
   ·have:=count_one (p:=fun k=>!s.getD k true) (q:=fun k=>!(s.setIfInBounds i true).getD k true) (i:=i) (by simp[hun]) (by simp[hseti]) (fun k hk=>by simp[hset k _ hk]) n hin
    unfold cnt at hc ⊢;omega
theorem puts_eval{a:Act}{N:Nat}(F:Fit ops n N)(hN:a.tmps.size=N){k:Nat}(hk:k<n){t:Tmp}(ht:dstOf ops k=some t)(f:Nat→Value):(puts ops a f n).eval (.tmp t)=f k:=by
 obtain⟨o,t',ho,_,hd,hlt,_⟩:=F.each k hk
 have h:dstOf ops k=some t':=by simp[dstOf,ho,hd]
 rw[ht] at h
 obtain rfl:=Option.some.inj h
 exact puts_at ht (by rw[hN];exact hlt) n hk (fun j hj hne e=>F.apart j k hj hk hne (e.trans ht.symm))
end
end RelW
theorem wp_region_when{R:World→World→Prop}(HR:Goes R){id:Nat}{Q:Exit→Act→World→Prop}{a:Act}{w:World}{l:List Oper}(n N:Nat)(Ψ:Nat→Value→World→Prop)(hm:Tryz.prog.follows .mixedOrders=true)(hN:a.tmps.size=N)(hB:RelW.fitB l.toArray n N=true)
  (mono:∀ k v w w',Ψ k v w→R w w'→Ψ k v w') (grd:∀ k j b,k<n→RelW.guardOf l.toArray k=some (j,b)→∀ v w,Ψ j v w→v=.bool b) (step:∀ k,k<n→RelW.Step R Tryz.prog l.toArray n a w Q Ψ k)
  (tail:∀ f w',(∀ k,k<n→Ψ k (f k) w')→R w w'→(∀ k,k<n→∀ t,Rel.dstOf l.toArray k=some t→(Rel.puts l.toArray a f n).eval (.tmp t)=f k)→wpList Tryz.prog l.toArray Q (l.drop n) (Rel.puts l.toArray a f n) w'):
  (Code.region id l.toArray true).wp Tryz.prog Q a w:=by
 have F:=RelW.fit_of hB
 refine wp_region_any hm ?_
 have hlt:n<l.length:=by simpa using F.lt
 have key:=RelW.rel_any HR (P:=Tryz.prog) (Q:=Q) (a0:=a) (w0:=w) F hN mono grd step (fun f w' hv hb=>by
  have:=wpAny_of_seq (P:=Tryz.prog) (md:=.any) (Q':=Q) (l.drop n) n (Rel.doneArr l.toArray.size n) (Rel.puts l.toArray a f n) w' (fun j=>by simp[List.getElem?_drop]) (by
   rw[show (l.drop n).length=l.toArray.size-n by simp];exact F.seq) (tail f w' hv hb (fun k hk t ht=>RelW.puts_eval F hN hk ht f))
  rwa [show (l.drop n).length=l.toArray.size-n by simp] at this)
 have h0:∀ k d,(Array.replicate l.toArray.size false).getD k d=if k<l.length then false else d:=fun k d=>by
  simp only[Array.getD_eq_getD_getElem?,Array.getElem?_replicate,List.size_toArray]
  split<;>rfl
 have hc:Rel.cnt n (Array.replicate l.toArray.size false)=n:=by
  unfold Rel.cnt;rw[List.countP_eq_length.2]
  ·simp
  ·intro k hk
   rw[h0,if_pos (by have:=List.mem_range.1 hk;omega)]
   rfl
 have:=key n (Array.replicate l.toArray.size false) a (World.drew w) ⟨⟨by simp,fun j q _ hl=>(by rw[getD_replicate_false] at hl;cases hl),fun t _ h=>getD_in (by simpa using h) (getD_replicate_false _ _)⟩,rfl,rfl,fun t _=>rfl,
  (fun k hk hs=>(by rw[h0] at hs;exfalso;split at hs;exact Bool.noConfusion hs;exact Bool.noConfusion hs)),HR.drew w⟩ hc
 rwa [show n+(l.toArray.size-n)=l.toArray.size by have:=F.lt;omega] at this
def RelW.guardsB(ops:Array Oper)(n:Nat)(js:List Nat)(b:Bool):Bool:=(List.range n).all fun k=>match RelW.guardOf ops k with
 |none=>true
 |some (j,b')=>js.contains j&&(b' == b)
theorem RelW.guards_of{ops:Array Oper}{n:Nat}{js:List Nat}{b:Bool}(h:RelW.guardsB ops n js b=true){k j:Nat}{b':Bool}(hk:k<n)(hg:RelW.guardOf ops k=some (j,b')):j∈js∧b'=b:=by
 have:=List.all_eq_true.1 h k (List.mem_range.2 hk)
 rw[hg] at this
 simpa using this
open Go.ChangeShapes Go.WideShapes Go.ChangeAt
set_option maxRecDepth 100000
namespace Cn
open Small Foot Fm Ca Rel RelG
def Dh(x hh:Nat)(dv:Value)(i:Nat)(u:Value)(w:World):Prop:=match i with
 |0=>u=gp x
 |1=>u=gp x
 |2=>u=.pointer (some ⟨x,3,none⟩)
 |3=>u=.pointer (some ⟨x,10,none⟩)
 |4=>u=gp hh
 |5=>u=.bool true
 |6=>u=.bool true
 |7=>u=gp x
 |8=>u=gp x
 |9=>u=.pointer (some ⟨x,3,none⟩)
 |10=>u=.pointer (some ⟨x,10,none⟩)
 |11=>u=gp hh
 |12=>u=dv
 |_=>True
theorem Dh.mono(x hh:Nat)(dv:Value):∀ i u w w',Dh x hh dv i u w→Below w.heap.size w w'→Dh x hh dv i u w'
 |0,u,w,w',h,k=>h
 |1,u,w,w',h,k=>h
 |2,u,w,w',h,k=>h
 |3,u,w,w',h,k=>h
 |4,u,w,w',h,k=>h
 |5,u,w,w',h,k=>h
 |6,u,w,w',h,k=>h
 |7,u,w,w',h,k=>h
 |8,u,w,w',h,k=>h
 |9,u,w,w',h,k=>h
 |10,u,w,w',h,k=>h
 |11,u,w,w',h,k=>h
 |12,u,w,w',h,k=>h
 |i+13,u,w,w',h,k=>trivial
section
variable {w0 w w':World} {E:Ev} {s s':St} {R R':Nat→Nat→Prop} {m:Ms.M} {mv:Bool} {r:Rp} {oa:Option Addr} {on oc:Nat} {st:Option Nat}
theorem CM.on1916{hh:Nat}{tg tt kd:Int}{sn:Bool}{st:Option Nat}{M':List Ow.O}(h:CM w0 E s R w)(e:s.g.hand=some hh)(l:Hd.Is w' hh E.b tg tt kd sn st)(q:Ow.Is w' E.b E.cf.h M')(k:Moves (Or2 (Hd.At hh) (Ow.Fp E.b)) (Or2 (Hd.At hh) (Ow.Fp E.b)) w w'):
  ∃ R',CM w0 E {s with M:=M',hg:=tg,ht:=tt,hkd:=kd,hs:=sn,hst:=st} R' w'∧On TT R w R' w':=by
 obtain⟨-,r⟩:=h.hand hh e
 have ap:Apart (Hd.At hh) (Ow.Fp E.b):=fun j h1 h2=>h.fam.ap 19 16 (by decide) j (by rw[r];exact h1) (by rw[h.r16];exact h2)
 have k2:Moves (Or2 (R 19) (R 16)) (Or2 (Hd.At hh) (Ow.Fp E.b)) w w':=by rw[r,h.r16];exact k
 have o:On TT R w (rset (rset R 19 (Hd.At hh)) 16 (Ow.Fp E.b)) w':=On.two h.fam k2 (.inr (by decide)) (.inr (by decide))
 have K:=two_kp h.fam k2
 exact⟨_,⟨h.fam.two (by decide) k2 ap,h.few,fun i g e=>h.kbox (K i (by have:=blt h e;omega) (by have:=blt h e;omega)) g e,q,rset_same _ _ _,(h.kctl (K 17 (by decide) (by decide))).1,(h.kctl (K 17 (by decide) (by decide))).2,h.kclient (K 18 (by decide) (by decide)),(h.kreps o).1,(h.kreps o).2,fun h' e'=>by
  obtain rfl:hh=h':=Option.some.inj (e.symm.trans e');exact⟨l,by rw[rset_ne _ _ (by decide),rset_same]⟩,(h.klist (K 21 (by decide) (by decide))).1,(h.klist (K 21 (by decide) (by decide))).2⟩,o⟩
theorem did_give{hh:Nat}{ms ds:Option Nat}(H:Hid (CM w0 E s R w))(hn:Hid (s.g.hand=some hh))(hk:Hid (s.hkd=3))(hs:Hid (s.hs=true)):Calls Tryz.prog 20 #[gp E.x,dval ⟨3,0,c0z,s.hg,ms⟩ false r0 none 0 0 ds] w fun e w'=>e=.returned (.bool true)∧∃ R',CM w0 E {s with hkd:=4,hs:=false,hst:=ds} R' w'∧On TT R w R' w':=by
 have h1:Hid (((3:Int) == 1)=false):=hid rfl
 have h2:Hid (((3:Int) == 2)=false):=hid rfl
 obtain⟨W,hW,d0,k0⟩:=alloc1 w 57 (dcl ⟨3,0,c0z,s.hg,ms⟩ false r0 none 0 0 ds)
 obtain⟨g,hg⟩:∃ g,w.heap.size=g:=⟨_,rfl⟩
 have D0:=hid (Bo.new H.out.fam d0 (Nat.le_refl _))
 have F0:=hid H.out.fam
 have H0:=hid (H.out.next k0)
 have O0:Hid (On TT R w R W):=hid (On.below H.out.fam k0)
 have OLD:=hid H.out.old
 have LO:Hid (w0.heap.size≤w.heap.size):=hid H.out.fam.below.size
 have HG:=hid hg
 have B0:=hid k0
 rw[hg] at D0
 go_enter Tryz.func20,Tryz.ntmps20
 go_upto_region 1 with fail
 clear hg hW d0 k0 H
 have k0:=D0.out.lies.cell (i:=0) rfl
 have e1:=h1.out
 have e2:=h2.out
 obtain⟨cv,rv,q0,-⟩:=H0.out.client
 have c10:=q0.lies.cell (i:=10) rfl
 rw[hn.out,stv_some] at c10
 have C10:=hid c10
 have DL:=hid D0.out.lies
 obtain⟨dv,hdv⟩:∃ dv,dv=dval ⟨3,0,c0z,s.hg,ms⟩ false r0 none 0 0 ds:=⟨_,rfl⟩
 have DV:=hid hdv.symm
 clear q0 c10
 go_upto_region 9 with fail
 clear k0 e1 e2
 refine wp_region_when Goes.below 13 45 (Dh E.x hh dv) (by show _=_;kernel_rfl) (by show _=_;kernel_rfl) (by show _=_;kernel_rfl) (Dh.mono E.x hh dv) ?_ ?_ ?_
 ·intro k j b hk hg v w' hv
  obtain⟨hj,rfl⟩:=RelW.guards_of (js:=[6]) (b:=true) (by show _=_;kernel_rfl) hk hg
  simp only[List.mem_cons,List.not_mem_nil,or_false] at hj;rcases hj with rfl|rfl|rfl<;>exact hv
 ·intro i hi o ho a' w' Kc hd hout hdep hB hK
  match i,hi,ho with
  |0,_,ho=>exact Sl.wp_move _ (Reg.Has.op (p:=Op.move (.tmp 0)) (t:=30) (by show _=_;kernel_rfl) ho).1 (hK _ _ (hout 0 (Reg.Free.out (by show _=_;kernel_rfl))) (Below.refl _ _))
  |1,_,ho=>
   refine wp_val (V:=gp E.x) (w':=w') ?_ (hK _ _ rfl (Below.refl _ _))
   have hop:=(Reg.Has.op (p:=Op.nilCheck (.tmp 30)) (t:=31) (by show _=_;kernel_rfl) ho).1
   have q0:a'.eval (.tmp 30)=gp E.x:=(hdep 0 (mem_of (by show _=_;kernel_rfl)) 30 (by show _=_;kernel_rfl))
   generalize a'.eval=ev at q0;simp[execOp,hop,go_sem,q0]
  |2,_,ho=>
   refine wp_val (V:=.pointer (some ⟨E.x,3,none⟩)) (w':=w') ?_ (hK _ _ rfl (Below.refl _ _))
   have hop:=(Reg.Has.op (p:=Op.fieldAddr 108 (.tmp 31) 3) (t:=32) (by show _=_;kernel_rfl) ho).1
   have q0:a'.eval (.tmp 31)=gp E.x:=(hdep 1 (mem_of (by show _=_;kernel_rfl)) 31 (by show _=_;kernel_rfl))
   generalize a'.eval=ev at q0;simp[execOp,hop,go_sem,q0]
  |3,_,ho=>
   refine wp_val (V:=.pointer (some ⟨E.x,10,none⟩)) (w':=w') ?_ (hK _ _ rfl (Below.refl _ _))
   have hop:=(Reg.Has.op (p:=Op.fieldAddr 106 (.tmp 32) 6) (t:=33) (by show _=_;kernel_rfl) ho).1
   have q0:a'.eval (.tmp 32)=.pointer (some ⟨E.x,3,none⟩):=(hdep 2 (mem_of (by show _=_;kernel_rfl)) 32 (by show _=_;kernel_rfl))
   generalize a'.eval=ev at q0;simp[execOp,hop,go_sem,q0]
  |4,_,ho=>
   refine wp_val (V:=gp hh) (w':=w') ?_ (hK _ _ rfl (Below.refl _ _))
   have hop:=(Reg.Has.op (p:=Op.load 104 (.tmp 33)) (t:=34) (by show _=_;kernel_rfl) ho).1
   have q0:a'.eval (.tmp 33)=.pointer (some ⟨E.x,10,none⟩):=(hdep 3 (mem_of (by show _=_;kernel_rfl)) 33 (by show _=_;kernel_rfl))
   have q1:w'.cell? ⟨E.x,10,none⟩=some (gp hh):=cell_keep hB C10.out;generalize a'.eval=ev at q0;simp[execOp,hop,go_sem,q0,q1]
  |5,_,ho=>
   refine wp_val (V:=.bool true) (w':=w') ?_ (hK _ _ rfl (Below.refl _ _))
   have hop:=(Reg.Has.op (p:=Op.binOp BinOp.neq 104 (.tmp 34) (.const (.pointer none)) 104) (t:=35) (by show _=_;kernel_rfl) ho).1
   have q0:a'.eval (.tmp 34)=gp hh:=(hdep 4 (mem_of (by show _=_;kernel_rfl)) 34 (by show _=_;kernel_rfl))
   have q1:a'.eval (.const (.pointer none))=.pointer none:=rfl;generalize a'.eval=ev at q0 q1;simp[execOp,hop,go_sem,q0,q1]
  |6,_,ho=>exact Sl.wp_move _ (Reg.Has.op (p:=Op.move (.tmp 35)) (t:=36) (by show _=_;kernel_rfl) ho).1 (hK _ _ (hdep 5 (mem_of (by show _=_;kernel_rfl)) 35 (by show _=_;kernel_rfl)) (Below.refl _ _))
  |7,_,ho=>exact Sl.wp_move _ (Reg.Has.op (p:=Op.move (.tmp 0)) (t:=37) (by show _=_;kernel_rfl) ho).1 (hK _ _ (hout 0 (Reg.Free.out (by show _=_;kernel_rfl))) (Below.refl _ _))
  |8,_,ho=>
   refine wp_val (V:=gp E.x) (w':=w') ?_ (hK _ _ rfl (Below.refl _ _))
   have hop:=(Reg.Has.op (p:=Op.nilCheck (.tmp 37)) (t:=38) (by show _=_;kernel_rfl) ho).1
   have q0:a'.eval (.tmp 37)=gp E.x:=(hdep 7 (mem_of (by show _=_;kernel_rfl)) 37 (by show _=_;kernel_rfl))
   generalize a'.eval=ev at q0;simp[execOp,hop,go_sem,q0]
  |9,_,ho=>
   refine wp_val (V:=.pointer (some ⟨E.x,3,none⟩)) (w':=w') ?_ (hK _ _ rfl (Below.refl _ _))
   have hop:=(Reg.Has.op (p:=Op.fieldAddr 108 (.tmp 38) 3) (t:=39) (by show _=_;kernel_rfl) ho).1
   have q0:a'.eval (.tmp 38)=gp E.x:=(hdep 8 (mem_of (by show _=_;kernel_rfl)) 38 (by show _=_;kernel_rfl))
   generalize a'.eval=ev at q0;simp[execOp,hop,go_sem,q0]
  |10,_,ho=>
   refine wp_val (V:=.pointer (some ⟨E.x,10,none⟩)) (w':=w') ?_ (hK _ _ rfl (Below.refl _ _))
   have hop:=(Reg.Has.op (p:=Op.fieldAddr 106 (.tmp 39) 6) (t:=40) (by show _=_;kernel_rfl) ho).1
   have q0:a'.eval (.tmp 39)=.pointer (some ⟨E.x,3,none⟩):=(hdep 9 (mem_of (by show _=_;kernel_rfl)) 39 (by show _=_;kernel_rfl))
   generalize a'.eval=ev at q0;simp[execOp,hop,go_sem,q0]
  |11,_,ho=>
   refine wp_val (V:=gp hh) (w':=w') ?_ (hK _ _ rfl (Below.refl _ _))
   have hop:=(Reg.Has.op (p:=Op.load 104 (.tmp 40)) (t:=41) (by show _=_;kernel_rfl) ho).1
   have q0:a'.eval (.tmp 40)=.pointer (some ⟨E.x,10,none⟩):=(hdep 10 (mem_of (by show _=_;kernel_rfl)) 40 (by show _=_;kernel_rfl))
   have q1:w'.cell? ⟨E.x,10,none⟩=some (gp hh):=cell_keep hB C10.out;generalize a'.eval=ev at q0;simp[execOp,hop,go_sem,q0,q1]
  |12,_,ho=>exact Wh.wp_load Tryz.isAgg57 Tryz.sizeOf57 (.tmp 3) (Reg.Has.op (p:=Op.load 57 (.tmp 3)) (t:=42) (by show _=_;kernel_rfl) ho).1 (hout 3 (Reg.Free.out (by show _=_;kernel_rfl))) (DL.out.next hB) (Nat.le_refl _) _ rfl (hK _ _ DV.out (Below.refl _ _))
  |i+13,hi,_=>exact absurd hi (by omega)
 ·intro f w1 hv hB hev
  have e6:f 6=.bool true:=hv 6 (by omega)
  have e11:f 11=gp hh:=hv 11 (by omega)
  have e12:f 12=dv:=hv 12 (by omega)
  change wpList _ _ _ [_,_,_] (Act.put (Act.put (Act.put (Act.put (Act.put (Act.put (Act.put (Act.put (Act.put (Act.put (Act.put (Act.put (Act.put _ (some 30) (f 0)) (some 31) (f 1)) (some 32) (f 2)) (some 33) (f 3)) (some 34) (f 4)) (some 35) (f 5)) (some 36) (f 6)) (some 37) (f 7)) (some 38) (f 8)) (some 39) (f 9)) (some 40) (f 10)) (some 41) (f 11)) (some 42) (f 12)) _
  rw[Rel.puts_zero];rw[e6,e11,e12,hdv];clear hv hev e6 e11 e12;generalize f 0=v0;generalize f 1=v1;generalize f 2=v2;generalize f 3=v3;generalize f 4=v4;generalize f 5=v5;generalize f 7=v7;generalize f 8=v8;generalize f 9=v9;generalize f 10=v10;have H1:=hid (H0.out.next hB);have O1:=hid (O0.out.trans (On.below H0.out.fam hB));have B1:=hid (after B0.out hB);clear hB H0 O0 B0 D0 C10 DL DV hdv dv f;simp only[Act.put,List.setIfInBounds_toArray,List.set_cons_zero,List.set_cons_succ];go_wp2_with fail
  have l1:=(H1.out.hand hh hn.out).1;rw[hk.out,hs.out] at l1;refine (Hd.did_give (hid l1)).mono ?_
  rintro r1 w2 ⟨rfl,i2,v2⟩;obtain⟨R2,h3,o3⟩:=H1.out.on19 hn.out i2 v2;have X:=hid (And.intro h3 (O1.out.trans o3));clear l1 h3 o3 i2 v2;dsimp only;go_wp2;go_ret;exact⟨rfl,R2,X.out.1,X.out.2⟩
theorem did_have{hh i:Nat}{o:Ow.O}{ms ds:Option Nat}(H:Hid (CM w0 E s R w))(hn:Hid (s.g.hand=some hh))(hk:Hid (s.hkd=4))(hs:Hid (s.hs=true))(hi:Hid (s.hg=i))(hx:Hid (s.M[i]?=some o))(hm:Hid (o.m=true∧0≤s.ht∧s.ht<E.cf.h∧0≤o.v∧o.v≤1000000)):Calls Tryz.prog 20 #[gp E.x,dval ⟨4,0,c0z,i,ms⟩ false r0 none 0 0 ds] w fun e w'=>e=.returned (.bool true)∧∃ R',CM w0 E {s with M:=s.M.set i ⟨s.ht,o.v+1,false⟩,hkd:=0,hs:=false} R' w'∧On TT R w R' w':=by
 have h1:Hid (((4:Int) == 1)=false):=hid rfl
 have h2:Hid (((4:Int) == 2)=false):=hid rfl
 obtain⟨W,hW,d0,k0⟩:=alloc1 w 57 (dcl ⟨4,0,c0z,i,ms⟩ false r0 none 0 0 ds)
 obtain⟨g,hg⟩:∃ g,w.heap.size=g:=⟨_,rfl⟩
 have D0:=hid (Bo.new H.out.fam d0 (Nat.le_refl _))
 have F0:=hid H.out.fam
 have H0:=hid (H.out.next k0)
 have O0:Hid (On TT R w R W):=hid (On.below H.out.fam k0)
 have OLD:=hid H.out.old
 have LO:Hid (w0.heap.size≤w.heap.size):=hid H.out.fam.below.size
 have HG:=hid hg
 have B0:=hid k0
 rw[hg] at D0
 go_enter Tryz.func20,Tryz.ntmps20
 go_upto_region 1 with fail
 clear hg hW d0 k0 H
 have k0:=D0.out.lies.cell (i:=0) rfl
 have e1:=h1.out
 have e2:=h2.out
 obtain⟨cv,rv,q0,-⟩:=H0.out.client
 have c10:=q0.lies.cell (i:=10) rfl
 rw[hn.out,stv_some] at c10
 have C10:=hid c10
 have DL:=hid D0.out.lies
 obtain⟨dv,hdv⟩:∃ dv,dv=dval ⟨4,0,c0z,i,ms⟩ false r0 none 0 0 ds:=⟨_,rfl⟩
 have DV:=hid hdv.symm
 clear q0 c10
 go_upto_region 9 with fail
 clear k0 e1 e2
 refine wp_region_when Goes.below 13 45 (Dh E.x hh dv) (by show _=_;kernel_rfl) (by show _=_;kernel_rfl) (by show _=_;kernel_rfl) (Dh.mono E.x hh dv) ?_ ?_ ?_
 ·intro k j b hk hg v w' hv
  obtain⟨hj,rfl⟩:=RelW.guards_of (js:=[6]) (b:=true) (by show _=_;kernel_rfl) hk hg
  simp only[List.mem_cons,List.not_mem_nil,or_false] at hj;rcases hj with rfl|rfl|rfl<;>exact hv
 ·intro i hi o ho a' w' Kc hd hout hdep hB hK
  match i,hi,ho with
  |0,_,ho=>exact Sl.wp_move _ (Reg.Has.op (p:=Op.move (.tmp 0)) (t:=30) (by show _=_;kernel_rfl) ho).1 (hK _ _ (hout 0 (Reg.Free.out (by show _=_;kernel_rfl))) (Below.refl _ _))
  |1,_,ho=>
   refine wp_val (V:=gp E.x) (w':=w') ?_ (hK _ _ rfl (Below.refl _ _))
   have hop:=(Reg.Has.op (p:=Op.nilCheck (.tmp 30)) (t:=31) (by show _=_;kernel_rfl) ho).1
   have q0:a'.eval (.tmp 30)=gp E.x:=(hdep 0 (mem_of (by show _=_;kernel_rfl)) 30 (by show _=_;kernel_rfl))
   generalize a'.eval=ev at q0;simp[execOp,hop,go_sem,q0]
  |2,_,ho=>
   refine wp_val (V:=.pointer (some ⟨E.x,3,none⟩)) (w':=w') ?_ (hK _ _ rfl (Below.refl _ _))
   have hop:=(Reg.Has.op (p:=Op.fieldAddr 108 (.tmp 31) 3) (t:=32) (by show _=_;kernel_rfl) ho).1
   have q0:a'.eval (.tmp 31)=gp E.x:=(hdep 1 (mem_of (by show _=_;kernel_rfl)) 31 (by show _=_;kernel_rfl))
   generalize a'.eval=ev at q0;simp[execOp,hop,go_sem,q0]
  |3,_,ho=>
   refine wp_val (V:=.pointer (some ⟨E.x,10,none⟩)) (w':=w') ?_ (hK _ _ rfl (Below.refl _ _))
   have hop:=(Reg.Has.op (p:=Op.fieldAddr 106 (.tmp 32) 6) (t:=33) (by show _=_;kernel_rfl) ho).1
   have q0:a'.eval (.tmp 32)=.pointer (some ⟨E.x,3,none⟩):=(hdep 2 (mem_of (by show _=_;kernel_rfl)) 32 (by show _=_;kernel_rfl))
   generalize a'.eval=ev at q0;simp[execOp,hop,go_sem,q0]
  |4,_,ho=>
   refine wp_val (V:=gp hh) (w':=w') ?_ (hK _ _ rfl (Below.refl _ _))
   have hop:=(Reg.Has.op (p:=Op.load 104 (.tmp 33)) (t:=34) (by show _=_;kernel_rfl) ho).1
   have q0:a'.eval (.tmp 33)=.pointer (some ⟨E.x,10,none⟩):=(hdep 3 (mem_of (by show _=_;kernel_rfl)) 33 (by show _=_;kernel_rfl))
   have q1:w'.cell? ⟨E.x,10,none⟩=some (gp hh):=cell_keep hB C10.out;generalize a'.eval=ev at q0;simp[execOp,hop,go_sem,q0,q1]
  |5,_,ho=>
   refine wp_val (V:=.bool true) (w':=w') ?_ (hK _ _ rfl (Below.refl _ _))
   have hop:=(Reg.Has.op (p:=Op.binOp BinOp.neq 104 (.tmp 34) (.const (.pointer none)) 104) (t:=35) (by show _=_;kernel_rfl) ho).1
   have q0:a'.eval (.tmp 34)=gp hh:=(hdep 4 (mem_of (by show _=_;kernel_rfl)) 34 (by show _=_;kernel_rfl))
   have q1:a'.eval (.const (.pointer none))=.pointer none:=rfl;generalize a'.eval=ev at q0 q1;simp[execOp,hop,go_sem,q0,q1]
  |6,_,ho=>exact Sl.wp_move _ (Reg.Has.op (p:=Op.move (.tmp 35)) (t:=36) (by show _=_;kernel_rfl) ho).1 (hK _ _ (hdep 5 (mem_of (by show _=_;kernel_rfl)) 35 (by show _=_;kernel_rfl)) (Below.refl _ _))
  |7,_,ho=>exact Sl.wp_move _ (Reg.Has.op (p:=Op.move (.tmp 0)) (t:=37) (by show _=_;kernel_rfl) ho).1 (hK _ _ (hout 0 (Reg.Free.out (by show _=_;kernel_rfl))) (Below.refl _ _))
  |8,_,ho=>
   refine wp_val (V:=gp E.x) (w':=w') ?_ (hK _ _ rfl (Below.refl _ _))
   have hop:=(Reg.Has.op (p:=Op.nilCheck (.tmp 37)) (t:=38) (by show _=_;kernel_rfl) ho).1
   have q0:a'.eval (.tmp 37)=gp E.x:=(hdep 7 (mem_of (by show _=_;kernel_rfl)) 37 (by show _=_;kernel_rfl))
   generalize a'.eval=ev at q0;simp[execOp,hop,go_sem,q0]
  |9,_,ho=>
   refine wp_val (V:=.pointer (some ⟨E.x,3,none⟩)) (w':=w') ?_ (hK _ _ rfl (Below.refl _ _))
   have hop:=(Reg.Has.op (p:=Op.fieldAddr 108 (.tmp 38) 3) (t:=39) (by show _=_;kernel_rfl) ho).1
   have q0:a'.eval (.tmp 38)=gp E.x:=(hdep 8 (mem_of (by show _=_;kernel_rfl)) 38 (by show _=_;kernel_rfl))
   generalize a'.eval=ev at q0;simp[execOp,hop,go_sem,q0]
  |10,_,ho=>
   refine wp_val (V:=.pointer (some ⟨E.x,10,none⟩)) (w':=w') ?_ (hK _ _ rfl (Below.refl _ _))
   have hop:=(Reg.Has.op (p:=Op.fieldAddr 106 (.tmp 39) 6) (t:=40) (by show _=_;kernel_rfl) ho).1
   have q0:a'.eval (.tmp 39)=.pointer (some ⟨E.x,3,none⟩):=(hdep 9 (mem_of (by show _=_;kernel_rfl)) 39 (by show _=_;kernel_rfl))
   generalize a'.eval=ev at q0;simp[execOp,hop,go_sem,q0]
  |11,_,ho=>
   refine wp_val (V:=gp hh) (w':=w') ?_ (hK _ _ rfl (Below.refl _ _))
   have hop:=(Reg.Has.op (p:=Op.load 104 (.tmp 40)) (t:=41) (by show _=_;kernel_rfl) ho).1
   have q0:a'.eval (.tmp 40)=.pointer (some ⟨E.x,10,none⟩):=(hdep 10 (mem_of (by show _=_;kernel_rfl)) 40 (by show _=_;kernel_rfl))
   have q1:w'.cell? ⟨E.x,10,none⟩=some (gp hh):=cell_keep hB C10.out;generalize a'.eval=ev at q0;simp[execOp,hop,go_sem,q0,q1]
  |12,_,ho=>exact Wh.wp_load Tryz.isAgg57 Tryz.sizeOf57 (.tmp 3) (Reg.Has.op (p:=Op.load 57 (.tmp 3)) (t:=42) (by show _=_;kernel_rfl) ho).1 (hout 3 (Reg.Free.out (by show _=_;kernel_rfl))) (DL.out.next hB) (Nat.le_refl _) _ rfl (hK _ _ DV.out (Below.refl _ _))
  |i+13,hi,_=>exact absurd hi (by omega)
 ·intro f w1 hv hB hev
  have e6:f 6=.bool true:=hv 6 (by omega)
  have e11:f 11=gp hh:=hv 11 (by omega)
  have e12:f 12=dv:=hv 12 (by omega)
  change wpList _ _ _ [_,_,_] (Act.put (Act.put (Act.put (Act.put (Act.put (Act.put (Act.put (Act.put (Act.put (Act.put (Act.put (Act.put (Act.put _ (some 30) (f 0)) (some 31) (f 1)) (some 32) (f 2)) (some 33) (f 3)) (some 34) (f 4)) (some 35) (f 5)) (some 36) (f 6)) (some 37) (f 7)) (some 38) (f 8)) (some 39) (f 9)) (some 40) (f 10)) (some 41) (f 11)) (some 42) (f 12)) _
  rw[Rel.puts_zero];rw[e6,e11,e12,hdv];clear hv hev e6 e11 e12;generalize f 0=v0;generalize f 1=v1;generalize f 2=v2;generalize f 3=v3;generalize f 4=v4;generalize f 5=v5;generalize f 7=v7;generalize f 8=v8;generalize f 9=v9;generalize f 10=v10;have H1:=hid (H0.out.next hB);have O1:=hid (O0.out.trans (On.below H0.out.fam hB));have B1:=hid (after B0.out hB);clear hB H0 O0 B0 D0 C10 DL DV hdv dv f;simp only[Act.put,List.setIfInBounds_toArray,List.set_cons_zero,List.set_cons_succ];go_wp2_with fail
  obtain⟨l1,r1⟩:=H1.out.hand hh hn.out;rw[hk.out,hs.out,hi.out] at l1;have nf:¬Ow.Fp E.b hh:=fun q=>H1.out.fam.ap 19 16 (by decide) hh (by rw[r1]) (by rw[H1.out.r16];exact q)
  refine (Hd.did_have (hid l1) (hid H1.out.table) hx.out hm.out.1 hm.out.2.1 hm.out.2.2.1 hm.out.2.2.2.1 hm.out.2.2.2.2 nf).mono ?_
  rintro r1 w2 ⟨rfl,i2,t2,v2⟩;obtain⟨R2,h3,o3⟩:=H1.out.on1916 hn.out i2 t2 v2;rw[←hi.out] at h3;have X:=hid (And.intro h3 (O1.out.trans o3));clear l1 r1 nf h3 o3 i2 t2 v2;dsimp only;go_wp2;go_ret;exact⟨rfl,R2,X.out.1,X.out.2⟩
end
end Cn
end Go.Proofs.YtfjlnniahfbdfaaGreat
