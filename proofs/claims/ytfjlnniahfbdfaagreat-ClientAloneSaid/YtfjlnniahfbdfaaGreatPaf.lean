/- A part of the proof. -/
import Derived.Test.YtfjlnniahfbdfaaGreatPab
import Derived.Test.YtfjlnniahfbdfaaGreatPaa
import Derived.StillTail
import Derived.Deep.Quiet
set_option linter.unusedVariables false
set_option maxHeartbeats 4000000
namespace Go.Proofs.YtfjlnniahfbdfaaGreat
open Go.RowKit Rel
structure Goes(R:World→World→Prop):Prop where
 refl:∀ w,R w w
 trans:∀ {a b c},R a b→R b c→R a c
 drew:∀ w,R w w.drew
namespace RelG
section
variable {P:Program} {ops:Array Oper} {md:Region.Mode} {n:Nat} {R:World→World→Prop}
structure Inv(R:World→World→Prop)(ops:Array Oper)(n:Nat)(a0:Act)(w0:World)(Ψ:Nat→Value→World→Prop)(s:Array Bool)(a:Act)(w:World):Prop where
 head:HeadInv .any ops n s
 defers:a.defers=a0.defers
 size:a.tmps.size=a0.tmps.size
 others:∀ t,(∀ k,k<n→s.getD k false=true→dstOf ops k≠some t)→a.tmps.getD t undef=a0.tmps.getD t undef
 vals:∀ k,k<n→s.getD k false=true→∀ t,dstOf ops k=some t→Ψ k (a.tmps.getD t undef) w
 below:R w0 w
def Step(R:World→World→Prop)(P:Program)(ops:Array Oper)(n:Nat)(a0:Act)(w0:World)(Q:Exit→Act→World→Prop)(Ψ:Nat→Value→World→Prop)(k:Nat):Prop:=
 ∀ o,ops[k]?=some o→∀ (a:Act) (w:World) (K:Act→World→Prop),a.defers=a0.defers→
   (∀ t,(∀ j,j<n→dstOf ops j≠some t)→a.tmps.getD t undef=a0.tmps.getD t undef)→
   (∀ j∈deps ops k,∀ t,dstOf ops j=some t→Ψ j (a.tmps.getD t undef) w)→R w0 w→
   (∀ v w',Ψ k v w'→R w w'→K (a.put o.dst v) w')→o.wp P a w K Q
theorem rel_any(HR:Goes R){a0:Act}{w0:World}{Q:Exit→Act→World→Prop}{Ψ:Nat→Value→World→Prop}{N:Nat}(F:Fit ops n N)(hN:a0.tmps.size=N)
  (mono:∀ k v w w',Ψ k v w→R w w'→Ψ k v w') (step:∀ k,k<n→Step R P ops n a0 w0 Q Ψ k)
  (tail:∀ f w,(∀ k,k<n→Ψ k (f k) w)→R w0 w→wpAny P .any ops Q (ops.size-n) (doneArr ops.size n) (puts ops a0 f n) w):
  ∀ (c:Nat) (s:Array Bool) (a:Act) (w:World),Inv R ops n a0 w0 Ψ s a w→cnt n s=c→wpAny P .any ops Q (c+(ops.size-n)) s a w:=by
 intro c
 induction c with
 |zero=>
  intro s a w I hc;rw[Nat.zero_add]
  have all:∀ k,k<n→s.getD k true=true:=fun k hk=>by
   simp only[cnt,List.countP_eq_zero,List.mem_range] at hc
   simpa using hc k hk
  have allf:∀ k,k<n→s.getD k false=true:=fun k hk=>by rw[←getD_true (by rw[I.head.size];have:=F.lt;omega)];exact all k hk
  have hs:s=doneArr ops.size n:=by
   have hz:(doneArr ops.size n).size=ops.size:=by simp[doneArr];have:=F.lt;omega
   refine Array.ext (I.head.size.trans hz.symm) fun i hi hi'=>?_
   by_cases h:i<n
   ·have:=all i h
    simp only[Array.getD_eq_getD_getElem?,Array.getElem?_eq_getElem hi,Option.getD_some] at this
    rw[this];simp[doneArr,h]
   ·have:=I.head.tail i (by omega) (by rw[←I.head.size];exact hi)
    simp only[Array.getD_eq_getD_getElem?,Array.getElem?_eq_getElem hi,Option.getD_some] at this
    rw[this];simp[doneArr,Array.getElem_append,h]
  have ha:a=puts ops a0 (fun k=>a.tmps.getD ((dstOf ops k).getD 0) undef) n:=by
   refine act_ext (I.defers.trans (puts_size ops a0 _ n).2.symm) (I.size.trans (puts_size ops a0 _ n).1.symm) fun t=>?_
   by_cases h:∃ k,k<n∧dstOf ops k=some t
   ·obtain⟨k,hk,hd⟩:=h
    obtain⟨o,t',ho,_,ho2,ht,_⟩:=F.each k hk
    have:t'=t:=by
     have:dstOf ops k=some t':=by simp[dstOf,ho,ho2]
     rw[hd] at this;exact (Option.some.inj this).symm
    subst this;rw[puts_at hd (by rw[hN];exact ht) n hk (fun j hj hne e=>F.apart j k hj hk hne (e.trans hd.symm)),hd]
    rfl
   ·rw[puts_other n (fun k hk e=>h ⟨k,hk,e⟩)]
    exact I.others t (fun k hk _ e=>h ⟨k,hk,e⟩)
  rw[hs,ha];refine tail _ _ (fun k hk=>?_) I.below
  obtain⟨o,t,ho,_,hd,_,_⟩:=F.each k hk;have hd':dstOf ops k=some t:=by simp[dstOf,ho,hd]
  rw[hd'];exact I.vals k hk (allf k hk) t hd'
 |succ c ih=>
  intro s a w I hc
  have some_:∃ i,i<n∧s.getD i true=false:=by
   have:0<(List.range n).countP fun k=>!s.getD k true:=by unfold cnt at hc;omega
   obtain⟨i,hi,hs⟩:=List.countP_pos_iff.1 this;exact⟨i,by simpa using hi,by simpa using hs⟩
  rw[show c+1+(ops.size-n)=(c+(ops.size-n))+1 by omega]
  have bound:∀ j∈Region.ready .any ops s,j<n:=fun j hj=>by
   obtain⟨i,hi,hs⟩:=some_;rcases Nat.lt_or_ge j n with h|h
   ·exact h
   ·exact absurd hj (tail_waits F.sink F.chain F.lt I.head _ i rfl hi hs j h)
  refine⟨fun he=>?_,fun i hi=>?_⟩
  ·exfalso
   have key:∀ m,m<n→s.getD m true=false→False:=fun m=>by
    induction m using Nat.strongRecOn with
    |_ m ih=>
     intro hm hs;obtain⟨o,t,ho,_,_,_,hb⟩:=F.each m hm
     have:m∈Region.ready .any ops s:=mem_ready.2 ⟨hs,o,ho,fun e he hbe=>by
      have hlt:=hb e he hbe;cases hx:s.getD e.on false with
      |true=>rfl
      |false=>exact absurd (getD_in (by rw[I.head.size];have:=F.lt;omega) hx) (fun q=>ih e.on hlt (by omega) q)⟩
     rw[he] at this;cases this
   obtain⟨i,hi,hs⟩:=some_;exact key i hi hs
  ·have hin:=bound i hi
   obtain⟨hun,o',ho',hall⟩:=mem_ready.1 hi;obtain⟨o,t,ho,hg,hd,ht,hb⟩:=F.each i hin;obtain rfl:o=o':=by rw[ho] at ho';exact Option.some.inj ho'
   have hd':dstOf ops i=some t:=by simp[dstOf,ho,hd]
   have hlt:=F.lt
   have hdep:∀ j∈deps ops i,j<i∧s.getD j false=true:=fun j hj=>by
    simp only[deps,ho,Option.map_some,Option.getD_some,List.mem_map,List.mem_filter] at hj;obtain⟨e,⟨he,hbe⟩,rfl⟩:=hj;have he':e∈o.after:=by simpa using he
    exact⟨hb e he' hbe,hall e he' hbe⟩
   unfold wpOp;simp only[ho];rw[if_pos (by simp[Region.wanted,hg])]
   refine .inl (step i hin o ho a w _ I.defers (fun t ht=>I.others t (fun k hk _=>ht k hk)) (fun j hj t ht=>I.vals j (by have:=(hdep j hj).1;omega) (hdep j hj).2 t ht) I.below ?_)
   intro v w' hv hw;rw[hd]
   have hset:∀ k d,k≠i→(s.setIfInBounds i true).getD k d=s.getD k d:=fun k d hk=>by
    simp[Array.getD_eq_getD_getElem?,Ne.symm hk]
   have hseti:∀ d,(s.setIfInBounds i true).getD i d=true:=fun d=>by
    simp[Array.getD_eq_getD_getElem?,show i<s.size by rw[I.head.size];omega]
   refine ih _ _ _ ⟨I.head.set hi hin,I.defers,by simpa [Act.put] using I.size,fun u hu=>?_,fun k hk hk2 u hu=>?_,HR.trans I.below hw⟩ ?_
   ·have hne:t≠u:=fun e=>hu i hin (hseti _) (by rw[hd',e])
    rw[put_get,if_neg (fun x=>hne x.1)]
    exact I.others u (fun k hk hs=>by
     by_cases e:k=i
     ·subst e;exact hu k hk (hseti _)
     ·exact hu k hk (by rw[hset k _ e];exact hs))
   ·by_cases e:k=i
    ·subst e
     obtain rfl:t=u:=Option.some.inj (hd'.symm.trans hu);rw[put_get,if_pos ⟨rfl,by rw[I.size,hN];exact ht⟩]
     exact hv
    ·have hne:t≠u:=fun q=>F.apart k i hk hin e (by rw[hu,hd',q])
     rw[put_get,if_neg (fun x=>hne x.1)]
     exact mono _ _ _ _ (I.vals k hk (by rw[hset k _ e] at hk2;exact hk2) u hu) hw
   ·have:=count_one (p:=fun k=>!s.getD k true) (q:=fun k=>!(s.setIfInBounds i true).getD k true) (i:=i) (by simp[hun]) (by simp[hseti]) (fun k hk=>by simp[hset k _ hk]) n hin
    unfold cnt at hc ⊢;omega
end
end RelG
theorem wp_region_goes{R:World→World→Prop}(HR:Goes R){id:Nat}{Q:Exit→Act→World→Prop}{a:Act}{w:World}{l:List Oper}(n N:Nat)(Ψ:Nat→Value→World→Prop)(hm:Tryz.prog.follows .mixedOrders=true)(hN:a.tmps.size=N)(hB:Rel.fitB l.toArray n N=true)
  (mono:∀ k v w w',Ψ k v w→R w w'→Ψ k v w') (step:∀ k,k<n→RelG.Step R Tryz.prog l.toArray n a w Q Ψ k)
  (tail:∀ f w',(∀ k,k<n→Ψ k (f k) w')→R w w'→(∀ k,k<n→∀ t,Rel.dstOf l.toArray k=some t→(Rel.puts l.toArray a f n).eval (.tmp t)=f k)→wpList Tryz.prog l.toArray Q (l.drop n) (Rel.puts l.toArray a f n) w'):
  (Code.region id l.toArray true).wp Tryz.prog Q a w:=by
 have F:=Rel.fit_of hB
 refine wp_region_any hm ?_
 have hlt:n<l.length:=by simpa using F.lt
 have key:=RelG.rel_any HR (P:=Tryz.prog) (Q:=Q) (a0:=a) (w0:=w) F hN mono step (fun f w' hv hb=>by
  have:=wpAny_of_seq (P:=Tryz.prog) (md:=.any) (Q':=Q) (l.drop n) n (Rel.doneArr l.toArray.size n) (Rel.puts l.toArray a f n) w' (fun j=>by simp[List.getElem?_drop]) (by
   rw[show (l.drop n).length=l.toArray.size-n by simp];exact F.seq) (tail f w' hv hb (fun k hk t ht=>Rel.puts_eval F hN hk ht f))
  rwa [show (l.drop n).length=l.toArray.size-n by simp] at this)
 have h0:∀ k d,(Array.replicate l.toArray.size false).getD k d=if k<l.length then false else d:=fun k d=>by
  simp only[Array.getD_eq_getD_getElem?,Array.getElem?_replicate,List.size_toArray]
  split<;>rfl
 have hc:Rel.cnt n (Array.replicate l.toArray.size false)=n:=by
  unfold Rel.cnt;rw[List.countP_eq_length.2]
  ·simp
  ·intro k hk
   rw[h0,if_pos (by have:=List.mem_range.1 hk;omega)]
   rfl
 have:=key n (Array.replicate l.toArray.size false) a (World.drew w) ⟨⟨by simp,fun j q _ hl=>(by rw[getD_replicate_false] at hl;cases hl),fun t _ h=>getD_in (by simpa using h) (getD_replicate_false _ _)⟩,rfl,rfl,fun t _=>rfl,
  (fun k hk hs=>(by rw[h0] at hs;exfalso;split at hs;exact Bool.noConfusion hs;exact Bool.noConfusion hs)),HR.drew w⟩ hc
 rwa [show n+(l.toArray.size-n)=l.toArray.size by have:=F.lt;omega] at this
namespace Goes
theorem below:Goes fun w w'=>Below w.heap.size w w':=⟨fun w=>Below.refl _ _,fun h k=>Below.next h k,fun w=>(Below.refl _ _).drew⟩
theorem grown(row:Option Nat):Goes fun w w'=>w.grownBy w' row:=
 ⟨fun w=>⟨rfl,rfl,rfl,Nat.le_refl _,fun _ _ _=>rfl⟩,fun h k=>⟨k.os.trans h.os,k.tape.trans h.tape,k.output.trans h.output,Nat.le_trans h.size k.size,fun i hi hne=>(k.block i (Nat.lt_of_lt_of_le hi h.size) hne).trans (h.block i hi hne)⟩,fun w=>⟨rfl,rfl,rfl,Nat.le_refl _,fun _ _ _=>rfl⟩⟩
theorem grown_below{w w':World}(row:Option Nat)(h:Below w.heap.size w w'):w.grownBy w' row:=⟨h.os,h.tape,h.output,h.size,fun k hk _=>h.block k hk⟩
end Goes
theorem mem_of{l:List Nat}{d:Nat}(h:l.contains d=true):d∈l:=by simpa using h
section
variable {w:World} {o:Oper} {a:Act} {Kc:Act→World→Prop} {Q:Exit→Act→World→Prop}
theorem wp_val{V:Value}{w':World}(hr:(execOp a.eval o).run Tryz.prog w=.ok (.value V) w')(hK:Kc (a.put o.dst V) w'):o.wp Tryz.prog a w Kc Q:=by
 unfold Oper.wp
 rw[hr]
 exact hK
theorem wp_enter{f:FuncId}{args:Array Value}{w':World}{S:Value→World→Prop}(hr:(execOp a.eval o).run Tryz.prog w=.ok (.enter f args) w')(hc:Calls Tryz.prog f args w' fun e w''=>∃ v,e=.returned v∧S v w'')
  (hK:∀ v w'',S v w''→Kc (a.put o.dst v) w''):o.wp Tryz.prog a w Kc Q:=by
 unfold Oper.wp
 rw[hr,Oper.upon_enter]
 refine hc.mono ?_
 rintro e w1 ⟨v,rfl,h⟩
 exact hK v w1 h
theorem enters {P : Program} {f : FuncId} {fn : Func} {c : Code} (hf : P.funcs[f]? = some fn) (hname : (fn.name == "runtime.NumGoroutine") = false) (hb : fn.body = some c) (args : Array Value) (w : World) : (callFunc f args).run P w = .ok (.enter f args) w := by
 have h1 : fn.name ≠ "runtime.NumGoroutine" := by simpa using hname
 simp[callFunc,hf,h1,hb,mark]
theorem wp_call{f:FuncId}{xs:Array Operand}{ts:Array TypeId}{S:Value→World→Prop}(hop:o.op=Op.call {callee:=Callee.value (.func f),args:=xs,argTypes:=ts})(vs:Array Value)(hv:xs.map a.eval=vs)
  (he:∀ args w,(callFunc f args).run Tryz.prog w=.ok (.enter f args) w) (hc:Calls Tryz.prog f vs w fun e w''=>∃ v,e=.returned v∧S v w'') (hK:∀ v w'',S v w''→Kc (a.put o.dst v) w''):o.wp Tryz.prog a w Kc Q:=by
 refine wp_enter (f:=f) (args:=vs) (w':=w) ?_ hc hK
 have h0:a.eval (.func f)=.func (.func f) #[] #[]:=rfl
 subst hv
 generalize a.eval=ev at h0
 simp[execOp,hop,h0,resolve,invoke,Deferred.ofValue,he]
theorem wp_assign(x:Operand)(hop:o.op=Op.assign x)(hK:Kc (a.put o.dst (a.eval x)) w):o.wp Tryz.prog a w Kc Q:=by
 unfold Oper.wp
 simp[execOp,hop]
 exact hK
end
namespace RelS
section
variable {P:Program} {ops:Array Oper} {md:Region.Mode} {n:Nat} {R:World→World→Prop}
structure Inv(R:World→World→Prop)(T:Nat→World→World→Prop)(ops:Array Oper)(n:Nat)(a0:Act)(w0:World)(Ψ:Nat→Value→World→Prop)(s:Array Bool)(a:Act)(w:World):Prop where
 head:HeadInv .any ops n s
 defers:a.defers=a0.defers
 size:a.tmps.size=a0.tmps.size
 others:∀ t,(∀ k,k<n→s.getD k false=true→dstOf ops k≠some t)→a.tmps.getD t undef=a0.tmps.getD t undef
 vals:∀ k,k<n→s.getD k false=true→∀ t,dstOf ops k=some t→Ψ k (a.tmps.getD t undef) w
 below:R w0 w
 mine:∀ k,k<n→s.getD k true=false→T k w0 w
def Step(T:Nat→World→World→Prop)(S:Nat→World→World→Prop)(P:Program)(ops:Array Oper)(n:Nat)(a0:Act)(w0:World)(Q:Exit→Act→World→Prop)(Ψ:Nat→Value→World→Prop)(k:Nat):Prop:=
 ∀ o,ops[k]?=some o→∀ (a:Act) (w:World) (K:Act→World→Prop),a.defers=a0.defers→
   (∀ t,(∀ j,j<n→dstOf ops j≠some t)→a.tmps.getD t undef=a0.tmps.getD t undef)→
   (∀ j∈deps ops k,∀ t,dstOf ops j=some t→Ψ j (a.tmps.getD t undef) w)→T k w0 w→
   (∀ v w',Ψ k v w'→S k w w'→K (a.put o.dst v) w')→o.wp P a w K Q
theorem rel_any(HR:Goes R){S T:Nat→World→World→Prop}(HT:∀ k,Goes (T k))(sub:∀ j w w',S j w w'→R w w')(subT:∀ k j w w',j≠k→S j w w'→T k w w'){a0:Act}{w0:World}{Q:Exit→Act→World→Prop}{Ψ:Nat→Value→World→Prop}{N:Nat}(F:Fit ops n N)(hN:a0.tmps.size=N)
  (mono:∀ k j v w w',j≠k→j ∉ deps ops k→Ψ k v w→S j w w'→Ψ k v w') (step:∀ k,k<n→Step T S P ops n a0 w0 Q Ψ k)
  (tail:∀ f w,(∀ k,k<n→Ψ k (f k) w)→R w0 w→wpAny P .any ops Q (ops.size-n) (doneArr ops.size n) (puts ops a0 f n) w):
  ∀ (c:Nat) (s:Array Bool) (a:Act) (w:World),Inv R T ops n a0 w0 Ψ s a w→cnt n s=c→wpAny P .any ops Q (c+(ops.size-n)) s a w:=by
 intro c
 induction c with
 |zero=>
  intro s a w I hc;rw[Nat.zero_add]
  have all:∀ k,k<n→s.getD k true=true:=fun k hk=>by
   simp only[cnt,List.countP_eq_zero,List.mem_range] at hc
   simpa using hc k hk
  have allf:∀ k,k<n→s.getD k false=true:=fun k hk=>by rw[←getD_true (by rw[I.head.size];have:=F.lt;omega)];exact all k hk
  have hs:s=doneArr ops.size n:=by
   have hz:(doneArr ops.size n).size=ops.size:=by simp[doneArr];have:=F.lt;omega
   refine Array.ext (I.head.size.trans hz.symm) fun i hi hi'=>?_
   by_cases h:i<n
   ·have:=all i h
    simp only[Array.getD_eq_getD_getElem?,Array.getElem?_eq_getElem hi,Option.getD_some] at this
    rw[this];simp[doneArr,h]
   ·have:=I.head.tail i (by omega) (by rw[←I.head.size];exact hi)
    simp only[Array.getD_eq_getD_getElem?,Array.getElem?_eq_getElem hi,Option.getD_some] at this
    rw[this];simp[doneArr,Array.getElem_append,h]
  have ha:a=puts ops a0 (fun k=>a.tmps.getD ((dstOf ops k).getD 0) undef) n:=by
   refine act_ext (I.defers.trans (puts_size ops a0 _ n).2.symm) (I.size.trans (puts_size ops a0 _ n).1.symm) fun t=>?_
   by_cases h:∃ k,k<n∧dstOf ops k=some t
   ·obtain⟨k,hk,hd⟩:=h
    obtain⟨o,t',ho,_,ho2,ht,_⟩:=F.each k hk
    have:t'=t:=by
     have:dstOf ops k=some t':=by simp[dstOf,ho,ho2]
     rw[hd] at this;exact (Option.some.inj this).symm
    subst this;rw[puts_at hd (by rw[hN];exact ht) n hk (fun j hj hne e=>F.apart j k hj hk hne (e.trans hd.symm)),hd]
    rfl
   ·rw[puts_other n (fun k hk e=>h ⟨k,hk,e⟩)]
    exact I.others t (fun k hk _ e=>h ⟨k,hk,e⟩)
  rw[hs,ha];refine tail _ _ (fun k hk=>?_) I.below
  obtain⟨o,t,ho,_,hd,_,_⟩:=F.each k hk;have hd':dstOf ops k=some t:=by simp[dstOf,ho,hd]
  rw[hd'];exact I.vals k hk (allf k hk) t hd'
 |succ c ih=>
  intro s a w I hc
  have some_:∃ i,i<n∧s.getD i true=false:=by
   have:0<(List.range n).countP fun k=>!s.getD k true:=by unfold cnt at hc;omega
   obtain⟨i,hi,hs⟩:=List.countP_pos_iff.1 this;exact⟨i,by simpa using hi,by simpa using hs⟩
  rw[show c+1+(ops.size-n)=(c+(ops.size-n))+1 by omega]
  have bound:∀ j∈Region.ready .any ops s,j<n:=fun j hj=>by
   obtain⟨i,hi,hs⟩:=some_;rcases Nat.lt_or_ge j n with h|h
   ·exact h
   ·exact absurd hj (tail_waits F.sink F.chain F.lt I.head _ i rfl hi hs j h)
  refine⟨fun he=>?_,fun i hi=>?_⟩
  ·exfalso
   have key:∀ m,m<n→s.getD m true=false→False:=fun m=>by
    induction m using Nat.strongRecOn with
    |_ m ih=>
     intro hm hs;obtain⟨o,t,ho,_,_,_,hb⟩:=F.each m hm
     have:m∈Region.ready .any ops s:=mem_ready.2 ⟨hs,o,ho,fun e he hbe=>by
      have hlt:=hb e he hbe;cases hx:s.getD e.on false with
      |true=>rfl
      |false=>exact absurd (getD_in (by rw[I.head.size];have:=F.lt;omega) hx) (fun q=>ih e.on hlt (by omega) q)⟩
     rw[he] at this;cases this
   obtain⟨i,hi,hs⟩:=some_;exact key i hi hs
  ·have hin:=bound i hi
   obtain⟨hun,o',ho',hall⟩:=mem_ready.1 hi;obtain⟨o,t,ho,hg,hd,ht,hb⟩:=F.each i hin;obtain rfl:o=o':=by rw[ho] at ho';exact Option.some.inj ho'
   have hd':dstOf ops i=some t:=by simp[dstOf,ho,hd]
   have hlt:=F.lt
   have hdep:∀ j∈deps ops i,j<i∧s.getD j false=true:=fun j hj=>by
    simp only[deps,ho,Option.map_some,Option.getD_some,List.mem_map,List.mem_filter] at hj;obtain⟨e,⟨he,hbe⟩,rfl⟩:=hj;have he':e∈o.after:=by simpa using he
    exact⟨hb e he' hbe,hall e he' hbe⟩
   unfold wpOp;simp only[ho];rw[if_pos (by simp[Region.wanted,hg])]
   refine .inl (step i hin o ho a w _ I.defers (fun t ht=>I.others t (fun k hk _=>ht k hk)) (fun j hj t ht=>I.vals j (by have:=(hdep j hj).1;omega) (hdep j hj).2 t ht) (I.mine i hin hun) ?_)
   intro v w' hv hw;rw[hd]
   have hset:∀ k d,k≠i→(s.setIfInBounds i true).getD k d=s.getD k d:=fun k d hk=>by
    simp[Array.getD_eq_getD_getElem?,Ne.symm hk]
   have hseti:∀ d,(s.setIfInBounds i true).getD i d=true:=fun d=>by
    simp[Array.getD_eq_getD_getElem?,show i<s.size by rw[I.head.size];omega]
   refine ih _ _ _ ⟨I.head.set hi hin,I.defers,by simpa [Act.put] using I.size,fun u hu=>?_,fun k hk hk2 u hu=>?_,HR.trans I.below (sub _ _ _ hw),fun k hk hs=>?_⟩ ?_
   ·have hne:t≠u:=fun e=>hu i hin (hseti _) (by rw[hd',e])
    rw[put_get,if_neg (fun x=>hne x.1)]
    exact I.others u (fun k hk hs=>by
     by_cases e:k=i
     ·subst e;exact hu k hk (hseti _)
     ·exact hu k hk (by rw[hset k _ e];exact hs))
   ·by_cases e:k=i
    ·subst e
     obtain rfl:t=u:=Option.some.inj (hd'.symm.trans hu);rw[put_get,if_pos ⟨rfl,by rw[I.size,hN];exact ht⟩]
     exact hv
    ·have hne:t≠u:=fun q=>F.apart k i hk hin e (by rw[hu,hd',q])
     rw[put_get,if_neg (fun x=>hne x.1)]
     have hk3:s.getD k false=true:=by rw[hset k _ e] at hk2;exact hk2
     refine mono _ i _ _ _ (fun q=>e q.symm) (fun hd=>?_) (I.vals k hk hk3 u hu) hw
     obtain⟨ok,tk,hok,-⟩:=F.each k hk;simp only[deps,hok,Option.map_some,Option.getD_some,List.mem_map,List.mem_filter] at hd;obtain⟨x,⟨hx,hbx⟩,hon⟩:=hd;have:=I.head.closed k ok hok hk3 x (by simpa using hx) hbx
     rw[hon,←getD_true (by rw[I.head.size];omega),hun] at this
     cases this
   ·have e:k≠i:=fun e=>by subst e;rw[hseti] at hs;cases hs
    rw[hset k _ e] at hs;exact (HT k).trans (I.mine k hk hs) (subT k i _ _ (fun q=>e q.symm) hw)
   ·have:=count_one (p:=fun k=>!s.getD k true) (q:=fun k=>!(s.setIfInBounds i true).getD k true) (i:=i) (by simp[hun]) (by simp[hseti]) (fun k hk=>by simp[hset k _ hk]) n hin
    unfold cnt at hc ⊢;omega
end
end RelS
theorem wp_region_each{R:World→World→Prop}(HR:Goes R){S T:Nat→World→World→Prop}(HT:∀ k,Goes (T k))(sub:∀ j w w',S j w w'→R w w')(subT:∀ k j w w',j≠k→S j w w'→T k w w'){id:Nat}{Q:Exit→Act→World→Prop}{a:Act}{w:World}{l:List Oper}(n N:Nat)(Ψ:Nat→Value→World→Prop)(hm:Tryz.prog.follows .mixedOrders=true)(hN:a.tmps.size=N)(hB:Rel.fitB l.toArray n N=true)
  (mono:∀ k j v w w',j≠k→j ∉ Rel.deps l.toArray k→Ψ k v w→S j w w'→Ψ k v w') (step:∀ k,k<n→RelS.Step T S Tryz.prog l.toArray n a w Q Ψ k)
  (tail:∀ f w',(∀ k,k<n→Ψ k (f k) w')→R w w'→(∀ k,k<n→∀ t,Rel.dstOf l.toArray k=some t→(Rel.puts l.toArray a f n).eval (.tmp t)=f k)→wpList Tryz.prog l.toArray Q (l.drop n) (Rel.puts l.toArray a f n) w'):
  (Code.region id l.toArray true).wp Tryz.prog Q a w:=by
 have F:=Rel.fit_of hB
 refine wp_region_any hm ?_
 have hlt:n<l.length:=by simpa using F.lt
 have key:=RelS.rel_any HR HT sub subT (P:=Tryz.prog) (Q:=Q) (a0:=a) (w0:=w) F hN mono step (fun f w' hv hb=>by
  have:=wpAny_of_seq (P:=Tryz.prog) (md:=.any) (Q':=Q) (l.drop n) n (Rel.doneArr l.toArray.size n) (Rel.puts l.toArray a f n) w' (fun j=>by simp[List.getElem?_drop]) (by
   rw[show (l.drop n).length=l.toArray.size-n by simp];exact F.seq) (tail f w' hv hb (fun k hk t ht=>Rel.puts_eval F hN hk ht f))
  rwa [show (l.drop n).length=l.toArray.size-n by simp] at this)
 have h0:∀ k d,(Array.replicate l.toArray.size false).getD k d=if k<l.length then false else d:=fun k d=>by
  simp only[Array.getD_eq_getD_getElem?,Array.getElem?_replicate,List.size_toArray]
  split<;>rfl
 have hc:Rel.cnt n (Array.replicate l.toArray.size false)=n:=by
  unfold Rel.cnt;rw[List.countP_eq_length.2]
  ·simp
  ·intro k hk
   rw[h0,if_pos (by have:=List.mem_range.1 hk;omega)]
   rfl
 have:=key n (Array.replicate l.toArray.size false) a (World.drew w) ⟨⟨by simp,fun j q _ hl=>(by rw[getD_replicate_false] at hl;cases hl),fun t _ h=>getD_in (by simpa using h) (getD_replicate_false _ _)⟩,rfl,rfl,fun t _=>rfl,
  (fun k hk hs=>(by rw[h0] at hs;exfalso;split at hs;exact Bool.noConfusion hs;exact Bool.noConfusion hs)),HR.drew w,fun k _ _=>(HT k).drew w⟩ hc
 rwa [show n+(l.toArray.size-n)=l.toArray.size by have:=F.lt;omega] at this
namespace RelA
section
variable {P:Program} {ops:Array Oper} {md:Region.Mode} {n:Nat} {R:World→World→Prop}
def slotOf(ops:Array Oper)(k:Nat):Option Tmp:=match ops[k]? with
 |none=>none
 |some o=>match o.dst with
  |some t=>some t
  |none=>match o.op with
   |.store _ (.tmp t) _=>some t
   |_=>none
def fitB(ops:Array Oper)(n N:Nat):Bool:=
 decide (n<ops.size)&&Region.sinkB .any ops n&&Region.chainB .any ops n&&Region.seqB .any ops (ops.size-n) n (doneArr ops.size n) &&
  (List.range n).all (fun k=>match ops[k]? with|none=>false|some o=>o.guard.isNone&&(match o.dst with|none=>(deps ops k).any (fun j=>decide (dstOf ops j=slotOf ops k)&&decide (dstOf ops j≠none))|some t=>decide (t<N))&&(o.after.all fun e=>!Region.binds .any e||decide (e.on<k))) &&
  (List.range n).all (fun k=>(List.range n).all fun j=>decide (k=j)||decide (dstOf ops k≠dstOf ops j)||decide (dstOf ops k=none))
structure Fit(ops:Array Oper)(n N:Nat):Prop where
 lt:n<ops.size
 sink:Region.sinkB .any ops n=true
 chain:Region.chainB .any ops n=true
 seq:Region.seqB .any ops (ops.size-n) n (doneArr ops.size n)=true
 each:∀ k,k<n→∃ o t,ops[k]?=some o∧o.guard=none∧slotOf ops k=some t∧(o.dst=some t∧t<N∨o.dst=none∧∃ j∈deps ops k,dstOf ops j=some t)∧∀ e∈o.after,Region.binds .any e=true→e.on<k
 apart:∀ k j,k<n→j<n→k≠j→∀ t,dstOf ops k=some t→dstOf ops j≠some t
theorem fit_of{ops:Array Oper}{n N:Nat}(h:fitB ops n N=true):Fit ops n N:=by
 simp only[fitB,Bool.and_eq_true,decide_eq_true_eq,List.all_eq_true,List.mem_range] at h
 obtain⟨⟨⟨⟨⟨h1,h2⟩,h3⟩,h4⟩,h5⟩,h6⟩:=h
 refine⟨h1,h2,h3,h4,fun k hk=>?_,fun k j hk hj hne t ht=>?_⟩
 ·have:=h5 k hk
  cases ho:ops[k]? with
  |none=>rw[ho] at this;cases this
  |some o=>
   rw[ho] at this;simp only[Bool.and_eq_true,Option.isNone_iff_eq_none] at this;obtain⟨⟨a,b⟩,c⟩:=this
   have hc:∀ e∈o.after,Region.binds .any e=true→e.on<k:=fun e he hb=>by
    have:=Array.all_eq_true_iff_forall_mem.1 c e he
    simpa [hb] using this
   cases hd:o.dst with
   |none=>
    rw[hd] at b;simp only[List.any_eq_true,Bool.and_eq_true,decide_eq_true_eq] at b;obtain⟨j,hj,e1,e2⟩:=b;cases hs:slotOf ops k with
    |none=>rw[hs] at e1;exact absurd e1 e2
    |some t=>exact⟨o,t,rfl,a,rfl,.inr ⟨hd,j,hj,by rw[e1,hs]⟩,hc⟩
   |some t=>
    rw[hd] at b;simp only[decide_eq_true_eq] at b;exact⟨o,t,rfl,a,by simp[slotOf,ho,hd],.inl ⟨hd,b⟩,hc⟩
 ·have:=h6 k hk j hj
  simp only[Bool.or_eq_true,decide_eq_true_eq] at this;rcases this with (q|q)|q
  ·exact absurd q hne
  ·rw[ht] at q;exact fun e=>q e.symm
  ·rw[ht] at q;cases q
theorem puts_eval{ops:Array Oper}{n:Nat}{a:Act}{N:Nat}(F:Fit ops n N)(hN:a.tmps.size=N){k:Nat}(hk:k<n){t:Tmp}(ht:dstOf ops k=some t)(f:Nat→Value):(puts ops a f n).eval (.tmp t)=f k:=by
 obtain⟨o,t',ho,_,_,hc,_⟩:=F.each k hk
 have hd:o.dst=some t:=by simpa [dstOf,ho] using ht
 have hlt:t<N:=by
  rcases hc with ⟨q1,q2⟩|⟨q1,_⟩
  ·rw[hd] at q1;exact Option.some.inj q1▸q2
  ·rw[hd] at q1;cases q1
 exact puts_at ht (by rw[hN];exact hlt) n hk (fun j hj hne e=>F.apart j k hj hk hne t e ht)
theorem put_ne{a:Act}{d:Option Tmp}{u:Tmp}{v:Value}(h:d≠some u):(a.put d v).tmps.getD u undef=a.tmps.getD u undef:=by
 cases d with
 |none=>rfl
 |some t=>rw[put_get,if_neg (fun x=>h (by rw[x.1]))]
theorem put_defers{a:Act}{d:Option Tmp}{v:Value}:(a.put d v).defers=a.defers:=by cases d<;>rfl
theorem put_size{a:Act}{d:Option Tmp}{v:Value}:(a.put d v).tmps.size=a.tmps.size:=by cases d<;>simp[Act.put]
theorem slot_dst{ops:Array Oper}{k:Nat}{t:Tmp}(h:dstOf ops k=some t):slotOf ops k=some t:=by
 unfold dstOf at h
 unfold slotOf
 cases ho:ops[k]? with
 |none=>rw[ho] at h;cases h
 |some o=>
  rw[ho] at h;have:o.dst=some t:=by simpa using h
  simp[this]
end
end RelA
open RelA
namespace RelJ
section
variable {P:Program} {ops:Array Oper} {n:Nat}
structure Inv(J:(Nat→Bool)→(Nat→Value)→World→Prop)(ops:Array Oper)(n:Nat)(a0:Act)(s:Array Bool)(f:Nat→Value)(a:Act)(w:World):Prop where
 head:HeadInv .any ops n s
 defers:a.defers=a0.defers
 size:a.tmps.size=a0.tmps.size
 others:∀ t,(∀ k,k<n→s.getD k false=true→dstOf ops k≠some t)→a.tmps.getD t undef=a0.tmps.getD t undef
 vals:∀ k,k<n→s.getD k false=true→∀ t,slotOf ops k=some t→a.tmps.getD t undef=f k
 inv:J (fun k=>s.getD k false) f w
def updD(D:Nat→Bool)(i:Nat):Nat→Bool:=fun k=>if k=i then true else D k
def updF(f:Nat→Value)(i:Nat)(v:Value):Nat→Value:=fun k=>if k=i then v else f k
def Step(J:(Nat→Bool)→(Nat→Value)→World→Prop)(P:Program)(ops:Array Oper)(n:Nat)(a0:Act)(Q:Exit→Act→World→Prop)(i:Nat):Prop:=
 ∀ o,ops[i]?=some o→∀ (a:Act) (w:World) (D:Nat→Bool) (f:Nat→Value) (K:Act→World→Prop),a.defers=a0.defers→
   (∀ t,(∀ j,j<n→dstOf ops j≠some t)→a.tmps.getD t undef=a0.tmps.getD t undef)→
   D i=false→(∀ j∈deps ops i,D j=true∧∀ t,dstOf ops j=some t→a.tmps.getD t undef=f j)→J D f w→
   (∀ v w',(∀ t,o.dst=none→slotOf ops i=some t→v=a.tmps.getD t undef)→J (updD D i) (updF f i v) w'→K (a.put o.dst v) w')→o.wp P a w K Q
theorem rel_any{J:(Nat→Bool)→(Nat→Value)→World→Prop}{a0:Act}{Q:Exit→Act→World→Prop}{N:Nat}(F:RelA.Fit ops n N)(hN:a0.tmps.size=N)
  (step:∀ k,k<n→Step J P ops n a0 Q k)
  (tail:∀ f D w,(∀ k,k<n→D k=true)→J D f w→(∀ k j t,k<n→slotOf ops k=some t→j<n→dstOf ops j=some t→f k=f j)→wpAny P .any ops Q (ops.size-n) (doneArr ops.size n) (puts ops a0 f n) w):
  ∀ (c:Nat) (s:Array Bool) (f:Nat→Value) (a:Act) (w:World),Inv J ops n a0 s f a w→cnt n s=c→wpAny P .any ops Q (c+(ops.size-n)) s a w:=by
 intro c
 induction c with
 |zero=>
  intro s f a w I hc;rw[Nat.zero_add]
  have all:∀ k,k<n→s.getD k true=true:=fun k hk=>by
   simp only[cnt,List.countP_eq_zero,List.mem_range] at hc
   simpa using hc k hk
  have allf:∀ k,k<n→s.getD k false=true:=fun k hk=>by rw[←getD_true (by rw[I.head.size];have:=F.lt;omega)];exact all k hk
  have hs:s=doneArr ops.size n:=by
   have hz:(doneArr ops.size n).size=ops.size:=by simp[doneArr];have:=F.lt;omega
   refine Array.ext (I.head.size.trans hz.symm) fun i hi hi'=>?_
   by_cases h:i<n
   ·have:=all i h
    simp only[Array.getD_eq_getD_getElem?,Array.getElem?_eq_getElem hi,Option.getD_some] at this
    rw[this];simp[doneArr,h]
   ·have:=I.head.tail i (by omega) (by rw[←I.head.size];exact hi)
    simp only[Array.getD_eq_getD_getElem?,Array.getElem?_eq_getElem hi,Option.getD_some] at this
    rw[this];simp[doneArr,Array.getElem_append,h]
  have ha:a=puts ops a0 f n:=by
   refine act_ext (I.defers.trans (puts_size ops a0 _ n).2.symm) (I.size.trans (puts_size ops a0 _ n).1.symm) fun t=>?_
   by_cases h:∃ k,k<n∧dstOf ops k=some t
   ·obtain⟨k,hk,hd⟩:=h
    obtain⟨o,t',ho,_,hsl,hcase,_⟩:=F.each k hk
    have ht:t<N:=by
     have hod:o.dst=some t:=by simpa [dstOf,ho] using hd
     rcases hcase with ⟨q1,q2⟩|⟨q1,_⟩
     ·rw[hod] at q1;exact Option.some.inj q1▸q2
     ·rw[hod] at q1;cases q1
    rw[puts_at hd (by rw[hN];exact ht) n hk (fun j hj hne e=>F.apart j k hj hk hne t e hd)]
    exact I.vals k hk (allf k hk) t (slot_dst hd)
   ·rw[puts_other n (fun k hk e=>h ⟨k,hk,e⟩)]
    exact I.others t (fun k hk _ e=>h ⟨k,hk,e⟩)
  rw[hs,ha];exact tail f _ _ (fun k hk=>allf k hk) I.inv (fun k j t hk hsl hj hd=>(I.vals k hk (allf k hk) t hsl).symm.trans (I.vals j hj (allf j hj) t (slot_dst hd)))
 |succ c ih=>
  intro s f a w I hc
  have some_:∃ i,i<n∧s.getD i true=false:=by
   have:0<(List.range n).countP fun k=>!s.getD k true:=by unfold cnt at hc;omega
   obtain⟨i,hi,hs⟩:=List.countP_pos_iff.1 this;exact⟨i,by simpa using hi,by simpa using hs⟩
  rw[show c+1+(ops.size-n)=(c+(ops.size-n))+1 by omega]
  have bound:∀ j∈Region.ready .any ops s,j<n:=fun j hj=>by
   obtain⟨i,hi,hs⟩:=some_;rcases Nat.lt_or_ge j n with h|h
   ·exact h
   ·exact absurd hj (tail_waits F.sink F.chain F.lt I.head _ i rfl hi hs j h)
  refine⟨fun he=>?_,fun i hi=>?_⟩
  ·exfalso
   have key:∀ m,m<n→s.getD m true=false→False:=fun m=>by
    induction m using Nat.strongRecOn with
    |_ m ih=>
     intro hm hs;obtain⟨o,t,ho,_,_,_,hb⟩:=F.each m hm
     have:m∈Region.ready .any ops s:=mem_ready.2 ⟨hs,o,ho,fun e he hbe=>by
      have hlt:=hb e he hbe;cases hx:s.getD e.on false with
      |true=>rfl
      |false=>exact absurd (getD_in (by rw[I.head.size];have:=F.lt;omega) hx) (fun q=>ih e.on hlt (by omega) q)⟩
     rw[he] at this;cases this
   obtain⟨i,hi,hs⟩:=some_;exact key i hi hs
  ·have hin:=bound i hi
   obtain⟨hun,o',ho',hall⟩:=mem_ready.1 hi;obtain⟨o,t,ho,hg,hsl,hcase,hb⟩:=F.each i hin;obtain rfl:o=o':=by rw[ho] at ho';exact Option.some.inj ho'
   have hdo:dstOf ops i=o.dst:=by simp[dstOf,ho]
   have hlt:=F.lt
   have hdep:∀ j∈deps ops i,j<i∧s.getD j false=true:=fun j hj=>by
    simp only[deps,ho,Option.map_some,Option.getD_some,List.mem_map,List.mem_filter] at hj;obtain⟨e,⟨he,hbe⟩,rfl⟩:=hj;have he':e∈o.after:=by simpa using he
    exact⟨hb e he' hbe,hall e he' hbe⟩
   unfold wpOp;simp only[ho];rw[if_pos (by simp[Region.wanted,hg])]
   have huni:s.getD i false=false:=by rw[←getD_true (by rw[I.head.size];omega)];exact hun
   refine .inl (step i hin o ho a w _ f _ I.defers (fun t ht=>I.others t (fun k hk _=>ht k hk)) huni (fun j hj=>⟨(hdep j hj).2,fun t ht=>I.vals j (by have:=(hdep j hj).1;omega) (hdep j hj).2 t (slot_dst ht)⟩) I.inv ?_)
   intro v w' hvn hv
   have hset:∀ k d,k≠i→(s.setIfInBounds i true).getD k d=s.getD k d:=fun k d hk=>by
    simp[Array.getD_eq_getD_getElem?,Ne.symm hk]
   have hseti:∀ d,(s.setIfInBounds i true).getD i d=true:=fun d=>by
    simp[Array.getD_eq_getD_getElem?,show i<s.size by rw[I.head.size];omega]
   have hD:(fun k=>(s.setIfInBounds i true).getD k false)=updD (fun k=>s.getD k false) i:=funext fun k=>by
    unfold updD;by_cases e:k=i
    ·subst e;rw[if_pos rfl];exact hseti _
    ·rw[if_neg e];exact hset k _ e
   refine ih _ (updF f i v) _ _ ⟨I.head.set hi hin,by rw[put_defers];exact I.defers,by rw[put_size];exact I.size,fun u hu=>?_,fun k hk hk2 u hu=>?_,by rw[hD];exact hv⟩ ?_
   ·have hne:o.dst≠some u:=fun e=>hu i hin (hseti _) (by rw[hdo,e])
    rw[put_ne hne]
    exact I.others u (fun k hk hs=>by
     by_cases e:k=i
     ·subst e;exact hu k hk (hseti _)
     ·exact hu k hk (by rw[hset k _ e];exact hs))
   ·by_cases e:k=i
    ·subst e
     obtain rfl:t=u:=Option.some.inj (hsl.symm.trans hu);rcases hcase with ⟨q1,q2⟩|⟨q1,_⟩
     ·rw[q1,put_get,if_pos ⟨rfl,by rw[I.size,hN];exact q2⟩]
      simp[updF]
     ·rw[q1]
      show a.tmps.getD t undef=_
      rw[←hvn t q1 hsl];simp[updF]
    ·have hk3:s.getD k false=true:=by rw[hset k _ e] at hk2;exact hk2
     have hne:o.dst≠some u:=fun q=>by
      obtain⟨ok,tk,hok,_,hslk,hck,_⟩:=F.each k hk;obtain rfl:tk=u:=Option.some.inj (hslk.symm.trans hu);rcases hck with ⟨r1,_⟩|⟨_,j,hj,r2⟩
      ·exact F.apart k i hk hin e tk (by simp[dstOf,hok,r1]) (by rw[hdo];exact q)
      ·have hjk:=hj
       simp only[deps,hok,Option.map_some,Option.getD_some,List.mem_map,List.mem_filter] at hj;obtain⟨x,⟨hx,hbx⟩,hon⟩:=hj;have hdone:=I.head.closed k ok hok hk3 x (by simpa using hx) hbx
       rw[hon] at hdone;by_cases eji:j=i
       ·subst eji
        rw[←getD_true (by rw[I.head.size];omega),hun] at hdone
        cases hdone
       ·have hjn:j<n:=by
         obtain⟨ok',tk',hok',_,_,_,hbk⟩:=F.each k hk;obtain rfl:ok=ok':=by rw[hok] at hok';exact Option.some.inj hok'
         have:=hbk x (by simpa using hx) hbx
         rw[hon] at this;omega
        exact F.apart j i hjn hin eji tk r2 (by rw[hdo];exact q)
     rw[put_ne hne];rw[I.vals k hk hk3 u hu];simp[updF,e]
   ·have:=count_one (p:=fun k=>!s.getD k true) (q:=fun k=>!(s.setIfInBounds i true).getD k true) (i:=i) (by simp[hun]) (by simp[hseti]) (fun k hk=>by simp[hset k _ hk]) n hin
    unfold cnt at hc ⊢;omega
theorem Step.of{J:(Nat→Bool)→(Nat→Value)→World→Prop}{a0:Act}{w0:World}{Q:Exit→Act→World→Prop}{Ψ:Nat→Value→World→Prop}{k:Nat}(hd:dstOf ops k≠none)
  (vals:∀ D f w j,J D f w→D j=true→Ψ j (f j) w) (bel:∀ D f w,J D f w→Below w0.heap.size w0 w)
  (lift:∀ D f w v w',J D f w→D k=false→(∀ j∈deps ops k,D j=true)→Ψ k v w'→Below w.heap.size w w'→J (updD D k) (updF f k v) w')
  (h:RelG.Step (fun w w'=>Below w.heap.size w w') P ops n a0 w0 Q Ψ k):Step J P ops n a0 Q k:=fun o ho a w D f K h1 h2 h3 h4 h5 h6=>
 h o ho a w K h1 h2 (fun j hj t ht=>by rw[(h4 j hj).2 t ht];exact vals D f w j h5 (h4 j hj).1) (bel D f w h5) fun v w' q1 q2=>
   h6 v w' (fun t hn _=>absurd (show dstOf ops k=none by simp[dstOf,ho,hn]) hd) (lift D f w v w' h5 h3 (fun j hj=>(h4 j hj).1) q1 q2)
theorem updD_same(D:Nat→Bool)(i:Nat):updD D i i=true:=by simp[updD]
theorem updD_other(D:Nat→Bool){i k:Nat}(h:k≠i):updD D i k=D k:=by simp[updD,h]
theorem updF_same(f:Nat→Value)(i:Nat)(v:Value):updF f i v i=v:=by simp[updF]
theorem updF_other(f:Nat→Value){i k:Nat}(v:Value)(h:k≠i):updF f i v k=f k:=by simp[updF,h]
theorem all_put{Ψ:Nat→Value→World→Prop}{D:Nat→Bool}{f:Nat→Value}{w':World}{i:Nat}{v:Value}(h:∀ j,D j=true→Ψ j (f j) w')(hv:Ψ i v w'):∀ j,updD D i j=true→Ψ j (updF f i v j) w':=fun j hj=>by
 by_cases e:j=i
 ·subst e;rw[updF_same];exact hv
 ·rw[updF_other _ _ e];rw[updD_other _ e] at hj;exact h j hj
end
end RelJ
theorem wp_region_inv{id:Nat}{Q:Exit→Act→World→Prop}{a:Act}{w:World}{l:List Oper}(n N:Nat)(J:(Nat→Bool)→(Nat→Value)→World→Prop)(hm:Tryz.prog.follows .mixedOrders=true)(hN:a.tmps.size=N)(hB:RelA.fitB l.toArray n N=true)
  (start:∀ D f,(∀ k,D k=true→n≤k)→J D f w.drew) (step:∀ k,k<n→RelJ.Step J Tryz.prog l.toArray n a Q k)
  (tail:∀ f D w',(∀ k,k<n→D k=true)→J D f w'→(∀ k j t,k<n→RelA.slotOf l.toArray k=some t→j<n→Rel.dstOf l.toArray j=some t→f k=f j)→(∀ k,k<n→∀ t,Rel.dstOf l.toArray k=some t→(Rel.puts l.toArray a f n).eval (.tmp t)=f k)→wpList Tryz.prog l.toArray Q (l.drop n) (Rel.puts l.toArray a f n) w'):
  (Code.region id l.toArray true).wp Tryz.prog Q a w:=by
 have F:=RelA.fit_of hB
 refine wp_region_any hm ?_
 have hlt:n<l.length:=by simpa using F.lt
 have key:=RelJ.rel_any (J:=J) (P:=Tryz.prog) (Q:=Q) (a0:=a) F hN step (fun f D w' hd hv h2=>by
  have:=wpAny_of_seq (P:=Tryz.prog) (md:=.any) (Q':=Q) (l.drop n) n (Rel.doneArr l.toArray.size n) (Rel.puts l.toArray a f n) w' (fun j=>by simp[List.getElem?_drop]) (by
   rw[show (l.drop n).length=l.toArray.size-n by simp];exact F.seq) (tail f D w' hd hv h2 (fun k hk t ht=>RelA.puts_eval F hN hk ht f))
  rwa [show (l.drop n).length=l.toArray.size-n by simp] at this)
 have h0:∀ k d,(Array.replicate l.toArray.size false).getD k d=if k<l.length then false else d:=fun k d=>by
  simp only[Array.getD_eq_getD_getElem?,Array.getElem?_replicate,List.size_toArray]
  split<;>rfl
 have hc:Rel.cnt n (Array.replicate l.toArray.size false)=n:=by
  unfold Rel.cnt;rw[List.countP_eq_length.2]
  ·simp
  ·intro k hk
   rw[h0,if_pos (by have:=List.mem_range.1 hk;omega)]
   rfl
 have hz:∀ k,(Array.replicate l.toArray.size false).getD k false=false:=fun k=>by
  rw[h0];split<;>rfl
 have:=key n (Array.replicate l.toArray.size false) (fun _=>undef) a (World.drew w) ⟨⟨by simp,fun j q _ hl=>(by rw[getD_replicate_false] at hl;cases hl),fun t _ h=>getD_in (by simpa using h) (getD_replicate_false _ _)⟩,rfl,rfl,fun t _=>rfl,
  (fun k hk hs=>(by rw[hz] at hs;cases hs)),start _ _ (fun k hk=>(by simp only[hz] at hk;cases hk))⟩ hc
 rwa [show n+(l.toArray.size-n)=l.toArray.size by have:=F.lt;omega] at this
namespace Tail
section
variable {P:Program} {ops:Array Oper} {md:Region.Mode} {C:World→Prop} {n:Nat}
def Head(P:Program)(md:Region.Mode)(ops:Array Oper)(C:World→Prop)(n:Nat)(L:Array Bool→Act→Prop):Nat→Array Bool→Act→Prop
 |0,s,a=>L s a
 |f+1,s,a=>Region.ready md ops s≠[]∧∀ i∈Region.ready md ops s,i<n∧qOp P ops C i (Head P md ops C n L f (s.setIfInBounds i true)) a
theorem Head.any{g:Nat}{L:Array Bool→Act→Prop}{Q:Exit→Act→World→Prop}(hL:∀ s a w,C w→L s a→wpAny P md ops Q g s a w):
  ∀ (f:Nat) (s:Array Bool) (a:Act) (w:World),C w→Head P md ops C n L f s a→wpAny P md ops Q (f+g) s a w
 |0,s,a,w,hw,h=>by rw[Nat.zero_add];exact hL _ _ _ hw h
 |f+1,s,a,w,hw,h=>by
  rw[Nat.add_right_comm];exact⟨fun e=>absurd e h.1,fun i hi=>wpOp_of_qOp hw (fun a' w' hw' h'=>Head.any hL f _ a' w' hw' h') (h.2 i hi).2⟩
theorem Head.first{i:Nat}{o:Oper}{v:Value}{L:Array Bool→Act→Prop}(hi:ops[i]?=some o)(ns:∀ (j:Nat) (o:Oper) cs b,ops[j]?=some o→o.op≠.select cs b)
  (hs:Region.sinkB md ops n=true) (hc:Region.chainB md ops n=true) (hn:n<ops.size) (hin:i<n) (hL:∀ s a,L s a→∀ j∈Region.ready md ops s,n≤j):
  ∀ (f:Nat) (s:Array Bool) (a:Act),HeadInv md ops n s→
    (∀ j q,ops[j]?=some q→j≠i→s.getD j true=false→(∀ e∈q.after,Region.binds md e=true→e.on≠i)→o.apart ops q=true)→
    i∈Region.ready md ops s→YieldsIn P ops C o v a→Head P md ops C n L f (s.setIfInBounds i true) (a.put o.dst v)→Head P md ops C n L (f+1) s a:=by
 intro f
 induction f with
 |zero=>
  intro s a inv _ hr hy H;refine⟨List.ne_nil_of_mem hr,fun j hj=>?_⟩
  have hjn:j<n:=Nat.lt_of_not_le fun h=>tail_waits hs hc hn inv _ i rfl hin (mem_ready.1 hr).1 j h hj
  refine⟨hjn,?_⟩
  by_cases e:j=i
  ·subst e;exact hy.qOp hi H
  ·exact absurd (hL _ _ H j (ready_mono hj e)) (by omega)
 |succ f ih=>
  intro s a inv fr hr hy H;refine⟨List.ne_nil_of_mem hr,fun j hj=>?_⟩
  have hjn:j<n:=Nat.lt_of_not_le fun h=>tail_waits hs hc hn inv _ i rfl hin (mem_ready.1 hr).1 j h hj
  refine⟨hjn,?_⟩
  by_cases e:j=i
  ·subst e;exact hy.qOp hi H
  ·obtain⟨hu,q,hq,ha⟩:=mem_ready.1 hj
   have hno:∀ x∈q.after,Region.binds md x=true→x.on≠i:=fun x hx hb hxi=>by
    have:=ha x hx hb;rw[hxi,getD_both (mem_ready.1 hr).1] at this;cases this
   have h2:=qOp_put hq (fr j q hq e hu hno) (fun cs b=>ns i o cs b hi) (fun cs b=>ns j q cs b hq) hy (H.2 j (ready_mono hj e)).2
   refine qOp_mono (fun a' h3=>ih _ a' (inv.set hj hjn) (fun k r hk hki hun hx=>?_) (ready_mono hr (Ne.symm e)) h3.1 ?_) h2
   ·refine fr k r hk hki ?_ hx
    by_cases hjk:j=k
    ·subst hjk;exact hu
    ·rwa [getD_set_ne true hjk] at hun
   ·rw[Array.setIfInBounds_comm _ _ e]
    exact h3.2
theorem Head.lex{g:Nat}{K:Act→Prop}(ns:Region.noSelect ops=true)(hs:Region.sinkB md ops n=true)(hc:Region.chainB md ops n=true)(hn:n<ops.size):
  ∀ (l:List Oper) (k:Nat) (s:Array Bool) (a:Act),(∀ j,j<l.length→l[j]?=ops[k+j]?)→k+l.length=n→HeadInv md ops n s→Region.lexHead md ops g l.length k s=true→
    wpQuiet P ops C K l a→Head P md ops C n (fun s' a'=>Region.seqB md ops g n s'=true∧K a') l.length s a
 |[],k,s,a,_,hk,_,hB,h=>by
  obtain rfl:k=n:=by simpa using hk
  exact⟨by simpa [Region.lexHead] using hB,h⟩
 |o::l,k,s,a,hl,hk,inv,hB,h=>by
  have h0:ops[k]?=some o:=by simpa using (hl 0 (by simp)).symm
  simp only[List.length_cons,Region.lexHead,Bool.and_eq_true] at hB hk;obtain⟨⟨hr,hf⟩,hB⟩:=hB;have hr:k∈Region.ready md ops s:=by simpa using hr
  have hq:qOp P ops C k (wpQuiet P ops C K l) a:=by unfold qOp;simp only[h0];exact h
  obtain⟨v,hy,hK⟩:=yieldsIn_of_qOp h0 hq;refine Head.first h0 (Region.noSelect_spec ns) hs hc hn (by omega) (fun s' a' hL=>seqB_ready hL.1) l.length s a inv (Region.free_spec h0 hf) hr hy ?_
  exact Head.lex ns hs hc hn l (k+1) _ _ (fun j hj=>by have:=hl (j+1) (by simp;omega);simpa [Nat.add_assoc,Nat.add_comm 1 j] using this) (by omega) (inv.set hr (by omega)) hB hK
theorem region{id:Nat}{Q:Exit→Act→World→Prop}{a:Act}{w:World}{l:List Oper}(n:Nat)(hm:P.follows .mixedOrders=true)(hB:Region.lexTailB .any l.toArray n=true)(hC:C w.drew)
  (h:wpQuiet P l.toArray C (fun a'=>∀ w',C w'→wpList P l.toArray Q (l.drop n) a' w') (l.take n) a):(Code.region id l.toArray true).wp P Q a w:=by
 simp only[Region.lexTailB,Bool.and_eq_true,decide_eq_true_eq] at hB
 obtain⟨⟨⟨⟨ns,hn⟩,hs⟩,hc⟩,hx⟩:=hB
 have hn':n<l.length:=by simpa using hn
 have ht:(l.take n).length=n:=by simp;omega
 have hd:(l.drop n).length=l.toArray.size-n:=by simp
 have H:=Head.lex (C:=C) (md:=.any) (g:=l.toArray.size-n) ns hs hc hn (l.take n) 0 (Array.replicate l.toArray.size false) a
  (fun j hj=>by rw[ht] at hj;simp[hj]) (by simpa using ht)
  ⟨by simp,fun j q _ hl=>(by rw[getD_replicate_false] at hl;cases hl),fun t _ h=>getD_in (by simpa using h) (getD_replicate_false _ _)⟩ (by rw[ht];exact hx) h
 refine wp_region_any hm ?_
 have R:=Head.any (Q:=Q) (g:=l.toArray.size-n) (fun s a' w' hw' hL=>by
  have:=wpAny_of_seq (md:=.any) (Q':=Q) (l.drop n) n s a' w' (fun j=>by simp[List.getElem?_drop]) (by rw[hd];exact hL.1) (hL.2 w' hw')
  rwa [hd] at this) _ _ _ w.drew hC H
 rw[ht,show n+(l.toArray.size-n)=l.toArray.size by omega] at R
 exact R
end
end Tail
theorem wp_region_later_tail{id:Nat}{Q:Exit→Act→World→Prop}{a:Act}{w:World}{l:List Oper}(n:Nat)(hm:Tryz.prog.follows .mixedOrders=true)(hB:Region.lexTailB .any l.toArray n=true)
  (h:wpQuiet Tryz.prog l.toArray (fun w'=>∃ u:Later w,w'=u.w) (fun a'=>∀ w',(∃ u:Later w,w'=u.w)→wpList Tryz.prog l.toArray Q (l.drop n) a' w') (l.take n) a):(Code.region id l.toArray true).wp Tryz.prog Q a w:=
 Tail.region (C:=fun w'=>∃ u:Later w,w'=u.w) n hm hB ⟨⟨w.drew,(Below.refl _ _).drew⟩,rfl⟩ h
namespace Mid
section
variable {P:Program} {ops:Array Oper} {md:Region.Mode} {C:World→Prop} {n:Nat}
end
end Mid
end Go.Proofs.YtfjlnniahfbdfaaGreat
