/- A part of the proof. -/
import Derived.Test.YtfjlnniahfbdfaaGreatPam
import Derived.Test.YtfjlnniahfbdfaaGreatPag
import Derived.Test.YtfjlnniahfbdfaaGreatPao
set_option linter.unusedVariables false
set_option maxHeartbeats 4000000
namespace Go.Proofs.YtfjlnniahfbdfaaGreat
open Lib (hid)
open Go.ChangeShapes Go.WideShapes Go.ChangeAt Go.RowKit Small
namespace Pane
theorem sumC_app(A B:List Pn):sumC (A++B)=sumC A+sumC B:=by simp[sumC,List.sum_append]
theorem sumC_cons(p:Pn)(B:List Pn):sumC (p::B)=p.c+sumC B:=by simp[sumC]
theorem sumM_cons(p:Pn)(B:List Pn):sumM (p::B)=p.m+sumM B:=by simp[sumM]
theorem sumC_cut(L:List Pn)(k:Nat):sumC (L.take k)+sumC (L.drop k)=sumC L:=by rw[←sumC_app,List.take_append_drop]
theorem sum_pos{L:List Pn}(h:∀ p∈L,1≤p.c):(L.length:Int)≤sumC L∧∀ p∈L,p.c≤sumC L:=by
 induction L with
 |nil=>simp[sumC]
 |cons x L ih=>
  obtain⟨a,b⟩:=ih fun p hp=>h p (List.mem_cons_of_mem _ hp)
  have hx:=h x (List.mem_cons_self ..);rw[sumC_cons];refine⟨by simp;omega,fun p hp=>?_⟩
  rcases List.mem_cons.1 hp with rfl|hp
  ·omega
  ·have:=b p hp
   omega
theorem split_at{L:List Pn}{k:Nat}{p:Pn}(hp:L[k]?=some p):L=L.take k++p::L.drop (k+1):=by
 obtain⟨h1,h2⟩:=List.getElem?_eq_some_iff.1 hp
 conv=>lhs;rw[←List.take_append_drop k L,List.drop_eq_getElem_cons h1,h2]
theorem set_split{L:List Pn}{k:Nat}{p q:Pn}(hp:L[k]?=some p):L.set k q=L.take k++q::L.drop (k+1):=by
 rw[←set_cut (lt_of_at hp) q]
 have hl:(L.take k).length=k:=by rw[List.length_take];have:=lt_of_at hp;omega
 rw[List.take_left' hl,List.drop_left' hl]
theorem mrg_both{x y:Agg.A4}(hx:1≤x.c)(hy:1≤y.c):Agg.mrg x y=⟨wrap64 (x.c+y.c),wrap64 (x.s+y.s),min x.l y.l,max x.u y.u⟩:=by
 unfold Agg.mrg
 rw[if_neg (by omega),if_neg (by omega)]
theorem wrap_small{a:Int}(h0:0≤a)(h1:a≤100000):wrap64 a=a:=by unfold wrap64;omega
structure Apart(L:List Pn):Prop where
 may:∀ p∈L,p.s<p.e
 apart:L.Pairwise fun p q=>p.e≤q.s
theorem fold_join(T:List Pn):∀ (x:Pn),1≤x.c→(∀ p∈T,1≤p.c)→x.c+sumC T≤9000→
  (T.foldl join2 x).c=x.c+sumC T∧wrap64 (T.foldl join2 x).m=wrap64 (x.m+sumM T)∧(T.foldl join2 x).key=x.key∧(T.foldl join2 x).s≤x.s∧x.e≤(T.foldl join2 x).e∧
   (∀ B,B≤x.s→(∀ q∈T,B≤q.s)→B≤(T.foldl join2 x).s)∧(∀ B,x.e≤B→(∀ q∈T,q.e≤B)→(T.foldl join2 x).e≤B):=by
 induction T with
 |nil=>intro x h1 h2 h3;simp[sumC,sumM]
 |cons p T ih=>
  intro x h1 h2 h3;have hp:=h2 p (List.mem_cons_self ..);have hT:∀ q∈T,1≤q.c:=fun q hq=>h2 q (List.mem_cons_of_mem _ hq)
  rw[sumC_cons] at h3;have h0:=(sum_pos hT).1
  have hj:join2 x p=⟨x.key,min x.s p.s,max x.e p.e,x.c+p.c,wrap64 (x.m+p.m),min x.l p.l,max x.u p.u⟩:=by
   unfold join2;rw[mrg_both (x:=ag x) (y:=ag p) h1 hp];simp only[mk];rw[wrap_small (by omega) (by omega)]
  rw[List.foldl_cons,hj];obtain⟨a1,a2,a3,a4,a5,a6,a7⟩:=ih ⟨x.key,min x.s p.s,max x.e p.e,x.c+p.c,wrap64 (x.m+p.m),min x.l p.l,max x.u p.u⟩ (by simp only;omega) hT (by simp only;omega)
  simp only at a1 a2 a3 a4 a5 a6 a7;refine⟨by rw[a1,sumC_cons];omega,by rw[a2,sumM_cons,wrap_add,Int.add_assoc],a3,by omega,by omega,fun B hB hq=>?_,fun B hB hq=>?_⟩
  ·exact a6 B (by have:=hq p (List.mem_cons_self ..);omega) fun q hqT=>hq q (List.mem_cons_of_mem _ hqT)
  ·exact a7 B (by have:=hq p (List.mem_cons_self ..);omega) fun q hqT=>hq q (List.mem_cons_of_mem _ hqT)
theorem part_sum(f:Pn→Bool)(L:List Pn):sumC (L.filter fun p=>!f p)+sumC (L.filter f)=sumC L∧sumM (L.filter fun p=>!f p)+sumM (L.filter f)=sumM L:=by
 induction L with
 |nil=>simp[sumC,sumM]
 |cons p L ih=>
  simp only[List.filter_cons];cases h:f p
  ·simp only[Bool.not_false,if_true,sumC_cons,sumM_cons]
   have:=ih.1;have:=ih.2
   constructor
   ·simp;omega
   ·simp;omega
  ·simp only[Bool.not_true,if_true,sumC_cons,sumM_cons]
   have:=ih.1;have:=ih.2
   constructor
   ·simp;omega
   ·simp;omega
theorem Apart.two{L:List Pn}(h:Apart L){p q:Pn}(hp:p∈L)(hq:q∈L)(hne:p≠q):p.e≤q.s∨q.e≤p.s:=by
 obtain⟨i,hi⟩:=List.mem_iff_getElem?.1 hp
 obtain⟨j,hj⟩:=List.mem_iff_getElem?.1 hq
 obtain⟨h1,rfl⟩:=List.getElem?_eq_some_iff.1 hi
 obtain⟨h2,rfl⟩:=List.getElem?_eq_some_iff.1 hj
 have hij:i≠j:=fun e=>hne (by subst e;rfl)
 rcases Nat.lt_or_ge i j with q|q
 ·exact .inl (List.pairwise_iff_getElem.1 h.apart i j h1 h2 q)
 ·exact .inr (List.pairwise_iff_getElem.1 h.apart j i h2 h1 (by omega))
end Pane
set_option linter.unusedSimpArgs false
namespace Pane
structure Cnt(L:List Pn)(n:Nat):Prop where
 rises:Rises L
 pos:∀ p∈L,1≤p.c
 cnt:sumC L=n
theorem Cnt.nil:Cnt [] 0:=⟨List.Pairwise.nil,by simp,rfl⟩
theorem Cnt.len{L:List Pn}{n:Nat}(h:Cnt L n):L.length≤n:=by
 have:=(sum_pos h.pos).1
 rw[h.cnt] at this
 omega
theorem cnt_put_no{L:List Pn}{n k:Nat}{v s e:Int}(key:ByteArray)(h:Cnt L n)(a:At L s e k)(hx:∀ x∈L,¬Eq2 x s e):Cnt (L.take k++one key s e v::L.drop k) (n+1):=by
 refine⟨rises_ins h.rises (p:=one key s e v) a hx,fun p hp=>?_,?_⟩
 ·rcases List.mem_append.1 hp with hp|hp
  ·exact h.pos p (List.mem_of_mem_take hp)
  ·rcases List.mem_cons.1 hp with rfl|hp
   ·exact Int.le_refl _
   ·exact h.pos p (List.mem_of_mem_drop hp)
 ·rw[sumC_app,sumC_cons]
  have:=sumC_cut L k;have:=h.cnt;simp only;omega
theorem cnt_put_yes{L:List Pn}{n k:Nat}{v s e:Int}{p:Pn}(h:Cnt L n)(a:At L s e k)(hp:L[k]?=some p)(he:Eq2 p s e)(hn:n≤9000):Cnt (L.set k (mk p.key p.s p.e (Agg.mrg (ag p) (Agg.one4 v)))) (n+1):=by
 have hpm:=List.mem_of_getElem? hp
 have p1:=h.pos p hpm
 have p2:=(sum_pos h.pos).2 p hpm
 rw[h.cnt] at p2
 have hm:Agg.mrg (ag p) (Agg.one4 v)=⟨p.c+1,wrap64 (p.m+v),min p.l v,max p.u v⟩:=by
  rw[mrg_both p1 (by simp[Agg.one4])]
  simp only[Agg.one4];rw[wrap_small (by omega) (by omega)]
 have e0:=split_at hp
 have e1:=set_split (q:=mk p.key p.s p.e (Agg.mrg (ag p) (Agg.one4 v))) hp
 rw[hm] at e1 ⊢
 have c0:sumC L=sumC (L.take k)+(p.c+sumC (L.drop (k+1))):=by rw[←sumC_cons,←sumC_app,←e0]
 have hc:=h.cnt
 refine⟨?_,fun q hq=>?_,?_⟩
 ·have hc1:=rises_cut h.rises k
  have ha:=at_cut a (lt_of_at hp);have hk:=lt_of_at hp
  have:=rises_ins (p:=mk p.key p.s p.e ⟨p.c+1,wrap64 (p.m+v),min p.l v,max p.u v⟩) hc1 (by simpa [mk,he.1,he.2] using ha) (fun x hx q=>by
   have hnn:=filter_cut h.rises a hp he (fun y=>!decide (Eq2 y s e)) (fun y _=>by rw[Bool.not_eq_true',decide_eq_false_iff_not])
   rw[←hnn] at hx;have:=(List.mem_filter.1 hx).2;simp only[he.1,he.2] at q;rw[Bool.not_eq_true',decide_eq_false_iff_not] at this;exact this q)
  rwa [set_cut hk] at this
 ·rw[e1] at hq
  rcases List.mem_append.1 hq with hq|hq
  ·exact h.pos q (List.mem_of_mem_take hq)
  ·rcases List.mem_cons.1 hq with rfl|hq
   ·simp only;omega
   ·exact h.pos q (List.mem_of_mem_drop hq)
 ·rw[e1,sumC_app,sumC_cons]
  simp only;omega
theorem rest_apart2{L:List Pn}{n:Nat}{v s e:Int}(key:ByteArray)(g:Cnt L n)(h:Apart L)(hse:s<e)(hn:n≤8900){p:Pn}(hp:p∈restOf s e L):
  p.e≤(joined s e (one key s e v) L).s∨(joined s e (one key s e v) L).e≤p.s:=by
 obtain⟨hpL,hpm⟩:=List.mem_filter.1 hp
 have hpv:=h.may p hpL
 have hpm:¬(max p.s s<min p.e e):=by simpa using hpm
 have hpos:∀ q∈metOf s e L,1≤q.c:=fun q hq=>g.pos q (List.mem_filter.1 hq).1
 have hsum:sumC (restOf s e L)+sumC (metOf s e L)=sumC L:=(part_sum (meets s e) L).1
 have hr:((restOf s e L).length:Int)≤sumC (restOf s e L):=(sum_pos (L:=L.filter fun p=>!meets s e p) fun q hq=>g.pos q (List.mem_filter.1 hq).1).1
 have hcnt:=g.cnt
 obtain⟨a1,a2,a3,a4,a5,a6,a7⟩:=fold_join (metOf s e L) (one key s e v) (by simp only;omega) hpos (by simp only;omega)
 simp only[one] at a4 a5 a6 a7
 have each:∀ q∈metOf s e L,(p.e≤q.s∨q.e≤p.s)∧max q.s s<min q.e e:=fun q hq=>by
  obtain⟨hqL,hqm⟩:=List.mem_filter.1 hq;have hqm:max q.s s<min q.e e:=by simpa using hqm
  exact⟨h.two hpL hqL (fun e=>hpm (e▸hqm)),hqm⟩
 by_cases hl:p.e≤s
 ·exact .inl (a6 p.e hl fun q hq=>by have:=each q hq;omega)
 ·exact .inr (a7 p.s (by omega) fun q hq=>by have:=each q hq;omega)
theorem cnt_merge{L:List Pn}{n k:Nat}{v s e:Int}(key:ByteArray)(g:Cnt L n)(h:Apart L)(hse:s<e)(hn:n≤8900)(x:Pn)(hx:x=joined s e (one key s e v) L)(a:At (restOf s e L) x.s x.e k):
  Cnt ((restOf s e L).take k++x::(restOf s e L).drop k) (n+1)∧Apart ((restOf s e L).take k++x::(restOf s e L).drop k):=by
 have hpos:∀ q∈metOf s e L,1≤q.c:=fun q hq=>g.pos q (List.mem_filter.1 hq).1
 have hposr:∀ q∈restOf s e L,1≤q.c:=fun q hq=>g.pos q (List.mem_filter.1 hq).1
 have hsum:sumC (restOf s e L)+sumC (metOf s e L)=sumC L:=(part_sum (meets s e) L).1
 have hr:=(sum_pos hposr).1
 have hcnt:=g.cnt
 obtain⟨a1,a2,a3,a4,a5,a6,a7⟩:=fold_join (metOf s e L) (one key s e v) (by simp only;omega) hpos (by simp only;omega)
 have hj:(metOf s e L).foldl join2 (one key s e v)=x:=hx.symm
 rw[hj] at a1 a2 a3 a4 a5 a6 a7
 simp only at a1 a2 a4 a5
 have hap:∀ p∈restOf s e L,p.e≤x.s∨x.e≤p.s:=fun p hp=>by rw[hx];exact rest_apart2 key g h hse hn hp
 have hmay:∀ p∈restOf s e L,p.s<p.e:=fun p hp=>h.may p (List.mem_filter.1 hp).1
 have hxv:x.s<x.e:=by omega
 have hR:Rises (restOf s e L):=g.rises.sub List.filter_sublist
 have hA:(restOf s e L).Pairwise fun p q=>p.e≤q.s:=List.Pairwise.sublist List.filter_sublist h.apart
 have hnx:∀ p∈restOf s e L,¬Eq2 p x.s x.e:=fun p hp q=>by
  have:=hap p hp;have:=hmay p hp;simp only[Eq2] at q;omega
 have c0:=sumC_cut (restOf s e L) k
 refine⟨⟨rises_ins hR a hnx,fun p hp=>?_,?_⟩,⟨fun p hp=>?_,?_⟩⟩
 ·rcases List.mem_append.1 hp with hp|hp
  ·exact hposr p (List.mem_of_mem_take hp)
  ·rcases List.mem_cons.1 hp with rfl|hp
   ·have:=(sum_pos hpos).1;omega
   ·exact hposr p (List.mem_of_mem_drop hp)
 ·rw[sumC_app,sumC_cons]
  omega
 ·rcases List.mem_append.1 hp with hp|hp
  ·exact hmay p (List.mem_of_mem_take hp)
  ·rcases List.mem_cons.1 hp with rfl|hp
   ·exact hxv
   ·exact hmay p (List.mem_of_mem_drop hp)
 ·have hw:=hA
  rw[←List.take_append_drop k (restOf s e L)] at hw;obtain⟨w1,w2,w3⟩:=List.pairwise_append.1 hw
  have ht:∀ p∈(restOf s e L).take k,p.e≤x.s:=fun p hp=>by
   have hpR:=List.mem_of_mem_take hp;obtain⟨i,hi⟩:=List.mem_iff_getElem?.1 hp;rw[List.getElem?_take] at hi
   split at hi
   ·have h1:=a.lo i p (by assumption) hi
    have h2:=hap p hpR;have h3:=hmay p hpR;simp only[Ah] at h1;omega
   ·cases hi
  have hd:∀ p∈(restOf s e L).drop k,x.e≤p.s:=fun p hp=>by
   have hpR:=List.mem_of_mem_drop hp;obtain⟨i,hi⟩:=List.mem_iff_getElem?.1 hp;rw[List.getElem?_drop] at hi
   have h1:=a.hi _ p (by omega) hi
   have h2:=hap p hpR;have h3:=hmay p hpR;simp only[Ah] at h1;omega
  refine List.pairwise_append.2 ⟨w1,List.pairwise_cons.2 ⟨hd,w2⟩,fun p hp q hq=>?_⟩
  rcases List.mem_cons.1 hq with rfl|hq
  ·exact ht p hp
  ·exact w3 p hp q hq
end Pane
namespace Grp
open Small Foot Pane
structure Ok(kind:Int)(S:Lists)(N:Nat):Prop where
 cnt:∀ x,∃ n,Cnt (S x) n∧n≤N
 key:∀ x p,p∈S x→p.key=x
 apart:kind=2→∀ x,Apart (S x)
theorem Ok.fine{kind:Int}{S:Lists}{N:Nat}(h:Ok kind S N)(hn:N≤9000):Fine S:=
 ⟨fun x=>by obtain⟨n,c,_⟩:=h.cnt x;exact c.rises,h.key,fun x=>by obtain⟨n,c,q⟩:=h.cnt x;have:=c.len;omega⟩
def Put1(kind:Int)(key:ByteArray)(s e v:Int)(L L':List Pn):Prop:=
 (kind=2∧∃ k,At (restOf s e L) (joined s e (one key s e v) L).s (joined s e (one key s e v) L).e k∧L'=(restOf s e L).take k++joined s e (one key s e v) L::(restOf s e L).drop k)∨
 (kind≠2∧∃ k,At L s e k∧((∃ p,L[k]?=some p∧Eq2 p s e∧L'=L.set k (mk p.key p.s p.e (Agg.mrg (ag p) (Agg.one4 v))))∨((∀ x,L[k]?=some x→¬Eq2 x s e)∧L'=L.take k++one key s e v::L.drop k)))
theorem wf_of{a:Int}(h0:-9223372036854775808≤a)(h1:a≤9223372036854775807):(Lit.int .i64 a).wf=true:=by
 simp[Lit.wf,IntKind.min,IntKind.max,IntKind.bits,IntKind.signed];omega
theorem dues_set{S:Lists}{key:ByteArray}{L':List Pn}{M:Tmr.Tm→Prop}(hM:∀ y,y.key≠key→(M y↔duesOf S y))(hL:∀ y,y.key=key→(M y↔∃ p∈L',p.s=y.s∧p.e=y.e))(y:Tmr.Tm):M y↔duesOf (S.set key L') y:=by
 unfold duesOf
 by_cases e:y.key=key
 ·rw[e,set_same];exact hL y e
 ·rw[set_other _ _ e];exact hM y e
theorem ok_set{kind:Int}{S:Lists}{N:Nat}{key:ByteArray}{L':List Pn}{n:Nat}(h:Ok kind S N)(hc:Cnt L' n)(hn:n≤N+1)(hk:∀ p∈L',p.key=key)(ha:kind=2→Apart L'):Ok kind (S.set key L') (N+1):=by
 refine⟨fun x=>?_,fun x p hp=>?_,fun h2 x=>?_⟩
 ·by_cases e:x=key
  ·subst e;rw[set_same];exact⟨n,hc,hn⟩
  ·rw[set_other _ _ e];obtain⟨a,b,c⟩:=h.cnt x;exact⟨a,b,by omega⟩
 ·by_cases e:x=key
  ·subst e;rw[set_same] at hp;exact hk p hp
  ·rw[set_other _ _ e] at hp;exact h.key x p hp
 ·by_cases e:x=key
  ·subst e;rw[set_same];exact ha h2
  ·rw[set_other _ _ e];exact h.apart h2 x
theorem mem_ins{R:List Pn}{k:Nat}{X p:Pn}:p∈R.take k++X::R.drop k↔p=X∨p∈R:=by
 rw[List.mem_append,List.mem_cons]
 have:p∈R↔p∈R.take k∨p∈R.drop k:=by rw[←List.mem_append,List.take_append_drop]
 rw[this]
 constructor
 ·rintro (h|h|h)
  ·exact .inr (.inl h)
  ·exact .inl h
  ·exact .inr (.inr h)
 ·rintro (h|h|h)
  ·exact .inr (.inl h)
  ·exact .inl h
  ·exact .inr (.inr h)
theorem mem_set{L:List Pn}{k:Nat}{p X:Pn}(hp:L[k]?=some p)(hs:X.s=p.s)(he:X.e=p.e)(a b:Int):(∃ q∈L.set k X,q.s=a∧q.e=b)↔∃ q∈L,q.s=a∧q.e=b:=by
 rw[Pane.set_split hp]
 constructor
 ·rintro⟨q,hq,h1,h2⟩
  rcases List.mem_append.1 hq with hq|hq
  ·exact⟨q,List.mem_of_mem_take hq,h1,h2⟩
  ·rcases List.mem_cons.1 hq with rfl|hq
   ·exact⟨p,List.mem_of_getElem? hp,by rw[←hs];exact h1,by rw[←he];exact h2⟩
   ·exact⟨q,List.mem_of_mem_drop hq,h1,h2⟩
 ·rintro⟨q,hq,h1,h2⟩
  rw[Pane.split_at hp] at hq;rcases List.mem_append.1 hq with hq|hq
  ·exact⟨q,List.mem_append_left _ hq,h1,h2⟩
  ·rcases List.mem_cons.1 hq with rfl|hq
   ·exact⟨X,List.mem_append_right _ (List.mem_cons_self ..),by rw[hs];exact h1,by rw[he];exact h2⟩
   ·exact⟨q,List.mem_append_right _ (List.mem_cons_of_mem _ hq),h1,h2⟩
theorem one_win{L:List Pn}(h:Rises L){p q:Pn}(hp:p∈L)(hq:q∈L)(hs:p.s=q.s)(he:p.e=q.e):p=q:=by
 obtain⟨k,a⟩:=At.ex h p.s p.e
 have h1:=a.found h hp ⟨rfl,rfl⟩
 have h2:=a.found h hq ⟨hs.symm,he.symm⟩
 rw[h1] at h2
 exact Option.some.inj h2
theorem tm_ext{y:Tmr.Tm}{key:ByteArray}{a b:Int}:y=⟨key,a,b⟩↔y.key=key∧y.s=a∧y.e=b:=by
 constructor
 ·rintro rfl;exact⟨rfl,rfl,rfl⟩
 ·rintro⟨h1,h2,h3⟩;cases y;simp only at h1 h2 h3;subst h1 h2 h3;rfl
theorem left_dues{S:Lists}{key:ByteArray}{s e:Int}{k:Nat}(R:Rises (S key))(X:Pn)(y:Tmr.Tm)(hy:y.key=key):
  (y=⟨key,X.s,X.e⟩∨Left (duesOf S) key (wo (wins (metOf s e (S key))) (X.s,X.e)) (wo (wins (metOf s e (S key))) (X.s,X.e)).length y)↔∃ p∈(restOf s e (S key)).take k++X::(restOf s e (S key)).drop k,p.s=y.s∧p.e=y.e:=by
 obtain⟨N,hN⟩:∃ N,N=wo (wins (metOf s e (S key))) (X.s,X.e):=⟨_,rfl⟩
 have gone:∀ q:Int×Int,q∈N↔q≠(X.s,X.e)∧∃ p∈metOf s e (S key),p.s=q.1∧p.e=q.2:=fun q=>by
  rw[hN,List.mem_filter];simp only[wins,List.mem_map]
  constructor
  ·rintro⟨⟨p,hp,rfl⟩,h⟩
   exact⟨fun e=>by rw[e] at h;simp at h,p,hp,rfl,rfl⟩
  ·rintro⟨h,p,hp,h1,h2⟩
   exact⟨⟨p,hp,by rw[h1,h2]⟩,by simpa using h⟩
 rw[←hN]
 constructor
 ·rintro (h|⟨⟨p,hp,h1,h2⟩,h3⟩)
  ·rw[tm_ext] at h
   exact⟨X,mem_ins.2 (.inl rfl),h.2.1.symm,h.2.2.symm⟩
  ·rw[hy] at hp
   by_cases hm:meets s e p=true
   ·by_cases hx:(p.s,p.e)=(X.s,X.e)
    ·have:=Prod.mk.inj hx
     exact⟨X,mem_ins.2 (.inl rfl),by omega,by omega⟩
    ·have hg:(p.s,p.e)∈N:=(gone _).2 ⟨hx,p,List.mem_filter.2 ⟨hp,hm⟩,rfl,rfl⟩
     obtain⟨j,hj⟩:=List.mem_iff_getElem?.1 hg;exact absurd (tm_ext.2 ⟨hy,h1.symm,h2.symm⟩) (h3 j _ (List.getElem?_eq_some_iff.1 hj).1 hj)
   ·exact⟨p,mem_ins.2 (.inr (List.mem_filter.2 ⟨hp,by simp[hm]⟩)),h1,h2⟩
 ·rintro⟨p,hp,h1,h2⟩
  rcases mem_ins.1 hp with rfl|hp
  ·exact .inl (tm_ext.2 ⟨hy,h1.symm,h2.symm⟩)
  ·obtain⟨hpL,hpm⟩:=List.mem_filter.1 hp
   refine .inr ⟨⟨p,by rw[hy];exact hpL,h1,h2⟩,fun j q hj hq hyq=>?_⟩
   obtain⟨_,p',hp',q1,q2⟩:=(gone q).1 (List.mem_of_getElem? hq);obtain⟨hpL',hpm'⟩:=List.mem_filter.1 hp';rw[tm_ext] at hyq;have:=one_win R hpL hpL' (by omega) (by omega)
   subst this;rw[hpm'] at hpm;cases hpm
theorem Goes.congr{w w':World}{g m tg n cnt:Nat}{cf:C8}{S:Lists}{M M':Tmr.Tm→Prop}{FT Bk:Nat→Prop}(h:Grp.Goes w w' g m tg cf S M n cnt FT Bk)(e:∀ y,M y↔M' y):Grp.Goes w w' g m tg cf S M' n cnt FT Bk:=by
 obtain⟨n',c',f',FT',Bk',q,r⟩:=h
 exact⟨n',c',f',FT',Bk',⟨q.lies,q.map,q.ts.congr e,q.ne,q.ng,q.nm,q.lists⟩,r⟩
def PutTo(w:World)(g m tg:Nat)(cf:C8)(S:Lists)(n cnt N:Nat)(FT Bk:Nat→Prop)(key:ByteArray)(s e v:Int)(r:Ending)(w':World):Prop:=
 r=.returned (.tuple #[])∧∃ L',Put1 cf.k key s e v (S key) L'∧Ok cf.k (S.set key L') (N+1)∧Grp.Goes w w' g m tg cf (S.set key L') (duesOf (S.set key L')) (n+1) (cnt+1) FT Bk
theorem put_ok{g m tg n cnt N:Nat}{cf:C8}{S:Lists}{fm:ByteArray→Option Value}{FT Bk:Nat→Prop}(key:ByteArray)(s e v:Int)(w:World)(H:Hid (Gq w g m tg cf S (duesOf S) n cnt fm FT Bk))(O:Hid (Ok cf.k S N))(hN:N≤8900)
  (hse:s<e) (hk:key.size≤maxLen) (hc:cnt<1048576) (hn:n<1048576) (fs:(Lit.int .i64 s).wf=true) (fe:(Lit.int .i64 e).wf=true):
  Calls Tryz.prog 157 #[gp g,.string key,win s e,.int .i64 v] w (PutTo w g m tg cf S n cnt N FT Bk key s e v):=by
 obtain⟨n0,c0,hn0⟩:=O.out.cnt key
 have R:=c0.rises
 have hlen:(S key).length≤9000:=by have:=c0.len;omega
 by_cases h2:cf.k=2
 ·obtain⟨X,hX⟩:∃ X,X=joined s e (one key s e v) (S key):=⟨_,rfl⟩
  obtain⟨k,A⟩:=At.ex (R.sub (L':=restOf s e (S key)) List.filter_sublist) X.s X.e;obtain⟨c1,ap1⟩:=cnt_merge key c0 (O.out.apart h2 key) hse (by omega) X hX A
  have hkeys:∀ p∈metOf s e (S key),p.key=key:=fun p hp=>O.out.key key p (List.mem_filter.1 hp).1
  have fitp:∀ p∈S key,(Lit.int .i64 p.s).wf=true∧(Lit.int .i64 p.e).wf=true:=fun p hp=>by
   have:=H.out.ts.fits (x:=⟨key,p.s,p.e⟩) ⟨p,hp,rfl,rfl⟩;exact this.2
  have hpos:∀ q∈metOf s e (S key),1≤q.c:=fun q hq=>c0.pos q (List.mem_filter.1 hq).1
  have hs0:sumC (restOf s e (S key))+sumC (metOf s e (S key))=sumC (S key):=(part_sum (meets s e) (S key)).1;have hr0:=(sum_pos (L:=restOf s e (S key)) fun q hq=>c0.pos q (List.mem_filter.1 hq).1).1
  have hc0:=c0.cnt;obtain⟨-,-,a3,a4,a5,a6,a7⟩:=fold_join (metOf s e (S key)) (one key s e v) (by simp only;omega) hpos (by simp only;omega)
  have hj:(metOf s e (S key)).foldl join2 (one key s e v)=X:=hX.symm;rw[hj] at a3 a4 a5 a6 a7;simp only at a3 a4 a5;obtain⟨s0,s1⟩:=fit fs;obtain⟨e0,e1⟩:=fit fe;have l0:=a6 (-9223372036854775808) s0 fun q hq=>(fit (fitp q (List.mem_filter.1 hq).1).1).1
  have l1:=a7 9223372036854775807 e1 fun q hq=>(fit (fitp q (List.mem_filter.1 hq).1).2).2
  have hL:(restOf s e (S key)).take k++X::(restOf s e (S key)).drop k≠[]:=by simp
  have hNl:(wo (wins (metOf s e (S key))) (X.s,X.e)).length≤9000:=by
   have h1:=List.length_filter_le (fun y=>!decide (y=(X.s,X.e))) (wins (metOf s e (S key)))
   have h2:(wins (metOf s e (S key))).length=(metOf s e (S key)).length:=List.length_map _;have h3:(metOf s e (S key)).length≤(S key).length:=List.length_filter_le _ _;simp only[wo];omega
  refine (put_merge key s e v X.s X.e _ (wo (wins (metOf s e (S key))) (X.s,X.e)) w H h2 hk hc hn (wf_of l0 (by omega)) (wf_of (by omega) l1) hL hNl (hid fun i q hq=>?_)
   (hid fun l b w' hl=>merge_ok l (S key) b k key s e v X w' hl hlen (hid hX) (hid A) (hid fun hm y hy he=>?_))).mono ?_
  ·obtain⟨hq1,-⟩:=List.mem_filter.1 (List.mem_of_getElem? hq)
   obtain⟨p,hp,rfl⟩:=List.mem_map.1 hq1;exact fitp p (List.mem_filter.1 hp).1
  ·have hy':=List.mem_of_getElem? hy
   have:y∈metOf s e (S key):=List.mem_filter.2 ⟨hy',by simp only[meets,Eq2] at he ⊢;simp;omega⟩
   rw[hm] at this;cases this
  ·rintro r w' ⟨rfl,G⟩
   refine⟨rfl,_,.inl ⟨h2,k,hX▸A,by rw[←hX]⟩,ok_set O.out c1 (by omega) (fun p hp=>?_) (fun _=>ap1),G.congr (dues_set (fun y hy=>?_) (fun y hy=>left_dues R X y hy))⟩
   ·rcases mem_ins.1 hp with rfl|hp
    ·exact a3
    ·exact O.out.key key p (List.mem_filter.1 hp).1
   ·constructor
    ·rintro (rfl|⟨h,_⟩)
     ·exact absurd rfl hy
     ·exact h
    ·exact fun h=>.inr ⟨h,fun j q _ _ e=>hy (by rw[e])⟩
 ·obtain⟨k,A⟩:=At.ex R s e
  by_cases hx:∃ p,(S key)[k]?=some p∧Eq2 p s e
  ·obtain⟨p,hp,he⟩:=hx
   have c1:=cnt_put_yes (v:=v) c0 A hp he (by omega)
   have hL:(S key).set k (mk p.key p.s p.e (Agg.mrg (ag p) (Agg.one4 v)))≠[]:=fun q=>by
    have h:(S key).length=0:=by
     have:=congrArg List.length q
     rwa [List.length_set] at this
    have:=lt_of_at hp;omega
   refine (put_plain key s e v _ w H h2 hk hc hn fs fe hL (hid fun l b w' hl=>put_yes l (S key) b k key s e v p w' hl hlen (hid A) (hid hp) (hid he))).mono ?_
   rintro r w' ⟨rfl,G⟩;refine⟨rfl,_,.inr ⟨h2,k,A,.inl ⟨p,hp,he,rfl⟩⟩,ok_set O.out c1 (by omega) (fun q hq=>?_) (fun q=>absurd q h2),G.congr (dues_set (fun y hy=>?_) (fun y hy=>?_))⟩
   ·rw[Pane.set_split hp] at hq
    rcases List.mem_append.1 hq with hq|hq
    ·exact O.out.key key q (List.mem_of_mem_take hq)
    ·rcases List.mem_cons.1 hq with rfl|hq
     ·exact O.out.key key p (List.mem_of_getElem? hp)
     ·exact O.out.key key q (List.mem_of_mem_drop hq)
   ·exact⟨fun h=>h.elim (fun e=>absurd (by rw[e]) hy) id,.inr⟩
   ·rw[mem_set (X:=mk p.key p.s p.e (Agg.mrg (ag p) (Agg.one4 v))) hp rfl rfl,tm_ext]
    unfold duesOf;rw[hy]
    constructor
    ·rintro (⟨-,q1,q2⟩|h)
     ·exact⟨p,List.mem_of_getElem? hp,by rw[q1];exact he.1,by rw[q2];exact he.2⟩
     ·exact h
    ·exact .inr
  ·have hno:∀ x,(S key)[k]?=some x→¬Eq2 x s e:=fun x h1 h2=>hx ⟨x,h1,h2⟩
   have hnn:∀ x∈S key,¬Eq2 x s e:=fun x hx he=>hno x (A.found R hx he) he
   have c1:=cnt_put_no (v:=v) key c0 A hnn;have hL:(S key).take k++one key s e v::(S key).drop k≠[]:=by simp
   refine (put_plain key s e v _ w H h2 hk hc hn fs fe hL (hid fun l b w' hl=>put_no l (S key) b k key s e v w' hl hlen (hid A) (hid hno))).mono ?_
   rintro r w' ⟨rfl,G⟩;refine⟨rfl,_,.inr ⟨h2,k,A,.inr ⟨hno,rfl⟩⟩,ok_set O.out c1 (by omega) (fun q hq=>?_) (fun q=>absurd q h2),G.congr (dues_set (fun y hy=>?_) (fun y hy=>?_))⟩
   ·rcases mem_ins.1 hq with rfl|hq
    ·rfl
    ·exact O.out.key key q hq
   ·exact⟨fun h=>h.elim (fun e=>absurd (by rw[e]) hy) id,.inr⟩
   ·rw[tm_ext]
    unfold duesOf;rw[hy]
    constructor
    ·rintro (⟨-,q1,q2⟩|⟨p,hp,h1,h2⟩)
     ·exact⟨_,mem_ins.2 (.inl rfl),q1.symm,q2.symm⟩
     ·exact⟨p,mem_ins.2 (.inr hp),h1,h2⟩
    ·rintro⟨p,hp,h1,h2⟩
     rcases mem_ins.1 hp with rfl|hp
     ·exact .inl ⟨rfl,h1.symm,h2.symm⟩
     ·exact .inr ⟨p,hp,h1,h2⟩
end Grp
end Go.Proofs.YtfjlnniahfbdfaaGreat
