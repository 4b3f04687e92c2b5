/- A part of the proof. -/
import Derived.Test.YtfjlnniahfbdfaaGreatPaa
import Derived.Maps.AppendAt
import Derived.Laws.AppendOwnNone
import Derived.Laws.OwnMore
import Derived.IntWalk
import Derived.StillTail
import Derived.Deep.Quiet
set_option linter.unusedVariables false
set_option maxHeartbeats 4000000
namespace Go.Proofs.YtfjlnniahfbdfaaGreat
open Go.RowKit Go.ChangeShapes
structure Kind(α:Type)where
 t:TypeId
 e:TypeId
 k:Nat
 bytes:Nat
 zero:Value
 cl:α→List Value
structure Kind.Ok{α:Type}(K:Kind α):Prop where
 under:Tryz.prog.underlying K.t=some (.slice K.e)
 elem:Tryz.prog.elem K.t=K.e
 info:(Tryz.prog.info? K.e).map (fun i=>(i.zero,i.size,i.bytes))=some (some K.zero,K.k,K.bytes)
 zs:K.zero.cells.size=K.k
 pos:0<K.k
 len:∀ x,(K.cl x).length=K.k
 one:∀ x u,u∈K.cl x→u.oneCell'=true
 small:K.bytes≤1024
namespace Sl
open Small
variable {α:Type} {K:Kind α}
abbrev flat(K:Kind α)(l:List α):List Value:=l.flatMap K.cl
theorem flat_len(O:K.Ok)(l:List α):(flat K l).length=l.length*K.k:=by
 induction l with
 |nil=>simp[flat]
 |cons x l ih=>simp only[flat,List.flatMap_cons,List.length_append,O.len,List.length_cons] at ih ⊢;rw[ih,Nat.add_mul];omega
theorem flat_at(O:K.Ok){l:List α}{i:Nat}{x:α}(h:l[i]?=some x){j:Nat}{u:Value}(hj:(K.cl x)[j]?=some u):(flat K l)[i*K.k+j]?=some u:=by
 induction l generalizing i with
 |nil=>simp at h
 |cons y l ih=>
  cases i with
  |zero=>
   simp at h;subst h;have hl:j<(K.cl y).length:=(List.getElem?_eq_some_iff.1 hj).1
   simp only[flat,List.flatMap_cons,Nat.zero_mul,Nat.zero_add];rw[List.getElem?_append_left hl]
   exact hj
  |succ i=>
   simp at h;have:=ih h;simp only[flat,List.flatMap_cons];rw[List.getElem?_append_right (by rw[O.len,Nat.add_mul];omega),O.len,show (i+1)*K.k+j-K.k=i*K.k+j by rw[Nat.add_mul];omega]
   exact this
theorem flat_take(O:K.Ok)(l:List α)(m:Nat):flat K (l.take m)=(flat K l).take (m*K.k):=by
 induction l generalizing m with
 |nil=>simp[flat]
 |cons x l ih=>
  cases m with
  |zero=>simp[flat]
  |succ m=>
   simp only[flat,List.take_succ_cons,List.flatMap_cons] at ih ⊢;rw[ih,List.take_append,O.len,List.take_of_length_le (l:=K.cl x) (by rw[O.len,Nat.add_mul];omega),show (m+1)*K.k-K.k=m*K.k by rw[Nat.add_mul];omega]
theorem flat_drop(O:K.Ok)(l:List α)(m:Nat):flat K (l.drop m)=(flat K l).drop (m*K.k):=by
 induction l generalizing m with
 |nil=>simp[flat]
 |cons x l ih=>
  cases m with
  |zero=>simp[flat]
  |succ m=>
   simp only[flat,List.drop_succ_cons,List.flatMap_cons] at ih ⊢;rw[ih,List.drop_append,O.len,List.drop_of_length_le (l:=K.cl x) (by rw[O.len,Nat.add_mul];omega),show (m+1)*K.k-K.k=m*K.k by rw[Nat.add_mul];omega]
   simp
theorem flat_one(O:K.Ok){l:List α}{u:Value}(h:u∈flat K l):u.oneCell'=true:=by
 obtain⟨x,_,hx⟩:=List.mem_flatMap.1 h
 exact O.one x u hx
def Is(K:Kind α)(w:World)(v:Value)(l:List α)(b:Nat):Prop:=
 (v=.slice none 0 0∧l=[])∨∃ off cap,v=.slice (some ⟨b,off,none⟩) l.length cap∧l.length≤cap∧cap≤maxLen∧b<w.heap.size∧∀ j u,(flat K l)[j]?=some u→w.cell? ⟨b,off+j,none⟩=some u
def Own(K:Kind α)(base:Nat)(w:World)(v:Value)(l:List α):Prop:=w.ownsRow base K.e K.k v l.length (flat K l)
section
variable {w w':World} {v:Value} {l l2:List α} {b base:Nat}
theorem Is.nil(K:Kind α)(w:World)(b:Nat):Is K w (.slice none 0 0) [] b:=.inl ⟨rfl,rfl⟩
theorem Is.len(h:Is K w v l b):∃ a cap,v=.slice a l.length cap:=by
 rcases h with ⟨rfl,rfl⟩|⟨off,cap,rfl,_⟩
 ·exact⟨none,0,rfl⟩
 ·exact⟨_,_,rfl⟩
theorem Is.keep(h:Is K w v l b)(k:w'.heap[b]?=w.heap[b]?)(s:w.heap.size≤w'.heap.size):Is K w' v l b:=by
 rcases h with h|⟨off,cap,h1,h2,h3,h4,h5⟩
 ·exact .inl h
 ·exact .inr ⟨off,cap,h1,h2,h3,by omega,fun j u hj=>(World.cell?_of_block (w:=w) (w':=w') (a:=⟨b,off+j,none⟩) k).trans (h5 j u hj)⟩
theorem Is.next(h:Is K w v l b)(k:Below w.heap.size w w'):Is K w' v l b:=by
 rcases h with h|⟨off,cap,h1,h2,h3,h4,h5⟩
 ·exact .inl h
 ·exact Is.keep (.inr ⟨off,cap,h1,h2,h3,h4,h5⟩) (k.block b h4) k.size
theorem Is.some_(O:K.Ok)(h:Is K w v l b)(h0:0<l.length):∃ off cap,v=.slice (some ⟨b,off,none⟩) l.length cap∧l.length≤cap∧cap≤maxLen∧b<w.heap.size∧∀ i x,l[i]?=some x→∀ j u,(K.cl x)[j]?=some u→w.cell? ⟨b,off+(i*K.k+j),none⟩=some u:=by
 rcases h with ⟨_,rfl⟩|⟨off,cap,h1,h2,h3,h4,h5⟩
 ·simp at h0
 ·exact⟨off,cap,h1,h2,h3,h4,fun i x hi j u hj=>h5 _ u (flat_at O hi hj)⟩
theorem Own.next(h:Own K base w v l)(k:Below w.heap.size w w'):Own K base w' v l:=by
 refine⟨h.1,?_⟩
 rcases h.2 with h|⟨g,cap,cur,h1,h2,h3,h4⟩
 ·exact .inl h
 ·exact .inr ⟨g,cap,cur,h1,h2,(k.block g (Nat.lt_of_not_le fun q=>by rw[Array.getElem?_eq_none q] at h3;cases h3)).trans h3,h4⟩
theorem Own.lt(h:Own K base w v l):∀ g,v.ownBlock=some g→base≤g∧g<w.heap.size:=fun g hg=>World.ownsRow.lt h g hg
theorem Own.is(h:Own K base w v l):∃ b,base≤b∧Is K w v l b:=by
 rcases h.2 with ⟨h1,h2⟩|⟨g,cap,cur,h1,h2,h3,h4,h5,h6,h7⟩
 ·exact⟨base,Nat.le_refl _,.inl ⟨h1,List.length_eq_zero_iff.1 h2⟩⟩
 ·refine⟨g,h2,.inr ⟨0,cap,h1,h4,h5,Nat.lt_of_not_le fun q=>by (rw[Array.getElem?_eq_none q] at h3;cases h3),fun j u hj=>?_⟩⟩
  rw[Nat.zero_add,cell_of_row w g j cur K.e (0,0) h3];rw[←h7,List.getElem?_take] at hj
  split at hj
  ·simpa using hj
  ·cases hj
theorem Own.nil(K:Kind α)(base:Nat)(w:World):Own K base w (.slice none 0 0) []:=⟨by simp,.inl ⟨rfl,rfl⟩⟩
theorem Own.empty(h:w.heap[b]?=some (.cells #[] K.e (0,0)))(hb:base≤b):Own K base w (.slice (some ⟨b,0,none⟩) 0 0) []:=
 ⟨by simp,.inr ⟨b,0,#[],rfl,hb,h,Nat.le_refl _,Nat.zero_le _,by simp,by simp⟩⟩
theorem Own.one(O:K.Ok){x:α}(h:Lies w b K.e (K.cl x))(hb:base≤b):Own K base w (.slice (some ⟨b,0,none⟩) 1 1) [x]:=
 ⟨by simp[flat,O.len],.inr ⟨b,1,(K.cl x).toArray,rfl,hb,h,by simp,by unfold maxLen;omega,by simp[O.len],by simp[flat];exact List.take_of_length_le (by rw[O.len];exact Nat.le_refl _)⟩⟩
theorem Is.one(O:K.Ok){x:α}(h:Lies w b K.e (K.cl x)):Is K w (.slice (some ⟨b,0,none⟩) 1 1) [x] b:=
 .inr ⟨0,1,rfl,by simp,by unfold maxLen;omega,h.lt,fun j u hj=>by rw[Nat.zero_add];exact h.cell (by simpa [flat] using hj)⟩
theorem Own.move(h:Own K base w v l)(k:∀ g,v.ownBlock=some g→w'.heap[g]?=w.heap[g]?):Own K base w' v l:=by
 refine⟨h.1,?_⟩
 rcases h.2 with h|⟨g,cap,cur,h1,h2,h3,h4⟩
 ·exact .inl h
 ·exact .inr ⟨g,cap,cur,h1,h2,(k g (by rw[h1];rfl)).trans h3,h4⟩
theorem run_append(O:K.Ok)(ty:TypeId){x:Value}{b2:Nat}(h:Own K base w v l)(hx:Is K w x l2 b2)(hn:l.length+l2.length≤1048576)(hb:base≤w.heap.size):
  ∃ v' w',(Builtin.append_ #[K.t,K.t] ty #[v,x]).run Tryz.prog w=.ok v' w'∧Own K base w' v' (l++l2)∧w.grownBy w' v.ownBlock∧(v'.ownBlock=v.ownBlock∨v'.ownBlock=some w.heap.size):=by
 obtain⟨i0,hi,hz0,hz1,hz2⟩:=info_parts O.info
 rcases hx with ⟨rfl,rfl⟩|⟨off,cap,rfl,h2,h3,h4,h5⟩
 ·exact⟨v,w,run_append_owned_none (P:=Tryz.prog) (w:=w) base K.t ty K.e i0 K.k O.under hi v _ _ h,by rw[List.append_nil];exact h,⟨rfl,rfl,rfl,Nat.le_refl _,fun _ _ _=>rfl⟩,.inl rfl⟩
 ·have hsm:=O.small
  obtain⟨v',w',hr,q1,q2,_,q3⟩:=run_append_own_at (P:=Tryz.prog) w base K.t ty K.e i0 K.zero K.k K.bytes O.under hi hz0 hz1 hz2 O.zs O.pos v _ _ h ⟨b2,off,none⟩ l2.length cap (flat K l2) (flat_len O l2)
   (fun j u hj=>by rw[Addr.add_lit];exact h5 j u hj) (fun u hu=>flat_one O hu) (by unfold maxLen;omega) (Nat.le_trans (Nat.mul_le_mul hn hsm) (by decide)) hb
  exact⟨v',w',hr,by unfold Own;rw[List.length_append,flat,List.flatMap_append];exact q1,q2,q3⟩
theorem run_append_empty(O:K.Ok)(ty:TypeId){x:Value}{b2:Nat}(h:w.heap[b]?=some (.cells #[] K.e (0,0)))(hb:base≤b)(hx:Is K w x l2 b2)(hn:l2.length≤1048576)(hb2:base≤w.heap.size):
  ∃ v' w',(Builtin.append_ #[K.t,K.t] ty #[.slice (some ⟨b,0,none⟩) 0 0,x]).run Tryz.prog w=.ok v' w'∧Own K base w' v' l2∧Below w.heap.size w w':=by
 obtain⟨i0,hi,hz0,hz1,hz2⟩:=info_parts O.info
 have he:=Own.empty (K:=K) h hb
 rcases hx with ⟨rfl,rfl⟩|⟨off,cap,rfl,h2,h3,h4,h5⟩
 ·exact⟨_,w,run_append_owned_none (P:=Tryz.prog) (w:=w) base K.t ty K.e i0 K.k O.under hi _ _ _ he,he,Below.refl _ _⟩
 ·have hsm:=O.small
  by_cases h0:l2.length=0
  ·have e:=List.length_eq_zero_iff.1 h0
   subst e;refine⟨.slice (some ⟨b,0,none⟩) 0 0,w,?_,he,Below.refl _ _⟩
   have hf:=run_firstCells_some (P:=Tryz.prog) w i0.size 0 ⟨b2,off,none⟩ 0 cap [] (by simp) (by simp)
   simp[Builtin.append_,run_underlying O.under,sizeOf,typeInfo,hi,Builtin.lenOf,hf,storeCells,Result.andThen]
  ·have hr:=run_append_grow (P:=Tryz.prog) w K.t ty K.e i0 K.zero O.under hi hz0 ⟨b,0,none⟩ 0 0 [] (by simp) (by simp) ⟨b2,off,none⟩ l2.length cap (flat K l2) (by rw[hz1];exact flat_len O l2)
    (fun j u hj=>by rw[Addr.add_lit];exact h5 j u hj) (by omega) (by omega) (by
     rw[hz2];exact growslice_fits (by omega) (Nat.le_trans (Nat.mul_le_mul (show 0+l2.length≤1048576 by omega) hsm) (by decide)))
   obtain⟨v',w',hr2,q1,_⟩:=run_append (w:=w) O ty he (.inr ⟨off,cap,rfl,h2,h3,h4,h5⟩) (by simpa using hn) hb2
   have hr3:=hr2;rw[hr] at hr3;refine⟨v',w',hr2,q1,?_⟩
   obtain⟨_,rfl⟩:=Result.ok.inj hr3;exact (Below.refl _ _).drew.alloc (Nat.le_refl _) _
theorem run_take(O:K.Ok)(h:Is K w v l b){m:Nat}(hm:m≤l.length):
  ∃ v',(∀ w1,(Instr.slice K.t v none (some (.int .i64 m)) none).run Tryz.prog w1=.ok v' w1)∧Is K w v' (l.take m) b:=by
 obtain⟨i0,hi,hz0,hz1,hz2⟩:=info_parts O.info
 rcases h with ⟨rfl,rfl⟩|⟨off,cap,rfl,h2,h3,h4,h5⟩
 ·obtain rfl:m=0:=by simpa using hm
  refine⟨.slice none 0 0,fun w1=>?_,.inl ⟨rfl,rfl⟩⟩
  rw[run_slice_h w1 K.t none 0 0 (by rw[O.elem];exact O.under) .i64 _ (by omega) (by omega)]
  simp[O.elem,sizeOf,typeInfo,hi,sliced,Result.andThen]
 ·refine⟨.slice (some ⟨b,off,none⟩) m cap,fun w1=>?_,.inr ⟨off,cap,by rw[List.length_take,Nat.min_eq_left hm],by rw[List.length_take];omega,h3,h4,fun j u hj=>h5 j u ?_⟩⟩
  ·rw[run_slice_h w1 K.t (some ⟨b,off,none⟩) l.length cap (by rw[O.elem];exact O.under) .i64 _ (by omega) (by omega)]
   simp[O.elem,sizeOf,typeInfo,hi,sliced,Result.andThen,Addr.add]
  ·rw[flat_take O,List.getElem?_take] at hj
   split at hj
   ·exact hj
   ·cases hj
theorem run_drop(O:K.Ok)(h:Is K w v l b){m:Nat}(hm:m≤l.length):
  ∃ v',(∀ w1,(Instr.slice K.t v (some (.int .i64 m)) none none).run Tryz.prog w1=.ok v' w1)∧Is K w v' (l.drop m) b:=by
 obtain⟨i0,hi,hz0,hz1,hz2⟩:=info_parts O.info
 rcases h with ⟨rfl,rfl⟩|⟨off,cap,rfl,h2,h3,h4,h5⟩
 ·obtain rfl:m=0:=by simpa using hm
  refine⟨.slice none 0 0,fun w1=>?_,.inl ⟨rfl,rfl⟩⟩
  rw[run_slice_l w1 K.t none 0 0 (by rw[O.elem];exact O.under) .i64 _ (by omega) (by omega)]
  simp[O.elem,sizeOf,typeInfo,hi,sliced,Result.andThen]
 ·refine⟨.slice (some ⟨b,if cap=m then off else off+m*K.k,none⟩) (l.length-m) (cap-m),fun w1=>?_,.inr ⟨if cap=m then off else off+m*K.k,cap-m,by rw[List.length_drop],by rw[List.length_drop];omega,by omega,h4,fun j u hj=>?_⟩⟩
  ·rw[run_slice_l w1 K.t (some ⟨b,off,none⟩) l.length cap (by rw[O.elem];exact O.under) .i64 _ (by omega) (by omega)]
   simp[O.elem,sizeOf,typeInfo,hi,sliced,Result.andThen,hz1]
   split
   ·rfl
   ·simp[Addr.add_lit]
  ·rw[flat_drop O,List.getElem?_drop] at hj
   split
   ·have hl:m*K.k+j<(flat K l).length:=(List.getElem?_eq_some_iff.1 hj).1
    rw[flat_len O] at hl;have:l.length*K.k≤m*K.k:=Nat.mul_le_mul_right _ (by omega)
    omega
   ·rw[Nat.add_assoc];exact h5 _ u hj
end
section
variable {w:World} {o:Oper} {a:Act} {Kc:Act→World→Prop} {Q:Exit→Act→World→Prop} {l l2:List α} {b b2 base:Nat}
theorem wp_append(O:K.Ok)(s x:Operand)(hop:o.op=Op.call {callee:=Callee.builtin Builtin.append,args:=#[s,x],argTypes:=#[K.t,K.t]})
  (h:Own K base w (a.eval s) l) (hx:Is K w (a.eval x) l2 b2) (hn:l.length+l2.length≤1048576) (hb:base≤w.heap.size)
  (hK:∀ v' w',Own K base w' v' (l++l2)→w.grownBy w' (a.eval s).ownBlock→(v'.ownBlock=(a.eval s).ownBlock∨v'.ownBlock=some w.heap.size)→Kc (a.put o.dst v') w'):o.wp Tryz.prog a w Kc Q:=by
 obtain⟨v',w',hr,q1,q2,q3⟩:=run_append O o.type h hx hn hb
 unfold Oper.wp
 simp[execOp,hop,resolve,invoke,builtin,hr,Result.andThen]
 exact hK v' w' q1 q2 q3
theorem wp_append_empty(O:K.Ok)(s x:Operand)(hop:o.op=Op.call {callee:=Callee.builtin Builtin.append,args:=#[s,x],argTypes:=#[K.t,K.t]})
  (hs:a.eval s=.slice (some ⟨b,0,none⟩) 0 0) (h:w.heap[b]?=some (.cells #[] K.e (0,0))) (hb:base≤b) (hx:Is K w (a.eval x) l2 b2) (hn:l2.length≤1048576) (hb2:base≤w.heap.size)
  (hK:∀ v' w',Own K base w' v' l2→Below w.heap.size w w'→Kc (a.put o.dst v') w'):o.wp Tryz.prog a w Kc Q:=by
 obtain⟨v',w',hr,q1,q2⟩:=run_append_empty O o.type h hb hx hn hb2
 unfold Oper.wp
 simp[execOp,hop,resolve,invoke,builtin,hs,hr,Result.andThen]
 exact hK v' w' q1 q2
theorem wp_take(O:K.Ok)(s hi:Operand)(hop:o.op=Op.slice K.t s none (some hi) none){m:Nat}(h:Is K w (a.eval s) l b)(hh:a.eval hi=.int .i64 m)(hm:m≤l.length)
  (hK:∀ v',Is K w v' (l.take m) b→Kc (a.put o.dst v') w):o.wp Tryz.prog a w Kc Q:=by
 obtain⟨v',hr,q⟩:=run_take O h hm
 obtain⟨A,cap,hv⟩:=h.len
 unfold Oper.wp
 have hr':=hr w
 rw[hv] at hr'
 have hu:Tryz.prog.underlying K.t=some (.slice (Tryz.prog.elem K.t)):=by rw[O.elem];exact O.under
 simp[execOp,hop,hh,hv,run_sliceAt_slice w K.t _ _ _ _ hu,hr',Result.andThen]
 exact hK v' q
theorem wp_drop(O:K.Ok)(s lo:Operand)(hop:o.op=Op.slice K.t s (some lo) none none){m:Nat}(h:Is K w (a.eval s) l b)(hh:a.eval lo=.int .i64 m)(hm:m≤l.length)
  (hK:∀ v',Is K w v' (l.drop m) b→Kc (a.put o.dst v') w):o.wp Tryz.prog a w Kc Q:=by
 obtain⟨v',hr,q⟩:=run_drop O h hm
 obtain⟨A,cap,hv⟩:=h.len
 unfold Oper.wp
 have hr':=hr w
 rw[hv] at hr'
 have hu:Tryz.prog.underlying K.t=some (.slice (Tryz.prog.elem K.t)):=by rw[O.elem];exact O.under
 simp[execOp,hop,hh,hv,run_sliceAt_slice w K.t _ _ _ _ hu,hr',Result.andThen]
 exact hK v' q
theorem wp_move(x:Operand)(hop:o.op=Op.move x)(hK:Kc (a.put o.dst (a.eval x)) w):o.wp Tryz.prog a w Kc Q:=by
 unfold Oper.wp
 simp[execOp,hop]
 exact hK
theorem wp_lit1(x:Operand)(y:α){v:Value}(hop:o.op=Op.buildSlice K.t 1 #[(0,x)])(hx:a.eval x=v)
  (hr:(Instr.buildSlice K.t 1 #[(0,v)]).run Tryz.prog w=.ok (.slice (some ⟨w.heap.size,0,none⟩) 1 1) (w.alloc (.cells (K.cl y).toArray K.e)))
  (hK:Kc (a.put o.dst (.slice (some ⟨w.heap.size,0,none⟩) 1 1)) (w.alloc (.cells (K.cl y).toArray K.e))):o.wp Tryz.prog a w Kc Q:=by
 unfold Oper.wp
 simp[execOp,hop,hx,hr,Result.andThen]
 exact hK
theorem wp_succ(x:Operand){k:Nat}(hop:o.op=Op.binOp BinOp.add 3 x (.const (.int .i64 1)) 3)(hx:a.eval x=.int .i64 k)(hk:k≤1048576)(hK:Kc (a.put o.dst (.int .i64 ((k+1:Nat):Int))) w):o.wp Tryz.prog a w Kc Q:=by
 have t1:IntKind.i64.wrap ((k:Int)+1)=(k:Int)+1:=IntWalk.i64_in _ (by omega)
 have hr:(execOp a.eval o).run Tryz.prog w=.ok (.value (.int .i64 ((k+1:Nat):Int))) w:=by
  have h1:a.eval (.const (.int .i64 1))=.int .i64 1:=rfl;generalize a.eval=ev at hx h1;simp[execOp,hop,hx,h1,go_sem,t1]
 unfold Oper.wp
 rw[hr]
 exact hK
end
end Sl
namespace Rel
section
variable {P:Program} {ops:Array Oper} {md:Region.Mode} {n:Nat}
def dstOf(ops:Array Oper)(k:Nat):Option Tmp:=(ops[k]?).bind (·.dst)
def deps(ops:Array Oper)(k:Nat):List Nat:=((ops[k]?).map (fun o=>(o.after.toList.filter (Region.binds .any ·)).map (·.on))).getD []
def doneArr(N n:Nat):Array Bool:=Array.replicate n true++Array.replicate (N-n) false
def fitB(ops:Array Oper)(n N:Nat):Bool:=
 decide (n<ops.size)&&Region.sinkB .any ops n&&Region.chainB .any ops n&&Region.seqB .any ops (ops.size-n) n (doneArr ops.size n) &&
  (List.range n).all (fun k=>match ops[k]? with|none=>false|some o=>o.guard.isNone&&(match o.dst with|none=>false|some t=>decide (t<N))&&(o.after.all fun e=>!Region.binds .any e||decide (e.on<k))) &&
  (List.range n).all (fun k=>(List.range n).all fun j=>decide (k=j)||decide (dstOf ops k≠dstOf ops j))
structure Fit(ops:Array Oper)(n N:Nat):Prop where
 lt:n<ops.size
 sink:Region.sinkB .any ops n=true
 chain:Region.chainB .any ops n=true
 seq:Region.seqB .any ops (ops.size-n) n (doneArr ops.size n)=true
 each:∀ k,k<n→∃ o t,ops[k]?=some o∧o.guard=none∧o.dst=some t∧t<N∧∀ e∈o.after,Region.binds .any e=true→e.on<k
 apart:∀ k j,k<n→j<n→k≠j→dstOf ops k≠dstOf ops j
theorem fit_of{N:Nat}(h:fitB ops n N=true):Fit ops n N:=by
 simp only[fitB,Bool.and_eq_true,decide_eq_true_eq,List.all_eq_true,List.mem_range] at h
 obtain⟨⟨⟨⟨⟨h1,h2⟩,h3⟩,h4⟩,h5⟩,h6⟩:=h
 refine⟨h1,h2,h3,h4,fun k hk=>?_,fun k j hk hj hne=>?_⟩
 ·have:=h5 k hk
  cases ho:ops[k]? with
  |none=>rw[ho] at this;cases this
  |some o=>
   rw[ho] at this;simp only[Bool.and_eq_true,Option.isNone_iff_eq_none] at this;obtain⟨⟨a,b⟩,c⟩:=this;cases hd:o.dst with
   |none=>rw[hd] at b;cases b
   |some t=>
    rw[hd] at b;simp only[decide_eq_true_eq] at b;refine⟨o,t,rfl,a,hd,b,fun e he hb=>?_⟩
    have:=Array.all_eq_true_iff_forall_mem.1 c e he
    simpa [hb] using this
 ·have:=h6 k hk j hj
  simp only[Bool.or_eq_true,decide_eq_true_eq] at this;rcases this with q|q
  ·exact absurd q hne
  ·exact q
def cnt(n:Nat)(s:Array Bool):Nat:=(List.range n).countP fun k=>!s.getD k true
theorem count_one{p q:Nat→Bool}{i:Nat}(hp:p i=true)(hq:q i=false)(h:∀ k,k≠i→q k=p k):∀ n,i<n→(List.range n).countP q+1=(List.range n).countP p:=by
 have same:∀ n,n≤i→(List.range n).countP q=(List.range n).countP p:=fun n hn=>by
  induction n with
  |zero=>rfl
  |succ n ih=>rw[List.range_succ,List.countP_append,List.countP_append,ih (by omega)];simp[List.countP_cons,h n (by omega)]
 intro n
 induction n with
 |zero=>intro h;omega
 |succ n ih=>
  intro hi;rw[List.range_succ,List.countP_append,List.countP_append];by_cases e:i=n
  ·subst e
   rw[same i (Nat.le_refl _)];simp[hp,hq]
  ·have:=ih (by omega)
   simp only[List.countP_cons,List.countP_nil,h n (by omega)]
   omega
theorem getD_true{s:Array Bool}{k:Nat}(hk:k<s.size):s.getD k true=s.getD k false:=by simp[hk]
def puts(ops:Array Oper)(a0:Act)(f:Nat→Value):Nat→Act
 |0=>a0
 |k+1=>(puts ops a0 f k).put (dstOf ops k) (f k)
theorem puts_zero(ops:Array Oper)(a0:Act)(f:Nat→Value):puts ops a0 f 0=a0:=rfl
theorem put_get{a:Act}{d t:Tmp}{v:Value}:(a.put (some d) v).tmps.getD t undef=if d=t∧t<a.tmps.size then v else a.tmps.getD t undef:=by
 simp only[Act.put]
 by_cases h:d=t
 ·subst h
  by_cases h2:d<a.tmps.size
  ·simp[h2]
  ·simp[h2,Array.setIfInBounds]
 ·have hn:¬(d=t∧t<a.tmps.size):=fun x=>h x.1
  rw[if_neg hn];simp[Array.getD_eq_getD_getElem?,h]
theorem puts_size(ops:Array Oper)(a0:Act)(f:Nat→Value)(n:Nat):(puts ops a0 f n).tmps.size=a0.tmps.size∧(puts ops a0 f n).defers=a0.defers:=by
 induction n with
 |zero=>exact⟨rfl,rfl⟩
 |succ n ih=>
  simp only[puts,Act.put]
  split
  ·simpa using ih
  ·exact ih
theorem puts_other{a0:Act}{f:Nat→Value}{t:Tmp}:∀ n,(∀ k,k<n→dstOf ops k≠some t)→(puts ops a0 f n).tmps.getD t undef=a0.tmps.getD t undef
 |0,_=>rfl
 |n+1,h=>by
  have ih:=puts_other (a0:=a0) (f:=f) n (fun k hk=>h k (by omega))
  rw[puts];have:=h n (by omega)
  cases hd:dstOf ops n with
  |none=>exact ih
  |some d=>
   rw[put_get,if_neg,ih];rintro⟨rfl,_⟩;exact this hd
theorem puts_at{a0:Act}{f:Nat→Value}{t:Tmp}{k:Nat}(hk:dstOf ops k=some t)(ht:t<a0.tmps.size):∀ n,k<n→(∀ j,j<n→j≠k→dstOf ops j≠some t)→(puts ops a0 f n).tmps.getD t undef=f k
 |0,h,_=>by omega
 |n+1,h,ho=>by
  rw[puts];by_cases e:k=n
  ·subst e;rw[hk,put_get,if_pos ⟨rfl,by rw[(puts_size ops a0 f k).1];exact ht⟩]
  ·have ih:=puts_at (f:=f) hk ht n (by omega) (fun j hj hne=>ho j (by omega) hne)
   have:=ho n (by omega) (fun x=>e x.symm)
   cases hd:dstOf ops n with
   |none=>exact ih
   |some d=>
    rw[put_get,if_neg,ih];rintro⟨rfl,_⟩;exact this hd
theorem act_ext{a b:Act}(h1:a.defers=b.defers)(h2:a.tmps.size=b.tmps.size)(h3:∀ t,a.tmps.getD t undef=b.tmps.getD t undef):a=b:=by
 obtain⟨ta,da⟩:=a
 obtain⟨tb,db⟩:=b
 simp only at h1 h2 h3
 subst h1
 congr 1
 refine Array.ext h2 fun i hi hi'=>?_
 have:=h3 i
 simpa [hi,hi'] using this
theorem puts_eval{a:Act}{N:Nat}(F:Fit ops n N)(hN:a.tmps.size=N){k:Nat}(hk:k<n){t:Tmp}(ht:dstOf ops k=some t)(f:Nat→Value):(puts ops a f n).eval (.tmp t)=f k:=by
 obtain⟨o,t',ho,_,hd,hlt,_⟩:=F.each k hk
 have h:dstOf ops k=some t':=by simp[dstOf,ho,hd]
 rw[ht] at h
 obtain rfl:=Option.some.inj h
 exact puts_at ht (by rw[hN];exact hlt) n hk (fun j hj hne e=>F.apart j k hj hk hne (e.trans ht.symm))
end
end Rel
structure Kind.Val{α:Type}(K:Kind α)(v:α→Value):Prop where
 load:∀ (x:α) (w:World) (o:Oper) (a:Act) (Kc:Act→World→Prop) (Q:Exit→Act→World→Prop) (p:Operand) (b off:Nat),o.op=Op.load K.e p→a.eval p=.pointer (some ⟨b,off,none⟩)→
  (∀ j u,(K.cl x)[j]?=some u→w.cell? ⟨b,off+j,none⟩=some u)→Kc (a.put o.dst (v x)) w→o.wp Tryz.prog a w Kc Q
 lit1:∀ (x:α) (w:World),(Instr.buildSlice K.t 1 #[(0,v x)]).run Tryz.prog w=.ok (.slice (some ⟨w.heap.size,0,none⟩) 1 1) (w.alloc (.cells (K.cl x).toArray K.e))
namespace Reg
open Small
variable {α:Type} {K:Kind α} {v:α→Value}
abbrev Has(l:List Oper)(k:Nat)(p:Op)(t:Tmp):Prop:=(l[k]?).map (fun o=>(o.op,o.dst))=some (p,some t)
theorem Has.op{l:List Oper}{k:Nat}{p:Op}{t:Tmp}(h:Has l k p t){o:Oper}(ho:l.toArray[k]?=some o):o.op=p∧o.dst=some t:=by
 have ho':l[k]?=some o:=by simpa using ho
 unfold Has at h
 rw[ho'] at h
 simpa using h
abbrev Free(l:List Oper)(n:Nat)(t:Tmp):Prop:=(List.range n).all (fun j=>decide (Rel.dstOf l.toArray j≠some t))=true
theorem Free.out{l:List Oper}{n:Nat}{t:Tmp}(h:Free l n t):∀ j,j<n→Rel.dstOf l.toArray j≠some t:=fun j hj=>by
 have:=List.all_eq_true.1 h j (List.mem_range.2 hj)
 simpa using this
theorem block_lt{w:World}{b:Nat}{o:Obj}(h:w.heap[b]?=some o):b<w.heap.size:=Nat.lt_of_not_le fun q=>by rw[Array.getElem?_eq_none q] at h;cases h
theorem wp_at(O:K.Ok){w:World}{o:Oper}{a:Act}{Kc:Act→World→Prop}{Q:Exit→Act→World→Prop}{l:List α}{b m off cap:Nat}(s i:Operand)(hop:o.op=Op.indexAddr K.t s i)
  (hs:a.eval s=.slice (some ⟨b,off,none⟩) l.length cap) (hi:a.eval i=.int .i64 m) (hm:m<l.length) (hK:Kc (a.put o.dst (.pointer (some ⟨b,off+m*K.k,none⟩))) w):o.wp Tryz.prog a w Kc Q:=by
 obtain⟨i0,hi0,hz0,hz1,hz2⟩:=info_parts O.info
 have hu:Tryz.prog.underlying K.t=some (.slice (Tryz.prog.elem K.t)):=by rw[O.elem];exact O.under
 have hr:(execOp a.eval o).run Tryz.prog w=.ok (.value (.pointer (some ⟨b,off+m*K.k,none⟩))) w:=by
  have h1:(m:Int)<l.length:=by omega
  generalize a.eval=ev at hs hi;simp only[execOp,hop,hs,hi];simp[run_indexAt_slice w K.t ⟨b,off,none⟩ l.length cap .i64 (m:Int) hu,O.elem,sizeOf,typeInfo,hi0,hz1,h1,Addr.add_lit,Result.andThen]
 unfold Oper.wp
 rw[hr]
 exact hK
end Reg
end Go.Proofs.YtfjlnniahfbdfaaGreat
