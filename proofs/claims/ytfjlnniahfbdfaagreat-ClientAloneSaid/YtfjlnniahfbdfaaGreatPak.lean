/- A part of the proof. -/
import Derived.Test.YtfjlnniahfbdfaaGreatPac
import Derived.Test.YtfjlnniahfbdfaaGreatPad
import Derived.Test.YtfjlnniahfbdfaaGreatPaf
import Derived.Test.YtfjlnniahfbdfaaGreatPaj
set_option linter.unusedVariables false
set_option maxHeartbeats 4000000
namespace Go.Proofs.YtfjlnniahfbdfaaGreat
open Lib (hid)
open Go.ChangeShapes Go.WideShapes Go.ChangeAt Go.RowKit Small
namespace Wn
abbrev cl(x:Int×Int):List Value:=[.int .i64 x.1,.int .i64 x.2]
abbrev v(x:Int×Int):Value:=.agg #[.int .i64 x.1,.int .i64 x.2]
abbrev k:Kind (Int×Int):=⟨196,129,2,16,.agg #[.int .i64 0,.int .i64 0],Wn.cl⟩
theorem ok:Wn.k.Ok where
 under:=Tryz.underlying196
 elem:=by kernel_rfl
 info:=by kernel_rfl
 zs:=by kernel_rfl
 pos:=by decide
 len:=fun _=>rfl
 one:=fun x u h=>by simp at h;rcases h with rfl|rfl<;>rfl
 small:=by decide
theorem cells{w:World}{b off:Nat}{M:List (Int×Int)}{i:Nat}{x:Int×Int}(hx:M[i]?=some x)(hc:∀ i x,M[i]?=some x→∀ j u,(Wn.cl x)[j]?=some u→w.cell? ⟨b,off+(i*2+j),none⟩=some u):
  w.cell? ⟨b,off+i*2,none⟩=some (.int .i64 x.1)∧w.cell? ⟨b,off+i*2+1,none⟩=some (.int .i64 x.2):=by
 have h:=hc i x hx
 simp only[←Nat.add_assoc] at h
 exact⟨h 0 _ rfl,h 1 _ rfl⟩
theorem at_some{L:List (Int×Int)}{i:Nat}(h:i<L.length):∃ x,L[i]?=some x:=⟨L[i],by simp[h]⟩
end Wn
namespace Pane
abbrev sameAs(g:Nat):Value:=.func (.func 194) #[] #[.pointer (some ⟨g,0,none⟩)]
def Span(w:World)(g:Nat)(p q:Int):Prop:=w.cell? ⟨g,1,none⟩=some (.int .i64 p)∧w.cell? ⟨g,2,none⟩=some (.int .i64 q)
theorem Span.next{w w':World}{g:Nat}{p q:Int}(h:Span w g p q)(k:Below w.heap.size w w'):Span w' g p q:=⟨cell_keep k h.1,cell_keep k h.2⟩
theorem same_ok(g:Nat)(p q:Int)(x:Int×Int)(w:World)(H:Hid (Span w g p q)):
  Calls Tryz.prog 194 #[Wn.v x,.pointer (some ⟨g,0,none⟩)] w fun r w'=>r=.returned (.bool (decide (x=(p,q))))∧Below w.heap.size w w':=by
 have e:decide (x=(p,q))=(x.1 == p&&x.2 == q):=by
  obtain⟨a,b⟩:=x;rw[Bool.eq_iff_iff];simp
 rw[e]
 obtain⟨a,b⟩:=x
 have H1:=H.out.next (below1 w (Obj.cells #[.int .i64 a,.int .i64 b] 129))
 have c1:=H1.1
 have c2:=H1.2
 clear H1
 cases h1:(a == p)<;>cases h2:(b == q)
 all_goals
  go_enter Tryz.func194,Tryz.ntmps194;go_wp2;go_ret;exact⟨by first|rfl|simp[h1]|simp[h2],below1 _ _⟩
def IsIdx(M:List (Int×Int))(x:Int×Int)(i:Int):Prop:=(i = -1∧∀ j:Nat,M[j]?≠some x)∨∃ k:Nat,i=k∧M[k]?=some x∧∀ j:Nat,j<k→M[j]?≠some x
set_option maxRecDepth 100000 in
theorem index_ok(v:Value)(M:List (Int×Int))(b g:Nat)(p q:Int)(w:World)(H:Hid (Sl.Is Wn.k w v M b))(hn:M.length≤9000)(S:Hid (Span w g p q)):
  Calls Tryz.prog 215 #[v,sameAs g] w fun r w'=>(∃ i,r=.returned (.int .i64 i)∧IsIdx M (p,q) i)∧Below w.heap.size w w':=by
 obtain⟨AD,cap,rfl⟩:=H.out.len
 go_enter Tryz.func215,Tryz.ntmps215
 go_wp2_with fail
 go_loopw [8] (fun si wr=>∃ (i:Nat),i≤M.length∧si=.int .i64 i∧Hid (∀ j:Nat,j<i→M[j]?≠some (p,q))∧Hid (Below w.heap.size w wr)) (fun si _=>M.length-(intOf si).toNat)
 case atStart=>exact⟨0,by omega,rfl,hid (fun j hj=>absurd hj (by omega)),hid (Below.refl _ _)⟩
 case round=>
  obtain⟨i,hi,rfl,HN,K⟩:=hrel;by_cases hlt:i<M.length
  ·obtain⟨off,cap',he,h2,h3,h4,hcell⟩:=H.out.some_ Wn.ok (by omega)
   obtain⟨rfl,rfl⟩:AD=some ⟨b,off,none⟩∧cap=cap':=by simpa using he
   obtain⟨x,hx⟩:=Wn.at_some hlt;obtain⟨c0,c1⟩:=Wn.cells hx hcell;have c0:=cell_keep K.out c0;have c1:=cell_keep K.out c1;have HX:=hid hx;have i0:(i:Int)<M.length:=by omega
   clear hcell he h2 h3 h4 hx;go_wp2_with fail
   refine (same_ok g p q x _ (hid (S.out.next K.out))).mono ?_
   rintro r w1 ⟨rfl,k1⟩;have K1:=hid (after K.out k1);clear k1;by_cases hxe:x=(p,q)
   ·have hd:decide (x=(p,q))=true:=by simpa using hxe
    have hd2:=hid hxe;clear hxe;go_wp2;go_ret;exact⟨⟨i,rfl,.inr ⟨i,rfl,by rw[HX.out,hd2.out],HN.out⟩⟩,K1.out⟩
   ·have hd:decide (x=(p,q))=false:=by simpa using hxe
    have hd2:=hid hxe;clear hxe;go_wp2_with fail
    refine⟨⟨i+1,by omega,by go_num,hid (fun j hj=>?_),K1⟩,by simp[intOf];omega⟩
    by_cases e:j=i
    ·subst e;rw[HX.out];exact fun q=>hd2.out (Option.some.inj q)
    ·exact HN.out j (by omega)
  ·obtain rfl:i=M.length:=by omega
   go_wp2;go_ret
   exact⟨⟨-1,rfl,.inl ⟨rfl,fun j=>by
    by_cases e:j<M.length
    ·exact HN.out j e
    ·rw[List.getElem?_eq_none (by omega)];simp⟩⟩,K.out⟩
abbrev wo(M:List (Int×Int))(x:Int×Int):List (Int×Int):=M.filter fun y=>!decide (y=x)
theorem wo_none{M:List (Int×Int)}{x:Int×Int}(h:∀ j:Nat,M[j]?≠some x):wo M x=M:=List.filter_eq_self.2 fun y hy=>by
 obtain⟨j,hj⟩:=List.mem_iff_getElem?.1 hy
 have:y≠x:=fun e=>h j (e▸hj)
 simp[this]
theorem wo_first{M:List (Int×Int)}{x:Int×Int}{k:Nat}(hk:M[k]?=some x)(h:∀ j:Nat,j<k→M[j]?≠some x):M.take k=wo (M.take (k+1)) x:=by
 have h1:M.take (k+1)=M.take k++[x]:=by
  rw[List.take_add_one,hk];rfl
 have h2:wo (M.take k) x=M.take k:=wo_none fun j e=>by
  rw[List.getElem?_take] at e
  split at e
  ·exact h j (by assumption) e
  ·cases e
 rw[h1]
 simp only[wo,List.filter_append] at h2 ⊢
 rw[h2]
 simp
theorem wo_step{M:List (Int×Int)}{x y:Int×Int}{j:Nat}(hj:M[j]?=some y):wo (M.take (j+1)) x=wo (M.take j) x++(if y=x then [] else [y]):=by
 rw[List.take_add_one,hj]
 simp only[wo,List.filter_append,Option.toList_some,List.filter_cons,List.filter_nil]
 by_cases e:y=x<;>simp[e]
structure Mid(M R:List (Int×Int))(x:Int×Int)(i j:Nat):Prop where
 len:R.length=M.length
 lt:i<j
 le:j≤M.length
 head:R.take i=wo (M.take j) x
 tail:R.drop j=M.drop j
theorem Mid.start{M:List (Int×Int)}{x:Int×Int}{k:Nat}(hk:M[k]?=some x)(h:∀ j:Nat,j<k→M[j]?≠some x):Mid M M x k (k+1):=
 ⟨rfl,by omega,by have:=(List.getElem?_eq_some_iff.1 hk).1;omega,wo_first hk h,rfl⟩
theorem Mid.at{M R:List (Int×Int)}{x:Int×Int}{i j:Nat}(h:Mid M R x i j):R[j]?=M[j]?:=by
 have:=congrArg (fun l=>l[0]?) h.tail
 simpa using this
theorem Mid.skip{M R:List (Int×Int)}{x y:Int×Int}{i j:Nat}(h:Mid M R x i j)(hy:M[j]?=some y)(e:y=x):Mid M R x i (j+1):=by
 have hl:=(List.getElem?_eq_some_iff.1 hy).1
 refine⟨h.len,by have:=h.lt;omega,by omega,?_,?_⟩
 ·rw[wo_step hy,if_pos e,List.append_nil];exact h.head
 ·have:=congrArg (List.drop 1) h.tail
  simpa [List.drop_drop,Nat.add_comm] using this
theorem Mid.keep{M R:List (Int×Int)}{x y:Int×Int}{i j:Nat}(h:Mid M R x i j)(hy:M[j]?=some y)(e:y≠x):Mid M (R.set i y) x (i+1) (j+1):=by
 have hl:=(List.getElem?_eq_some_iff.1 hy).1
 have h1:=h.lt
 have h2:=h.len
 refine⟨by simp[h2],by omega,by omega,?_,?_⟩
 ·rw[wo_step hy,if_neg e,←h.head,List.take_add_one,List.getElem?_set_self (by omega),List.take_set_of_le (Nat.le_refl _)]
  rfl
 ·rw[List.drop_set_of_lt (by omega)]
  have:=congrArg (List.drop 1) h.tail
  simpa [List.drop_drop,Nat.add_comm] using this
theorem wflat_set{L:List (Int×Int)}{k:Nat}{p:Int×Int}(hp:L[k]?=some p)(a b:Int):((Sl.flat Wn.k L).set (k*2) (.int .i64 a)).set (k*2+1) (.int .i64 b)=Sl.flat Wn.k (L.set k (a,b)):=by
 induction L generalizing k with
 |nil=>simp at hp
 |cons x L ih=>
  cases k with
  |zero=>simp[Sl.flat]
  |succ k=>
   simp at hp;have:=ih hp;simp only[Sl.flat,List.flatMap_cons,List.set_cons_succ] at this ⊢;rw[←this,List.set_append_right _ _ (by simp;omega),List.set_append_right _ _ (by simp;omega)]
   simp only[List.length_cons,List.length_nil];rw[show (k+1)*2-(0+1+1)=k*2 by omega,show (k+1)*2+1-(0+1+1)=k*2+1 by omega]
theorem setCell_row2{w:World}{g:Nat}{cur:Array Value}{t:TypeId}(h:w.heap[g]?=some (.cells cur t (0,0)))(i:Nat)(u:Value):(w.setCell ⟨g,i,none⟩ u).heap[g]?=some (.cells (cur.setIfInBounds i u) t (0,0)):=by
 simp[World.setCell,Array.getElem?_modify,h]
structure Row(base:Nat)(w:World)(g cap:Nat)(L:List (Int×Int))(cur:Array Value):Prop where
 base:base≤g
 at_:w.heap[g]?=some (.cells cur 129 (0,0))
 le:L.length≤cap
 max:cap≤maxLen
 size:cur.size=cap*2
 flat:cur.toList.take (L.length*2)=Sl.flat Wn.k L
theorem Row.own{base g cap:Nat}{w:World}{L:List (Int×Int)}{cur:Array Value}(h:Row base w g cap L cur):Sl.Own Wn.k base w (.slice (some ⟨g,0,none⟩) L.length cap) L:=
 ⟨by rw[Sl.flat_len Wn.ok],.inr ⟨g,cap,cur,rfl,h.base,h.at_,h.le,h.max,h.size,h.flat⟩⟩
theorem Row.cell{base g cap:Nat}{w:World}{L:List (Int×Int)}{cur:Array Value}(h:Row base w g cap L cur){i:Nat}{x:Int×Int}(hx:L[i]?=some x):
  w.cell? ⟨g,i*2,none⟩=some (.int .i64 x.1)∧w.cell? ⟨g,i*2+1,none⟩=some (.int .i64 x.2):=by
 have h0:=Sl.flat_at Wn.ok hx (j:=0) rfl
 have h1:=Sl.flat_at Wn.ok hx (j:=1) rfl
 rw[←h.flat,List.getElem?_take] at h0 h1
 split at h0
 ·split at h1
  ·rw[cell_of_row w g _ cur _ (0,0) h.at_,cell_of_row w g _ cur _ (0,0) h.at_]
   exact⟨by simpa using h0,by simpa using h1⟩
  ·cases h1
 ·cases h0
theorem Row.next{base g cap:Nat}{w w':World}{L:List (Int×Int)}{cur:Array Value}(h:Row base w g cap L cur)(k:w'.heap[g]?=w.heap[g]?):Row base w' g cap L cur:=⟨h.base,k.trans h.at_,h.le,h.max,h.size,h.flat⟩
theorem Row.put{base g cap:Nat}{w:World}{L:List (Int×Int)}{cur:Array Value}(h:Row base w g cap L cur){i:Nat}(hi:i<L.length)(a b:Int):
  Row base ((w.setCell ⟨g,i*2,none⟩ (.int .i64 a)).setCell ⟨g,i*2+1,none⟩ (.int .i64 b)) g cap (L.set i (a,b)) ((cur.setIfInBounds (i*2) (.int .i64 a)).setIfInBounds (i*2+1) (.int .i64 b)):=by
 obtain⟨p,hp⟩:=Wn.at_some hi
 refine⟨h.base,setCell_row2 (setCell_row2 h.at_ _ _) _ _,by rw[List.length_set];exact h.le,h.max,by simpa using h.size,?_⟩
 rw[List.length_set,←wflat_set hp a b,←h.flat]
 simp only[Array.toList_setIfInBounds,List.take_set]
theorem Row.cut{base g cap i n:Nat}{w:World}{L:List (Int×Int)}{cur:Array Value}(h:Row base w g cap L cur)(hi:i≤L.length)(Z:List Value)(hz:Z.length=(L.length-i)*2):
  Row base (w.setRow g (cur.toList.take (i*2)++Z++cur.toList.drop (i*2+Z.length)).toArray) g cap (L.take i) (cur.toList.take (i*2)++Z++cur.toList.drop (i*2+Z.length)).toArray:=by
 have hc:cur.toList.length=cap*2:=by rw[Array.length_toList,h.size]
 have hl:(L.take i).length=i:=by rw[List.length_take];omega
 have hle:=h.le
 refine⟨h.base,setRow_heap _ _ _ _ _ _ h.at_,by omega,h.max,?_,?_⟩
 ·simp only[List.size_toArray,List.length_append,List.length_take,List.length_drop,hc,hz]
  omega
 ·rw[hl,Sl.flat_take Wn.ok,←h.flat,List.take_take,List.append_assoc]
  show List.take (i*2) _=_
  rw[List.take_left' (by rw[List.length_take,hc];omega)]
  congr 1
  show i*2=min (i*2) _
  omega
theorem clear_run(w:World)(g i n cap cc:Nat)(base:Nat)(L:List (Int×Int))(cur:Array Value)(h:Row base w g cap L cur)(hi:i<L.length)(ty:TypeId):
  (Builtin.clear_ #[196] ty #[.slice (some ⟨g,i*2,none⟩) (L.length-i) cc]).run Tryz.prog w=
   .ok (.tuple #[]) (w.setRow g (cur.toList.take (i*2)++(Builtin.zeroCells (Wn.k.zero).cells (L.length-i)).toList++cur.toList.drop (i*2+(Builtin.zeroCells (Wn.k.zero).cells (L.length-i)).toList.length)).toArray):=by
 obtain⟨i0,hi0,hz0,hz1,hz2⟩:=info_parts Wn.ok.info
 have hz:(Builtin.zeroCells (Wn.k.zero).cells (L.length-i)).toList.length=(L.length-i)*2:=by
  unfold Builtin.zeroCells;simp;rfl
 have hst:=run_storeCells_at Tryz.prog g (i*2) 129 (Builtin.zeroCells (Wn.k.zero).cells (L.length-i)).toList 0 cur w h.at_ (by rw[hz,h.size];have:=h.le;omega) (fun v hv=>by
  unfold Builtin.zeroCells at hv;simp at hv;obtain⟨a,-,rfl⟩:=hv;have hm:a%2=0∨a%2=1:=by omega
  show (#[Value.int .i64 0,Value.int .i64 0][a%2]!).oneCell'=true
  rcases hm with e|e<;>rw[e]<;>rfl)
 obtain⟨m,hm⟩:∃ m,L.length-i=m+1:=⟨L.length-i-1,by omega⟩
 rw[Nat.add_zero] at hst
 rw[hm] at hst hz ⊢
 have hzv:∀ w,(zeroValue 129).run Tryz.prog w=.ok Wn.k.zero w:=fun w=>by simp[zeroValue,typeInfo,show Tryz.prog.info? 129=some i0 from hi0,hz0]
 simp[Builtin.clear_,run_underlying Wn.ok.under,hzv,hst]
set_option maxRecDepth 100000 in
theorem delete_ok(v:Value)(M:List (Int×Int))(base g1:Nat)(p q:Int)(w:World)(H:Hid (Sl.Own Wn.k base w v M))(hn:M.length≤9000)(S:Hid (Span w g1 p q))(hne:∀ g,v.ownBlock=some g→g1≠g):
  Calls Tryz.prog 193 #[v,sameAs g1] w fun r w'=>∃ v',r=.returned v'∧Sl.Own Wn.k base w' v' (wo M (p,q))∧w.grownBy w' v.ownBlock∧v'.ownBlock=v.ownBlock:=by
 obtain⟨bb,-,hIs⟩:=H.out.is
 have HI:=hid hIs
 clear hIs
 obtain⟨AD,cap,hv⟩:=HI.out.len
 subst hv
 go_enter Tryz.func193,Tryz.ntmps193
 go_wp2_with fail
 refine (index_ok _ M bb g1 p q _ HI hn S).mono ?_
 rintro r w1 ⟨⟨i,rfl,hi⟩,k1⟩
 have K1:=hid k1
 clear k1
 rcases hi with ⟨rfl,hno⟩|⟨k,rfl,hk,hfst⟩
 ·have N:=hid hno
  clear hno;go_wp2;go_ret;exact⟨_,rfl,by rw[wo_none N.out];exact H.out.next K1.out,Goes.grown_below _ K1.out,rfl⟩
 ·have hkl:=(List.getElem?_eq_some_iff.1 hk).1
  obtain⟨g,cur,rfl,rw0⟩:∃ g cur,AD=some ⟨g,0,none⟩∧Row base w g cap M cur:=by
   rcases H.out.2 with ⟨_,h0⟩|⟨g,cap',cur,h1,h2,h3,h4,h5,h6,h7⟩
   ·omega
   ·obtain⟨rfl,rfl⟩:AD=some ⟨g,0,none⟩∧cap=cap':=by simpa using h1
    exact⟨g,cur,rfl,h2,h3,h4,h5,h6,h7⟩
  have hgne:g1≠g:=hne g rfl;have hgl:=hid (Reg.block_lt rw0.at_);have R1:=hid (rw0.next (K1.out.block g hgl.out));have S1:=hid (S.out.next K1.out);have G1:Hid (w.grownBy w1 (some g)):=hid (Goes.grown_below _ K1.out);have M0:=hid (Mid.start hk hfst);have hk0:((k:Int) == -1)=false:=by rw[beq_eq_false_iff_ne];omega
  have w9:IntKind.i64.wrap ((k:Int)+1)=(k:Int)+1:=by rw[IntKind.wrap_i64];omega
  clear rw0 hk hfst hne;go_wp2_with fail
  go_loopw [5,6] (fun si sj wr=>∃ (i j:Nat) (R:List (Int×Int)) (cur:Array Value),si=.int .i64 i∧sj=.int .i64 j∧Hid (Mid M R (p,q) i j)∧Hid (Row base wr g cap R cur)∧Hid (Span wr g1 p q)∧Hid (w.grownBy wr (some g))) (fun _ sj _=>M.length-(intOf sj).toNat)
  case atStart=>exact⟨k,k+1,M,cur,rfl,by go_num,M0,R1,S1,G1⟩
  case round=>
   obtain⟨i,j,R,cur,rfl,rfl,MD,RW,SP,GR⟩:=hrel;have hij:=MD.out.lt;have hjn:=MD.out.le;have hRl:=MD.out.len;by_cases hlt:j<M.length
   ·obtain⟨x,hx⟩:=Wn.at_some hlt
    have hxr:R[j]?=some x:=MD.out.at.trans hx;obtain⟨c0,c1⟩:=RW.out.cell hxr;have HX:=hid hx;have i0:(j:Int)<M.length:=by omega
    have i1:(i:Int)<M.length:=by omega
    have gl:=hid (Reg.block_lt RW.out.at_);clear hx hxr;go_wp2_with fail
    refine (same_ok g1 p q x _ (hid (SP.out.next (below1 _ _)))).mono ?_
    rintro r w2 ⟨rfl,k2⟩;have K2:=hid (after (below1 wr (Obj.cells #[.int .i64 x.1,.int .i64 x.2] 129)) k2);have V2:Lies w2 wr.heap.size 129 [.int .i64 x.1,.int .i64 x.2]:=(Lies.new wr 129 [.int .i64 x.1,.int .i64 x.2]).next k2;have R2:=hid (RW.out.next (K2.out.block g gl.out));have S2:=hid (SP.out.next K2.out);have G2:Hid (w.grownBy w2 (some g)):=hid ((Goes.grown (some g)).trans GR.out (Goes.grown_below _ K2.out));clear k2;by_cases hxe:x=(p,q)
    ·have hd:decide (x=(p,q))=true:=by simpa using hxe
     have hd2:=hid hxe;clear hxe V2;go_wp2_with fail
     exact⟨⟨i,j+1,R,cur,rfl,by go_num,hid (MD.out.skip HX.out hd2.out),R2,S2,G2⟩,by simp[intOf];omega⟩
    ·have hd:decide (x=(p,q))=false:=by simpa using hxe
     have hd2:=hid hxe;obtain⟨y,hy⟩:=Wn.at_some (L:=R) (i:=i) (by omega)
     obtain⟨y0,y1⟩:=R2.out.cell hy;have v0:=V2.cell (i:=0) rfl;have v1:=V2.cell (i:=1) rfl;have f0:w2.frozen? ⟨g,i*2,none⟩=false:=by simp[World.frozen?,R2.out.at_]
     have f1:w2.frozen? ⟨g,i*2+1,none⟩=false:=by simp[World.frozen?,R2.out.at_]
     have R3:=hid (R2.out.put (i:=i) (by omega) x.1 x.2)
     have M3:=hid (MD.out.keep HX.out hd2.out);have ib:Hid (i<R.length):=hid (by omega)
     have S3:Hid (Span ((w2.setCell ⟨g,i*2,none⟩ (.int .i64 x.1)).setCell ⟨g,i*2+1,none⟩ (.int .i64 x.2)) g1 p q):=hid (by
      have h:((w2.setCell ⟨g,i*2,none⟩ (.int .i64 x.1)).setCell ⟨g,i*2+1,none⟩ (.int .i64 x.2)).heap[g1]?=w2.heap[g1]?:=by
       rw[Below.heap_setCell _ _ _ _ hgne,Below.heap_setCell _ _ _ _ hgne]
      exact⟨(World.cell?_of_block (a:=⟨g1,1,none⟩) h).trans S2.out.1,(World.cell?_of_block (a:=⟨g1,2,none⟩) h).trans S2.out.2⟩)
     have G3:Hid (w.grownBy ((w2.setCell ⟨g,i*2,none⟩ (.int .i64 x.1)).setCell ⟨g,i*2+1,none⟩ (.int .i64 x.2)) (some g)):=hid
      ⟨G2.out.os,G2.out.tape,G2.out.output,by simpa using G2.out.size,fun b hb hne=>by
       have hbg:b≠g:=fun e=>hne (by rw[e])
       rw[Below.heap_setCell _ _ _ _ hbg,Below.heap_setCell _ _ _ _ hbg];exact G2.out.block b hb hne⟩
     clear hxe V2 hy;go_wp2_with fail
     exact⟨⟨i+1,j+1,R.set i x,_,by go_num,by go_num,M3,R3,S3,G3⟩,by simp[intOf];omega⟩
   ·obtain rfl:j=M.length:=by omega
    have hi:i<R.length:=by omega
    have CL:=fun ty cc=>clear_run wr g i 0 cap cc base R cur RW.out hi ty
    have RC:=hid (RW.out.cut (i:=i) (n:=0) (by omega) (Builtin.zeroCells (Wn.k.zero).cells (R.length-i)).toList (by rw[Array.length_toList,size_zeroCells];rfl))
    generalize (cur.toList.take (i*2)++(Builtin.zeroCells (Wn.k.zero).cells (R.length-i)).toList++cur.toList.drop (i*2+(Builtin.zeroCells (Wn.k.zero).cells (R.length-i)).toList.length)).toArray=cur2 at *;obtain⟨W,hW⟩:∃ W,Hid (W=wr.setRow g cur2):=⟨_,hid rfl⟩;rw[←hW.out] at CL RC;have GW:Hid (w.grownBy W (some g)):=hid (by rw[hW.out];exact Slm.grown_setRow GR.out _)
    have hdr:Hid (R.take i=wo M (p,q)):=hid (by have:=MD.out.head;rwa [List.take_length] at this)
    have hcap:=RW.out.le;have hc1:¬(cap=i):=by omega
    have hcm:Hid (cap≤maxLen):=hid RW.out.max;have hcm2:cap≤9223372036854775807:=by have:=hcm.out;unfold maxLen at this;omega
    have i1:(i:Int)≤M.length:=by omega
    rw[hRl] at CL;go_wp2_with (at_builtin;refine wpList_plain rfl fun K' hK'=>wp_clear _ _ 196 rfl _ rfl (CL _ _) (hK' _ _ ?_))
    go_ret;refine⟨_,rfl,?_,GW.out,rfl⟩
    have:=RC.out.own;rw[show (R.take i).length=i by rw[List.length_take];omega,hdr.out] at this
    exact this
end Pane
namespace Pane
abbrev meets(s e:Int)(p:Pn):Bool:=decide (max p.s s<min p.e e)
abbrev join2(x p:Pn):Pn:=mk x.key (min x.s p.s) (max x.e p.e) (Agg.mrg (ag x) (ag p))
abbrev restOf(s e:Int)(L:List Pn):List Pn:=L.filter fun p=>!meets s e p
abbrev metOf(s e:Int)(L:List Pn):List Pn:=L.filter (meets s e)
abbrev wins(L:List Pn):List (Int×Int):=L.map fun p=>(p.s,p.e)
abbrev joined(s e:Int)(x:Pn)(L:List Pn):Pn:=(metOf s e L).foldl join2 x
theorem rest_no{s e:Int}{L:List Pn}{i:Nat}{p:Pn}(h:L[i]?=some p)(hm:meets s e p=false):restOf s e (L.take (i+1))=restOf s e (L.take i)++[p]∧metOf s e (L.take (i+1))=metOf s e (L.take i):=by
 rw[List.take_add_one,h]
 simp only[restOf,metOf,List.filter_append,Option.toList_some,List.filter_cons,List.filter_nil,hm]
 simp
theorem rest_yes{s e:Int}{L:List Pn}{i:Nat}{p:Pn}(h:L[i]?=some p)(hm:meets s e p=true):restOf s e (L.take (i+1))=restOf s e (L.take i)∧metOf s e (L.take (i+1))=metOf s e (L.take i)++[p]:=by
 rw[List.take_add_one,h]
 simp only[restOf,metOf,List.filter_append,Option.toList_some,List.filter_cons,List.filter_nil,hm]
 simp
theorem filter_le(f:Pn→Bool)(L:List Pn)(i:Nat):((L.take i).filter f).length≤L.length:=
 Nat.le_trans (List.length_filter_le _ _) (by rw[List.length_take];omega)
structure MS(B:World)(g0 g1 g2:Nat)(s e:Int)(x:Pn)(vr vm:Value)(R:List Pn)(M:List (Int×Int))(w:World):Prop where
 below:Below B.heap.size B w
 lo0:B.heap.size≤g0
 lo1:B.heap.size≤g1
 lo2:B.heap.size≤g2
 n01:g0≠g1
 n12:g1≠g2
 n02:g0≠g2
 sp:Lies w g0 129 [.int .i64 s,.int .i64 e]
 res:Lies w g2 129 [.int .i64 0,.int .i64 0]
 one:Lies w g1 133 x.cl
 rest:Sl.Own Pn.k B.heap.size w vr R
 met:Sl.Own Wn.k B.heap.size w vm M
 nr:∀ a,vr.ownBlock=some a→a≠g0∧a≠g1∧a≠g2∧vm.ownBlock≠some a
 nm:∀ a,vm.ownBlock=some a→a≠g0∧a≠g1∧a≠g2
section
variable {B w w':World} {g0 g1 g2:Nat} {s e:Int} {x x':Pn} {vr vm v':Value} {R R':List Pn} {M M':List (Int×Int)}
theorem MS.next(h:MS B g0 g1 g2 s e x vr vm R M w)(k:Below w.heap.size w w'):MS B g0 g1 g2 s e x vr vm R M w':=
 ⟨after h.below k,h.lo0,h.lo1,h.lo2,h.n01,h.n12,h.n02,h.sp.next k,h.res.next k,h.one.next k,h.rest.next k,h.met.next k,h.nr,h.nm⟩
theorem lies_grown{t:TypeId}{cs:List Value}{g:Nat}{row:Option Nat}(h:Lies w g t cs)(k:w.grownBy w' row)(hne:some g≠row):Lies w' g t cs:=(k.block g h.lt hne).trans h
theorem MS.rested(h:MS B g0 g1 g2 s e x vr vm R M w)(o:Sl.Own Pn.k B.heap.size w' v' R')(k:w.grownBy w' vr.ownBlock)(q:v'.ownBlock=vr.ownBlock∨v'.ownBlock=some w.heap.size):MS B g0 g1 g2 s e x v' vm R' M w':=by
 have ne:∀ a:Nat,(a=g0∨a=g1∨a=g2∨vm.ownBlock=some a)→some a≠vr.ownBlock:=fun a ha e=>by
  have:=h.nr a e.symm;rcases ha with r|r|r|r
  ·exact this.1 r
  ·exact this.2.1 r
  ·exact this.2.2.1 r
  ·exact this.2.2.2 r
 refine⟨h.below.grown k h.below.size (fun a ha=>(h.rest.lt a ha).1),h.lo0,h.lo1,h.lo2,h.n01,h.n12,h.n02,lies_grown h.sp k (ne _ (.inl rfl)),lies_grown h.res k (ne _ (.inr (.inr (.inl rfl)))),lies_grown h.one k (ne _ (.inr (.inl rfl))),o,
  h.met.move fun a ha=>k.block a (h.met.lt a ha).2 (ne a (.inr (.inr (.inr ha)))),fun a ha=>?_,h.nm⟩
 rcases q with q|q
 ·exact h.nr a (q▸ha)
 ·rw[q] at ha
  obtain rfl:=Option.some.inj ha;have l0:=h.sp.lt;have l1:=h.one.lt;have l2:=h.res.lt;exact⟨by omega,by omega,by omega,fun e=>by have:=(h.met.lt _ e).2;omega⟩
theorem MS.metted(h:MS B g0 g1 g2 s e x vr vm R M w)(o:Sl.Own Wn.k B.heap.size w' v' M')(k:w.grownBy w' vm.ownBlock)(q:v'.ownBlock=vm.ownBlock∨v'.ownBlock=some w.heap.size):MS B g0 g1 g2 s e x vr v' R M' w':=by
 have ne:∀ a:Nat,(a=g0∨a=g1∨a=g2)→some a≠vm.ownBlock:=fun a ha e=>by
  have:=h.nm a e.symm;rcases ha with r|r|r
  ·exact this.1 r
  ·exact this.2.1 r
  ·exact this.2.2 r
 refine⟨h.below.grown k h.below.size (fun a ha=>(h.met.lt a ha).1),h.lo0,h.lo1,h.lo2,h.n01,h.n12,h.n02,lies_grown h.sp k (ne _ (.inl rfl)),lies_grown h.res k (ne _ (.inr (.inr rfl))),lies_grown h.one k (ne _ (.inr (.inl rfl))),
  h.rest.move fun a ha=>k.block a (h.rest.lt a ha).2 (fun e=>(h.nr a ha).2.2.2 e.symm),o,fun a ha=>?_,fun a ha=>?_⟩
 ·have:=h.nr a ha
  refine⟨this.1,this.2.1,this.2.2.1,fun e=>?_⟩
  rcases q with q|q
  ·exact this.2.2.2 (q▸e)
  ·rw[q] at e
   obtain rfl:=Option.some.inj e;have:=(h.rest.lt _ ha).2;omega
 ·rcases q with q|q
  ·exact h.nm a (q▸ha)
  ·rw[q] at ha
   obtain rfl:=Option.some.inj ha;have l0:=h.sp.lt;have l1:=h.one.lt;have l2:=h.res.lt;exact⟨by omega,by omega,by omega⟩
theorem MS.oned(h:MS B g0 g1 g2 s e x vr vm R M w)(o:Lies w' g1 133 x'.cl)(k:w.grownBy w' (some g1)):MS B g0 g1 g2 s e x' vr vm R M w':=by
 have ne:∀ a:Nat,a≠g1→some a≠some g1:=fun a ha e=>ha (Option.some.inj e)
 refine⟨h.below.grown k h.below.size (fun a ha=>by obtain rfl:=Option.some.inj ha;exact h.lo1),h.lo0,h.lo1,h.lo2,h.n01,h.n12,h.n02,lies_grown h.sp k (ne _ h.n01),lies_grown h.res k (ne _ h.n12.symm),o,
  h.rest.move fun a ha=>k.block a (h.rest.lt a ha).2 (ne _ (h.nr a ha).2.1),h.met.move fun a ha=>k.block a (h.met.lt a ha).2 (ne _ (h.nm a ha).2.1),h.nr,h.nm⟩
theorem grown_cells{g i:Nat}(u:Value)(h:w.grownBy w' (some g)):w.grownBy (w'.setCell ⟨g,i,none⟩ u) (some g):=
 ⟨h.os,h.tape,h.output,by simpa using h.size,fun b hb hne=>by rw[Below.heap_setCell _ _ _ _ (show b≠g from fun e=>hne (by rw[e]))];exact h.block b hb hne⟩
theorem grown_refl(w:World)(row:Option Nat):w.grownBy w row:=⟨rfl,rfl,rfl,Nat.le_refl _,fun _ _ _=>rfl⟩
end
end Pane
end Go.Proofs.YtfjlnniahfbdfaaGreat
