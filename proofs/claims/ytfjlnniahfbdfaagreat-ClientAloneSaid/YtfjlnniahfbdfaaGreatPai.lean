/- A part of the proof. -/
import Derived.Test.YtfjlnniahfbdfaaGreatPac
import Derived.Test.YtfjlnniahfbdfaaGreatPaa
import Derived.Below
import Derived.Maps.OwnSet
import Derived.Maps.Ext
import Derived.Test.YtfjlnniahfbdfaaGreatPah
set_option linter.unusedVariables false
set_option maxHeartbeats 4000000
namespace Go.Proofs.YtfjlnniahfbdfaaGreat
open Go.ChangeShapes Go.WideShapes Go.ChangeAt Go.RowKit
namespace Base
abbrev win(s e:Int):Value:=.agg #[.int .i64 s,.int .i64 e]
abbrev cfg(k s l g z h r c:Int):Value:=.agg #[.int .i64 k,.int .i64 s,.int .i64 l,.int .i64 g,.int .i64 z,.int .i64 h,.int .i64 r,.int .i64 c]
theorem below1(w:World)(a:Obj):Below w.heap.size w (w.alloc a):=(Below.refl _ _).alloc (Nat.le_refl _) _
theorem below2(w:World)(a b:Obj):Below w.heap.size w ((w.alloc a).alloc b):=(below1 w a).alloc (by simp) _
theorem after{a b c:World}(h:Below a.heap.size a b)(k:Below b.heap.size b c):Below a.heap.size a c:=h.trans (k.mono h.size)
theorem ret_bool{a b:Bool}(h:a=b):Ending.returned (.bool a)=.returned (.bool b):=by rw[h]
theorem told{f:Nat}{vs:Array Value}{x:Bool}{w:World}(b:Bool)(h:Calls Tryz.prog f vs w fun r w'=>r=.returned (.bool x)∧Below w.heap.size w w')(e:x=b):
 Calls Tryz.prog f vs w fun r w'=>r=.returned (.bool b)∧Below w.heap.size w w':=by rw[←e];exact h
theorem cell_keep{w w':World}(k:Below w.heap.size w w'){a:Addr}{v:Value}(h:w.cell? a=some v):w'.cell? a=some v:=
 (k.cell (World.block_lt_of_cell? _ _ h)).trans h
def Cfg(w:World)(g:Nat)(k s l u z h r c:Int):Prop:=
 w.cell? ⟨g,0,none⟩=some (.int .i64 k)∧w.cell? ⟨g,1,none⟩=some (.int .i64 s)∧w.cell? ⟨g,2,none⟩=some (.int .i64 l)∧w.cell? ⟨g,3,none⟩=some (.int .i64 u)∧
 w.cell? ⟨g,4,none⟩=some (.int .i64 z)∧w.cell? ⟨g,5,none⟩=some (.int .i64 h)∧w.cell? ⟨g,6,none⟩=some (.int .i64 r)∧w.cell? ⟨g,7,none⟩=some (.int .i64 c)
theorem Cfg.new(w:World)(k s l u z h r c:Int):Cfg (w.alloc (Obj.cells #[.int .i64 k,.int .i64 s,.int .i64 l,.int .i64 u,.int .i64 z,.int .i64 h,.int .i64 r,.int .i64 c] 23)) w.heap.size k s l u z h r c:=by
 refine⟨?_,?_,?_,?_,?_,?_,?_,?_⟩<;>go_simp
theorem Cfg.next{w w':World}{g:Nat}{k s l u z h r c:Int}(b:Below w.heap.size w w')(x:Cfg w g k s l u z h r c):Cfg w' g k s l u z h r c:=by
 obtain⟨h0,h1,h2,h3,h4,h5,h6,h7⟩:=x
 exact⟨cell_keep b h0,cell_keep b h1,cell_keep b h2,cell_keep b h3,cell_keep b h4,cell_keep b h5,cell_keep b h6,cell_keep b h7⟩
end Base
namespace Grp
open Small
set_option maxRecDepth 100000
theorem keyed:Maps.Keyed Tryz.prog 9:=Maps.string_keyed Tryz.underlying9
noncomputable def kl(x:ByteArray):Lit:=(keyOf Tryz.prog 9 (.string x)).getD (.bool false)
theorem kl_ok{x:ByteArray}(h:x.size≤maxLen):keyOf Tryz.prog 9 (.string x)=some (kl x):=by
 have:∃ l,keyOf Tryz.prog 9 (.string x)=some l:=by
  unfold keyOf;rw[Tryz.underlying9];simp[mapKey,Tryz.underlying9,h]
 obtain⟨l,hl⟩:=this
 rw[kl,hl];rfl
theorem kl_ne{x y:ByteArray}(hx:x.size≤maxLen)(hy:y.size≤maxLen)(h:x≠y):kl x≠kl y:=fun e=>h (by
 have:=keyed.inj (kl_ok hx) (e▸kl_ok hy)
 injection this)
abbrev RV(v:Value):Option (DataW Value×List MemPlace):=some (.held v,[])
def Mp(w:World)(m:Nat)(p:ByteArray→Option Value)(c:Nat):Prop:=
 ∃ D:DataW Value,w.ownsMap Tryz.prog 9 RV m c D∧Maps.size D=c∧
   ∀ x:ByteArray,x.size≤maxLen→(p x=none→Maps.has D (kl x)=false)∧(∀ v,p x=some v→Maps.has D (kl x)=true∧∀ z,D.atKey (kl x) z=.held v)
theorem tight{w:World}{P:Program}{k:TypeId}{R:Value→Option (DataW Value×List MemPlace)}{b n:Nat}{D:DataW Value}(h:w.ownsMap P k R b n D):w.ownsMap P k R b (Maps.size D) D:=by
 obtain⟨es,clock,hb,F,hs,rfl⟩:=h
 exact⟨es,clock,hb,F,by simp[Maps.size,length_sorted],rfl⟩
theorem zero_list(w:World):(zeroValue 41).run Tryz.prog w=.ok (.slice none 0 0) w:=by kernel_rfl
def upd(p:ByteArray→Option Value)(x:ByteArray)(v:Option Value)(q:ByteArray→Option Value):Prop:=q x=v∧∀ y,y≠x→q y=p y
theorem Mp.kept{w w':World}{m c:Nat}{p:ByteArray→Option Value}(h:Mp w m p c)(hb:w'.heap[m]?=w.heap[m]?):Mp w' m p c:=by
 obtain⟨D,⟨es,clock,h1,F,hs,hD⟩,h2,h3⟩:=h
 exact⟨D,⟨es,clock,hb.trans h1,F,hs,hD⟩,h2,h3⟩
theorem Mp.lt{w:World}{m c:Nat}{p:ByteArray→Option Value}(h:Mp w m p c):m<w.heap.size:=by
 obtain⟨D,h1,_⟩:=h
 exact h1.lt
theorem Mp.made(w:World):Mp (w.alloc (.map #[] 0)) w.heap.size (fun _=>none) 0:=
 ⟨.map [],World.ownsMap_made w _ _ _,rfl,fun x _=>⟨fun _=>rfl,fun i h=>by cases h⟩⟩
theorem Mp.look{w:World}{m c:Nat}{p:ByteArray→Option Value}(h:Mp w m p c){x:ByteArray}(hx:x.size≤maxLen):
  (Instr.lookup 186 (.map (some m)) (.string x) false).run Tryz.prog w=.ok ((p x).getD (.slice none 0 0)) w:=by
 obtain⟨D,h1,h2,h3⟩:=h
 obtain⟨v,ps,hrun,hv⟩:=h1.lookup keyed Tryz.underlying186 (zero_list w) (R:=RV) rfl (kl_ok hx)
 rw[hrun]
 have hh:=h3 x hx
 cases hp:p x with
 |none=>
  rw[Maps.atKey_of_not_has (hh.1 hp)] at hv;simp only[RV,Option.some.injEq,Prod.mk.injEq,DataW.held.injEq] at hv;rw[hv.1];rfl
 |some u=>
  rw[(hh.2 u hp).2] at hv;simp only[RV,Option.some.injEq,Prod.mk.injEq,DataW.held.injEq] at hv;rw[hv.1];rfl
theorem Mp.store{w:World}{m c:Nat}{p:ByteArray→Option Value}(h:Mp w m p c){x:ByteArray}(hx:x.size≤maxLen)(v:Value)(hc:c≤1048576){q:ByteArray→Option Value}(hq:upd p x (some v) q):
  ∃ w',(Instr.mapUpdate 186 (.map (some m)) (.string x) v).run Tryz.prog w=.ok () w'∧Mp w' m q (if p x=none then c+1 else c)∧w.grownBy w' (some m):=by
 obtain⟨D,h1,h2,h3⟩:=h
 obtain⟨w',hrun,ho,hg⟩:=h1.update keyed Tryz.underlying186 (by unfold maxLen;omega) (kl_ok hx) (val:=v) (d:=.held v) (ps:=[]) rfl
 have hk:=keyed.key (kl_ok hx)
 have hsz:=Maps.size_put (k:=kl x) (h1.tidy keyed) (.held v)
 have hs:Maps.size (D.put (kl x) (.held v))=if p x=none then c+1 else c:=by
  rw[hsz,h2];cases hp:p x with
  |none=>rw[(h3 x hx).1 hp];simp
  |some j=>rw[((h3 x hx).2 j hp).1];simp
 have ho':=tight ho
 rw[hs] at ho'
 refine⟨w',hrun,⟨_,ho',hs,fun y hy=>?_⟩,hg⟩
 by_cases e:y=x
 ·subst e
  refine⟨(fun hn=>by rw[hq.1] at hn;cases hn),fun j hj=>?_⟩
  rw[hq.1] at hj;cases hj
  exact⟨Maps.has_put_same h1.isMap hk _,fun z=>Maps.atKey_put_same h1.isMap hk _ z⟩
 ·have hne:=kl_ne hy hx e
  rw[hq.2 y e,Maps.has_put_other hne];refine⟨(h3 y hy).1,fun j hj=>?_⟩
  obtain⟨a,cc⟩:=(h3 y hy).2 j hj;exact⟨a,fun z=>by rw[Maps.atKey_put_other hne];exact cc z⟩
theorem Mp.drop{w:World}{m c:Nat}{p:ByteArray→Option Value}(h:Mp w m p c){x:ByteArray}(hx:x.size≤maxLen){v:Value}(hp:p x=some v){q:ByteArray→Option Value}(hq:upd p x none q)(ty:TypeId):
  ∃ w',(Builtin.delete_ #[186,9] ty #[.map (some m),.string x]).run Tryz.prog w=.ok (.tuple #[]) w'∧Mp w' m q (c-1)∧w.grownBy w' (some m):=by
 obtain⟨D,h1,h2,h3⟩:=h
 obtain⟨w',hrun,ho,hg⟩:=h1.drop keyed Tryz.underlying186 (kl_ok hx) ty
 have hsz:=Maps.size_del (k:=kl x) (h1.tidy keyed)
 rw[((h3 x hx).2 v hp).1,h2] at hsz
 simp at hsz
 have hs:Maps.size (D.del (kl x))=c-1:=by omega
 have ho':=tight ho
 rw[hs] at ho'
 refine⟨w',hrun,⟨_,ho',hs,fun y hy=>?_⟩,hg.grown⟩
 by_cases e:y=x
 ·subst e
  exact⟨fun _=>Maps.has_del_same,(fun j hj=>by rw[hq.1] at hj;cases hj)⟩
 ·have hne:=kl_ne hy hx e
  rw[hq.2 y e,Maps.has_del_other hne];refine⟨(h3 y hy).1,fun j hj=>?_⟩
  obtain⟨a,cc⟩:=(h3 y hy).2 j hj;exact⟨a,fun z=>by rw[Maps.atKey_del_other hne];exact cc z⟩
theorem wpList_drop{w:World}{ops:Array Oper}{rest:List Oper}{o:Oper}{a:Act}{Q:Exit→Act→World→Prop}(hg:o.guard=none)(mo xo:Operand)
  (hop:o.op=Op.call {callee:=Callee.builtin Builtin.delete,args:=#[mo,xo],argTypes:=#[186,9]})
  {m c:Nat} {p:ByteArray→Option Value} {x:ByteArray} {v:Value} (hm:a.eval mo=.map (some m)) (hx:a.eval xo=.string x) (h:Mp w m p c) (fx:x.size≤maxLen) (hp:p x=some v) {q:ByteArray→Option Value} (hq:upd p x none q)
  (hK:∀ w',Mp w' m q (c-1)→w.grownBy w' (some m)→wpList Tryz.prog ops Q rest (a.put o.dst (.tuple #[])) w'):wpList Tryz.prog ops Q (o::rest) a w:=by
 refine wpList_plain hg fun K' hK'=>?_
 obtain⟨w',hrun,r1,r2⟩:=h.drop fx hp hq o.type
 unfold Oper.wp
 simp[execOp,hop,resolve,invoke,builtin,hm,hx,hrun,Result.andThen]
 exact hK' _ _ (hK w' r1 r2)
theorem wpList_store{w:World}{ops:Array Oper}{rest:List Oper}{o:Oper}{a:Act}{Q:Exit→Act→World→Prop}(hg:o.guard=none)(mo xo vo:Operand)(hop:o.op=Op.mapUpdate 186 mo xo vo)
  {m c:Nat} {p:ByteArray→Option Value} {x:ByteArray} (v:Value) (hm:a.eval mo=.map (some m)) (hx:a.eval xo=.string x) (hv:a.eval vo=v) (h:Mp w m p c) (fx:x.size≤maxLen) (hc:c≤1048576) {q:ByteArray→Option Value} (hq:upd p x (some v) q)
  (hK:∀ w',Mp w' m q (if p x=none then c+1 else c)→w.grownBy w' (some m)→wpList Tryz.prog ops Q rest (a.put o.dst undef) w'):wpList Tryz.prog ops Q (o::rest) a w:=by
 refine wpList_plain hg fun K' hK'=>?_
 obtain⟨w',hrun,r1,r2⟩:=h.store fx v hc hq
 unfold Oper.wp
 simp[execOp,hop,hm,hx,hv,hrun,Result.andThen]
 exact hK' _ _ (hK w' r1 r2)
noncomputable def updOf(p:ByteArray→Option Value)(x:ByteArray)(v:Option Value):ByteArray→Option Value:=fun y=>open Classical in if y=x then v else p y
theorem updOf_ok(p:ByteArray→Option Value)(x:ByteArray)(v:Option Value):upd p x v (updOf p x v):=⟨by simp[updOf],fun y hy=>by simp[updOf,hy]⟩
end Grp
namespace Grp
open Small Foot Pane
set_option maxRecDepth 100000
theorem put_none(a:Act)(v:Value):a.put none v=a:=rfl
structure C8 where
 k:Int
 s:Int
 l:Int
 g:Int
 z:Int
 h:Int
 r:Int
 c:Int
abbrev C8.cl(x:C8):List Value:=[.int .i64 x.k,.int .i64 x.s,.int .i64 x.l,.int .i64 x.g,.int .i64 x.z,.int .i64 x.h,.int .i64 x.r,.int .i64 x.c]
abbrev C8.v(x:C8):Value:=.agg #[.int .i64 x.k,.int .i64 x.s,.int .i64 x.l,.int .i64 x.g,.int .i64 x.z,.int .i64 x.h,.int .i64 x.r,.int .i64 x.c]
abbrev gcl(x:C8)(m tg:Nat):List Value:=[.int .i64 x.k,.int .i64 x.s,.int .i64 x.l,.int .i64 x.g,.int .i64 x.z,.int .i64 x.h,.int .i64 x.r,.int .i64 x.c,.map (some m),.pointer (some ⟨tg,0,none⟩)]
abbrev gp(g:Nat):Value:=.pointer (some ⟨g,0,none⟩)
abbrev Lists:=ByteArray→List Pn
def Lists.set(S:Lists)(x:ByteArray)(L:List Pn):Lists:=fun y=>if y=x then L else S y
theorem set_same(S:Lists)(x:ByteArray)(L:List Pn):S.set x L x=L:=by simp[Lists.set]
theorem set_other(S:Lists){x y:ByteArray}(L:List Pn)(h:y≠x):S.set x L y=S y:=by simp[Lists.set,h]
structure Gq(w:World)(g m tg:Nat)(cf:C8)(S:Lists)(M:Tmr.Tm→Prop)(n cnt:Nat)(f:ByteArray→Option Value)(FT Bk:Nat→Prop):Prop where
 lies:Lies w g 190 (gcl cf m tg)
 map:Mp w m f cnt
 ts:Tmr.Ts w tg n M FT
 ne:g≠m
 ng:¬FT g
 nm:¬FT m
 lists:∀ x,(S x=[]∧f x=none)∨(S x≠[]∧∃ v b,f x=some v∧Sl.Is Pn.k w v (S x) b∧b≠g∧b≠m∧¬FT b∧Bk b)
def Fp(g m:Nat)(FT:Nat→Prop):Nat→Prop:=fun k=>k=g∨k=m∨FT k
section
variable {w w':World} {g m tg n cnt:Nat} {cf:C8} {S:Lists} {M:Tmr.Tm→Prop} {f:ByteArray→Option Value} {FT Bk Bk' G F':Nat→Prop}
theorem Gq.in(h:Gq w g m tg cf S M n cnt f FT Bk):In w (Fp g m FT):=fun k hk=>by
 rcases hk with rfl|rfl|hk
 ·exact h.lies.lt
 ·exact h.map.lt
 ·exact h.ts.in k hk
theorem Gq.list(h:Gq w g m tg cf S M n cnt f FT Bk)(x:ByteArray):∃ v b,(f x).getD (.slice none 0 0)=v∧Sl.Is Pn.k w v (S x) b:=by
 rcases h.lists x with ⟨h1,h2⟩|⟨h1,v,b,h2,h3,-⟩
 ·exact⟨_,0,rfl,by rw[h2,h1];exact Sl.Is.nil _ _ _⟩
 ·exact⟨_,b,rfl,by rw[h2];exact h3⟩
theorem is_lt{v:Value}{L:List Pn}{b:Nat}(h:Sl.Is Pn.k w v L b)(hn:L≠[]):b<w.heap.size:=by
 obtain⟨_,_,_,_,_,q,_⟩:=h.some_ Pn.ok (List.length_pos_iff.2 hn)
 exact q
theorem Gq.keep(h:Gq w g m tg cf S M n cnt f FT Bk)(k1:∀ i,i<w.heap.size→w'.heap[i]?=w.heap[i]?)(s:w.heap.size≤w'.heap.size):Gq w' g m tg cf S M n cnt f FT Bk:=by
 refine⟨(k1 _ h.lies.lt).trans h.lies,h.map.kept (k1 _ h.map.lt),h.ts.keep (fun i hi=>k1 i (h.ts.in i hi)) s,h.ne,h.ng,h.nm,fun x=>?_⟩
 rcases h.lists x with q|⟨q,v,b,q1,q2,q3⟩
 ·exact .inl q
 ·exact .inr ⟨q,v,b,q1,q2.keep (k1 b (is_lt q2 q)) s,q3⟩
theorem Gq.next(h:Gq w g m tg cf S M n cnt f FT Bk)(k:Below w.heap.size w w'):Gq w' g m tg cf S M n cnt f FT Bk:=h.keep (fun i hi=>k.block i hi) k.size
theorem Gq.few(h:Gq w g m tg cf S M n cnt f FT Bk):n≤1048576:=h.ts.few
theorem Gq.has(h:Gq w g m tg cf S M n cnt f FT Bk){x:ByteArray}(hn:S x≠[]):∃ v b,f x=some v∧Sl.Is Pn.k w v (S x) b∧b≠g∧b≠m∧¬FT b∧Bk b:=by
 rcases h.lists x with q|q
 ·exact absurd q.1 hn
 ·exact q.2
theorem Gq.mapped{c':Nat}{f':ByteArray→Option Value}{x:ByteArray}{v:Option Value}{L:List Pn}(h:Gq w g m tg cf S M n cnt f FT Bk)(h1:Mp w' m f' c')(k:w.grownBy w' (some m))(hq:upd f x v f')
  (hb:∀ b,Bk b→Bk' b) (hl:(L=[]∧v=none)∨(L≠[]∧∃ u b,v=some u∧Sl.Is Pn.k w' u L b∧b≠g∧b≠m∧¬FT b∧Bk' b)):Gq w' g m tg cf (S.set x L) M n c' f' FT Bk':=by
 have ne:∀ i,i≠m→some i≠some m:=fun i hi e=>hi (Option.some.inj e)
 have st:∀ {u:Value} {L:List Pn} {b:Nat},L≠[]→Sl.Is Pn.k w u L b→b≠m→Sl.Is Pn.k w' u L b:=fun hn hi hb=>hi.keep (k.block _ (is_lt hi hn) (ne _ hb)) k.size
 refine⟨(k.block _ h.lies.lt (ne _ h.ne)).trans h.lies,h1,h.ts.keep (fun i hi=>k.block i (h.ts.in i hi) (ne _ fun e=>h.nm (e▸hi))) k.size,h.ne,h.ng,h.nm,fun y=>?_⟩
 by_cases e:y=x
 ·subst e
  rw[set_same,hq.1];rcases hl with q|⟨q,u,b,q1,q2,q3,q4,q5⟩
  ·exact .inl q
  ·exact .inr ⟨q,u,b,q1,q2,q3,q4,q5⟩
 ·rw[set_other _ _ e,hq.2 y e]
  rcases h.lists y with q|⟨q,u,b,q1,q2,q3,q4,q5⟩
  ·exact .inl q
  ·exact .inr ⟨q,u,b,q1,st q q2 q4,q3,q4,q5.1,hb _ q5.2⟩
theorem grown_over{w1 W:World}{j:Nat}(K:Below w.heap.size w w')(G1:w'.grownBy w1 (some m))(K4:w1.grownBy W (some j))(hj:w.heap.size≤j):w.grownBy W (some m):=
 ⟨K4.os.trans (G1.os.trans K.os),K4.tape.trans (G1.tape.trans K.tape),K4.output.trans (G1.output.trans K.output),Nat.le_trans K.size (Nat.le_trans G1.size K4.size),fun i hi hn=>
  (K4.block i (Nat.lt_of_lt_of_le hi (Nat.le_trans K.size G1.size)) (fun e=>by have:=Option.some.inj e;omega)).trans ((G1.block i (Nat.lt_of_lt_of_le hi K.size) hn).trans (K.block i hi))⟩
theorem Gq.timed{n':Nat}{M':Tmr.Tm→Prop}{FT':Nat→Prop}(h:Gq w g m tg cf S M n cnt f FT Bk)(h1:Tmr.Ts w' tg n' M' FT')(k:Moves FT FT' w w'):Gq w' g m tg cf S M' n' cnt f FT' Bk:=by
 have nn:∀ i,i<w.heap.size→¬FT i→¬FT' i:=fun i hi hn q=>by
  rcases (k.new i q).1 with r|r
  ·exact hn r
  ·omega
 refine⟨(k.block _ h.lies.lt h.ng).trans h.lies,h.map.kept (k.block _ h.map.lt h.nm),h1,h.ne,nn _ h.lies.lt h.ng,nn _ h.map.lt h.nm,fun y=>?_⟩
 rcases h.lists y with q|⟨q,u,b,q1,q2,q3,q4,q5⟩
 ·exact .inl q
 ·exact .inr ⟨q,u,b,q1,q2.keep (k.block _ (is_lt q2 q) q5.1) k.size,q3,q4,nn _ (is_lt q2 q) q5.1,q5.2⟩
theorem Gq.moves_map(h:Gq w g m tg cf S M n cnt f FT Bk)(k:w.grownBy w' (some m)):Moves (Fp g m FT) (Fp g m FT) w w':=
 ⟨k.os,k.tape,k.output,k.size,fun i hi hn=>k.block i hi (fun e=>hn (.inr (.inl (Option.some.inj e)))),fun i hi=>⟨.inl hi,Nat.lt_of_lt_of_le (h.in i hi) k.size⟩⟩
theorem Gq.moves_ts(h:Gq w g m tg cf S M n cnt f FT Bk)(k:Moves FT F' w w'):Moves (Fp g m FT) (Fp g m F') w w':=
 ⟨k.os,k.tape,k.output,k.size,fun i hi hn=>k.block i hi (fun e=>hn (.inr (.inr e))),fun i hi=>by
  rcases hi with rfl|rfl|hi
  ·exact⟨.inl (.inl rfl),Nat.lt_of_lt_of_le h.lies.lt k.size⟩
  ·exact⟨.inl (.inr (.inl rfl)),Nat.lt_of_lt_of_le h.map.lt k.size⟩
  ·exact⟨(k.new i hi).1.elim (fun q=>.inl (.inr (.inr q))) .inr,(k.new i hi).2⟩⟩
theorem Gq.beside{b:Nat}(h:Gq w g m tg cf S M n cnt f FT Bk)(k:w.grownBy w' (some b))(h1:b≠g)(h2:b≠m)(h3:¬FT b)(h4:¬Bk b):Gq w' g m tg cf S M n cnt f FT Bk:=by
 have ne:∀ i,i≠b→some i≠some b:=fun i hi e=>hi (Option.some.inj e)
 refine⟨(k.block _ h.lies.lt (ne _ h1.symm)).trans h.lies,h.map.kept (k.block _ h.map.lt (ne _ h2.symm)),h.ts.keep (fun i hi=>k.block i (h.ts.in i hi) (ne _ fun e=>h3 (e▸hi))) k.size,h.ne,h.ng,h.nm,fun y=>?_⟩
 rcases h.lists y with q|⟨q,u,i,q1,q2,q3,q4,q5,q6⟩
 ·exact .inl q
 ·exact .inr ⟨q,u,i,q1,q2.keep (k.block _ (is_lt q2 q) (ne _ fun e=>h4 (e▸q6))) k.size,q3,q4,q5,q6⟩
end
end Grp
end Go.Proofs.YtfjlnniahfbdfaaGreat
