/- A part of the proof. -/
import Derived.Test.YtfjlnniahfbdfaaGreatPbb
import Derived.Test.YtfjlnniahfbdfaaGreatPbj
import Derived.Test.YtfjlnniahfbdfaaGreatPav
import Derived.BigQuiet
set_option linter.unusedVariables false
set_option maxHeartbeats 4000000
namespace Go.Proofs.YtfjlnniahfbdfaaGreat
open Lib (hid)
open Go.ChangeShapes Go.WideShapes Go.ChangeAt Go.RowKit
set_option maxRecDepth 100000
namespace Sh.Sw
open Small Foot Pane Grp Ca
abbrev wcl(x:C8)(m bx:Nat):List Value:=[.int .i64 x.k,.int .i64 x.s,.int .i64 x.l,.int .i64 x.g,.int .i64 x.z,.int .i64 x.h,.int .i64 x.r,.int .i64 x.c,.map (some m),.pointer (some ⟨bx,0,none⟩)]
structure Q(sd:Bool)(w:World)(wk m bx:Nat)(bv:Value)(cf:C8)(p:Int→Option Nat)(L:List Ms.M):Prop where
 lies:Lies w wk 121 (wcl cf m bx)
 map:∃ c,Mi w m p c
 box:Ms.Box w bx cf.c sd bv L
 dom:∀ x,p x≠none→0≤x∧x<16
 n1:wk≠m
 n2:wk≠bx
 n3:m≠bx
 n4:bv.ownBlock≠some wk
 n5:bv.ownBlock≠some m
def WF(wk m bx:Nat)(bv:Value):Nat→Prop:=fun k=>k=wk∨k=m∨k=bx∨bv.ownBlock=some k
def Is(bx:Nat)(sd:Bool)(w:World)(wk:Nat)(F:Nat→Prop)(cf:C8)(p:Int→Option Nat)(L:List Ms.M):Prop:=
 ∃ m bv,Q sd w wk m bx bv cf p L∧∀ k,F k↔WF wk m bx bv k
section
variable {w w':World} {sd:Bool} {wk m bx:Nat} {bv:Value} {F G G':Nat→Prop} {cf:C8} {p:Int→Option Nat} {L:List Ms.M}
theorem Q.keep(h:Q sd w wk m bx bv cf p L)(k:∀ i,WF wk m bx bv i→w'.heap[i]?=w.heap[i]?):Q sd w' wk m bx bv cf p L:=by
 obtain⟨c,hm⟩:=h.map
 exact⟨(k wk (.inl rfl)).trans h.lies,⟨c,hm.kept (k m (.inr (.inl rfl)))⟩,⟨(k bx (.inr (.inr (.inl rfl)))).trans h.box.lies,h.box.own.move fun a ha=>k a (.inr (.inr (.inr ha)))⟩,h.dom,h.n1,h.n2,h.n3,h.n4,h.n5⟩
theorem Q.in(h:Q sd w wk m bx bv cf p L):In w (WF wk m bx bv):=fun k hk=>by
 obtain⟨c,hm⟩:=h.map
 rcases hk with rfl|rfl|rfl|hk
 ·exact h.lies.lt
 ·exact hm.lt
 ·exact h.box.lies.lt
 ·exact (h.box.own.lt k hk).2
theorem Is.in(h:Is bx sd w wk F cf p L):In w F:=by
 obtain⟨m,bv,q,hF⟩:=h
 exact fun k hk=>q.in k ((hF k).1 hk)
theorem Is.keep(h:Is bx sd w wk F cf p L)(k:∀ i,F i→w'.heap[i]?=w.heap[i]?):Is bx sd w' wk F cf p L:=by
 obtain⟨m,bv,q,hF⟩:=h
 exact⟨m,bv,q.keep (fun i hi=>k i ((hF i).2 hi)),hF⟩
theorem Is.next(h:Is bx sd w wk F cf p L)(k:Below w.heap.size w w'):Is bx sd w' wk F cf p L:=h.keep fun i hi=>k.block i (h.in i hi)
theorem Is.beside(h:Is bx sd w wk F cf p L)(k:Moves G G' w w')(a:Apart F G):Is bx sd w' wk F cf p L:=h.keep fun i hi=>k.block i (h.in i hi) (a i hi)
theorem Is.dom(h:Is bx sd w wk F cf p L):∀ x,p x≠none→0≤x∧x<16:=by
 obtain⟨m,bv,q,hF⟩:=h
 exact q.dom
end
theorem wf_small{x:Int}(h:0≤x∧x<16):Wf x:=wf_of (by omega) (by omega)
theorem Q.boxed{w w':World}{sd:Bool}{wk m bx:Nat}{bv bv':Value}{cf:C8}{p:Int→Option Nat}{L L':List Ms.M}(h:Q sd w wk m bx bv cf p L)(o:Ms.Box w' bx cf.c sd bv' L')(k:Moves (Bx.Fp bx bv) (Bx.Fp bx bv') w w'):
  Q sd w' wk m bx bv' cf p L'∧Moves (WF wk m bx bv) (WF wk m bx bv') w w':=by
 obtain⟨c,hm⟩:=h.map
 have nk:∀ i,i<w.heap.size→i≠bx→bv.ownBlock≠some i→¬Bx.Fp bx bv i:=fun i _ h1 h2 q=>q.elim h1 h2
 have nk':∀ i,i<w.heap.size→i≠bx→bv.ownBlock≠some i→bv'.ownBlock≠some i:=fun i hi h1 h2 q=>by
  rcases (k.new i (.inr q)).1 with r|r
  ·exact r.elim h1 h2
  ·omega
 have l1:=h.lies.lt
 have l2:=hm.lt
 refine⟨⟨(k.block _ l1 (nk _ l1 h.n2 h.n4)).trans h.lies,⟨c,hm.kept (k.block _ l2 (nk _ l2 h.n3 h.n5))⟩,o,h.dom,h.n1,h.n2,h.n3,nk' _ l1 h.n2 h.n4,nk' _ l2 h.n3 h.n5⟩,k.os,k.tape,k.output,k.size,fun i hi hn=>k.block i hi fun q=>hn ?_,fun i hi=>?_⟩
 ·rcases q with q|q
  ·exact .inr (.inr (.inl q))
  ·exact .inr (.inr (.inr q))
 ·have up:∀ j,j<w.heap.size→j<w'.heap.size:=fun j hj=>Nat.lt_of_lt_of_le hj k.size
  rcases hi with rfl|rfl|hi|hi
  ·exact⟨.inl (.inl rfl),up _ l1⟩
  ·exact⟨.inl (.inr (.inl rfl)),up _ l2⟩
  ·have:=k.new i (.inl hi)
   exact⟨this.1.imp (fun q=>.inr (.inr q)) id,this.2⟩
  ·have:=k.new i (.inr hi)
   exact⟨this.1.imp (fun q=>.inr (.inr q)) id,this.2⟩
theorem Q.mapped{w w':World}{sd:Bool}{wk m bx:Nat}{bv:Value}{cf:C8}{p q:Int→Option Nat}{L:List Ms.M}{c':Nat}(h:Q sd w wk m bx bv cf p L)(o:Mi w' m q c')(k:w.grownBy w' (some m))(hd:∀ x,q x≠none→0≤x∧x<16):
  Q sd w' wk m bx bv cf q L∧Moves (WF wk m bx bv) (WF wk m bx bv) w w':=by
 have ne:∀ i,i≠m→some i≠some m:=fun i hi e=>hi (Option.some.inj e)
 refine⟨⟨(k.block _ h.lies.lt (ne _ h.n1)).trans h.lies,⟨_,o⟩,⟨(k.block _ h.box.lies.lt (ne _ h.n3.symm)).trans h.box.lies,h.box.own.move fun a ha=>k.block a (h.box.own.lt a ha).2 (ne _ fun e=>h.n5 (e▸ha))⟩,hd,h.n1,h.n2,h.n3,h.n4,h.n5⟩,k.os,k.tape,k.output,k.size,fun i hi hn=>k.block i hi fun e=>hn (.inr (.inl (Option.some.inj e))),fun i hi=>⟨.inl hi,Nat.lt_of_lt_of_le (h.in i hi) k.size⟩⟩
theorem groups_ok{bx:Nat}{sd:Bool}{wk:Nat}{F:Nat→Prop}{cf:C8}{p:Int→Option Nat}{L:List Ms.M}(w:World)(H:Hid (Is bx sd w wk F cf p L)):
  Calls Tryz.prog 101 #[gp wk] w fun r w'=>∃ v ks,r=.returned v∧KeysOf p ks∧Sl.Own Ik.k w.heap.size w' v ks∧Below w.heap.size w w':=by
 obtain⟨m,bv,q,hF⟩:=H.out
 obtain⟨c,hm⟩:=q.map
 have hc:=hm.small q.dom
 obtain⟨D,hown,hsz,hD⟩:=hm
 have c8:=q.lies.cell (i:=8) rfl
 have HO:=hid hown
 have HD:=hid hD
 have dom:=hid q.dom
 clear hown hD q
 go_enter Tryz.func101,Tryz.ntmps101
 go_wp2_with fail
 refine (KI.keys_call (some m) w).mono ?_
 rintro r w1 ⟨rfl,rfl⟩
 go_wp2_with fail
 refine (KI.sorted_call m c D RV w HO.out (by unfold maxLen;omega) (by omega)).mono ?_
 rintro r w2 ⟨v,ss,rfl,hp,hrow,-,hb⟩
 have FI:=hid (keys_fin HO.out HD.out (fun x hx=>wf_small (dom.out x hx)) hp)
 have RO:Hid (Sl.Own Ik.k w.heap.size w2 v (ss.mergeSort (fun x y=>decide (x≤y)))):=hid (by
  have h:=Gr.own_base (K:=Ik.k) (L:=ss.mergeSort (fun x y=>decide (x≤y))) (base:=(w.alloc (.cells #[.map (some m)] 119)).heap.size) (by unfold Sl.Own;rw[Ik.flat_enc,List.length_mergeSort];exact hrow) (Below.size (below1 w (.cells #[.map (some m)] 119)))
  exact h)
 have BE:=hid (after (below1 w (.cells #[.map (some m)] 119)) hb)
 clear hp hrow hb
 go_wp2
 go_ret
 exact⟨v,_,rfl,FI.out,RO.out,BE.out⟩
theorem wpList_store{w:World}{ops:Array Oper}{rest:List Oper}{o:Oper}{a:Act}{Q:Exit→Act→World→Prop}(hg:o.guard=none)(mo xo vo:Operand)(hop:o.op=Op.mapUpdate 119 mo xo vo)
  {m c:Nat} {p:Int→Option Nat} {x:Int} (v:Nat) (hm:a.eval mo=.map (some m)) (hx:a.eval xo=.int .i64 x) (hv:a.eval vo=gp v) (h:Mi w m p c) (fx:Wf x) (hc:c≤1048576) {q:Int→Option Nat} (hq:upd p x (some v) q)
  (hK:∀ w' c',Mi w' m q c'→w.grownBy w' (some m)→wpList Tryz.prog ops Q rest (a.put o.dst undef) w'):wpList Tryz.prog ops Q (o::rest) a w:=by
 refine wpList_plain hg fun K' hK'=>?_
 obtain⟨w',c',hrun,r1,-,r2⟩:=h.store fx v hc hq
 unfold Oper.wp
 simp[execOp,hop,hm,hx,hv,hrun,Result.andThen]
 exact hK' _ _ (hK w' c' r1 r2)
theorem have_ok{bx:Nat}{sd:Bool}{wk:Nat}{F:Nat→Prop}{cf:C8}{p:Int→Option Nat}{L:List Ms.M}(x:Int)(s:Option Nat)(w:World)(H:Hid (Is bx sd w wk F cf p L))(hx:0≤x∧x<16):
  Calls Tryz.prog 58 #[gp wk,.int .i64 x,Ms.stv s] w fun r w'=>r=.returned (.tuple #[])∧Is bx sd w' wk F cf (if s=none then p else updOf p x s) L∧Moves F F w w':=by
 cases s with
 |none=>
  go_enter Tryz.func58,Tryz.ntmps58;go_wp2;go_end0;exact⟨rfl,H.out,Moves.refl H.out.in⟩
 |some g=>
  obtain⟨m,bv,q,hF⟩:=H.out;obtain rfl:F=WF wk m bx bv:=funext fun k=>propext (hF k)
  obtain⟨c,hm⟩:=q.map;have hc:=hm.small q.dom;have c8:=q.lies.cell (i:=8) rfl;have HM:=hid hm;have HQ:=hid q;clear q hm hF H;go_enter Tryz.func58,Tryz.ntmps58
  go_wp2_with (first
   |(at_mapUpdate;refine wpList_store rfl _ _ _ rfl g rfl rfl rfl HM.out (wf_small hx) (by omega) (updOf_ok p x (some g)) ?_;intro w1 c1 o1 k1)
   |fail)
  have R:=hid (HQ.out.mapped o1 k1 fun y hy=>by
   by_cases e:y=x
   ·exact e▸hx
   ·exact HQ.out.dom y (by simpa [updOf,e] using hy))
  clear o1 k1;go_wp2;go_end0;exact⟨rfl,⟨m,bv,R.out.1,fun _=>Iff.rfl⟩,R.out.2⟩
end Sh.Sw
namespace Sh.Sw
open Small Foot Pane Grp Ca
structure Pool(w:World)(p:Int→Option Nat)(FF:Int→Nat→Prop)(cf:C8)(S:Int→Lists)(N:Nat)(n:Int→Nat):Prop where
 is:∀ x a,p x=some a→Gr.Is w a (FF x) cf (S x) N (n x)
 apart:∀ x y,x≠y→p x≠none→p y≠none→Apart (FF x) (FF y)
def UF(p:Int→Option Nat)(FF:Int→Nat→Prop):Nat→Prop:=fun i=>∃ x,p x≠none∧FF x i
inductive Mk(z mark:Int)(S:Int→Lists):List Int→List Pn→(Int→Lists)→Prop
 |nil:Mk z mark S [] [] S
 |snoc {ks:List Int} {k:Int} {O Ok:List Pn} {S1:Int→Lists} {T:Lists} (h:Mk z mark S ks O S1) (o:Outs z mark (S1 k) Ok T) (no:NoneOver z mark T):Mk z mark S (ks++[k]) (O++Ok) (fun j=>if j=k then T else S1 j)
section
variable {w w':World} {p:Int→Option Nat} {FF:Int→Nat→Prop} {cf:C8} {S:Int→Lists} {N:Nat} {n:Int→Nat} {G G':Nat→Prop}
theorem Pool.in(h:Pool w p FF cf S N n):In w (UF p FF):=fun i ⟨x,hx,hi⟩=>by
 obtain⟨a,ha⟩:=Option.ne_none_iff_exists'.1 hx
 exact (h.is x a ha).in i hi
theorem Pool.next(h:Pool w p FF cf S N n)(k:Below w.heap.size w w'):Pool w' p FF cf S N n:=⟨fun x a ha=>(h.is x a ha).next k,h.apart⟩
theorem Pool.beside(h:Pool w p FF cf S N n)(k:Moves G G' w w')(a:Apart G (UF p FF)):Pool w' p FF cf S N n:=
 ⟨fun x b hb=>(h.is x b hb).beside k fun i hi q=>a i q ⟨x,by rw[hb];simp,hi⟩,h.apart⟩
theorem Pool.row{r:Option Nat}(h:Pool w p FF cf S N n)(k:w.grownBy w' r)(hb:∀ b,r=some b→¬UF p FF b):Pool w' p FF cf S N n:=
 ⟨fun x a ha=>(h.is x a ha).keep (fun i hi=>k.block i ((h.is x a ha).in i hi) fun e=>hb i e.symm ⟨x,by rw[ha];simp,hi⟩) k.size,h.apart⟩
theorem Pool.one{x:Int}{a:Nat}{F':Nat→Prop}{T:Lists}{N' n':Nat}(h:Pool w p FF cf S N n)(hx:p x=some a)(G:Gr.Is w' a F' cf T N' n')(V:Moves (FF x) F' w w')(hN:N≤N'):
  Pool w' p (fun y=>if y=x then F' else FF y) cf (fun y=>if y=x then T else S y) N' (fun y=>if y=x then n' else n y)∧Moves (UF p FF) (UF p fun y=>if y=x then F' else FF y) w w':=by
 have hxn:p x≠none:=by rw[hx];simp
 have ap:∀ y,y≠x→p y≠none→Apart F' (FF y):=fun y hy hn=>by
  obtain⟨b,hb⟩:=Option.ne_none_iff_exists'.1 hn;exact V.apart (h.apart x y (Ne.symm hy) hxn hn) (h.is y b hb).in
 refine⟨⟨fun y b hb=>?_,fun y y' hne hy hy'=>?_⟩,V.os,V.tape,V.output,V.size,fun i hi hn=>V.block i hi fun q=>hn ⟨x,hxn,q⟩,fun i hi=>?_⟩
 ·by_cases e:y=x
  ·subst e
   rw[hx] at hb;obtain rfl:=Option.some.inj hb
   simpa using G
  ·simp only[e,if_false]
   exact ((h.is y b hb).beside V (h.apart y x e (by rw[hb];simp) hxn)).more hN
 ·by_cases e:y=x
  ·subst e
   rw[if_pos rfl,if_neg (Ne.symm hne)];exact ap y' (Ne.symm hne) hy'
  ·by_cases e':y'=x
   ·subst e'
    rw[if_pos rfl,if_neg e];exact (ap y e hy).symm
   ·rw[if_neg e,if_neg e']
    exact h.apart y y' hne hy hy'
 ·obtain⟨y,hy,hi⟩:=hi
  by_cases e:y=x
  ·subst e
   simp only[if_true] at hi;exact⟨(V.new i hi).1.imp (fun q=>⟨y,hy,q⟩) id,(V.new i hi).2⟩
  ·simp only[e,if_false] at hi
   obtain⟨b,hb⟩:=Option.ne_none_iff_exists'.1 hy;exact⟨.inl ⟨y,hy,hi⟩,Nat.lt_of_lt_of_le ((h.is y b hb).in i hi) V.size⟩
end
theorem keys_few{p:Int→Option Nat}{ks:List Int}(h:KeysOf p ks)(hd:∀ x,p x≠none→0≤x∧x<16):ks.length≤16:=by
 have:=List.Nodup.length_le_of_subset (l₁:=ks) (l₂:=(List.range 16).map fun k:Nat=>(k:Int)) (h.up.imp fun {a b} q e=>by omega) fun x hx=>by
  obtain⟨q1,q2⟩:=hd x ((h.mem x).1 hx);exact List.mem_map.2 ⟨x.toNat,List.mem_range.2 (by omega),by omega⟩
 rwa [List.length_map,List.length_range] at this
def Settled(bx:Nat)(sd:Bool)(w:World)(wk:Nat)(F:Nat→Prop)(FF:Int→Nat→Prop)(cf:C8)(p:Int→Option Nat)(L:List Ms.M)(S:Int→Lists)(N:Nat)(mark:Int)(r:Ending)(w':World):Prop:=
 ∃ sv ks O S' n' FF',r=.returned sv∧KeysOf p ks∧Mk cf.z mark S ks O S'∧O.length≤142080∧Is bx sd w' wk F cf p L∧Pool w' p FF' cf S' N n'∧Moves (UF p FF) (UF p FF') w w'∧Sl.Own Pn.k w.heap.size w' sv O
theorem settle_ok{bx:Nat}{sd:Bool}{wk N:Nat}{F:Nat→Prop}{FF:Int→Nat→Prop}{cf:C8}{p:Int→Option Nat}{L:List Ms.M}{S:Int→Lists}{n:Int→Nat}(mark:Int)(w:World)(H:Hid (Is bx sd w wk F cf p L))(P:Hid (Pool w p FF cf S N n))(A:Hid (Apart F (UF p FF)))
  (hN:N≤8880) (fz:Hid ((Lit.int .i64 cf.z).wf=true)) (fk:Hid ((Lit.int .i64 mark).wf=true)):
  Calls Tryz.prog 57 #[gp wk,.int .i64 mark] w (Settled bx sd w wk F FF cf p L S N mark):=by
 go_enter Tryz.func57,Tryz.ntmps57
 go_wp2_with fail
 refine (groups_ok w H).mono ?_
 rintro r w1 ⟨v,ks,rfl,hks,o1,k1⟩
 have hl16:=keys_few hks H.out.dom
 obtain⟨b,hbb,hI⟩:=o1.is
 obtain⟨A0,cp,hv⟩:=hI.len
 subst hv
 have KS:=hid hks
 have I1:=hid hI
 have H1:=hid (H.out.next k1)
 have P1:=hid (P.out.next k1)
 have K1:=hid k1
 have hb1:=hid hbb
 have Fin:=hid H.out.in
 have Uin:=hid P.out.in
 clear hks o1 hI k1 hbb
 go_wp2_with fail
 go_loopw [5,11] (fun so si wr=>∃ (k:Nat) (A:Option Addr) (cap:Nat) (O:List Pn) (S1:Int→Lists) (n1:Int→Nat) (FF1:Int→Nat→Prop),k≤ks.length∧si=.int .i64 k∧so=.slice A O.length cap∧O.length≤k*8880∧Hid (Mk cf.z mark S (ks.take k) O S1)∧Hid (Pool wr p FF1 cf S1 N n1)∧Hid (Moves (UF p FF) (UF p FF1) w1 wr)∧Hid (Sl.Own Pn.k w1.heap.size wr so O)∧Hid (∀ c,so.ownBlock=some c→¬UF p FF1 c)) (fun _ si _=>ks.length-(intOf si).toNat)
 case atStart=>exact⟨0,none,0,[],S,n,FF,by omega,rfl,rfl,by simp,hid (by rw[List.take_zero];exact .nil),P1,hid (.refl P1.out.in),hid (Sl.Own.nil _ _ _),hid (by intro c hc;cases hc)⟩
 case round=>
  obtain⟨k,A1,cap,O,S1,n1,FF1,hk,rfl,rfl,hO,MK,PL,MV,OW,NU⟩:=hrel;have s1:=MV.out.size;have Hr:Hid (Is bx sd wr wk F cf p L):=hid (H1.out.beside MV.out fun i hi q=>A.out i hi q)
  by_cases hlt:k<ks.length
  ·have i1:(k:Int)<ks.length:=by omega
   have i0:(0:Int)≤(k:Int):=by omega
   obtain⟨x,hx⟩:∃ x,ks[k]?=some x:=⟨_,List.getElem?_eq_getElem hlt⟩
   have hxm:=(KS.out.mem x).1 (List.mem_of_getElem? hx);obtain⟨a,ha⟩:=Option.ne_none_iff_exists'.1 hxm;have nb:¬UF p FF b:=fun q=>by have:=Uin.out b q;have:=hb1.out;omega
   have hcell:∃ off,A0=some ⟨b,off,none⟩∧wr.cell? ⟨b,off+k,none⟩=some (.int .i64 x):=by
    obtain⟨off,cap',e,-,-,hbl,hc⟩:=I1.out.some_ Ik.ok (by omega)
    simp only[Value.slice.injEq] at e;refine⟨off,e.1,?_⟩
    have:=hc k x hx 0 _ rfl;have hh:=MV.out.block b hbl nb;have:=(World.cell?_of_block (a:=⟨b,off+(k*Ik.k.k+0),none⟩) hh).trans this
    simpa using this
   obtain⟨off,rfl,hcell⟩:=hcell;obtain⟨m,bv,q,-⟩:=Hr.out;obtain⟨c,hm⟩:=q.map;have c8:=q.lies.cell (i:=8) rfl;have lk:=hm.look (wf_small (H.out.dom x hxm));rw[ha] at lk;have HX:=hid hx;have HA:=hid ha;clear hx ha q hm hxm;go_wp2_with fail
   refine (Gr.settle_ok mark _ (hid (PL.out.is x a HA.out)) hN fz fk).mono ?_
   rintro r w3 ⟨sv,Ok,T,n',F',rfl,ho,hno,hlen,G3,V3,o3,nn3⟩;have hnx:=(PL.out.is x a HA.out).few;have s3:=V3.size;have MK3:=hid (Mk.snoc MK.out ho hno);obtain⟨P3,M3⟩:=PL.out.one HA.out G3 V3 (Nat.le_refl _);have xn:p x≠none:=by rw[HA.out];simp
   have nbo:∀ c,(Value.slice A1 O.length cap).ownBlock=some c→c<wr.heap.size∧¬F' c:=fun c hc=>by
    have hl:=(OW.out.lt c hc).2;refine⟨hl,fun q=>?_⟩
    rcases (V3.new c q).1 with r|r
    ·exact NU.out c hc ⟨x,xn,r⟩
    ·omega
   have OW3:Hid (Sl.Own Pn.k w1.heap.size w3 (.slice A1 O.length cap) O):=hid (OW.out.move fun c hc=>V3.block c (OW.out.lt c hc).2 fun q=>NU.out c hc ⟨x,xn,q⟩)
   have NU3:Hid (∀ c,(Value.slice A1 O.length cap).ownBlock=some c→¬UF p (fun y=>if y=x then F' else FF1 y) c):=hid (fun c hc q=>by
    obtain⟨y,hy,q⟩:=q;by_cases e:y=x
    ·simp only[e,if_true] at q
     exact (nbo c hc).2 q
    ·simp only[e,if_false] at q
     exact NU.out c hc ⟨y,hy,q⟩)
   obtain⟨b3,-,i3⟩:=o3.is;obtain⟨A3,c3,rfl⟩:=i3.len;have P3:=hid P3;have M3:=hid (MV.out.trans M3);have I3:=hid i3;have hO3:O.length+Ok.length≤(k+1)*8880:=by omega
   clear ho hno G3 V3 o3 nn3 nbo i3;go_wp2_with (at_builtin;refine wpList_plain rfl fun K' hK'=>Sl.wp_append Pn.ok (.tmp 15) (.tmp 23) rfl (base:=w1.heap.size) (l:=O) (l2:=Ok) (b2:=b3) (by exact OW3.out) (by exact I3.out) (by omega) (by omega) (fun u w4 z1 z2 z3=>hK' _ _ ?_))
   obtain⟨bu,-,iu⟩:=z1.is;obtain⟨Au,cu,rfl⟩:=iu.len;have eq:ks.take (k+1)=ks.take k++[x]:=by rw[List.take_add_one,HX.out];rfl
   refine⟨⟨k+1,Au,cu,O++Ok,_,_,_,by omega,by go_num,rfl,by rw[List.length_append];exact hO3,hid (by rw[eq];exact MK3.out),hid (P3.out.row z2 NU3.out),hid (moves_grown M3.out z2 fun c hc=>(OW3.out.lt c hc).1),hid z1,hid fun c hc q=>?_⟩,by simp[intOf];omega⟩
   rcases z3 with e|e
   ·rw[e] at hc
    exact NU3.out c hc q
   ·rw[e] at hc
    have h1:=P3.out.in c q;have h2:=Option.some.inj hc;omega
  ·obtain rfl:k=ks.length:=by omega
   have i1:¬((ks.length:Int)<ks.length):=by omega
   rw[List.take_length] at MK;have V9:=hid ((Moves.of_below K1.out Uin.out).trans MV.out);have O9:=hid (Gr.own_base OW.out K1.out.size);have s9:=hid hl16;clear i1;go_wp2;go_ret;exact⟨_,ks,O,S1,n1,FF1,rfl,KS.out,MK.out,by have:=s9.out;omega,Hr.out,PL.out,V9.out,O9.out⟩
end Sh.Sw
namespace Sh.Sw
open Small Foot Pane Grp Ca Md
theorem ask_has{bx:Nat}{sd:Bool}{wk:Nat}{F:Nat→Prop}{cf:C8}{p:Int→Option Nat}{L:List Ms.M}(x:Cl)(mark:Int)(sh:Bool)(w:World)(H:Hid (Is bx sd w wk F cf p L))(hc:Hid (Md.cfOf cf).Fit)(hx:Hid x.Fit)(hk:Hid (kd x.op=true))(HM:Hid (mayC (Md.cfOf cf) x))(wg:Wf (grpOf cf.r x)){a N n:Nat}{Fg:Nat→Prop}{S:Lists}(HG:Hid (p (grpOf cf.r x)=some a))(hs:sh=false)(z:Option (Nat×Int×Int×Int))(G:Hid (Gr.Is w a Fg cf S N n))(hN:N≤8880)(M:Hid (Asg.may cf.k cf.s cf.l cf.g cf.z cf.h cf.r cf.c))(B:Hid (cf.s≤9223372036854775807∧cf.l≤9223372036854775807∧cf.g≤9223372036854775807∧cf.z≤9223372036854775807))(fk:Hid ((Lit.int .i64 mark).wf=true))(hkey:x.key.size≤maxLen)(T:Hid (Asg.Told cf.k cf.s cf.l cf.g cf.z x.t z)):
  Calls Tryz.prog 56 #[gp wk,x.val,.int .i64 mark,.bool sh] w fun r w'=>∃ rv ov code P O c S' n' F',r=.returned (.tuple #[.bool false,rep code rv,ov])∧MAsked cf S mark x z code P O c S'∧n'≤n+c∧P.length≤9000∧Gr.Is w' a F' cf S' (N+c) n'∧Moves Fg F' w w'∧Sl.Own Pn.k w.heap.size w' rv P∧Sl.Own Pn.k w.heap.size w' ov O:=by
 subst hs
 obtain⟨m,bv,q,hF⟩:=H.out
 obtain⟨c,hm⟩:=q.map
 have M1:=hid fun w=>Ca.may_ok (Md.cfOf cf) x w true (hid (by simp[HM.out])) hc.out hx.out
 have KD:=hid fun w=>(hk.out▸Ca.keyed_ok x w:Calls Tryz.prog 51 #[x.val] w fun r w'=>r=.returned (.bool true)∧Below w.heap.size w w')
 have GR:=hid fun w=>Ca.group_ok (Md.cfOf cf) x w hc.out hx.out
 obtain⟨gk,hgk⟩:∃ gk,gk=grpOf cf.r x:=⟨_,rfl⟩
 rw[←hgk] at wg HG
 have GK:=hid hgk
 have GR:Hid (∀ w,Calls Tryz.prog 99 #[(Md.cfOf cf).val,x.val] w fun r w'=>r=.returned (.int .i64 gk)∧Below w.heap.size w w'):=hid (by rw[GK.out];exact GR.out)
 clear hgk
 have ft:Hid ((Lit.int .i64 x.t).wf=true):=hid hx.out.2.2.1
 have HQ:=hid q
 have HM0:=hid hm
 obtain⟨op,key,t,v,e,u,s⟩:=x
 dsimp only at *
 have X0:=hid ((Lies.new w 46 [.int .i64 op,.string key,.int .i64 t,.int .i64 v,.int .i64 e,.int .i64 u,.int .i64 s]).next (below1 _ (Obj.cells #[.int .i64 0,.slice none 0 0] 43)))
 have y00:=Lies.new (w.alloc (Obj.cells #[.int .i64 op,.string key,.int .i64 t,.int .i64 v,.int .i64 e,.int .i64 u,.int .i64 s] 46)) 43 [.int .i64 0,.slice none 0 0]
 simp only[World.size_alloc] at y00
 have Y0:=hid y00
 have k00:=below2 w (Obj.cells #[.int .i64 op,.string key,.int .i64 t,.int .i64 v,.int .i64 e,.int .i64 u,.int .i64 s] 46) (Obj.cells #[.int .i64 0,.slice none 0 0] 43)
 have Q0:=hid (HQ.out.keep fun i hi=>k00.block i (HQ.out.in i hi))
 have MM0:=hid (HM0.out.next k00)
 have K0:=hid k00
 clear k00 y00 q hm
 go_enter Tryz.func56,Tryz.ntmps56
 go_upto_region 1 with fail
 generalize ((w.alloc (Obj.cells #[.int .i64 op,.string key,.int .i64 t,.int .i64 v,.int .i64 e,.int .i64 u,.int .i64 s] 46)).alloc (Obj.cells #[.int .i64 0,.slice none 0 0] 43))=w2 at X0 Y0 K0 Q0 MM0 ⊢
 have c0:=Later.cell (Q0.out.lies.cell (i:=0) rfl)
 have c1:=Later.cell (Q0.out.lies.cell (i:=1) rfl)
 have c2:=Later.cell (Q0.out.lies.cell (i:=2) rfl)
 have c3:=Later.cell (Q0.out.lies.cell (i:=3) rfl)
 have c4:=Later.cell (Q0.out.lies.cell (i:=4) rfl)
 have c5:=Later.cell (Q0.out.lies.cell (i:=5) rfl)
 have c6:=Later.cell (Q0.out.lies.cell (i:=6) rfl)
 have c7:=Later.cell (Q0.out.lies.cell (i:=7) rfl)
 have d0:=Later.cell (X0.out.cell (i:=0) rfl)
 have d1:=Later.cell (X0.out.cell (i:=1) rfl)
 have d2:=Later.cell (X0.out.cell (i:=2) rfl)
 have d3:=Later.cell (X0.out.cell (i:=3) rfl)
 have d4:=Later.cell (X0.out.cell (i:=4) rfl)
 have d5:=Later.cell (X0.out.cell (i:=5) rfl)
 have d6:=Later.cell (X0.out.cell (i:=6) rfl)
 refine wp_region_later (by kernel_rfl) (by kernel_rfl) ?_
 repeat (go_big_quiet_step (first
  |(go_at_call 51;with_reducible exact Later.call _ (KD.out _))
  |(go_at_call 49;with_reducible exact Later.call _ (M1.out _))))
 refine wpQuiet_nil ?_
 rintro _ ⟨u3,rfl⟩
 have B3:=hid u3.below
 generalize u3.w=w3 at B3 ⊢
 have Y3:=hid (Y0.out.next B3.out)
 have y0:=Y3.out.cell (i:=0) rfl
 have y1:=Y3.out.cell (i:=1) rfl
 have f0:=Y3.out.open_ 0
 have f1:=Y3.out.open_ 1
 clear c0 c1 c2 c3 c4 c5 c6 c7 d0 d1 d2 d3 d4 d5 d6
 have Q3:=hid (Q0.out.keep fun i hi=>B3.out.block i (Q0.out.in i hi))
 have M3:=hid (MM0.out.next B3.out)
 have X3:=hid (X0.out.next B3.out)
 have lk:∀ u:Later w3,(Instr.lookup 119 (.map (some m)) (.int .i64 gk) true).run Tryz.prog u.w=.ok (.tuple #[gp a,.bool true] ) u.w:=fun u=>by
  have:=(M3.out.next u.below).look_ok wg;rw[HG.out] at this;exact this
 clear y0 y1 f0 f1
 have c0:=Later.cell (Q3.out.lies.cell (i:=0) rfl)
 have c1:=Later.cell (Q3.out.lies.cell (i:=1) rfl)
 have c2:=Later.cell (Q3.out.lies.cell (i:=2) rfl)
 have c3:=Later.cell (Q3.out.lies.cell (i:=3) rfl)
 have c4:=Later.cell (Q3.out.lies.cell (i:=4) rfl)
 have c5:=Later.cell (Q3.out.lies.cell (i:=5) rfl)
 have c6:=Later.cell (Q3.out.lies.cell (i:=6) rfl)
 have c7:=Later.cell (Q3.out.lies.cell (i:=7) rfl)
 have c8:=Later.cell (Q3.out.lies.cell (i:=8) rfl)
 have d0:=Later.cell (X3.out.cell (i:=0) rfl)
 have d1:=Later.cell (X3.out.cell (i:=1) rfl)
 have d2:=Later.cell (X3.out.cell (i:=2) rfl)
 have d3:=Later.cell (X3.out.cell (i:=3) rfl)
 have d4:=Later.cell (X3.out.cell (i:=4) rfl)
 have d5:=Later.cell (X3.out.cell (i:=5) rfl)
 have d6:=Later.cell (X3.out.cell (i:=6) rfl)
 go_upto_region 3 with fail
 refine wp_region_later (by kernel_rfl) (by kernel_rfl) ?_
 repeat (go_big_quiet_step (first
  |(go_at_call 99;with_reducible exact Later.call _ (GR.out _))))
 refine wpQuiet_nil ?_
 rintro _ ⟨u4,rfl⟩
 have B4:=hid u4.below
 generalize u4.w=w4 at B4 ⊢
 have Y4:=hid (Y3.out.next B4.out)
 have X4:=hid (X3.out.next B4.out)
 have B34:=hid (after K0.out (after B3.out B4.out))
 clear lk c0 c1 c2 c3 c4 c5 c6 c7 c8 d0 d1 d2 d3 d4 d5 d6
 have x0:=X4.out.cell (i:=0) rfl
 have x1:=X4.out.cell (i:=1) rfl
 have x2:=X4.out.cell (i:=2) rfl
 have x3:=X4.out.cell (i:=3) rfl
 have x4:=X4.out.cell (i:=4) rfl
 have x5:=X4.out.cell (i:=5) rfl
 have x6:=X4.out.cell (i:=6) rfl
 have G4:=hid (G.out.next B34.out)
 go_wp2_with fail
 refine (Md.keyed_ok ⟨op,key,t,v,e,u,s⟩ mark z w4 G4 hN M B ft fk hkey T).mono ?_
 rintro r w5 ⟨rv,ov,code,P,O,c',S',n',F',rfl,ma,hn',hP,G5,V5,o5,oo5⟩
 obtain⟨Av,nv,cv,rfl⟩:=Md.lit o5
 obtain⟨Bv,mv,ev,rfl⟩:=Md.lit oo5
 have hw:=hid HQ.out.in
 have nF:¬F' (w.heap.size+1):=fun q=>by
  rcases (V5.new _ q).1 with r|r
  ·have:=G.out.in _ r;omega
  ·have:=Y4.out.lt;omega
 have Y5:=hid (V5.lies (fun q=>by have:=G.out.in _ q;omega) Y4.out)
 have G5:=hid G5
 have V5:=hid V5
 have O5:=hid (And.intro o5 oo5)
 have R5:=hid (And.intro ma (And.intro hn' (And.intro hP nF)))
 clear o5 oo5 ma hn' hP nF x0 x1 x2 x3 x4 x5 x6
 go_upto_region 9 with fail
 have k6:=below1 w5 (Obj.cells #[.int .i64 code,.slice Av nv cv] 43)
 have Z6:=hid (Lies.new w5 43 [.int .i64 code,.slice Av nv cv])
 have Y6:=hid (Y5.out.next k6)
 have G6:=hid (G5.out.next k6)
 have V6:=hid (V5.out.trans (Moves.of_below k6 G5.out.in))
 have O6:=hid (And.intro (O5.out.1.next k6) (O5.out.2.next k6))
 clear k6
 generalize hg13:w5.heap.size=g13 at Z6 ⊢
 generalize w5.alloc (Obj.cells #[.int .i64 code,.slice Av nv cv] 43)=w6 at Z6 Y6 G6 V6 O6 ⊢
 have z0:=Z6.out.cell (i:=0) rfl
 have z1:=Z6.out.cell (i:=1) rfl
 have y0:=Y6.out.cell (i:=0) rfl
 have y1:=Y6.out.cell (i:=1) rfl
 have f0:=Y6.out.open_ 0
 have f1:=Y6.out.open_ 1
 clear hg13
 go_region
 all_goals
  have Z:=(Y6.out.put 0 (.int .i64 code)).put 1 (.slice Av nv cv);have q0:=Z.cell (i:=0) rfl;have q1:=Z.cell (i:=1) rfl;have k9:=put_two (w:=w6) (gy:=w.heap.size+1) (a:=.int .i64 0) (b:=.int .i64 0) (.int .i64 code) (.slice Av nv cv);have k9:w6.grownBy ((w6.setCell ⟨w.heap.size+1,0,none⟩ (.int .i64 code)).setCell ⟨w.heap.size+1,1,none⟩ (.slice Av nv cv)).drew (some (w.heap.size+1)):=⟨k9.os,k9.tape,k9.output,k9.size,k9.block⟩;have s4:w.heap.size≤w4.heap.size:=B34.out.size;have y4:=Y4.out.lt;obtain⟨ma,hn',hP,nF⟩:=R5.out;have V9:=moves_grown ((Moves.of_below B34.out G.out.in).trans V6.out) k9 (fun b e=>by have:=Option.some.inj e;omega)
  go_wp2_with fail
  exact bodyPost_ret (v:=.tuple #[.bool false,rep code (.slice Av nv cv),.slice Bv mv ev]) (by simp[results,Tryz.results56,go_sem,q0,q1]) rfl
   ⟨_,_,code,P,O,c',S',n',F',rfl,ma,hn',hP,G6.out.grown k9 nF,V9,Gr.own_base (Gr.own_grown O6.out.1 k9 (by omega)) s4,Gr.own_base (Gr.own_grown O6.out.2 k9 (by omega)) s4⟩
end Sh.Sw
end Go.Proofs.YtfjlnniahfbdfaaGreat
