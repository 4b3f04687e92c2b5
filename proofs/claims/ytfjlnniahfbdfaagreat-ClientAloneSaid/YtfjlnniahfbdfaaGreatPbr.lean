/- A part of the proof. -/
import Derived.Test.YtfjlnniahfbdfaaGreatPbo
import Derived.Test.YtfjlnniahfbdfaaGreatPbq
set_option linter.unusedVariables false
set_option maxHeartbeats 4000000
namespace Go.Proofs.YtfjlnniahfbdfaaGreat
open Go.ChangeShapes Go.WideShapes Go.ChangeAt Go.RowKit
set_option maxRecDepth 100000
namespace Fm
open Small Foot
section
variable {w0 w w':World} {R R':Nat→Nat→Prop} {T:Nat→Prop}
theorem Fam.set(h:Fam w0 w R)(k:Moves (fun b=>∃ i,T i∧R i b) (fun b=>∃ i,T i∧R' i b) w w')(e:∀ i,¬T i→R' i=R i)(a:∀ i j,T i→T j→i≠j→Apart (R' i) (R' j)):Fam w0 w' R'∧On T R w R' w':=by
 have lo:From w0.heap.size (fun b=>∃ i,T i∧R i b):=fun b ⟨i,_,hb⟩=>h.lo i b hb
 have far:∀ i j,T i→¬T j→Apart (R' i) (R j):=fun i j ti tj b hb q=>k.apart (G:=R j) (fun c ⟨l,tl,hc⟩ qc=>h.ap l j (fun x=>tj (x▸tl)) c hc qc) (h.in_ j) b ⟨i,ti,hb⟩ q
 refine⟨⟨fun i=>?_,fun i=>?_,fun i j hij=>?_,h.below.trans (k.below lo h.below.size)⟩,k.size,fun i hi=>⟨e i hi,fun b hb=>k.block b (h.in_ i b hb) fun ⟨j,tj,q⟩=>h.ap j i (fun x=>hi (x▸tj)) b q hb⟩,fun b hb hn=>⟨k.block b hb fun ⟨i,_,q⟩=>hn i q,fun i q=>?_⟩⟩
 ·by_cases t:T i
  ·exact fun b hb=>k.in b ⟨i,t,hb⟩
  ·rw[e i t];exact (h.in_ i).next k.size
 ·by_cases t:T i
  ·exact fun b hb=>k.from lo h.below.size b ⟨i,t,hb⟩
  ·rw[e i t];exact h.lo i
 ·by_cases t:T i
  ·by_cases u:T j
   ·exact a i j t u hij
   ·rw[e j u];exact far i j t u
  ·rw[e i t]
   by_cases u:T j
   ·exact (far j i u t).symm
   ·rw[e j u];exact h.ap i j hij
 ·by_cases t:T i
  ·rcases (k.new b ⟨i,t,q⟩).1 with ⟨j,_,r⟩|r
   ·exact hn j r
   ·omega
  ·rw[e i t] at q;exact hn i q
end
end Fm
namespace Cn
open Small Foot Fm Ca Sh Sh.Sw Grp
def TW:Nat→Prop:=fun i=>i<16∨(24≤i∧i<40)
structure WM(c8:C8)(bs ws:List Nat)(p:Nat→Int→Option Nat)(q:Int→Option Nat)(S:Int→Lists)(N:Nat)(n:Int→Nat)(R:Nat→Nat→Prop)(w:World):Prop where
 len:ws.length=bs.length
 wk:∀ (j wk bx:Nat),ws[j]?=some wk→bs[j]?=some bx→∃ m,Lies w wk 121 (wcl c8 m bx)∧(∃ c,Mi w m (p j) c)∧wk≠m∧R (8+j)=fun b=>b=wk∨b=m
 dom:∀ j x,p j x≠none→0≤x∧x<16
 own:∀ j x a,p j x=some a→q x=some a
 one:∀ i j x,p i x≠none→p j x≠none→i=j
 grp:∀ x a,q x=some a→0≤x∧x<16∧Gr.Is w a (R (24+x.toNat)) c8 (S x) N (n x)
section
variable {w0 w w':World} {E:Ev} {s s':St} {R R':Nat→Nat→Prop} {c8:C8} {ws:List Nat} {p:Nat→Int→Option Nat} {q:Int→Option Nat} {S:Int→Lists} {N:Nat} {n:Int→Nat} {bs:List Nat}
theorem WM.keep(h:WM c8 bs ws p q S N n R w)(few:bs.length≤8)(z:w.heap.size≤w'.heap.size)(K:∀ i,(8≤i∧i<16)∨(24≤i∧i<40)→Kp R R' w w' i):WM c8 bs ws p q S N n R' w':=by
 refine⟨h.len,fun j wk bx h1 h2=>?_,h.dom,h.own,h.one,fun x a e=>?_⟩
 ·obtain⟨m,l,⟨c,mi⟩,ne,r⟩:=h.wk j wk bx h1 h2
  have hj:=(List.getElem?_eq_some_iff.1 h2).1
  obtain⟨k1,k2⟩:=K (8+j) (.inl (by omega))
  have kk:∀ b,(b=wk∨b=m)→w'.heap[b]?=w.heap[b]?:=fun b hb=>k2 b (by rw[r];exact hb)
  exact⟨m,(kk wk (.inl rfl)).trans l,⟨c,mi.kept (kk m (.inr rfl))⟩,ne,k1.trans r⟩
 ·obtain⟨x0,x1,g⟩:=h.grp x a e
  obtain⟨k1,k2⟩:=K (24+x.toNat) (.inr (by omega))
  exact⟨x0,x1,by rw[k1];exact g.keep k2 z⟩
theorem WM.next(h:WM c8 bs ws p q S N n R w)(few:bs.length≤8)(f:Fam w0 w R)(k:Below w.heap.size w w'):WM c8 bs ws p q S N n R w':=h.keep few k.size fun i _=>⟨rfl,fun b hb=>k.block b (f.in_ i b hb)⟩
theorem WM.on(h:WM c8 bs ws p q S N n R w)(few:bs.length≤8)(o:On TT R w R' w'):WM c8 bs ws p q S N n R' w':=h.keep few o.size fun i hi=>o.kp i fun t=>by
 unfold TT at t
 omega
theorem WM.view(h:WM c8 E.bs ws p q S N n R w)(c:CM w0 E s R w)(hc:E.cf=Md.cfOf c8){j wk bx:Nat}(h1:ws[j]?=some wk)(h2:E.bs[j]?=some bx):
  ∃ F,Sh.Sw.Is bx (s.sb j) w wk F c8 (p j) (s.L j)∧∀ b,F b↔R j b∨R (8+j) b:=by
 obtain⟨m,l,mi,ne,r⟩:=h.wk j wk bx h1 h2
 obtain⟨v,b,rb⟩:=c.box j bx h2
 rw[hc] at b
 have ap:∀ y,y=wk∨y=m→¬Bx.Fp bx v y:=fun y hy q=>c.fam.ap (8+j) j (by omega) y (by rw[r];exact hy) (by rw[rb];exact q)
 refine⟨WF wk m bx v,⟨m,v,⟨l,mi,b,h.dom j,ne,fun e=>ap wk (.inl rfl) (.inl e),fun e=>ap m (.inr rfl) (.inl e),fun e=>ap wk (.inl rfl) (.inr e),fun e=>ap m (.inr rfl) (.inr e)⟩,fun _=>Iff.rfl⟩,fun y=>?_⟩
 rw[rb,r]
 constructor
 ·rintro (e|e|e|e)
  ·exact .inr (.inl e)
  ·exact .inr (.inr e)
  ·exact .inl (.inl e)
  ·exact .inl (.inr e)
 ·rintro ((e|e)|(e|e))
  ·exact .inr (.inr (.inl e))
  ·exact .inr (.inr (.inr e))
  ·exact .inl e
  ·exact .inr (.inl e)
theorem WM.step(h:WM c8 E.bs ws p q S N n R w)(c:CM w0 E s R w)(hc:E.cf=Md.cfOf c8){j wk bx:Nat}(h1:ws[j]?=some wk)(h2:E.bs[j]?=some bx){F F':Nat→Prop}(hF:∀ b,F b↔R j b∨R (8+j) b)
  {p':Int→Option Nat} {L':List Ms.M} (hi:Sh.Sw.Is bx (s.sb j) w' wk F' c8 p' L') {X:Int→Prop} {FF':Int→Nat→Prop} (hX:∀ x,X x→q x≠none) (mv:Moves (fun b=>F b∨∃ x,X x∧R (24+x.toNat) b) (fun b=>F' b∨∃ x,X x∧FF' x b) w w')
  (a1:∀ x,X x→Apart F' (FF' x)) (a2:∀ x y,X x→X y→x≠y→Apart (FF' x) (FF' y)) {S':Int→Lists} {N':Nat} {n':Int→Nat} (hN:N≤N') (g1:∀ x a,X x→q x=some a→Gr.Is w' a (FF' x) c8 (S' x) N' (n' x)) (g2:∀ x,¬X x→S' x=S x∧n' x=n x)
  (own:∀ x a,p' x=some a→q x=some a) (one:∀ i x,i≠j→p' x≠none→p i x=none):
  ∃ R',CM w0 E {s with L:=fun i=>if i=j then L' else s.L i} R' w'∧On TW R w R' w'∧WM c8 E.bs ws (fun i=>if i=j then p' else p i) q S' N' n' R' w':=by
 classical
 obtain⟨m',bv',Q',hF'⟩:=hi
 have j8:=blt c h2
 have hx16:∀ x,X x→0≤x∧x<16:=fun x hx=>by
  cases e:q x with
  |none=>exact absurd e (hX x hx)
  |some a=>exact⟨(h.grp x a e).1,(h.grp x a e).2.1⟩
 obtain⟨R',hR'⟩:∃ R':Nat→Nat→Prop,R'=fun i=>if i=j then Bx.Fp bx bv' else if i=8+j then (fun b=>b=wk∨b=m') else if 24≤i∧i<40∧X ((i:Int)-24) then FF' ((i:Int)-24) else R i:=⟨_,rfl⟩
 have rj:R' j=Bx.Fp bx bv':=by rw[hR'];exact if_pos rfl
 have r8:R' (8+j)=fun b=>b=wk∨b=m':=by rw[hR'];show (if 8+j=j then _ else _)=_;rw[if_neg (by omega),if_pos rfl]
 have rX:∀ x,X x→R' (24+x.toNat)=FF' x:=fun x hx=>by
  obtain⟨x0,x1⟩:=hx16 x hx;have e:(((24+x.toNat:Nat):Int)-24)=x:=by omega
  rw[hR'];show (if 24+x.toNat=j then _ else _)=_
  rw[if_neg (by omega),if_neg (by omega),if_pos ⟨by omega,by omega,by rw[e];exact hx⟩,e]
 have rO:∀ i:Nat,i≠j→i≠8+j→¬(24≤i∧i<40∧X ((i:Int)-24))→R' i=R i:=fun i e1 e2 e3=>by
  rw[hR'];show (if i=j then _ else _)=_
  rw[if_neg e1,if_neg e2,if_neg e3]
 have back:∀ i:Nat,24≤i∧i<40∧X ((i:Int)-24)→∃ x,X x∧i=24+x.toNat:=fun i hi=>⟨_,hi.2.2,by omega⟩
 have fw:∀ b,F' b↔Bx.Fp bx bv' b∨(b=wk∨b=m'):=fun b=>by
  rw[hF']
  constructor
  ·rintro (e|e|e|e)
   ·exact .inr (.inl e)
   ·exact .inr (.inr e)
   ·exact .inl (.inl e)
   ·exact .inl (.inr e)
  ·rintro ((e|e)|(e|e))
   ·exact .inr (.inr (.inl e))
   ·exact .inr (.inr (.inr e))
   ·exact .inl e
   ·exact .inr (.inl e)
 have ap0:Apart (Bx.Fp bx bv') (fun b=>b=wk∨b=m'):=fun b hb hq=>by
  rcases hb with e1|e1<;>rcases hq with e2|e2
  ·exact Q'.n2 (e2.symm.trans e1)
  ·exact Q'.n3 (e2.symm.trans e1)
  ·exact Q'.n4 (e2▸e1)
  ·exact Q'.n5 (e2▸e1)
 have mv2:Moves (fun b=>∃ i,(i=j∨i=8+j∨(24≤i∧i<40∧X ((i:Int)-24)))∧R i b) (fun b=>∃ i,(i=j∨i=8+j∨(24≤i∧i<40∧X ((i:Int)-24)))∧R' i b) w w':=by
  have tw:∀ b,(F b∨∃ x,X x∧R (24+x.toNat) b)→∃ i,(i=j∨i=8+j∨(24≤i∧i<40∧X ((i:Int)-24)))∧R i b:=fun b hb=>by
   rcases hb with hb|⟨x,hx,hb⟩
   ·rcases (hF b).1 hb with hb|hb
    ·exact⟨j,.inl rfl,hb⟩
    ·exact⟨8+j,.inr (.inl rfl),hb⟩
   ·obtain⟨x0,x1⟩:=hx16 x hx
    have e:(((24+x.toNat:Nat):Int)-24)=x:=by omega
    exact⟨24+x.toNat,.inr (.inr ⟨by omega,by omega,by rw[e];exact hx⟩),hb⟩
  refine⟨mv.os,mv.tape,mv.output,mv.size,fun b hb hn=>mv.block b hb fun q=>hn (tw b q),fun b hb=>?_⟩
  obtain⟨i,hi,hb⟩:=hb
  have hb':F' b∨∃ x,X x∧FF' x b:=by
   rcases hi with e|e|hi
   ·subst e;rw[rj] at hb;exact .inl ((fw b).2 (.inl hb))
   ·subst e;rw[r8] at hb;exact .inl ((fw b).2 (.inr hb))
   ·obtain⟨x,hx,e⟩:=back i hi
    subst e;rw[rX x hx] at hb;exact .inr ⟨x,hx,hb⟩
  obtain⟨k1,k2⟩:=mv.new b hb';exact⟨k1.imp (tw b) id,k2⟩
 obtain⟨fam,on⟩:=c.fam.set (R':=R') mv2 (fun i hi=>rO i (fun e=>hi (.inl e)) (fun e=>hi (.inr (.inl e))) fun e=>hi (.inr (.inr e))) fun a b ha hb hab=>by
  have pair:∀ a b:Nat,(a=j∨a=8+j)→(24≤b∧b<40∧X ((b:Int)-24))→Apart (R' a) (R' b):=fun a b ha hb=>by
   obtain⟨x,hx,e⟩:=back b hb;subst e;rw[rX x hx];rcases ha with e|e
   ·subst e;rw[rj];exact fun y hy=>a1 x hx y ((fw y).2 (.inl hy))
   ·subst e;rw[r8];exact fun y hy=>a1 x hx y ((fw y).2 (.inr hy))
  rcases ha with e|e|ha<;>rcases hb with e'|e'|hb
  ·exact absurd (e.trans e'.symm) hab
  ·subst e;subst e';rw[rj,r8];exact ap0
  ·exact pair a b (.inl e) hb
  ·subst e;subst e';rw[rj,r8];exact ap0.symm
  ·exact absurd (e.trans e'.symm) hab
  ·exact pair a b (.inr e) hb
  ·exact (pair b a (.inl e') ha).symm
  ·exact (pair b a (.inr e') ha).symm
  ·obtain⟨x,hx,e⟩:=back a ha
   obtain⟨y,hy,e'⟩:=back b hb;subst e;subst e';rw[rX x hx,rX y hy];exact a2 x y hx hy fun e=>hab (by rw[e])
 have kp:∀ i:Nat,i≠j→i≠8+j→¬(24≤i∧i<40∧X ((i:Int)-24))→Kp R R' w w' i:=fun i e1 e2 e3=>on.kp i fun t=>by
  rcases t with t|t|t
  ·exact e1 t
  ·exact e2 t
  ·exact e3 t
 have kc:∀ i:Nat,16≤i→i<24→Kp R R' w w' i:=fun i i1 i2=>kp i (by omega) (by omega) fun e=>by omega
 have onW:On TW R w R' w':=on.more fun i hi=>by
  rcases hi with e|e|⟨e1,e2,-⟩
  ·exact .inl (by omega)
  ·exact .inl (by omega)
  ·exact .inr ⟨e1,e2⟩
 refine⟨R',⟨fam,c.few,fun i g e=>?_,(c.ktable (kc 16 (by omega) (by omega))).1,(c.ktable (kc 16 (by omega) (by omega))).2,(c.kctl (kc 17 (by omega) (by omega))).1,(c.kctl (kc 17 (by omega) (by omega))).2,c.kclient (kc 18 (by omega) (by omega)),fun r hr=>(c.reps r hr).on onW,c.now.on onW,c.khand (kc 19 (by omega) (by omega)),(c.klist (kc 21 (by omega) (by omega))).1,(c.klist (kc 21 (by omega) (by omega))).2⟩,onW,⟨h.len,fun i v b e1 e2=>?_,fun i x hx=>?_,fun i x a hx=>?_,fun i l x hx hy=>?_,fun x a e=>?_⟩⟩
 ·by_cases ij:i=j
  ·subst ij
   rw[h2] at e;cases e
   exact⟨bv',by rw[hc];show Ms.Box w' bx _ (s.sb i) bv' (if i=i then L' else s.L i);rw[if_pos rfl];exact Q'.box,rj⟩
  ·obtain⟨v,k1,k2⟩:=c.kbox (kp i ij (by have:=blt c e;omega) fun t=>by have:=blt c e;omega) g e
   refine⟨v,?_,k2⟩
   show Ms.Box w' g _ (s.sb i) v (if i=j then L' else s.L i)
   rw[if_neg ij];exact k1
 ·by_cases ij:i=j
  ·subst ij
   rw[h1] at e1;rw[h2] at e2;cases e1;cases e2
   refine⟨m',Q'.lies,?_,Q'.n1,r8⟩
   obtain⟨cc,mi⟩:=Q'.map;exact⟨cc,by rw[if_pos rfl];exact mi⟩
  ·obtain⟨m,l,⟨cc,mi⟩,ne,r⟩:=h.wk i v b e1 e2
   have:=(List.getElem?_eq_some_iff.1 e2).1
   have:=c.few;obtain⟨k1,k2⟩:=kp (8+i) (by omega) (by omega) fun t=>by omega
   have kk:∀ y,(y=v∨y=m)→w'.heap[y]?=w.heap[y]?:=fun y hy=>k2 y (by rw[r];exact hy)
   exact⟨m,(kk v (.inl rfl)).trans l,⟨cc,by rw[if_neg ij];exact mi.kept (kk m (.inr rfl))⟩,ne,k1.trans r⟩
 ·by_cases ij:i=j
  ·rw[if_pos ij] at hx;exact Q'.dom x hx
  ·rw[if_neg ij] at hx;exact h.dom i x hx
 ·by_cases ij:i=j
  ·rw[if_pos ij] at hx;exact own x a hx
  ·rw[if_neg ij] at hx;exact h.own i x a hx
 ·by_cases ij:i=j
  ·by_cases lj:l=j
   ·exact ij.trans lj.symm
   ·rw[if_pos ij] at hx
    rw[if_neg lj] at hy;exact absurd (one l x lj hx) hy
  ·by_cases lj:l=j
   ·rw[if_neg ij] at hx
    rw[if_pos lj] at hy;exact absurd (one i x ij hy) hx
   ·rw[if_neg ij] at hx
    rw[if_neg lj] at hy;exact h.one i l x hx hy
 ·obtain⟨x0,x1,g⟩:=h.grp x a e
  refine⟨x0,x1,?_⟩
  by_cases hx:X x
  ·rw[rX x hx];exact g1 x a hx e
  ·obtain⟨e1,e2⟩:=g2 x hx
   have ee:(((24+x.toNat:Nat):Int)-24)=x:=by omega
   obtain⟨k1,k2⟩:=kp (24+x.toNat) (by omega) (by omega) fun t=>hx (ee▸t.2.2)
   rw[k1,e1,e2];exact (g.keep k2 mv.size).more hN
end
end Cn
end Go.Proofs.YtfjlnniahfbdfaaGreat
