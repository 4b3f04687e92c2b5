/- A part of the proof. -/
import Derived.Test.YtfjlnniahfbdfaaGreatPbk
import Derived.Test.YtfjlnniahfbdfaaGreatPbs
set_option linter.unusedVariables false
set_option maxHeartbeats 4000000
namespace Go.Proofs.YtfjlnniahfbdfaaGreat
open Lib (hid)
open Go.ChangeShapes Go.WideShapes Go.ChangeAt Go.RowKit
set_option maxRecDepth 100000
namespace Cn
open Small Foot Fm Ca Rel RelG
abbrev C8:=Grp.C8
section
variable {w0 w w':World} {R R':Nat→Nat→Prop} {c8:C8} {bs ws:List Nat} {p:Nat→Int→Option Nat} {q:Int→Option Nat} {bx wk:Nat}
theorem WM.made{k:Nat}{pk:Int→Option Nat}{FF:Int→Nat→Prop}{F:Nat→Prop}(h:WM c8 bs ws p q (fun _ _=>[]) 0 (fun _=>0) R w)(f:Fam w0 w R)(hk:bs.length=k)(k8:k<8)
  (r1:R k=none0) (r2:R (8+k)=none0) (r3:∀ x,pk x≠none→R (24+x.toNat)=none0)
  (hi:Sh.Sw.Is bx false w' wk F c8 pk []) (P:Sh.Sw.Pool w' pk FF c8 (fun _ _=>[]) 0 (fun _=>0)) (a:Apart F (Sh.Sw.UF pk FF)) (f1:From w.heap.size F) (f2:From w.heap.size (Sh.Sw.UF pk FF)) (b:Below w.heap.size w w')
  (disj:∀ i x,pk x≠none→p i x=none):
  ∃ R' bv,Fam w0 w' R'∧On (fun i=>i=k∨i=8+k∨(24≤i∧i<40)) R w R' w'∧(Ms.Box w' bx c8.c false bv []∧R' k=Bx.Fp bx bv)∧(∀ i:Nat,i≠k→i≠8+k→¬(24≤i∧i<40∧pk ((i:Int)-24)≠none)→R' i=R i)∧
    WM c8 (bs++[bx]) (ws++[wk]) (fun i=>if i=k then pk else p i) (fun x=>if pk x=none then q x else pk x) (fun _ _=>[]) 0 (fun _=>0) R' w':=by
 have hin:=hi.in
 have dom:=hi.dom
 obtain⟨m',bv',Q',hF'⟩:=hi
 obtain⟨R',hR'⟩:∃ R':Nat→Nat→Prop,R'=fun i=>if i=k then Bx.Fp bx bv' else if i=8+k then (fun b=>b=wk∨b=m') else if 24≤i∧i<40∧pk ((i:Int)-24)≠none then FF ((i:Int)-24) else R i:=⟨_,rfl⟩
 have rj:R' k=Bx.Fp bx bv':=by rw[hR'];exact if_pos rfl
 have r8:R' (8+k)=fun b=>b=wk∨b=m':=by rw[hR'];show (if 8+k=k then _ else _)=_;rw[if_neg (by omega),if_pos rfl]
 have rX:∀ x,pk x≠none→R' (24+x.toNat)=FF x:=fun x hx=>by
  obtain⟨x0,x1⟩:=dom x hx;have e:(((24+x.toNat:Nat):Int)-24)=x:=by omega
  rw[hR'];show (if 24+x.toNat=k then _ else _)=_
  rw[if_neg (by omega),if_neg (by omega),if_pos ⟨by omega,by omega,by rw[e];exact hx⟩,e]
 have rO:∀ i:Nat,i≠k→i≠8+k→¬(24≤i∧i<40∧pk ((i:Int)-24)≠none)→R' i=R i:=fun i e1 e2 e3=>by
  rw[hR'];show (if i=k then _ else _)=_
  rw[if_neg e1,if_neg e2,if_neg e3]
 have back:∀ i:Nat,24≤i∧i<40∧pk ((i:Int)-24)≠none→∃ x,pk x≠none∧i=24+x.toNat:=fun i hi=>⟨_,hi.2.2,by omega⟩
 have fw:∀ b,F b↔Bx.Fp bx bv' b∨(b=wk∨b=m'):=fun b=>by
  rw[hF']
  constructor
  ·rintro (e|e|e|e)
   ·exact .inr (.inl e)
   ·exact .inr (.inr e)
   ·exact .inl (.inl e)
   ·exact .inl (.inr e)
  ·rintro ((e|e)|(e|e))
   ·exact .inr (.inr (.inl e))
   ·exact .inr (.inr (.inr e))
   ·exact .inl e
   ·exact .inr (.inl e)
 have ap0:Apart (Bx.Fp bx bv') (fun b=>b=wk∨b=m'):=fun b hb hq=>by
  rcases hb with e1|e1<;>rcases hq with e2|e2
  ·exact Q'.n2 (e2.symm.trans e1)
  ·exact Q'.n3 (e2.symm.trans e1)
  ·exact Q'.n4 (e2▸e1)
  ·exact Q'.n5 (e2▸e1)
 have mv:Moves (fun b=>∃ i:Nat,(i=k∨i=8+k∨(24≤i∧i<40∧pk ((i:Int)-24)≠none))∧R i b) (fun b=>∃ i:Nat,(i=k∨i=8+k∨(24≤i∧i<40∧pk ((i:Int)-24)≠none))∧R' i b) w w':=by
  refine⟨b.os,b.tape,b.output,b.size,fun j hj _=>b.block j hj,fun j hj=>?_⟩
  obtain⟨i,hi,hj⟩:=hj;rcases hi with e|e|hi
  ·subst e;rw[rj] at hj;have:=(fw j).2 (.inl hj);exact⟨.inr (f1 j this),hin j this⟩
  ·subst e;rw[r8] at hj;have:=(fw j).2 (.inr hj);exact⟨.inr (f1 j this),hin j this⟩
  ·obtain⟨x,hx,e⟩:=back i hi
   subst e;rw[rX x hx] at hj;have:Sh.Sw.UF pk FF j:=⟨x,hx,hj⟩;exact⟨.inr (f2 j this),P.in j this⟩
 obtain⟨fam,on⟩:=f.set (R':=R') mv (fun i hi=>rO i (fun e=>hi (.inl e)) (fun e=>hi (.inr (.inl e))) fun e=>hi (.inr (.inr e))) fun x y ha hb hab=>by
  have pair:∀ a1 b1:Nat,(a1=k∨a1=8+k)→(24≤b1∧b1<40∧pk ((b1:Int)-24)≠none)→Apart (R' a1) (R' b1):=fun a1 b1 ha hb=>by
   obtain⟨x,hx,e⟩:=back b1 hb;subst e;rw[rX x hx];rcases ha with e|e
   ·subst e;rw[rj];exact fun y hy hq=>a y ((fw y).2 (.inl hy)) ⟨x,hx,hq⟩
   ·subst e;rw[r8];exact fun y hy hq=>a y ((fw y).2 (.inr hy)) ⟨x,hx,hq⟩
  rcases ha with e|e|ha<;>rcases hb with e'|e'|hb
  ·exact absurd (e.trans e'.symm) hab
  ·subst e;subst e';rw[rj,r8];exact ap0
  ·exact pair x y (.inl e) hb
  ·subst e;subst e';rw[rj,r8];exact ap0.symm
  ·exact absurd (e.trans e'.symm) hab
  ·exact pair x y (.inr e) hb
  ·exact (pair y x (.inl e') ha).symm
  ·exact (pair y x (.inr e') ha).symm
  ·obtain⟨u,hu,e⟩:=back x ha
   obtain⟨v,hv,e'⟩:=back y hb;subst e;subst e';rw[rX u hu,rX v hv];exact P.apart u v (fun e=>hab (by rw[e])) hu hv
 have kp:∀ i:Nat,i≠k→i≠8+k→¬(24≤i∧i<40∧pk ((i:Int)-24)≠none)→Kp R R' w w' i:=fun i e1 e2 e3=>on.kp i fun t=>by
  rcases t with t|t|t
  ·exact e1 t
  ·exact e2 t
  ·exact e3 t
 have lw:ws.length=k:=h.len.trans hk
 refine⟨R',bv',fam,on.more fun i hi=>?_,⟨Q'.box,rj⟩,rO,⟨by simp[h.len],fun i v c e1 e2=>?_,fun i x hx=>?_,fun i x a hx=>?_,fun i l x hx hy=>?_,fun x a e=>?_⟩⟩
 ·rcases hi with e|e|⟨e1,e2,-⟩
  ·exact .inl e
  ·exact .inr (.inl e)
  ·exact .inr (.inr ⟨e1,e2⟩)
 ·by_cases ik:i<k
  ·rw[List.getElem?_append_left (by omega)] at e1
   rw[List.getElem?_append_left (by omega)] at e2
   obtain⟨m,l,⟨cc,mi⟩,ne,r⟩:=h.wk i v c e1 e2;obtain⟨k1,k2⟩:=kp (8+i) (by omega) (by omega) fun t=>by omega
   have kk:∀ y,(y=v∨y=m)→w'.heap[y]?=w.heap[y]?:=fun y hy=>k2 y (by rw[r];exact hy)
   exact⟨m,(kk v (.inl rfl)).trans l,⟨cc,by rw[if_neg (by omega)];exact mi.kept (kk m (.inr rfl))⟩,ne,k1.trans r⟩
  ·have hl2:=(List.getElem?_eq_some_iff.1 e2).1
   simp only[List.length_append,List.length_singleton] at hl2;obtain rfl:i=k:=by omega
   rw[List.getElem?_append_right (by omega),lw] at e1
   rw[List.getElem?_append_right (by omega),hk] at e2
   simp at e1 e2;subst e1;subst e2;obtain⟨cc,mi⟩:=Q'.map;exact⟨m',Q'.lies,⟨cc,by rw[if_pos rfl];exact mi⟩,Q'.n1,r8⟩
 ·by_cases ik:i=k
  ·rw[if_pos ik] at hx;exact dom x hx
  ·rw[if_neg ik] at hx;exact h.dom i x hx
 ·by_cases ik:i=k
  ·rw[if_pos ik] at hx;rw[if_neg (by rw[hx];simp)];exact hx
  ·rw[if_neg ik] at hx
   have:pk x=none:=by
    cases e:pk x with
    |none=>rfl
    |some d=>have:=disj i x (by rw[e];simp);rw[hx] at this;cases this
   rw[if_pos this];exact h.own i x a hx
 ·by_cases ik:i=k
  ·by_cases lk:l=k
   ·exact ik.trans lk.symm
   ·rw[if_pos ik] at hx;rw[if_neg lk] at hy
    exact absurd (disj l x hx) hy
  ·by_cases lk:l=k
   ·rw[if_neg ik] at hx;rw[if_pos lk] at hy
    exact absurd (disj i x hy) hx
   ·rw[if_neg ik] at hx;rw[if_neg lk] at hy
    exact h.one i l x hx hy
 ·by_cases hx:pk x=none
  ·rw[if_pos hx] at e
   obtain⟨x0,x1,g⟩:=h.grp x a e;have ee:(((24+x.toNat:Nat):Int)-24)=x:=by omega
   obtain⟨k1,k2⟩:=kp (24+x.toNat) (by omega) (by omega) fun t=>t.2.2 (by rw[ee];exact hx)
   exact⟨x0,x1,by rw[k1];exact g.keep k2 b.size⟩
  ·rw[if_neg hx] at e
   obtain⟨x0,x1⟩:=dom x hx;exact⟨x0,x1,by rw[rX x hx];exact P.is x a e⟩
end
structure BN(w0:World)(cf:Cf)(c8:C8)(gc b g0 g1 ge:Nat)(wv bv:Value)(ws bs:List Nat)(p:Nat→Int→Option Nat)(q:Int→Option Nat)(R:Nat→Nat→Prop)(w:World):Prop where
 fam:Fam w0 w R
 box:∀ (i g:Nat),bs[i]?=some g→∃ v,Ms.Box w g cf.c false v []∧R i=Bx.Fp g v
 rest:∀ i,bs.length≤i→i<8→R i=none0∧R (8+i)=none0
 gone:∀ x:Int,0≤x→x<16→q x=none→R (24+x.toNat)=none0
 own:∀ i x,p i x≠none↔(i<bs.length∧0≤x∧x<cf.r∧x%cf.h=i)
 had:∀ x,q x≠none→∃ i,p i x≠none
 wm:WM c8 bs ws p q (fun _ _=>[]) 0 (fun _=>0) R w
 same:ws.length=bs.length
 few:bs.length≤8
 table:Ow.Is w b cf.h (M0 cf)
 r16:R 16=Ow.Fp b
 ctl:Ct.Is w gc (-9223372036854775808) 0 false false
 r17:R 17=Ct.Fp gc
 r18:R 18=none0
 r19:R 19=none0
 wl:Sl.Own Wk w0.heap.size w wv ws
 r20:R 20=fun j=>wv.ownBlock=some j
 bl:Sl.Own Pk w0.heap.size w bv bs
 r21:R 21=fun j=>bv.ownBlock=some j
 cfg:Lies w g0 23 (Sh.fcl cf)
 r50:R 50=fun j=>j=g0
 ans:Lies w g1 32 [.int .i64 0,.int .i64 0,.int .i64 0,.int .i64 0,.int .i64 0,.int .i64 0,.int .i64 0,.int .i64 0,.pointer none,.pointer none,.slice none 0 0]
 r51:R 51=fun j=>j=g1
 env:Lies w ge 32 (ecl cf gc b bv)
 r52:R 52=fun j=>j=ge
section
variable {w0 w w':World} {cf:Cf} {c8:C8} {gc b g0 g1 ge:Nat} {wv bv wv' bv':Value} {ws bs:List Nat} {p:Nat→Int→Option Nat} {q:Int→Option Nat} {R R':Nat→Nat→Prop} {i g wk:Nat}
theorem BN.next(h:BN w0 cf c8 gc b g0 g1 ge wv bv ws bs p q R w)(k:Below w.heap.size w w'):BN w0 cf c8 gc b g0 g1 ge wv bv ws bs p q R w':=
 ⟨h.fam.next k,fun i g e=>by
  obtain⟨v,b,r⟩:=h.box i g e;exact⟨v,b.next k,r⟩,h.rest,h.gone,h.own,h.had,h.wm.next h.few h.fam k,h.same,h.few,h.table.next k,h.r16,Lies.next h.ctl k,h.r17,h.r18,h.r19,h.wl.next k,h.r20,h.bl.next k,h.r21,h.cfg.next k,h.r50,h.ans.next k,h.r51,h.env.next k,h.r52⟩
end
theorem begunw_start{cf:Cf}{c8:C8}{w W w1 w2 w3:World}{g b gc ge:Nat}(hg:w.heap.size=g)(k0:Below w.heap.size w W)(c0:Lies W g 23 (Sh.fcl cf))(a0:Lies W (g+1) 32 [.int .i64 0,.int .i64 0,.int .i64 0,.int .i64 0,.int .i64 0,.int .i64 0,.int .i64 0,.int .i64 0,.pointer none,.pointer none,.slice none 0 0])
  (t1:Ow.Is w1 b cf.h (M0 cf)) (k1:Below w.heap.size w w1) (s1:w.heap.size≤b∧g+1<b∧b+1<w1.heap.size) (hW:W.heap.size=b) (kW:Below W.heap.size W w1) (kb:Below w1.heap.size w1 w2) (ne:gc≠ge) (c3:Ct.Is w2 gc (-9223372036854775808) 0 false false)
  (z4:Lies w2 ge 32 [.int .i64 0,.int .i64 0,.int .i64 0,.int .i64 0,.int .i64 0,.int .i64 0,.int .i64 0,.int .i64 0,.pointer none,.pointer none,.slice none 0 0]) (l3:w1.heap.size≤gc) (l4:w1.heap.size≤ge) (z1:Lies w3 ge 32 (ecl cf gc b (.slice none 0 0))) (z2:w2.grownBy w3 (some ge)):
  ∃ R,BN w cf c8 gc b g (g+1) ge (.slice none 0 0) (.slice none 0 0) [] [] (fun _ _=>none) (fun _=>none) R w3:=by
 have f0:Fam w w (fun _=>none0):=⟨fun i b hb=>hb.elim,fun i b hb=>hb.elim,fun i j _ b hb=>hb.elim,Below.refl _ _⟩
 have f1:=f0.two (i:=50) (j:=51) (F':=fun j=>j=g) (G':=fun j=>j=g+1) (by decide) ⟨k0.os,k0.tape,k0.output,k0.size,fun j hj _=>k0.block j hj,fun j hj=>by
  rcases hj with rfl|rfl
  ·exact⟨.inr (by omega),c0.lt⟩
  ·exact⟨.inr (by omega),a0.lt⟩⟩ (fun j h1 h2=>by omega)
 have f2:=f1.one (i:=16) (F':=Ow.Fp b) (made_moves (by rfl) kW (fun j hj=>by rcases hj with rfl|rfl<;>omega) t1.in)
 have f3:=f2.two (i:=17) (j:=52) (F':=Ct.Fp gc) (G':=fun j=>j=ge) (by decide) ⟨kb.os,kb.tape,kb.output,kb.size,fun j hj _=>kb.block j hj,fun j hj=>by
  rcases hj with h|h
  ·rw[show j=gc from h];exact⟨.inr l3,c3.lt⟩
  ·rw[show j=ge from h];exact⟨.inr l4,z4.lt⟩⟩ (fun j h1 h2=>ne ((show j=gc from h1).symm.trans h2))
 have V:Moves (fun j=>j=ge) (fun j=>j=ge) w2 w3:=⟨z2.os,z2.tape,z2.output,z2.size,fun j hj hn=>z2.block j hj fun e=>hn (Option.some.inj e),fun j hj=>⟨.inl hj,by rw[show j=ge from hj];exact z1.lt⟩⟩
 have f4:=f3.one (i:=52) (F':=fun j=>j=ge) V
 have st:∀ j,j<w2.heap.size→j≠ge→w3.heap[j]?=w2.heap[j]?:=fun j hj hn=>z2.block j hj fun e=>hn (Option.some.inj e)
 have b1:=(kb.size)
 have nn:∀ i:Nat,i≠16→i≠17→i≠50→i≠51→i≠52→(rset (rset (rset (rset (rset (rset (fun _=>none0) 50 fun j=>j=g) 51 fun j=>j=g+1) 16 (Ow.Fp b)) 17 (Ct.Fp gc)) 52 fun j=>j=ge) 52 fun j=>j=ge) i=none0:=fun i a1 a2 a3 a4 a5=>by
  show (if i=52 then _ else if i=52 then _ else if i=17 then _ else if i=16 then _ else if i=51 then _ else if i=50 then _ else none0)=none0
  rw[if_neg a5,if_neg a5,if_neg a2,if_neg a1,if_neg a4,if_neg a3]
 refine⟨_,f4,fun i g e=>by simp at e,fun i _ h8=>⟨nn i (by omega) (by omega) (by omega) (by omega) (by omega),nn _ (by omega) (by omega) (by omega) (by omega) (by omega)⟩,fun x x0 x1 _=>nn _ (by omega) (by omega) (by omega) (by omega) (by omega),fun i x=>by simp,fun x hx=>absurd rfl hx,⟨rfl,fun j wk bx e=>by simp at e,fun j x hx=>absurd rfl hx,fun j x a hx=>(by cases hx),fun i j x hx=>absurd rfl hx,fun x a e=>(by cases e)⟩,rfl,by simp,⟨(st _ (by omega) (by omega)).trans (t1.next kb).lies,(st _ (by omega) (by omega)).trans (t1.next kb).rows⟩,rfl,(st _ c3.lt ne).trans c3,rfl,rfl,rfl,Sl.Own.nil _ _ _,own_nil.symm,Sl.Own.nil _ _ _,own_nil.symm,(st _ (by have:=c0.lt;omega) (by have:=c0.lt;omega)).trans ((c0.next kW).next kb),rfl,(st _ (by have:=a0.lt;omega) (by have:=a0.lt;omega)).trans ((a0.next kW).next kb),rfl,z1,rfl⟩
theorem BN.push{w0 wr w5 w6 w7 w8 w9:World}{cf:Cf}{c8:C8}{gc b g0 g1 ge bx wk:Nat}{wv bv wv' bv':Value}{ws bs:List Nat}{p:Nat→Int→Option Nat}{q pk:Int→Option Nat}{FF:Int→Nat→Prop}{F:Nat→Prop}{R:Nat→Nat→Prop}(h:BN w0 cf c8 gc b g0 g1 ge wv bv ws bs p q R wr)(hcf:cf=Md.cfOf c8)(hl:bs.length<8)(k5:Below wr.heap.size wr w5)
  (hi:Sh.Sw.Is bx false w5 wk F c8 pk []) (PL:Sh.Sw.Pool w5 pk FF c8 (fun _ _=>[]) 0 (fun _=>0)) (ap:Apart F (Sh.Sw.UF pk FF)) (f1:From wr.heap.size F) (f2:From wr.heap.size (Sh.Sw.UF pk FF)) (hp:∀ x,pk x≠none↔(0≤x∧x<cf.r∧x%cf.h=bs.length)) (k6:Below w5.heap.size w5 w6)
  (z1:Sl.Own Wk w0.heap.size w7 wv' (ws++[wk])) (z2:w6.grownBy w7 wv.ownBlock) (z3:wv'.ownBlock=wv.ownBlock∨wv'.ownBlock=some w6.heap.size) (k8:Below w7.heap.size w7 w8) (y1:Sl.Own Pk w0.heap.size w9 bv' (bs++[bx])) (y2:w8.grownBy w9 bv.ownBlock) (y3:bv'.ownBlock=bv.ownBlock∨bv'.ownBlock=some w8.heap.size):
  ∃ R' p' q',BN w0 cf c8 gc b g0 g1 ge wv' bv' (ws++[wk]) (bs++[bx]) p' q' R' (w9.setCell ⟨ge,10,none⟩ bv'):=by
 have disj:∀ i x,pk x≠none→p i x=none:=fun i x hx=>by
  cases e:p i x with
  |none=>rfl
  |some a=>
   have h1:=(h.own i x).1 (by rw[e];simp)
   have h2:=(hp x).1 hx;omega
 have gone:∀ x,pk x≠none→R (24+x.toNat)=none0:=fun x hx=>by
  have:=hi.dom x hx;refine h.gone x this.1 this.2 ?_
  cases e:q x with
  |none=>rfl
  |some a=>
   obtain⟨i,hi⟩:=h.had x (by rw[e];simp)
   exact absurd (disj i x hx) hi
 have dom:=hi.dom
 obtain⟨R5,bvx,f5,o5,⟨m5,r5⟩,rs5,wm5⟩:=h.wm.made h.fam rfl hl (h.rest _ (Nat.le_refl _) hl).1 (h.rest _ (Nat.le_refl _) hl).2 gone hi PL ap f1 f2 k5 disj
 have rs:∀ j:Nat,16≤j→(j<24∨40≤j)→R5 j=R j:=fun j h1 h2=>rs5 j (by omega) (by omega) (fun t=>by omega)
 have f6:=f5.next k6
 have V7:Moves (R5 20) (fun j=>wv'.ownBlock=some j) w6 w7:=by
  rw[rs 20 (by omega) (by omega),h.r20]
  exact⟨z2.os,z2.tape,z2.output,z2.size,fun j hj hn=>z2.block j hj fun e=>hn e.symm,fun j hj=>⟨by
   rcases z3 with e|e
   ·exact .inl (e▸hj)
   ·rw[e] at hj;exact .inr (by have:=Option.some.inj hj;omega),(z1.lt j hj).2⟩⟩
 have f7:=f6.one V7
 have f8:=f7.next k8
 have V9:Moves (rset (R5) 20 (fun j=>wv'.ownBlock=some j) 21) (fun j=>bv'.ownBlock=some j) w8 w9:=by
  rw[rset_ne _ _ (by decide),rs 21 (by omega) (by omega),h.r21]
  exact⟨y2.os,y2.tape,y2.output,y2.size,fun j hj hn=>y2.block j hj fun e=>hn e.symm,fun j hj=>⟨by
   rcases y3 with e|e
   ·exact .inl (e▸hj)
   ·rw[e] at hj;exact .inr (by have:=Option.some.inj hj;omega),(y1.lt j hj).2⟩⟩
 have f9:=f8.one V9
 have hge:R 52 ge:=by rw[h.r52]
 have lge:ge<w9.heap.size:=by
  have:=h.env.lt;have:=k5.size;have:=k6.size;have:=z2.size;have:=k8.size;have:=y2.size;omega
 have g10:=grown_set w9 ge 10 bv'
 have V10:Moves (rset (rset (R5) 20 (fun j=>wv'.ownBlock=some j)) 21 (fun j=>bv'.ownBlock=some j) 52) (fun j=>j=ge) w9 (w9.setCell ⟨ge,10,none⟩ bv'):=by
  rw[rset_ne _ _ (by decide),rset_ne _ _ (by decide),rs 52 (by omega) (by omega),h.r52]
  exact⟨g10.os,g10.tape,g10.output,g10.size,fun j hj hn=>g10.block j hj fun e=>hn (Option.some.inj e),fun j hj=>⟨.inl hj,by rw[show j=ge from hj];simpa using lge⟩⟩
 have f10:=f9.one V10
 have o10:On (fun j=>j=52) _ w9 _ (w9.setCell ⟨ge,10,none⟩ bv'):=On.one f9 V10 rfl
 have o9:On (fun j=>j=21∨j=52) _ w7 _ (w9.setCell ⟨ge,10,none⟩ bv'):=((On.below f7 k8).trans (On.one f8 V9 (.inl rfl))).trans (o10.more fun i hi=>.inr hi)
 have o7:On (fun j=>j=20∨j=21∨j=52) _ w5 _ (w9.setCell ⟨ge,10,none⟩ bv'):=((On.below f5 k6).trans (On.one f6 V7 (.inl rfl))).trans (o9.more fun i hi=>.inr hi)
 have oo:On (fun j=>(j=bs.length∨j=8+bs.length∨(24≤j∧j<40))∨j=20∨j=21∨j=52) R wr _ (w9.setCell ⟨ge,10,none⟩ bv'):=(o5.more fun i hi=>.inl hi).trans (o7.more fun i hi=>.inr hi)
 have oe:On (fun j=>(j=bs.length∨j=8+bs.length∨(24≤j∧j<40))∨j=20∨j=21) R wr _ w9:=((o5.more fun i hi=>.inl hi).trans ((On.below f5 k6).trans (On.one f6 V7 (.inr (.inl rfl))))).trans ((On.below f7 k8).trans (On.one f8 V9 (.inr (.inr rfl))))
 have K:=fun j (hj:¬((j=bs.length∨j=8+bs.length∨(24≤j∧j<40))∨j=20∨j=21∨j=52))=>oo.kp j hj
 have le:∀ {i g:Nat},bs[i]?=some g→i<bs.length:=fun e=>(List.getElem?_eq_some_iff.1 e).1
 refine⟨_,_,_,f10,fun i g e=>?_,fun i hi h8=>?_,fun x x0 x1 hq=>?_,fun i x=>?_,fun x hx=>?_,wm5.keep (by simp;omega) o7.size fun i hi=>o7.kp i (by omega),by simp[h.same],by simp;omega,?_,(K 16 (by omega)).1.trans h.r16,((K 17 (by omega)).2 _ (by rw[h.r17])).trans h.ctl,(K 17 (by omega)).1.trans h.r17,(K 18 (by omega)).1.trans h.r18,(K 19 (by omega)).1.trans h.r19,?_,?_,?_,?_,((K 50 (by omega)).2 _ (by rw[h.r50])).trans h.cfg,(K 50 (by omega)).1.trans h.r50,((K 51 (by omega)).2 _ (by rw[h.r51])).trans h.ans,(K 51 (by omega)).1.trans h.r51,?_,rset_same _ _ _⟩
 ·by_cases hi:i<bs.length
  ·rw[List.getElem?_append_left hi] at e
   obtain⟨v,bb,rr⟩:=h.box i g e;have kk:=K i (by omega)
   exact⟨v,⟨(kk.2 g (by rw[rr];exact .inl rfl)).trans bb.lies,bb.own.move fun a ha=>kk.2 a (by rw[rr];exact .inr ha)⟩,kk.1.trans rr⟩
  ·have hl2:=(List.getElem?_eq_some_iff.1 e).1
   simp only[List.length_append,List.length_singleton] at hl2;obtain rfl:i=bs.length:=by omega
   rw[List.getElem?_append_right (Nat.le_refl _)] at e
   simp at e;subst e;have kk:=o7.kp bs.length (by omega)
   have ec:cf.c=c8.c:=by rw[hcf]
   rw[ec];exact⟨bvx,⟨(kk.2 bx (by rw[r5];exact .inl rfl)).trans m5.lies,m5.own.move fun a ha=>kk.2 a (by rw[r5];exact .inr ha)⟩,kk.1.trans r5⟩
 ·simp only[List.length_append,List.length_singleton] at hi
  exact⟨(K i (by omega)).1.trans (h.rest i (by omega) h8).1,(K (8+i) (by omega)).1.trans (h.rest i (by omega) h8).2⟩
 ·by_cases hx:pk x=none
  ·rw[if_pos hx] at hq
   have ee:(((24+x.toNat:Nat):Int)-24)=x:=by omega
   exact (o7.kp (24+x.toNat) (by omega)).1.trans ((rs5 _ (by omega) (by omega) fun t=>t.2.2 (by rw[ee];exact hx)).trans (h.gone x x0 x1 hq))
  ·rw[if_neg hx] at hq;exact absurd hq hx
 ·simp only[List.length_append,List.length_singleton]
  by_cases e:i=bs.length
  ·rw[if_pos e,hp x]
   constructor
   ·rintro⟨a1,a2,a3⟩;exact⟨by omega,a1,a2,by rw[e];exact a3⟩
   ·rintro⟨-,a1,a2,a3⟩;exact⟨a1,a2,by rw[e] at a3;exact a3⟩
  ·rw[if_neg e,h.own i x]
   constructor
   ·rintro⟨a0,a1⟩;exact⟨by omega,a1⟩
   ·rintro⟨a0,a1⟩;exact⟨by omega,a1⟩
 ·by_cases e:pk x=none
  ·rw[if_pos e] at hx
   obtain⟨i,hi⟩:=h.had x hx;have:=((h.own i x).1 hi).1;exact⟨i,by rw[if_neg (by omega)];exact hi⟩
  ·exact⟨bs.length,by rw[if_pos rfl];exact e⟩
 ·exact⟨((K 16 (by omega)).2 _ (by rw[h.r16];exact .inr rfl)).trans h.table.lies,((K 16 (by omega)).2 _ (by rw[h.r16];exact .inl rfl)).trans h.table.rows⟩
 ·have kk:=o9.kp 20 (by omega)
  rw[Kp,rset_same] at kk;exact z1.move fun a ha=>kk.2 a ha
 ·have kk:=o9.kp 20 (by omega)
  rw[Kp,rset_same] at kk;exact kk.1
 ·have kk:=o10.kp 21 (by omega)
  rw[Kp,rset_same] at kk;exact y1.move fun a ha=>kk.2 a ha
 ·have kk:=o10.kp 21 (by omega)
  rw[Kp,rset_same] at kk;exact kk.1
 ·have l9:=((oe.kp 52 (by omega)).2 ge hge).trans h.env
  exact Lies.put l9 10 bv'
structure BG(w0:World)(cf:Cf)(c8:C8)(gc b:Nat)(wv bv:Value)(ws bs:List Nat)(p:Nat→Int→Option Nat)(q:Int→Option Nat)(R:Nat→Nat→Prop)(w:World):Prop where
 fam:Fam w0 w R
 box:∀ (i g:Nat),bs[i]?=some g→∃ v,Ms.Box w g cf.c false v []∧R i=Bx.Fp g v
 own:∀ i x,p i x≠none↔(i<bs.length∧0≤x∧x<cf.r∧x%cf.h=i)
 had:∀ x,q x≠none→∃ i,p i x≠none
 wm:WM c8 bs ws p q (fun _ _=>[]) 0 (fun _=>0) R w
 same:ws.length=bs.length
 few:bs.length≤8
 table:Ow.Is w b cf.h (M0 cf)
 r16:R 16=Ow.Fp b
 ctl:Ct.Is w gc (-9223372036854775808) 0 false false
 r17:R 17=Ct.Fp gc
 r18:R 18=none0
 r19:R 19=none0
 wl:Sl.Own Wk w0.heap.size w wv ws
 r20:R 20=fun j=>wv.ownBlock=some j
 bl:Sl.Own Pk w0.heap.size w bv bs
 r21:R 21=fun j=>bv.ownBlock=some j
theorem BN.fin{w0 w w':World}{cf:Cf}{c8:C8}{gc b g0 g1 ge:Nat}{wv bv:Value}{ws bs:List Nat}{p:Nat→Int→Option Nat}{q:Int→Option Nat}{R:Nat→Nat→Prop}(h:BN w0 cf c8 gc b g0 g1 ge wv bv ws bs p q R w)(k:w.grownBy w' (some g1)):BG w0 cf c8 gc b wv bv ws bs p q R w':=by
 have V:Moves (R 51) (R 51) w w':=by
  rw[h.r51];exact⟨k.os,k.tape,k.output,k.size,fun j hj hn=>k.block j hj fun e=>hn (Option.some.inj e),fun j hj=>⟨.inl hj,by rw[show j=g1 from hj];exact Nat.lt_of_lt_of_le h.ans.lt k.size⟩⟩
 have f:=h.fam.one V
 rw[rset_self] at f
 have K:=fun j (hj:j≠51)=>h.fam.kept V hj
 refine⟨f,fun i g e=>?_,h.own,h.had,h.wm.keep h.few k.size fun i hi=>⟨rfl,K i (by omega)⟩,h.same,h.few,⟨(K 16 (by decide) _ (by rw[h.r16];exact .inr rfl)).trans h.table.lies,(K 16 (by decide) _ (by rw[h.r16];exact .inl rfl)).trans h.table.rows⟩,h.r16,(K 17 (by decide) _ (by rw[h.r17])).trans h.ctl,h.r17,h.r18,h.r19,h.wl.move fun a ha=>K 20 (by decide) a (by rw[h.r20];exact ha),h.r20,h.bl.move fun a ha=>K 21 (by decide) a (by rw[h.r21];exact ha),h.r21⟩
 obtain⟨v,bb,rr⟩:=h.box i g e
 have hi:=(List.getElem?_eq_some_iff.1 e).1
 have:=h.few
 have kk:=K i (by omega)
 exact⟨v,⟨(kk g (by rw[rr];exact .inl rfl)).trans bb.lies,bb.own.move fun a ha=>kk a (by rw[rr];exact .inr ha)⟩,rr⟩
def BegunW(w:World)(cf:Cf)(c8:C8)(r:Ending)(w':World):Prop:=
 ∃ (gc b:Nat) (wA:Option Addr) (wn wc:Nat) (ba:Option Addr) (bn bc:Nat) (bs ws:List Nat) (p:Nat→Int→Option Nat) (q:Int→Option Nat) (R:Nat→Nat→Prop),r=.returned (.tuple #[.agg (ecl cf gc b (.slice ba bn bc)).toArray,.slice wA wn wc,.bool true])∧BG w cf c8 gc b (.slice wA wn wc) (.slice ba bn bc) ws bs p q R w'∧(bs.length:Int)=cf.h∧wn=ws.length
theorem ints_sw{w:World}{v:Value}{gs:List Int}(h:Sh.Ints w v gs):Sh.Sw.Ints w v gs:=h
theorem neww_ok{cf:Cf}{c8:C8}(hcf:cf=Md.cfOf c8)(gs:List Int)(gv:Value)(w:World)(H:Hid (Sh.Sw.Ints w gv gs))(hn:gs.length≤maxLen)(M:Hid cf.may)(s1:cf.s≤9223372036854775807):
  Calls Tryz.prog 41 #[cf.val,gv] w fun r w'=>∃ wk bx F p FF,r=.returned (.tuple #[gp wk,.nilIface])∧Sh.Sw.Is bx false w' wk F c8 p []∧Sh.Sw.Pool w' p FF c8 (fun _ _=>[]) 0 (fun _=>0)∧Apart F (Sh.Sw.UF p FF)∧From w.heap.size F∧From w.heap.size (Sh.Sw.UF p FF)∧Below w.heap.size w w'∧∀ x,p x≠none↔(0≤x∧x<c8.r∧x∈gs):=by
 subst hcf
 exact Sh.Sw.new_any c8 gs gv w H hn M s1
theorem boxw_at{wk m bx:Nat}{c8:C8}(w:World)(H:Lies w wk 121 (Sh.Sw.wcl c8 m bx)):Calls Tryz.prog 43 #[gp wk] w fun r w'=>r=.returned (gp bx)∧w=w':=by
 have m9:=H.cell (i:=9) rfl
 clear H
 go_enter Tryz.func43,Tryz.ntmps43
 go_wp2
 go_ret
 exact⟨rfl,rfl⟩
theorem stepw_box{ops:Array Oper}{o:Oper}{a:Act}{w:World}{Kc:Act→World→Prop}{Qq:Exit→Act→World→Prop}{El:Prop}{wk m bx:Nat}{c8:C8}(hgd:o.guard=none)(x:Operand)(hop:o.op=Op.call {callee:=Callee.value (.func 43),args:=#[x],argTypes:=#[59]})(hx:a.eval x=gp wk)(h:Lies w wk 121 (Sh.Sw.wcl c8 m bx))(hK:Kc (a.put o.dst (gp bx)) w):
  if Region.wanted o (yielded ops a.tmps)=true then Oper.wp Tryz.prog o a w Kc Qq else El:=by
 have hw:Region.wanted o (yielded ops a.tmps)=true:=by simp[Region.wanted,hgd]
 rw[if_pos hw]
 refine wp_call (S:=fun u w2=>u=gp bx∧w=w2) hop #[gp wk] (by simp[hx]) (fun _ _=>enters Tryz.func43 (by kernel_rfl) rfl _ _) ((boxw_at w h).mono (fun e w2 ⟨h1,h2⟩=>⟨_,h1,rfl,h2⟩)) ?_
 rintro u w2 ⟨rfl,rfl⟩
 exact hK
theorem owned{cf:Cf}{r:Int}{k n:Nat}{pk:Int→Option Nat}(hp:∀ x,pk x≠none↔(0≤x∧x<r∧x∈(Ow.own (M0 cf) (k:Int) (M0 cf).length).map fun x:Nat=>(x:Int)))(hr:r=cf.r)(hl:n=k)(hm:(1≤cf.h∧cf.h≤8)∧1≤cf.r∧cf.r≤16):∀ x,pk x≠none↔(0≤x∧x<cf.r∧x%cf.h=n):=by
 intro x
 rw[hp x,hr,hl]
 constructor
 ·rintro⟨x0,x1,hx⟩
  obtain⟨i,hi,rfl⟩:=List.mem_map.1 hx;have h:=(List.mem_filter.1 hi).2;have hi2:i<cf.r.toNat:=by omega
  rw[Ow.ini_at _ _ hi2,if_pos hi2] at h;exact⟨x0,x1,by simpa using h⟩
 ·rintro⟨x0,x1,hx⟩
  refine⟨x0,x1,List.mem_map.2 ⟨x.toNat,List.mem_filter.2 ⟨List.mem_range.2 (by rw[Ow.ini_len];omega),?_⟩,by omega⟩⟩
  have hi2:x.toNat<cf.r.toNat:=by omega
  rw[Ow.ini_at _ _ hi2,if_pos hi2];have:((x.toNat:Nat):Int)=x:=by omega
  simp[this,hx]
theorem begunw_ok(cf:Cf)(c8:C8)(w:World)(HCF:Hid (cf=Md.cfOf c8))(M:Hid cf.may)(hc:Hid cf.Fit)(s1:cf.s≤9223372036854775807):
  Calls Tryz.prog 9 #[cf.val] w (BegunW w cf c8):=by
 have HMM:Hid ((1≤cf.h∧cf.h≤8)∧1≤cf.r∧cf.r≤16):=hid (by have q:Asg.may cf.k cf.s cf.l cf.g cf.z cf.h cf.r cf.c:=M.out;unfold Asg.may at q;omega)
 have hm:(1≤cf.h∧cf.h≤8)∧(1≤cf.r∧cf.r≤16)∧1≤cf.c∧cf.c≤16:=by have q:Asg.may cf.k cf.s cf.l cf.g cf.z cf.h cf.r cf.c:=M.out;unfold Asg.may at q;omega
 obtain⟨W,hW,c0,a0,k0⟩:=alloc2 w 23 32 (Sh.fcl cf) [.int .i64 0,.int .i64 0,.int .i64 0,.int .i64 0,.int .i64 0,.int .i64 0,.int .i64 0,.int .i64 0,.pointer none,.pointer none,.slice none 0 0]
 obtain⟨g,hg⟩:∃ g,w.heap.size=g:=⟨_,rfl⟩
 have C0:=hid c0
 have A0:=hid a0
 have K0:=hid k0
 have HG:=hid hg
 rw[hg] at C0 A0
 have d5:=C0.out.cell (i:=5) rfl
 have d6:=C0.out.cell (i:=6) rfl
 go_enter Tryz.func9,Tryz.ntmps9
 go_upto_region 1 with fail
 clear hg hW c0 a0 k0
 obtain⟨n,hn⟩:∃ n:Nat,cf.r=n:=⟨cf.r.toNat,by omega⟩
 rw[hn] at d6
 have HN:=hid hn
 clear hn
 go_wp2_with fail
 refine (Ow.new_ok n cf.h W (by have:=HN.out;omega) (by have:=HN.out;omega) hm.1.1 hm.1.2).mono ?_
 rintro r w1 ⟨rfl,t1,k1⟩
 have T1:Hid (Ow.Is w1 W.heap.size cf.h (M0 cf)):=hid (by show Ow.Is w1 W.heap.size cf.h (Ow.ini cf.h cf.r.toNat cf.r.toNat);rw[HN.out];exact t1)
 have C1:=hid (C0.out.next k1)
 have A1:=hid (A0.out.next k1)
 have K1:=hid (after K0.out k1)
 have S1:Hid (w.heap.size≤W.heap.size∧g+1<W.heap.size∧W.heap.size+1<w1.heap.size):=hid ⟨K0.out.size,A0.out.lt,t1.lies.lt⟩
 obtain⟨b,hb⟩:∃ b,W.heap.size=b:=⟨_,rfl⟩
 have HB:=hid hb
 have KW:=hid k1
 rw[hb] at T1 S1 ⊢
 clear t1 k1 d5 d6 hb
 dsimp only
 go_upto_region 2 with fail
 refine wp_region_goes Goes.below 5 75 (Be w1.heap.size cf b) (by show _=_;kernel_rfl) (by show _=_;kernel_rfl) (by show _=_;kernel_rfl) (Be.mono w1.heap.size cf b) ?_ ?_
 ·intro i hi o ho a' w' Kc hd hout hdep hB hK
  match i,hi,ho with
  |0,_,ho=>exact Wh.wp_load Tryz.isAgg23 Tryz.sizeOf23 (.tmp 1) (Reg.Has.op (p:=Op.load 23 (.tmp 1)) (t:=20) (by show _=_;kernel_rfl) ho).1 (hout 1 (Reg.Free.out (by show _=_;kernel_rfl))) (C1.out.next hB) (Nat.le_refl _) (Sh.fcl cf) rfl (hK _ _ rfl (Below.refl _ _))
  |1,_,ho=>
   refine wp_call (S:=fun u w2=>(∃ gc,u=gp gc∧w'.heap.size≤gc∧Ct.Is w2 gc (-9223372036854775808) 0 false false)∧Below w'.heap.size w' w2) (Reg.Has.op (p:=Op.call {callee:=Callee.value (.func 40),args:=#[],argTypes:=#[]}) (t:=21) (by show _=_;kernel_rfl) ho).1 #[] (by simp) (fun _ _=>enters Tryz.func40 (by kernel_rfl) rfl _ _) ((Ct.new_ok w').mono (fun e w2 ⟨h1,h2,h3⟩=>⟨_,h1,⟨_,rfl,Nat.le_refl _,h2⟩,h3⟩)) ?_
   rintro u w2 ⟨⟨gc,h1,h2,h3⟩,h4⟩;exact hK _ _ ⟨gc,h1,Nat.le_trans hB.size h2,h3⟩ h4
  |2,_,ho=>exact Sl.wp_move _ (Reg.Has.op (p:=Op.move (.tmp 5)) (t:=22) (by show _=_;kernel_rfl) ho).1 (hK _ _ (hout 5 (Reg.Free.out (by show _=_;kernel_rfl))) (Below.refl _ _))
  |3,_,ho=>
   obtain⟨gc,h1,h2,h3⟩:=(hdep 1 (mem_of (by show _=_;kernel_rfl)) 21 (by show _=_;kernel_rfl))
   refine wp_build_env (.tmp 20) (.tmp 21) (.tmp 22) (Reg.Has.op (p:=Op.build 32 #[(0,.tmp 20),(1,.tmp 21),(2,.tmp 22)]) (t:=23) (by show _=_;kernel_rfl) ho).1 (hdep 0 (mem_of (by show _=_;kernel_rfl)) 20 (by show _=_;kernel_rfl)) h1 (hdep 2 (mem_of (by show _=_;kernel_rfl)) 22 (by show _=_;kernel_rfl)) (hK _ _ ⟨gc,rfl,h2,h3⟩ (Below.refl _ _))
  |4,_,ho=>
   refine wp_val (V:=.pointer (some ⟨w'.heap.size,0,none⟩)) (w':=w'.alloc (.cells ([.int .i64 0,.int .i64 0,.int .i64 0,.int .i64 0,.int .i64 0,.int .i64 0,.int .i64 0,.int .i64 0,.pointer none,.pointer none,.slice none 0 0]:List Value).toArray 32)) ?_ (hK _ _ ⟨_,rfl,hB.size,Lies.new _ _ _⟩ (below1 _ _))
   have hop:=(Reg.Has.op (p:=Op.alloc 32) (t:=7) (by show _=_;kernel_rfl) ho).1
   simp[execOp,hop,go_sem]
 ·intro f w' hv hB hev
  obtain⟨gc,e3,l3,c3⟩:=hv 3 (by omega)
  obtain⟨ge,e4,l4,z4⟩:=hv 4 (by omega)
  change wpList _ _ _ [_] (Act.put (Act.put (Act.put (Act.put (Act.put _ (some 20) (f 0)) (some 21) (f 1)) (some 22) (f 2)) (some 23) (f 3)) (some 7) (f 4)) _
  rw[Rel.puts_zero];rw[e3,e4];clear hv hev;generalize f 0=v0;generalize f 1=v1;generalize f 2=v2;have KB:=hid hB
  have NE:Hid (gc≠ge):=hid fun e=>by
   subst e;have h1:=c3.cell (i:=3) rfl;have h2:=z4.cell (i:=3) rfl;rw[h1] at h2;cases h2
  have C3:=hid c3;have Z4:=hid z4;have L34:=hid (And.intro l3 l4);clear hB c3 z4 l3 l4 e3 e4;simp only[Act.put,List.setIfInBounds_toArray,List.set_cons_zero,List.set_cons_succ]
  go_upto_region 3 with (first
   |(refine wpList_plain rfl fun K' hK'=>Wh.wp_store Tryz.sizeOf32 _ _ rfl rfl rfl Z4.out (Nat.le_refl _) rfl (ecl_one cf gc b) (ecl cf gc b (.slice none 0 0)) rfl (fun w3 z1 z2=>hK' _ _ ?_))
   |fail)
  obtain⟨R0,b0⟩:=(begunw_start (c8:=c8) HG.out K0.out C0.out A0.out T1.out K1.out S1.out HB.out KW.out KB.out NE.out C3.out Z4.out L34.out.1 L34.out.2 z1 z2);have B0:=hid b0;clear b0 z1 z2 f C0 A0 T1 C1 A1 K1 S1 KB NE C3 Z4 L34;have env8:=B0.out.env.cell (i:=8) rfl;simp only[Act.put];go_upto_region 7 with fail
  clear env8;go_loopw [8,9] (fun sw si wr=>∃ (k:Nat) (ws bs:List Nat) (p:Nat→Int→Option Nat) (q:Int→Option Nat) (R:Nat→Nat→Prop) (wA bA:Option Addr) (wc bc:Nat),si=.int .i64 k∧sw=.slice wA k wc∧bs.length=k∧(k:Int)≤cf.h∧Hid (BN w cf c8 gc b g (g+1) ge sw (.slice bA k bc) ws bs p q R wr)) (fun _ si _=>cf.h.toNat-(intOf si).toNat)
  case atStart=>exact⟨0,[],[],_,_,R0,none,none,0,0,rfl,rfl,rfl,by have:=hm.1.1;omega,B0⟩
  case round=>
   obtain⟨k,ws,bs,p,q,R,wA,bA,wc,bc,rfl,rfl,hk,hkh,B⟩:=hrel;have h8:=hm.1.2;have c5:=B.out.cfg.cell (i:=5) rfl;by_cases hlt:(k:Int)<cf.h
   ·have NL:=hid (And.intro hk (And.intro hkh hlt))
    go_upto_region 9 with fail
    clear c5 hk hkh;have CS:Hid (∀ w',Below wr.heap.size wr w'→w'.cell? ⟨g,0,none⟩=some (.int .i64 cf.k)∧w'.cell? ⟨g,1,none⟩=some (.int .i64 cf.s)∧w'.cell? ⟨g,2,none⟩=some (.int .i64 cf.l)∧w'.cell? ⟨g,3,none⟩=some (.int .i64 cf.g)∧w'.cell? ⟨g,4,none⟩=some (.int .i64 cf.z)∧w'.cell? ⟨g,5,none⟩=some (.int .i64 cf.h)∧w'.cell? ⟨g,6,none⟩=some (.int .i64 cf.r)∧w'.cell? ⟨g,7,none⟩=some (.int .i64 cf.c)∧Below wr.heap.size wr w'):=hid fun w' hB=>⟨(B.out.cfg.next hB).cell (i:=0) rfl,(B.out.cfg.next hB).cell (i:=1) rfl,(B.out.cfg.next hB).cell (i:=2) rfl,(B.out.cfg.next hB).cell (i:=3) rfl,(B.out.cfg.next hB).cell (i:=4) rfl,(B.out.cfg.next hB).cell (i:=5) rfl,(B.out.cfg.next hB).cell (i:=6) rfl,(B.out.cfg.next hB).cell (i:=7) rfl,hB⟩
    have CB:Hid (∀ w',w'.cell? ⟨g,0,none⟩=some (.int .i64 cf.k)∧w'.cell? ⟨g,1,none⟩=some (.int .i64 cf.s)∧w'.cell? ⟨g,2,none⟩=some (.int .i64 cf.l)∧w'.cell? ⟨g,3,none⟩=some (.int .i64 cf.g)∧w'.cell? ⟨g,4,none⟩=some (.int .i64 cf.z)∧w'.cell? ⟨g,5,none⟩=some (.int .i64 cf.h)∧w'.cell? ⟨g,6,none⟩=some (.int .i64 cf.r)∧w'.cell? ⟨g,7,none⟩=some (.int .i64 cf.c)∧Below wr.heap.size wr w'→Below wr.heap.size wr w'):=hid fun w' h=>h.2.2.2.2.2.2.2.2
    have ML:Hid ((M0 cf).length≤16):=hid (by rw[Ow.ini_len];omega)
    go_region_held3 (fun w'=>w'.cell? ⟨g,0,none⟩=some (.int .i64 cf.k)∧w'.cell? ⟨g,1,none⟩=some (.int .i64 cf.s)∧w'.cell? ⟨g,2,none⟩=some (.int .i64 cf.l)∧w'.cell? ⟨g,3,none⟩=some (.int .i64 cf.g)∧w'.cell? ⟨g,4,none⟩=some (.int .i64 cf.z)∧w'.cell? ⟨g,5,none⟩=some (.int .i64 cf.h)∧w'.cell? ⟨g,6,none⟩=some (.int .i64 cf.r)∧w'.cell? ⟨g,7,none⟩=some (.int .i64 cf.c)∧Below wr.heap.size wr w')
     (first|exact CS.out _ (Below.refl _ _).drew|exact CS.out _ (after (CB.out _ (by assumption)) k4)|exact CS.out _ (after (after (Below.refl _ _).drew k4) k5))
     (first
      |(go_at_call 42;refine (Ow.groups_ok (t:=(k:Int)) (hid (B.out.table.next (CB.out _ (by assumption)))) ML.out).mono ?_;rintro r w4 ⟨Ag,cg,rfl,g4,k4⟩;obtain⟨bg,-,ig⟩:=g4.is;have IG:=hid (ints_sw (ints_nat ig)))
      |(go_at_call 41;refine (neww_ok HCF.out _ _ w4 IG (Nat.le_trans (by rw[List.length_map];exact Nat.le_trans (Ow.own_len _ _ _) ML.out) (by decide)) M s1).mono ?_;rintro r w5 ⟨wk,bx,F5,pk,FF,rfl,i5,P5,a5,lo5,lo6,k5,hp5⟩))
    rename_i hh
    have kb:=hid (CB.out _ hh);have I5:=hid i5;have PL5:=hid P5;have A5:=hid (And.intro a5 (And.intro (fun i hi=>Nat.le_trans k4.size (lo5 i hi):From wr.heap.size F5) (fun i hi=>Nat.le_trans k4.size (lo6 i hi):From wr.heap.size (Sh.Sw.UF pk FF))))
    have HP5:=hid hp5;obtain⟨m,bvx,q5,hF5⟩:=i5;have X5:Hid (Lies w5 wk 121 (Sh.Sw.wcl c8 m bx)∧wr.heap.size≤wk):=hid ⟨q5.lies,Nat.le_trans k4.size (lo5 wk ((hF5 wk).2 (.inl rfl)))⟩;clear hh CS CB IG a5 lo5 lo6 k5 k4 g4 ig q5 hF5 hp5 P5;go_wp2_with fail
    refine (boxw_at w5 X5.out.1).mono ?_
    rintro r _ ⟨rfl,rfl⟩;dsimp only;have k6:=below1 w5 (Obj.cells #[gp wk] 59);have L6:Hid (Lies (w5.alloc (Obj.cells #[gp wk] 59)) w5.heap.size 59 [gp wk]):=hid (Lies.new _ _ _);have B6:=hid (B.out.next (after kb.out k6));have W6:=hid (X5.out.1.next k6);have e1:Hid (ws.length+[wk].length≤1048576):=hid (by rw[B.out.same,NL.out.1];simp;omega)
    have e2:Hid (w.heap.size≤(w5.alloc (Obj.cells #[gp wk] 59)).heap.size):=hid B6.out.fam.below.size;have e4:Hid (Sl.Is Wk (w5.alloc (Obj.cells #[gp wk] 59)) (.slice (some ⟨w5.heap.size,0,none⟩) 1 1) [wk] w5.heap.size):=hid (Sl.Is.one wok (x:=wk) L6.out);have eb:Hid (bs.length+[bx].length≤1048576):=hid (by rw[NL.out.1];simp;omega)
    have WN:Hid (wr.heap.size≤wk):=hid X5.out.2;have ap:Hid (∀ a,R 20 a→a<wr.heap.size∧¬R 52 a∧¬R 21 a):=hid fun a ha=>⟨B.out.fam.in_ 20 a ha,B.out.fam.ap 20 52 (by decide) a ha,B.out.fam.ap 20 21 (by decide) a ha⟩
    clear k6 L6;go_wp2_with (at_builtin;refine wpList_plain rfl fun K' hK'=>Sl.wp_append wok (.tmp 62) (.tmp 64) rfl (base:=w.heap.size) (l:=ws) (l2:=[wk]) (b2:=w5.heap.size) B6.out.wl e4.out e1.out e2.out (fun u w7 z1 z2 z3=>hK' _ _ ?_))
    obtain⟨b7,-,i7⟩:=z1.is;obtain⟨A7,c7,rfl⟩:=i7.len;rw[List.length_append,B.out.same,NL.out.1,List.length_singleton] at z1 z3 ⊢;have nb:∀ a,a<(w5.alloc (Obj.cells #[gp wk] 59)).heap.size→¬R 20 a→w7.heap[a]?=(w5.alloc (Obj.cells #[gp wk] 59)).heap[a]?:=fun a ha hn=>z2.block a ha fun e=>hn (by rw[B.out.r20];exact e.symm)
    have EN7:Hid (Lies w7 ge 32 (ecl cf gc b (.slice bA k bc))):=hid ((nb ge B6.out.env.lt fun q=>(ap.out ge q).2.1 (by rw[B.out.r52])).trans B6.out.env)
    have L7:Hid (Lies w7 wk 121 (Sh.Sw.wcl c8 m bx)):=hid ((nb wk W6.out.lt fun q=>by have:=(ap.out wk q).1;have:=WN.out;omega).trans W6.out)
    have BL7:=hid (B6.out.bl.move fun a ha=>nb a (B6.out.bl.lt a ha).2 fun q=>(ap.out a q).2.2 (by rw[B.out.r21];exact ha))
    have Z:=hid (And.intro z1 (And.intro z2 z3));have e8:Hid (w.heap.size≤w7.heap.size):=hid (Nat.le_trans e2.out z2.size)
    have ng:Hid ((Value.slice bA k bc).ownBlock≠some ge):=hid fun e=>by
     have h1:R 21 ge:=by rw[B.out.r21];exact e
     exact B.out.fam.ap 21 52 (by decide) ge h1 (by rw[B.out.r52])
    have e10:=EN7.out.cell (i:=10) rfl;have EN8:=hid (EN7.out.next (below1 w7 (Obj.cells #[gp bx] 94)));have e10b:=EN8.out.cell (i:=10) rfl;have L8:Hid (Lies (w7.alloc (Obj.cells #[gp bx] 94)) w7.heap.size 94 [gp bx]):=hid (Lies.new _ _ _);have BL8:=hid (BL7.out.next (below1 w7 (Obj.cells #[gp bx] 94)));clear z1 z2 z3 nb i7;go_upto_region 13 with fail
    go_region_law (first
     |(refine stepw_box rfl (.tmp 68) rfl rfl (L7.out.next (by first|exact Below.refl _ _|exact (Below.refl _ _).drew|exact below1 _ _)) ?_)
     |(refine step_append_at pok rfl (.tmp 67) (.tmp 70) rfl (.slice bA k bc) (.slice (some ⟨w7.heap.size,0,none⟩) 1 1) (by simp[Act.eval]) (by simp[Act.eval]) (base:=w.heap.size) (l:=bs) (l2:=[bx]) (b2:=w7.heap.size) (by exact BL8.out.next (Below.refl _ _).drew) (by exact Sl.Is.one pok (x:=bx) L8.out) (by exact eb.out) (by have:=e8.out;simp;omega) (g:=ge) (j:=10) (by exact EN8.out.next (Below.refl _ _).drew) rfl (by exact ng.out) ?_;intro A8 m8 c8 w9 hm y1 y2 z1 z2 z3;have HM:=hid hm;have Z1:=hid z1;have Z2:=hid z2;have Z3:=hid z3;clear z1 z2 z3))
    all_goals
     obtain⟨R9,p9,q9,b9⟩:=B.out.push HCF.out (by rw[NL.out.1];omega) kb.out I5.out PL5.out A5.out.1 A5.out.2.1 A5.out.2.2 (owned HP5.out (by rw[HCF.out]) NL.out.1 HMM.out) (below1 w5 (Obj.cells #[gp wk] 59)) Z.out.1 Z.out.2.1 Z.out.2.2 ((below1 w7 (Obj.cells #[gp bx] 94)).drew) Z1.out Z2.out Z3.out
     have B9:=hid b9;have hm8:m8=k+1:=by have:=HM.out;rw[List.length_append,NL.out.1,List.length_singleton] at this;exact this
     have HQ:=hid hm8;clear b9 hm8 e10 e10b HM Z1 Z2 Z3;go_wp2_with fail
     have h8:=HQ.out;subst h8;exact⟨⟨k+1,ws++[wk],bs++[bx],p9,q9,R9,A7,A8,c7,c8,by go_num,rfl,by rw[List.length_append,NL.out.1];rfl,by have:=NL.out;omega,B9⟩,by have:=NL.out;simp[intOf];omega⟩
   ·have hkk:(k:Int)=cf.h:=by omega
    have EN:=B.out.env
    go_wp2_with (first
     |(refine wpList_plain rfl fun K' hK'=>Wh.wp_load Tryz.isAgg32 Tryz.sizeOf32 _ rfl rfl B.out.env (Nat.le_refl _) (ecl cf gc b (.slice bA k bc)) rfl (hK' _ _ ?_))
     |(refine wpList_plain rfl fun K' hK'=>Wh.wp_store Tryz.sizeOf32 _ _ rfl rfl rfl B.out.ans (Nat.le_refl _) rfl (ecl_one' cf gc b _ _ _) (ecl cf gc b (.slice bA k bc)) rfl (fun w3 z1 z2=>hK' _ _ ?_))
     |fail)
    exact bodyPost_ret (told_beg rfl rfl rfl z1) rfl ⟨gc,b,_,_,_,bA,k,bc,bs,ws,p,q,R,rfl,B.out.fin z2,by rw[hk];exact hkk,by rw[B.out.same];exact hk.symm⟩
end Cn
end Go.Proofs.YtfjlnniahfbdfaaGreat
