/- A part of the proof. -/
import Derived.Test.YtfjlnniahfbdfaaGreatPbi
import Derived.Test.YtfjlnniahfbdfaaGreatPbj
import Derived.Deep.RegionHeld3
set_option linter.unusedVariables false
set_option maxHeartbeats 4000000
namespace Go.Proofs.YtfjlnniahfbdfaaGreat
open Lib (hid)
open Go.ChangeShapes Go.WideShapes Go.ChangeAt Go.RowKit
set_option maxRecDepth 100000
namespace Cn
open Small Foot Fm Ca Rel RelG
abbrev Wk:Kind Nat:=⟨33,59,1,8,.pointer none,fun x=>[gp x]⟩
theorem wok:Wk.Ok where
 under:=Tryz.underlying33
 elem:=by kernel_rfl
 info:=by kernel_rfl
 zs:=rfl
 pos:=by decide
 len:=fun _=>rfl
 one:=by
  intro x u hu;simp at hu;subst hu;rfl
 small:=by decide
abbrev M0(cf:Cf):List Ow.O:=Ow.ini cf.h cf.r.toNat cf.r.toNat
abbrev ecl(cf:Cf)(gc b:Nat)(v:Value):List Value:=[.int .i64 cf.k,.int .i64 cf.s,.int .i64 cf.l,.int .i64 cf.g,.int .i64 cf.z,.int .i64 cf.h,.int .i64 cf.r,.int .i64 cf.c,gp gc,gp (b+1),v]
structure BM(w0:World)(cf:Cf)(gc b g0 g1 ge:Nat)(wv bv:Value)(ws bs:List Nat)(R:Nat→Nat→Prop)(w:World):Prop where
 fam:Fam w0 w R
 box:∀ (i g:Nat),bs[i]?=some g→Ms.Box w g cf.c false (.slice none 0 0) []∧R i=Bx.Fp g (.slice none 0 0)
 rest:∀ i,bs.length≤i→i<8→R i=none0
 same:ws.length=bs.length
 few:bs.length≤8
 table:Ow.Is w b cf.h (M0 cf)
 r16:R 16=Ow.Fp b
 ctl:Ct.Is w gc (-9223372036854775808) 0 false false
 r17:R 17=Ct.Fp gc
 r18:R 18=none0
 r19:R 19=none0
 wl:Sl.Own Wk w0.heap.size w wv ws
 r20:R 20=fun j=>wv.ownBlock=some j
 bl:Sl.Own Pk w0.heap.size w bv bs
 r21:R 21=fun j=>bv.ownBlock=some j
 cfg:Lies w g0 23 (Sh.fcl cf)
 r30:R 30=fun j=>j=g0
 ans:Lies w g1 32 [.int .i64 0,.int .i64 0,.int .i64 0,.int .i64 0,.int .i64 0,.int .i64 0,.int .i64 0,.int .i64 0,.pointer none,.pointer none,.slice none 0 0]
 r31:R 31=fun j=>j=g1
 env:Lies w ge 32 (ecl cf gc b bv)
 r32:R 32=fun j=>j=ge
section
variable {w0 w w':World} {cf:Cf} {gc b g0 g1 ge:Nat} {wv bv wv' bv':Value} {ws bs:List Nat} {R R':Nat→Nat→Prop} {i g wk:Nat}
theorem BM.next(h:BM w0 cf gc b g0 g1 ge wv bv ws bs R w)(k:Below w.heap.size w w'):BM w0 cf gc b g0 g1 ge wv bv ws bs R w':=
 ⟨h.fam.next k,fun i g e=>⟨(h.box i g e).1.next k,(h.box i g e).2⟩,h.rest,h.same,h.few,h.table.next k,h.r16,Lies.next h.ctl k,h.r17,h.r18,h.r19,h.wl.next k,h.r20,h.bl.next k,h.r21,h.cfg.next k,h.r30,h.ans.next k,h.r31,h.env.next k,h.r32⟩
theorem BM.made(h:BM w0 cf gc b g0 g1 ge wv bv ws bs R w)(hl:bs.length<8)(k:Below w.heap.size w w')(m:Ms.Box w' g cf.c false (.slice none 0 0) [])(hg:w.heap.size≤g):Fam w0 w' (rset R bs.length (Bx.Fp g (.slice none 0 0)))∧∀ j,j≠bs.length→Kp R (rset R bs.length (Bx.Fp g (.slice none 0 0))) w w' j:=by
 have V:Moves (R bs.length) (Bx.Fp g (.slice none 0 0)) w w':=made_moves (h.rest _ (Nat.le_refl _) hl) k (fun j hj=>by rcases hj with rfl|hj;exact hg;cases hj) m.in
 exact⟨h.fam.one V,one_kp h.fam V⟩
end
theorem build_env(w:World)(cf:Cf)(gc b:Nat):(Instr.build 32 #[(0,cf.val),(1,gp gc),(2,gp (b+1))]).run Tryz.prog w=.ok (.agg (ecl cf gc b (.slice none 0 0)).toArray) w:=by kernel_rfl
theorem wp_build_env{o:Oper}{a:Act}{w:World}{K:Act→World→Prop}{Qq:Exit→Act→World→Prop}{cf:Cf}{gc b:Nat}(x y z:Operand)(ho:o.op=.build 32 #[(0,x),(1,y),(2,z)])(hx:a.eval x=cf.val)(hy:a.eval y=gp gc)(hz:a.eval z=gp (b+1))(hK:K (a.put o.dst (.agg (ecl cf gc b (.slice none 0 0)).toArray)) w):o.wp Tryz.prog a w K Qq:=by
 unfold Oper.wp execOp
 simp only[ho,List.map_toArray,List.map_cons,List.map_nil,hx,hy,hz,Sem.run_bind,Sem.run_pure,Result.andThen_ok,build_env]
 exact hK
def Be(B:Nat)(cf:Cf)(b:Nat)(i:Nat)(u:Value)(w:World):Prop:=match i with
 |0=>u=cf.val
 |1=>∃ gc,u=gp gc∧B≤gc∧Ct.Is w gc (-9223372036854775808) 0 false false
 |2=>u=gp (b+1)
 |3=>∃ gc,u=.agg (ecl cf gc b (.slice none 0 0)).toArray∧B≤gc∧Ct.Is w gc (-9223372036854775808) 0 false false
 |4=>∃ ge,u=gp ge∧B≤ge∧Lies w ge 32 [.int .i64 0,.int .i64 0,.int .i64 0,.int .i64 0,.int .i64 0,.int .i64 0,.int .i64 0,.int .i64 0,.pointer none,.pointer none,.slice none 0 0]
 |_=>True
theorem Be.mono(B:Nat)(cf:Cf)(b:Nat):∀ i u w w',Be B cf b i u w→Below w.heap.size w w'→Be B cf b i u w'
 |0,u,w,w',h,k=>h
 |1,u,w,w',⟨gc,h1,h2,h3⟩,k=>⟨gc,h1,h2,Lies.next h3 k⟩
 |2,u,w,w',h,k=>h
 |3,u,w,w',⟨gc,h1,h2,h3⟩,k=>⟨gc,h1,h2,Lies.next h3 k⟩
 |4,u,w,w',⟨g,h1,h2,h3⟩,k=>⟨g,h1,h2,h3.next k⟩
 |i+5,u,w,w',h,k=>trivial
theorem ecl_one(cf:Cf)(gc b:Nat):∀ v∈ecl cf gc b (.slice none 0 0),v.oneCell'=true:=by
 intro v hv
 simp only[List.mem_cons,List.not_mem_nil,or_false] at hv
 rcases hv with rfl|rfl|rfl|rfl|rfl|rfl|rfl|rfl|rfl|rfl|rfl<;>rfl
theorem ecl_one'(cf:Cf)(gc b:Nat)(A:Option Addr)(n c:Nat):∀ v∈ecl cf gc b (.slice A n c),v.oneCell'=true:=by
 intro v hv
 simp only[List.mem_cons,List.not_mem_nil,or_false] at hv
 rcases hv with rfl|rfl|rfl|rfl|rfl|rfl|rfl|rfl|rfl|rfl|rfl<;>rfl
theorem own_nil:(fun j=>(Value.slice none 0 0).ownBlock=some j)=none0:=by
 funext j
 simp[Value.ownBlock,none0]
theorem begun_start{cf:Cf}{w W w1 w2 w3:World}{g b gc ge:Nat}(hg:w.heap.size=g)(k0:Below w.heap.size w W)(c0:Lies W g 23 (Sh.fcl cf))(a0:Lies W (g+1) 32 [.int .i64 0,.int .i64 0,.int .i64 0,.int .i64 0,.int .i64 0,.int .i64 0,.int .i64 0,.int .i64 0,.pointer none,.pointer none,.slice none 0 0])
  (t1:Ow.Is w1 b cf.h (M0 cf)) (k1:Below w.heap.size w w1) (s1:w.heap.size≤b∧g+1<b∧b+1<w1.heap.size) (hW:W.heap.size=b) (kW:Below W.heap.size W w1) (kb:Below w1.heap.size w1 w2) (ne:gc≠ge) (c3:Ct.Is w2 gc (-9223372036854775808) 0 false false)
  (z4:Lies w2 ge 32 [.int .i64 0,.int .i64 0,.int .i64 0,.int .i64 0,.int .i64 0,.int .i64 0,.int .i64 0,.int .i64 0,.pointer none,.pointer none,.slice none 0 0]) (l3:w1.heap.size≤gc) (l4:w1.heap.size≤ge) (z1:Lies w3 ge 32 (ecl cf gc b (.slice none 0 0))) (z2:w2.grownBy w3 (some ge)):
  ∃ R,BM w cf gc b g (g+1) ge (.slice none 0 0) (.slice none 0 0) [] [] R w3:=by
 have f0:Fam w w (fun _=>none0):=⟨fun i b hb=>hb.elim,fun i b hb=>hb.elim,fun i j _ b hb=>hb.elim,Below.refl _ _⟩
 have f1:=f0.two (i:=30) (j:=31) (F':=fun j=>j=g) (G':=fun j=>j=g+1) (by decide) ⟨k0.os,k0.tape,k0.output,k0.size,fun j hj _=>k0.block j hj,fun j hj=>by
  rcases hj with rfl|rfl
  ·exact⟨.inr (by omega),c0.lt⟩
  ·exact⟨.inr (by omega),a0.lt⟩⟩ (fun j h1 h2=>by omega)
 have f2:=f1.one (i:=16) (F':=Ow.Fp b) (made_moves (by rfl) kW (fun j hj=>by rcases hj with rfl|rfl<;>omega) t1.in)
 have f3:=f2.two (i:=17) (j:=32) (F':=Ct.Fp gc) (G':=fun j=>j=ge) (by decide) ⟨kb.os,kb.tape,kb.output,kb.size,fun j hj _=>kb.block j hj,fun j hj=>by
  rcases hj with h|h
  ·rw[show j=gc from h];exact⟨.inr l3,c3.lt⟩
  ·rw[show j=ge from h];exact⟨.inr l4,z4.lt⟩⟩ (fun j h1 h2=>ne ((show j=gc from h1).symm.trans h2))
 have V:Moves (fun j=>j=ge) (fun j=>j=ge) w2 w3:=⟨z2.os,z2.tape,z2.output,z2.size,fun j hj hn=>z2.block j hj fun e=>hn (Option.some.inj e),fun j hj=>⟨.inl hj,by rw[show j=ge from hj];exact z1.lt⟩⟩
 have f4:=f3.one (i:=32) (F':=fun j=>j=ge) V
 have st:∀ j,j<w2.heap.size→j≠ge→w3.heap[j]?=w2.heap[j]?:=fun j hj hn=>z2.block j hj fun e=>hn (Option.some.inj e)
 have b1:=(kb.size)
 refine⟨_,f4,fun i g e=>by simp at e,fun i _ h8=>?_,rfl,by simp,⟨(st _ (by omega) (by omega)).trans (t1.next kb).lies,(st _ (by omega) (by omega)).trans (t1.next kb).rows⟩,rfl,(st _ c3.lt ne).trans c3,rfl,rfl,rfl,Sl.Own.nil _ _ _,own_nil.symm,Sl.Own.nil _ _ _,own_nil.symm,(st _ (by have:=c0.lt;omega) (by have:=c0.lt;omega)).trans ((c0.next kW).next kb),rfl,(st _ (by have:=a0.lt;omega) (by have:=a0.lt;omega)).trans ((a0.next kW).next kb),rfl,z1,rfl⟩
 show (if i=32 then _ else if i=32 then _ else if i=17 then _ else if i=16 then _ else if i=31 then _ else if i=30 then _ else none0)=none0
 rw[if_neg (by omega),if_neg (by omega),if_neg (by omega),if_neg (by omega),if_neg (by omega),if_neg (by omega)]
theorem BM.push{w0 wr w5 w6 w7 w8 w9:World}{cf:Cf}{gc b g0 g1 ge bx wk:Nat}{wv bv wv' bv':Value}{ws bs:List Nat}{R:Nat→Nat→Prop}(h:BM w0 cf gc b g0 g1 ge wv bv ws bs R wr)(hl:bs.length<8)(k5:Below wr.heap.size wr w5)(m5:Ms.Box w5 bx cf.c false (.slice none 0 0) [])(hbx:wr.heap.size≤bx)(k6:Below w5.heap.size w5 w6)
  (z1:Sl.Own Wk w0.heap.size w7 wv' (ws++[wk])) (z2:w6.grownBy w7 wv.ownBlock) (z3:wv'.ownBlock=wv.ownBlock∨wv'.ownBlock=some w6.heap.size) (k8:Below w7.heap.size w7 w8) (y1:Sl.Own Pk w0.heap.size w9 bv' (bs++[bx])) (y2:w8.grownBy w9 bv.ownBlock) (y3:bv'.ownBlock=bv.ownBlock∨bv'.ownBlock=some w8.heap.size):
  ∃ R',BM w0 cf gc b g0 g1 ge wv' bv' (ws++[wk]) (bs++[bx]) R' (w9.setCell ⟨ge,10,none⟩ bv'):=by
 obtain⟨f5,K5⟩:=h.made hl k5 m5 hbx
 have rs:∀ j,j≠bs.length→rset R bs.length (Bx.Fp bx (.slice none 0 0)) j=R j:=fun j hj=>rset_ne _ _ hj
 have f6:=f5.next k6
 have V7:Moves (rset R bs.length (Bx.Fp bx (.slice none 0 0)) 20) (fun j=>wv'.ownBlock=some j) w6 w7:=by
  rw[rs 20 (by omega),h.r20]
  exact⟨z2.os,z2.tape,z2.output,z2.size,fun j hj hn=>z2.block j hj fun e=>hn e.symm,fun j hj=>⟨by
   rcases z3 with e|e
   ·exact .inl (e▸hj)
   ·rw[e] at hj;exact .inr (by have:=Option.some.inj hj;omega),(z1.lt j hj).2⟩⟩
 have f7:=f6.one V7
 have f8:=f7.next k8
 have V9:Moves (rset (rset R bs.length (Bx.Fp bx (.slice none 0 0))) 20 (fun j=>wv'.ownBlock=some j) 21) (fun j=>bv'.ownBlock=some j) w8 w9:=by
  rw[rset_ne _ _ (by decide),rs 21 (by omega),h.r21]
  exact⟨y2.os,y2.tape,y2.output,y2.size,fun j hj hn=>y2.block j hj fun e=>hn e.symm,fun j hj=>⟨by
   rcases y3 with e|e
   ·exact .inl (e▸hj)
   ·rw[e] at hj;exact .inr (by have:=Option.some.inj hj;omega),(y1.lt j hj).2⟩⟩
 have f9:=f8.one V9
 have hge:R 32 ge:=by rw[h.r32]
 have lge:ge<w9.heap.size:=by
  have:=h.env.lt;have:=k5.size;have:=k6.size;have:=z2.size;have:=k8.size;have:=y2.size;omega
 have g10:=grown_set w9 ge 10 bv'
 have V10:Moves (rset (rset (rset R bs.length (Bx.Fp bx (.slice none 0 0))) 20 (fun j=>wv'.ownBlock=some j)) 21 (fun j=>bv'.ownBlock=some j) 32) (fun j=>j=ge) w9 (w9.setCell ⟨ge,10,none⟩ bv'):=by
  rw[rset_ne _ _ (by decide),rset_ne _ _ (by decide),rs 32 (by omega),h.r32]
  exact⟨g10.os,g10.tape,g10.output,g10.size,fun j hj hn=>g10.block j hj fun e=>hn (Option.some.inj e),fun j hj=>⟨.inl hj,by rw[show j=ge from hj];simpa using lge⟩⟩
 have f10:=f9.one V10
 have o5:On (fun j=>j=bs.length) R wr (rset R bs.length (Bx.Fp bx (.slice none 0 0))) w5:=On.one h.fam (made_moves (h.rest _ (Nat.le_refl _) hl) k5 (fun j hj=>by rcases hj with rfl|hj;exact hbx;cases hj) m5.in) rfl
 have o10:On (fun j=>j=32) _ w9 _ (w9.setCell ⟨ge,10,none⟩ bv'):=On.one f9 V10 rfl
 have o9:On (fun j=>j=21∨j=32) _ w7 _ (w9.setCell ⟨ge,10,none⟩ bv'):=((On.below f7 k8).trans (On.one f8 V9 (.inl rfl))).trans (o10.more fun i hi=>.inr hi)
 have o7:On (fun j=>j=20∨j=21∨j=32) _ w5 _ (w9.setCell ⟨ge,10,none⟩ bv'):=((On.below f5 k6).trans (On.one f6 V7 (.inl rfl))).trans (o9.more fun i hi=>.inr hi)
 have oo:On (fun j=>j=bs.length∨j=20∨j=21∨j=32) R wr _ (w9.setCell ⟨ge,10,none⟩ bv'):=(o5.more fun i hi=>.inl hi).trans (o7.more fun i hi=>.inr hi)
 have oe:On (fun j=>j=bs.length∨j=20∨j=21) R wr _ w9:=((o5.more fun i hi=>.inl hi).trans ((On.below f5 k6).trans (On.one f6 V7 (.inr (.inl rfl))))).trans ((On.below f7 k8).trans (On.one f8 V9 (.inr (.inr rfl))))
 have K:=fun j (hj:¬(j=bs.length∨j=20∨j=21∨j=32))=>oo.kp j hj
 have le:∀ {i g:Nat},bs[i]?=some g→i<bs.length:=fun e=>(List.getElem?_eq_some_iff.1 e).1
 refine⟨_,f10,fun i g e=>?_,fun i hi h8=>?_,by simp[h.same],by simp;omega,?_,(K 16 (by omega)).1.trans h.r16,((K 17 (by omega)).2 _ (by rw[h.r17])).trans h.ctl,(K 17 (by omega)).1.trans h.r17,(K 18 (by omega)).1.trans h.r18,(K 19 (by omega)).1.trans h.r19,?_,?_,?_,?_,((K 30 (by omega)).2 _ (by rw[h.r30])).trans h.cfg,(K 30 (by omega)).1.trans h.r30,((K 31 (by omega)).2 _ (by rw[h.r31])).trans h.ans,(K 31 (by omega)).1.trans h.r31,?_,rset_same _ _ _⟩
 ·by_cases hi:i<bs.length
  ·rw[List.getElem?_append_left hi] at e
   obtain⟨bb,rr⟩:=h.box i g e;have kk:=K i (by omega)
   exact⟨⟨(kk.2 g (by rw[rr];exact .inl rfl)).trans bb.lies,Sl.Own.nil _ _ _⟩,kk.1.trans rr⟩
  ·have hl2:=(List.getElem?_eq_some_iff.1 e).1
   simp only[List.length_append,List.length_singleton] at hl2;obtain rfl:i=bs.length:=by omega
   rw[List.getElem?_append_right (Nat.le_refl _)] at e
   simp at e;subst e;have kk:=o7.kp bs.length (by omega)
   rw[Kp,rset_same] at kk;exact⟨⟨(kk.2 bx (.inl rfl)).trans m5.lies,Sl.Own.nil _ _ _⟩,kk.1⟩
 ·simp only[List.length_append,List.length_singleton] at hi
  exact (K i (by omega)).1.trans (h.rest i (by omega) h8)
 ·exact⟨((K 16 (by omega)).2 _ (by rw[h.r16];exact .inr rfl)).trans h.table.lies,((K 16 (by omega)).2 _ (by rw[h.r16];exact .inl rfl)).trans h.table.rows⟩
 ·have kk:=o9.kp 20 (by omega)
  rw[Kp,rset_same] at kk;exact z1.move fun a ha=>kk.2 a ha
 ·have kk:=o9.kp 20 (by omega)
  rw[Kp,rset_same] at kk;exact kk.1
 ·have kk:=o10.kp 21 (by omega)
  rw[Kp,rset_same] at kk;exact y1.move fun a ha=>kk.2 a ha
 ·have kk:=o10.kp 21 (by omega)
  rw[Kp,rset_same] at kk;exact kk.1
 ·have l9:=((oe.kp 32 (by omega)).2 ge hge).trans h.env
  exact Lies.put l9 10 bv'
theorem step_box{ops:Array Oper}{o:Oper}{a:Act}{w:World}{Kc:Act→World→Prop}{Qq:Exit→Act→World→Prop}{El:Prop}{wk m bx:Nat}{cf:Cf}(hgd:o.guard=none)(x:Operand)(hop:o.op=Op.call {callee:=Callee.value (.func 43),args:=#[x],argTypes:=#[59]})(hx:a.eval x=gp wk)(h:Lies w wk 121 (Sh.wcl cf m bx))(hK:Kc (a.put o.dst (gp bx)) w):
  if Region.wanted o (yielded ops a.tmps)=true then Oper.wp Tryz.prog o a w Kc Qq else El:=by
 have hw:Region.wanted o (yielded ops a.tmps)=true:=by simp[Region.wanted,hgd]
 rw[if_pos hw]
 refine wp_call (S:=fun u w2=>u=gp bx∧w=w2) hop #[gp wk] (by simp[hx]) (fun _ _=>enters Tryz.func43 (by kernel_rfl) rfl _ _) ((Sh.box_at w (hid h)).mono (fun e w2 ⟨h1,h2⟩=>⟨_,h1,rfl,h2⟩)) ?_
 rintro u w2 ⟨rfl,rfl⟩
 exact hK
structure BF(w0:World)(cf:Cf)(gc b:Nat)(wv bv:Value)(ws bs:List Nat)(R:Nat→Nat→Prop)(w:World):Prop where
 fam:Fam w0 w R
 box:∀ (i g:Nat),bs[i]?=some g→Ms.Box w g cf.c false (.slice none 0 0) []∧R i=Bx.Fp g (.slice none 0 0)
 same:ws.length=bs.length
 few:bs.length≤8
 table:Ow.Is w b cf.h (M0 cf)
 r16:R 16=Ow.Fp b
 ctl:Ct.Is w gc (-9223372036854775808) 0 false false
 r17:R 17=Ct.Fp gc
 r18:R 18=none0
 r19:R 19=none0
 wl:Sl.Own Wk w0.heap.size w wv ws
 r20:R 20=fun j=>wv.ownBlock=some j
 bl:Sl.Own Pk w0.heap.size w bv bs
 r21:R 21=fun j=>bv.ownBlock=some j
theorem BM.fin{w0 w w':World}{cf:Cf}{gc b g0 g1 ge:Nat}{wv bv:Value}{ws bs:List Nat}{R:Nat→Nat→Prop}(h:BM w0 cf gc b g0 g1 ge wv bv ws bs R w)(k:w.grownBy w' (some g1)):BF w0 cf gc b wv bv ws bs R w':=by
 have V:Moves (R 31) (R 31) w w':=by
  rw[h.r31];exact⟨k.os,k.tape,k.output,k.size,fun j hj hn=>k.block j hj fun e=>hn (Option.some.inj e),fun j hj=>⟨.inl hj,by rw[show j=g1 from hj];exact Nat.lt_of_lt_of_le h.ans.lt k.size⟩⟩
 have f:=h.fam.one V
 rw[rset_self] at f
 have K:=fun j (hj:j≠31)=>h.fam.kept V hj
 refine⟨f,fun i g e=>?_,h.same,h.few,⟨(K 16 (by decide) _ (by rw[h.r16];exact .inr rfl)).trans h.table.lies,(K 16 (by decide) _ (by rw[h.r16];exact .inl rfl)).trans h.table.rows⟩,h.r16,(K 17 (by decide) _ (by rw[h.r17])).trans h.ctl,h.r17,h.r18,h.r19,h.wl.move fun a ha=>K 20 (by decide) a (by rw[h.r20];exact ha),h.r20,h.bl.move fun a ha=>K 21 (by decide) a (by rw[h.r21];exact ha),h.r21⟩
 obtain⟨bb,rr⟩:=h.box i g e
 have hi:=(List.getElem?_eq_some_iff.1 e).1
 have:=h.few
 exact⟨⟨(K i (by omega) g (by rw[rr];exact .inl rfl)).trans bb.lies,Sl.Own.nil _ _ _⟩,rr⟩
theorem told_beg{a:Act}{w:World}{g:Nat}{wv:Value}{bo:Bool}{cf:Cf}{gc b:Nat}{v:Value}(h2:a.tmps[2]?.getD undef=gp g)(h3:a.tmps[3]?.getD undef=wv)(h4:a.tmps[4]?.getD undef=.bool bo)(h:Lies w g 32 (ecl cf gc b v)):
  (results Tryz.f9 a.tmps).run Tryz.prog w=.ok (.tuple #[.agg (ecl cf gc b v).toArray,wv,.bool bo]) w:=by
 have:=Wh.load_at (off:=0) Tryz.isAgg32 Tryz.sizeOf32 h (Nat.le_refl _)
 rw[show (List.take 11 (List.drop 0 (ecl cf gc b v)))=ecl cf gc b v from rfl] at this
 simp[results,Tryz.results9,h2,h3,h4,asAddr,this,Result.andThen]
def Begun(w:World)(cf:Cf)(r:Ending)(w':World):Prop:=
 ∃ (gc b:Nat) (wv:Value) (ba:Option Addr) (bn bc:Nat) (bs ws:List Nat) (R:Nat→Nat→Prop),r=.returned (.tuple #[.agg (ecl cf gc b (.slice ba bn bc)).toArray,wv,.bool true])∧BF w cf gc b wv (.slice ba bn bc) ws bs R w'∧(bs.length:Int)=cf.h
theorem ints_nat{w:World}{v:Value}{L:List Nat}{b:Nat}(h:Sl.Is Ow.Gk w v L b):Sh.Ints w v (L.map fun x:Nat=>(x:Int)):=by
 obtain⟨A0,cp,hv⟩:=h.len
 subst hv
 refine⟨A0,cp,by simp,fun h0=>?_⟩
 obtain⟨off,cap',e,-,-,hbl,hc⟩:=h.some_ Ow.gok (by simpa using h0)
 simp only[Value.slice.injEq] at e
 refine⟨b,off,e.1,hbl,fun k x hx=>?_⟩
 rw[List.getElem?_map] at hx
 obtain⟨y,hy,rfl⟩:=Option.map_eq_some_iff.1 hx
 simpa using hc k y hy 0 _ rfl
theorem begun_ok(cf:Cf)(w:World)(M:Hid cf.may)(hc:Hid cf.Fit)(s1:cf.s≤9223372036854775807):
  Calls Tryz.prog 9 #[cf.val] w (Begun w cf):=by
 have hm:(1≤cf.h∧cf.h≤8)∧(1≤cf.r∧cf.r≤16)∧1≤cf.c∧cf.c≤16:=by have q:Asg.may cf.k cf.s cf.l cf.g cf.z cf.h cf.r cf.c:=M.out;unfold Asg.may at q;omega
 obtain⟨W,hW,c0,a0,k0⟩:=alloc2 w 23 32 (Sh.fcl cf) [.int .i64 0,.int .i64 0,.int .i64 0,.int .i64 0,.int .i64 0,.int .i64 0,.int .i64 0,.int .i64 0,.pointer none,.pointer none,.slice none 0 0]
 obtain⟨g,hg⟩:∃ g,w.heap.size=g:=⟨_,rfl⟩
 have C0:=hid c0
 have A0:=hid a0
 have K0:=hid k0
 have HG:=hid hg
 rw[hg] at C0 A0
 have d5:=C0.out.cell (i:=5) rfl
 have d6:=C0.out.cell (i:=6) rfl
 go_enter Tryz.func9,Tryz.ntmps9
 go_upto_region 1 with fail
 clear hg hW c0 a0 k0
 obtain⟨n,hn⟩:∃ n:Nat,cf.r=n:=⟨cf.r.toNat,by omega⟩
 rw[hn] at d6
 have HN:=hid hn
 clear hn
 go_wp2_with fail
 refine (Ow.new_ok n cf.h W (by have:=HN.out;omega) (by have:=HN.out;omega) hm.1.1 hm.1.2).mono ?_
 rintro r w1 ⟨rfl,t1,k1⟩
 have T1:Hid (Ow.Is w1 W.heap.size cf.h (M0 cf)):=hid (by show Ow.Is w1 W.heap.size cf.h (Ow.ini cf.h cf.r.toNat cf.r.toNat);rw[HN.out];exact t1)
 have C1:=hid (C0.out.next k1)
 have A1:=hid (A0.out.next k1)
 have K1:=hid (after K0.out k1)
 have S1:Hid (w.heap.size≤W.heap.size∧g+1<W.heap.size∧W.heap.size+1<w1.heap.size):=hid ⟨K0.out.size,A0.out.lt,t1.lies.lt⟩
 obtain⟨b,hb⟩:∃ b,W.heap.size=b:=⟨_,rfl⟩
 have HB:=hid hb
 have KW:=hid k1
 rw[hb] at T1 S1 ⊢
 clear t1 k1 d5 d6 hb
 dsimp only
 go_upto_region 2 with fail
 refine wp_region_goes Goes.below 5 75 (Be w1.heap.size cf b) (by show _=_;kernel_rfl) (by show _=_;kernel_rfl) (by show _=_;kernel_rfl) (Be.mono w1.heap.size cf b) ?_ ?_
 ·intro i hi o ho a' w' Kc hd hout hdep hB hK
  match i,hi,ho with
  |0,_,ho=>exact Wh.wp_load Tryz.isAgg23 Tryz.sizeOf23 (.tmp 1) (Reg.Has.op (p:=Op.load 23 (.tmp 1)) (t:=20) (by show _=_;kernel_rfl) ho).1 (hout 1 (Reg.Free.out (by show _=_;kernel_rfl))) (C1.out.next hB) (Nat.le_refl _) (Sh.fcl cf) rfl (hK _ _ rfl (Below.refl _ _))
  |1,_,ho=>
   refine wp_call (S:=fun u w2=>(∃ gc,u=gp gc∧w'.heap.size≤gc∧Ct.Is w2 gc (-9223372036854775808) 0 false false)∧Below w'.heap.size w' w2) (Reg.Has.op (p:=Op.call {callee:=Callee.value (.func 40),args:=#[],argTypes:=#[]}) (t:=21) (by show _=_;kernel_rfl) ho).1 #[] (by simp) (fun _ _=>enters Tryz.func40 (by kernel_rfl) rfl _ _) ((Ct.new_ok w').mono (fun e w2 ⟨h1,h2,h3⟩=>⟨_,h1,⟨_,rfl,Nat.le_refl _,h2⟩,h3⟩)) ?_
   rintro u w2 ⟨⟨gc,h1,h2,h3⟩,h4⟩;exact hK _ _ ⟨gc,h1,Nat.le_trans hB.size h2,h3⟩ h4
  |2,_,ho=>exact Sl.wp_move _ (Reg.Has.op (p:=Op.move (.tmp 5)) (t:=22) (by show _=_;kernel_rfl) ho).1 (hK _ _ (hout 5 (Reg.Free.out (by show _=_;kernel_rfl))) (Below.refl _ _))
  |3,_,ho=>
   obtain⟨gc,h1,h2,h3⟩:=(hdep 1 (mem_of (by show _=_;kernel_rfl)) 21 (by show _=_;kernel_rfl))
   refine wp_build_env (.tmp 20) (.tmp 21) (.tmp 22) (Reg.Has.op (p:=Op.build 32 #[(0,.tmp 20),(1,.tmp 21),(2,.tmp 22)]) (t:=23) (by show _=_;kernel_rfl) ho).1 (hdep 0 (mem_of (by show _=_;kernel_rfl)) 20 (by show _=_;kernel_rfl)) h1 (hdep 2 (mem_of (by show _=_;kernel_rfl)) 22 (by show _=_;kernel_rfl)) (hK _ _ ⟨gc,rfl,h2,h3⟩ (Below.refl _ _))
  |4,_,ho=>
   refine wp_val (V:=.pointer (some ⟨w'.heap.size,0,none⟩)) (w':=w'.alloc (.cells ([.int .i64 0,.int .i64 0,.int .i64 0,.int .i64 0,.int .i64 0,.int .i64 0,.int .i64 0,.int .i64 0,.pointer none,.pointer none,.slice none 0 0]:List Value).toArray 32)) ?_ (hK _ _ ⟨_,rfl,hB.size,Lies.new _ _ _⟩ (below1 _ _))
   have hop:=(Reg.Has.op (p:=Op.alloc 32) (t:=7) (by show _=_;kernel_rfl) ho).1
   simp[execOp,hop,go_sem]
 ·intro f w' hv hB hev
  obtain⟨gc,e3,l3,c3⟩:=hv 3 (by omega)
  obtain⟨ge,e4,l4,z4⟩:=hv 4 (by omega)
  change wpList _ _ _ [_] (Act.put (Act.put (Act.put (Act.put (Act.put _ (some 20) (f 0)) (some 21) (f 1)) (some 22) (f 2)) (some 23) (f 3)) (some 7) (f 4)) _
  rw[Rel.puts_zero];rw[e3,e4];clear hv hev;generalize f 0=v0;generalize f 1=v1;generalize f 2=v2;have KB:=hid hB
  have NE:Hid (gc≠ge):=hid fun e=>by
   subst e;have h1:=c3.cell (i:=3) rfl;have h2:=z4.cell (i:=3) rfl;rw[h1] at h2;cases h2
  have C3:=hid c3;have Z4:=hid z4;have L34:=hid (And.intro l3 l4);clear hB c3 z4 l3 l4 e3 e4;simp only[Act.put,List.setIfInBounds_toArray,List.set_cons_zero,List.set_cons_succ]
  go_upto_region 3 with (first
   |(refine wpList_plain rfl fun K' hK'=>Wh.wp_store Tryz.sizeOf32 _ _ rfl rfl rfl Z4.out (Nat.le_refl _) rfl (ecl_one cf gc b) (ecl cf gc b (.slice none 0 0)) rfl (fun w3 z1 z2=>hK' _ _ ?_))
   |fail)
  obtain⟨R0,b0⟩:=(begun_start HG.out K0.out C0.out A0.out T1.out K1.out S1.out HB.out KW.out KB.out NE.out C3.out Z4.out L34.out.1 L34.out.2 z1 z2);have B0:=hid b0;clear b0 z1 z2 f C0 A0 T1 C1 A1 K1 S1 KB NE C3 Z4 L34;have env8:=B0.out.env.cell (i:=8) rfl;simp only[Act.put];go_upto_region 7 with fail
  clear env8;go_loopw [8,9] (fun sw si wr=>∃ (k:Nat) (ws bs:List Nat) (R:Nat→Nat→Prop) (wA bA:Option Addr) (wc bc:Nat),si=.int .i64 k∧sw=.slice wA k wc∧bs.length=k∧(k:Int)≤cf.h∧Hid (BM w cf gc b g (g+1) ge sw (.slice bA k bc) ws bs R wr)) (fun _ si _=>cf.h.toNat-(intOf si).toNat)
  case atStart=>exact⟨0,[],[],R0,none,none,0,0,rfl,rfl,rfl,by have:=hm.1.1;omega,B0⟩
  case round=>
   obtain⟨k,ws,bs,R,wA,bA,wc,bc,rfl,rfl,hk,hkh,B⟩:=hrel;have h8:=hm.1.2;have c5:=B.out.cfg.cell (i:=5) rfl;by_cases hlt:(k:Int)<cf.h
   ·have NL:=hid (And.intro hk (And.intro hkh hlt))
    go_upto_region 9 with fail
    clear c5 hk hkh;have CS:Hid (∀ w',Below wr.heap.size wr w'→w'.cell? ⟨g,0,none⟩=some (.int .i64 cf.k)∧w'.cell? ⟨g,1,none⟩=some (.int .i64 cf.s)∧w'.cell? ⟨g,2,none⟩=some (.int .i64 cf.l)∧w'.cell? ⟨g,3,none⟩=some (.int .i64 cf.g)∧w'.cell? ⟨g,4,none⟩=some (.int .i64 cf.z)∧w'.cell? ⟨g,5,none⟩=some (.int .i64 cf.h)∧w'.cell? ⟨g,6,none⟩=some (.int .i64 cf.r)∧w'.cell? ⟨g,7,none⟩=some (.int .i64 cf.c)∧Below wr.heap.size wr w'):=hid fun w' hB=>⟨(B.out.cfg.next hB).cell (i:=0) rfl,(B.out.cfg.next hB).cell (i:=1) rfl,(B.out.cfg.next hB).cell (i:=2) rfl,(B.out.cfg.next hB).cell (i:=3) rfl,(B.out.cfg.next hB).cell (i:=4) rfl,(B.out.cfg.next hB).cell (i:=5) rfl,(B.out.cfg.next hB).cell (i:=6) rfl,(B.out.cfg.next hB).cell (i:=7) rfl,hB⟩
    have CB:Hid (∀ w',w'.cell? ⟨g,0,none⟩=some (.int .i64 cf.k)∧w'.cell? ⟨g,1,none⟩=some (.int .i64 cf.s)∧w'.cell? ⟨g,2,none⟩=some (.int .i64 cf.l)∧w'.cell? ⟨g,3,none⟩=some (.int .i64 cf.g)∧w'.cell? ⟨g,4,none⟩=some (.int .i64 cf.z)∧w'.cell? ⟨g,5,none⟩=some (.int .i64 cf.h)∧w'.cell? ⟨g,6,none⟩=some (.int .i64 cf.r)∧w'.cell? ⟨g,7,none⟩=some (.int .i64 cf.c)∧Below wr.heap.size wr w'→Below wr.heap.size wr w'):=hid fun w' h=>h.2.2.2.2.2.2.2.2
    have ML:Hid ((M0 cf).length≤16):=hid (by rw[Ow.ini_len];omega)
    go_region_held3 (fun w'=>w'.cell? ⟨g,0,none⟩=some (.int .i64 cf.k)∧w'.cell? ⟨g,1,none⟩=some (.int .i64 cf.s)∧w'.cell? ⟨g,2,none⟩=some (.int .i64 cf.l)∧w'.cell? ⟨g,3,none⟩=some (.int .i64 cf.g)∧w'.cell? ⟨g,4,none⟩=some (.int .i64 cf.z)∧w'.cell? ⟨g,5,none⟩=some (.int .i64 cf.h)∧w'.cell? ⟨g,6,none⟩=some (.int .i64 cf.r)∧w'.cell? ⟨g,7,none⟩=some (.int .i64 cf.c)∧Below wr.heap.size wr w')
     (first|exact CS.out _ (Below.refl _ _).drew|exact CS.out _ (after (CB.out _ (by assumption)) k4)|exact CS.out _ (after (after (Below.refl _ _).drew k4) k5))
     (first
      |(go_at_call 42;refine (Ow.groups_ok (t:=(k:Int)) (hid (B.out.table.next (CB.out _ (by assumption)))) ML.out).mono ?_;rintro r w4 ⟨Ag,cg,rfl,g4,k4⟩;obtain⟨bg,-,ig⟩:=g4.is;have IG:=hid (ints_nat ig))
      |(go_at_call 41;refine (Sh.newl_ok cf _ _ w4 IG (by rw[List.length_map];exact Nat.le_trans (Ow.own_len _ _ _) ML.out) M s1).mono ?_;rintro r w5 ⟨wk,m,bx,rfl,l5,b5,lo5,lo6,ne5,k5⟩))
    rename_i hh
    have kb:=hid (CB.out _ hh);have X5:=hid (And.intro l5 (And.intro b5 (And.intro (Nat.le_trans k4.size lo5) (Nat.le_trans k4.size lo6))));clear hh CS CB IG l5 b5 lo5 lo6 ne5 k5 k4 g4 ig;go_wp2_with fail
    refine (Sh.box_at w5 (hid X5.out.1)).mono ?_
    rintro r _ ⟨rfl,rfl⟩;dsimp only;have k6:=below1 w5 (Obj.cells #[gp wk] 59);have L6:Hid (Lies (w5.alloc (Obj.cells #[gp wk] 59)) w5.heap.size 59 [gp wk]):=hid (Lies.new _ _ _);have B6:=hid (B.out.next (after kb.out k6));have W6:=hid (X5.out.1.next k6);have e1:Hid (ws.length+[wk].length≤1048576):=hid (by rw[B.out.same,NL.out.1];simp;omega)
    have e2:Hid (w.heap.size≤(w5.alloc (Obj.cells #[gp wk] 59)).heap.size):=hid B6.out.fam.below.size;have e4:Hid (Sl.Is Wk (w5.alloc (Obj.cells #[gp wk] 59)) (.slice (some ⟨w5.heap.size,0,none⟩) 1 1) [wk] w5.heap.size):=hid (Sl.Is.one wok (x:=wk) L6.out);have eb:Hid (bs.length+[bx].length≤1048576):=hid (by rw[NL.out.1];simp;omega)
    have WN:Hid (wr.heap.size≤wk∧wr.heap.size≤bx):=hid X5.out.2.2;have ap:Hid (∀ a,R 20 a→a<wr.heap.size∧¬R 32 a∧¬R 21 a):=hid fun a ha=>⟨B.out.fam.in_ 20 a ha,B.out.fam.ap 20 32 (by decide) a ha,B.out.fam.ap 20 21 (by decide) a ha⟩
    clear k6 L6;go_wp2_with (at_builtin;refine wpList_plain rfl fun K' hK'=>Sl.wp_append wok (.tmp 62) (.tmp 64) rfl (base:=w.heap.size) (l:=ws) (l2:=[wk]) (b2:=w5.heap.size) B6.out.wl e4.out e1.out e2.out (fun u w7 z1 z2 z3=>hK' _ _ ?_))
    obtain⟨b7,-,i7⟩:=z1.is;obtain⟨A7,c7,rfl⟩:=i7.len;rw[List.length_append,B.out.same,NL.out.1,List.length_singleton] at z1 z3 ⊢;have nb:∀ a,a<(w5.alloc (Obj.cells #[gp wk] 59)).heap.size→¬R 20 a→w7.heap[a]?=(w5.alloc (Obj.cells #[gp wk] 59)).heap[a]?:=fun a ha hn=>z2.block a ha fun e=>hn (by rw[B.out.r20];exact e.symm)
    have EN7:Hid (Lies w7 ge 32 (ecl cf gc b (.slice bA k bc))):=hid ((nb ge B6.out.env.lt fun q=>(ap.out ge q).2.1 (by rw[B.out.r32])).trans B6.out.env)
    have L7:Hid (Lies w7 wk 121 (Sh.wcl cf m bx)):=hid ((nb wk W6.out.lt fun q=>by have:=(ap.out wk q).1;have:=WN.out;omega).trans W6.out)
    have BL7:=hid (B6.out.bl.move fun a ha=>nb a (B6.out.bl.lt a ha).2 fun q=>(ap.out a q).2.2 (by rw[B.out.r21];exact ha))
    have Z:=hid (And.intro z1 (And.intro z2 z3));have e8:Hid (w.heap.size≤w7.heap.size):=hid (Nat.le_trans e2.out z2.size)
    have ng:Hid ((Value.slice bA k bc).ownBlock≠some ge):=hid fun e=>by
     have h1:R 21 ge:=by rw[B.out.r21];exact e
     exact B.out.fam.ap 21 32 (by decide) ge h1 (by rw[B.out.r32])
    have e10:=EN7.out.cell (i:=10) rfl;have EN8:=hid (EN7.out.next (below1 w7 (Obj.cells #[gp bx] 94)));have e10b:=EN8.out.cell (i:=10) rfl;have L8:Hid (Lies (w7.alloc (Obj.cells #[gp bx] 94)) w7.heap.size 94 [gp bx]):=hid (Lies.new _ _ _);have BL8:=hid (BL7.out.next (below1 w7 (Obj.cells #[gp bx] 94)));clear z1 z2 z3 nb i7;go_upto_region 13 with fail
    go_region_law (first
     |(refine step_box rfl (.tmp 68) rfl rfl (L7.out.next (by first|exact Below.refl _ _|exact (Below.refl _ _).drew|exact below1 _ _)) ?_)
     |(refine step_append_at pok rfl (.tmp 67) (.tmp 70) rfl (.slice bA k bc) (.slice (some ⟨w7.heap.size,0,none⟩) 1 1) (by simp[Act.eval]) (by simp[Act.eval]) (base:=w.heap.size) (l:=bs) (l2:=[bx]) (b2:=w7.heap.size) (by exact BL8.out.next (Below.refl _ _).drew) (by exact Sl.Is.one pok (x:=bx) L8.out) (by exact eb.out) (by have:=e8.out;simp;omega) (g:=ge) (j:=10) (by exact EN8.out.next (Below.refl _ _).drew) rfl (by exact ng.out) ?_;intro A8 m8 c8 w9 hm y1 y2 z1 z2 z3;have HM:=hid hm;have Z1:=hid z1;have Z2:=hid z2;have Z3:=hid z3;clear z1 z2 z3))
    all_goals
     obtain⟨R9,b9⟩:=B.out.push (by rw[NL.out.1];omega) kb.out X5.out.2.1 WN.out.2 (below1 w5 (Obj.cells #[gp wk] 59)) Z.out.1 Z.out.2.1 Z.out.2.2 ((below1 w7 (Obj.cells #[gp bx] 94)).drew) Z1.out Z2.out Z3.out
     have B9:=hid b9;have hm8:m8=k+1:=by have:=HM.out;rw[List.length_append,NL.out.1,List.length_singleton] at this;exact this
     have HQ:=hid hm8;clear b9 hm8 e10 e10b HM Z1 Z2 Z3;go_wp2_with fail
     have h8:=HQ.out;subst h8;exact⟨⟨k+1,ws++[wk],bs++[bx],R9,A7,A8,c7,c8,by go_num,rfl,by rw[List.length_append,NL.out.1];rfl,by have:=NL.out;omega,B9⟩,by have:=NL.out;simp[intOf];omega⟩
   ·have hkk:(k:Int)=cf.h:=by omega
    have EN:=B.out.env
    go_wp2_with (first
     |(refine wpList_plain rfl fun K' hK'=>Wh.wp_load Tryz.isAgg32 Tryz.sizeOf32 _ rfl rfl B.out.env (Nat.le_refl _) (ecl cf gc b (.slice bA k bc)) rfl (hK' _ _ ?_))
     |(refine wpList_plain rfl fun K' hK'=>Wh.wp_store Tryz.sizeOf32 _ _ rfl rfl rfl B.out.ans (Nat.le_refl _) rfl (ecl_one' cf gc b _ _ _) (ecl cf gc b (.slice bA k bc)) rfl (fun w3 z1 z2=>hK' _ _ ?_))
     |fail)
    exact bodyPost_ret (told_beg rfl rfl rfl z1) rfl ⟨gc,b,_,bA,k,bc,bs,ws,R,rfl,B.out.fin z2,by rw[hk];exact hkk⟩
end Cn
end Go.Proofs.YtfjlnniahfbdfaaGreat
