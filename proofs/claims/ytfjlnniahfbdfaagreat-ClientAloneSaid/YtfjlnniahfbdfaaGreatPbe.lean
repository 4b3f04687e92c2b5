/- A part of the proof. -/
import Derived.Test.YtfjlnniahfbdfaaGreatPba
import Derived.Test.YtfjlnniahfbdfaaGreatPbb
import Derived.Test.YtfjlnniahfbdfaaGreatPbc
import Derived.Test.YtfjlnniahfbdfaaGreatPbd
import Derived.Test.YtfjlnniahfbdfaaGreatPat
import Derived.Deep.RegionHeld3
import Derived.Deep.DeepCutAuto
set_option linter.unusedVariables false
set_option maxHeartbeats 4000000
namespace Go.Proofs.YtfjlnniahfbdfaaGreat
open Lib (hid)
open Go.ChangeShapes Go.WideShapes Go.ChangeAt Go.RowKit
set_option maxRecDepth 100000
namespace Cn
open Small Foot Fm Ca
abbrev gp(g:Nat):Value:=.pointer (some ⟨g,0,none⟩)
abbrev stv(s:Option Nat):Value:=.pointer (s.map fun g=>⟨g,0,none⟩)
structure Rp where
 code:Int
 a:Option Addr
 n:Nat
 c:Nat
 P:List Pn
instance:Inhabited Rp:=⟨⟨0,none,0,0,[]⟩⟩
abbrev Rp.pv(x:Rp):Value:=.slice x.a x.n x.c
abbrev Rp.cl(x:Rp):List Value:=[.int .i64 x.code,.slice x.a x.n x.c]
abbrev Rp.v(x:Rp):Value:=.agg #[.int .i64 x.code,.slice x.a x.n x.c]
abbrev r0:Rp:=⟨0,none,0,0,[]⟩
abbrev Rk:Kind Rp:=⟨40,43,2,32,.agg #[.int .i64 0,.slice none 0 0],Rp.cl⟩
theorem rok:Rk.Ok where
 under:=Tryz.underlying40
 elem:=by kernel_rfl
 info:=by kernel_rfl
 zs:=rfl
 pos:=by decide
 len:=fun _=>rfl
 one:=by
  intro x u hu;simp only[Rp.cl,List.mem_cons,List.not_mem_nil,or_false] at hu;rcases hu with rfl|rfl<;>rfl
 small:=by decide
abbrev Ck:Kind Cl:=⟨24,46,7,64,.agg #[.int .i64 0,.string ⟨#[]⟩,.int .i64 0,.int .i64 0,.int .i64 0,.int .i64 0,.int .i64 0],Cl.cl⟩
theorem cok:Ck.Ok where
 under:=Tryz.underlying24
 elem:=by kernel_rfl
 info:=by kernel_rfl
 zs:=rfl
 pos:=by decide
 len:=fun _=>rfl
 one:=by
  intro x u hu;simp only[Cl.cl,List.mem_cons,List.not_mem_nil,or_false] at hu;rcases hu with rfl|rfl|rfl|rfl|rfl|rfl|rfl<;>rfl
 small:=by decide
abbrev Pk:Kind Nat:=⟨30,94,1,8,.pointer none,fun x=>[gp x]⟩
theorem pok:Pk.Ok where
 under:=Tryz.underlying30
 elem:=by kernel_rfl
 info:=by kernel_rfl
 zs:=rfl
 pos:=by decide
 len:=fun _=>rfl
 one:=by
  intro x u hu;simp at hu;subst hu;rfl
 small:=by decide
structure Pg where
 b:Bool
 ask:Int
 r:Rp
 held:Option Nat
 put:Int
 due:Int
 hand:Option Nat
abbrev g0:Pg:=⟨false,0,r0,none,0,0,none⟩
abbrev ccl(num:Int)(cv rv:Value)(g:Pg):List Value:=[.int .i64 num,cv,rv,.bool g.b,.int .i64 g.ask,.int .i64 g.r.code,.slice g.r.a g.r.n g.r.c,stv g.held,.int .i64 g.put,.int .i64 g.due,stv g.hand]
structure Q(w:World)(x:Nat)(num:Int)(cv:Value)(cs:List Cl)(rv:Value)(rs:List Rp)(g:Pg):Prop where
 lies:Lies w x 108 (ccl num cv rv g)
 calls:Sl.Own Ck 0 w cv cs
 reps:Sl.Own Rk 0 w rv rs
 n1:cv.ownBlock≠some x
 n2:rv.ownBlock≠some x
 n3:∀ a,cv.ownBlock=some a→rv.ownBlock≠some a
def CF(x:Nat)(cv rv:Value):Nat→Prop:=fun i=>i=x∨cv.ownBlock=some i∨rv.ownBlock=some i
section
variable {w w':World} {x:Nat} {num:Int} {cv rv:Value} {cs:List Cl} {rs:List Rp} {g g':Pg}
theorem Q.keep(h:Q w x num cv cs rv rs g)(k:∀ i,CF x cv rv i→w'.heap[i]?=w.heap[i]?):Q w' x num cv cs rv rs g:=
 ⟨(k x (.inl rfl)).trans h.lies,h.calls.move fun a ha=>k a (.inr (.inl ha)),h.reps.move fun a ha=>k a (.inr (.inr ha)),h.n1,h.n2,h.n3⟩
theorem Q.in(h:Q w x num cv cs rv rs g):In w (CF x cv rv):=fun i hi=>by
 rcases hi with rfl|hi|hi
 ·exact h.lies.lt
 ·exact (h.calls.lt i hi).2
 ·exact (h.reps.lt i hi).2
theorem Q.next(h:Q w x num cv cs rv rs g)(k:Below w.heap.size w w'):Q w' x num cv cs rv rs g:=h.keep fun i hi=>k.block i (h.in i hi)
theorem Q.lits(h:Q w x num cv cs rv rs g):∃ A c B d,cv=.slice A cs.length c∧rv=.slice B rs.length d:=by
 obtain⟨_,_,h1⟩:=h.calls.is
 obtain⟨_,_,h2⟩:=h.reps.is
 obtain⟨A,c,e⟩:=h1.len
 obtain⟨B,d,e2⟩:=h2.len
 exact⟨A,c,B,d,e,e2⟩
theorem Q.put(h:Q w x num cv cs rv rs g)(j:Nat)(v:Value)(e:(ccl num cv rv g).set j v=ccl num cv rv g'):Q (w.setCell ⟨x,j,none⟩ v) x num cv cs rv rs g'∧Moves (CF x cv rv) (CF x cv rv) w (w.setCell ⟨x,j,none⟩ v):=by
 have nx:∀ i,i≠x→(w.setCell ⟨x,j,none⟩ v).heap[i]?=w.heap[i]?:=fun i hi=>Below.heap_setCell w ⟨x,j,none⟩ v i (by exact hi)
 refine⟨⟨by rw[←e];exact h.lies.put j v,h.calls.move fun a ha=>nx a fun q=>h.n1 (q▸ha),h.reps.move fun a ha=>nx a fun q=>h.n2 (q▸ha),h.n1,h.n2,h.n3⟩,rfl,rfl,rfl,by simp,fun i hi hn=>nx i fun q=>hn (.inl q),fun i hi=>⟨.inl hi,by simpa using h.in i hi⟩⟩
theorem Q.rep{w1:World}{rv':Value}{rs':List Rp}(h:Q w x num cv cs rv rs g)(k:w.grownBy w1 rv.ownBlock)(o:Sl.Own Rk 0 w1 rv' rs')(e:rv'.ownBlock=rv.ownBlock∨rv'.ownBlock=some w.heap.size):
  Q (w1.setCell ⟨x,2,none⟩ rv') x num cv cs rv' rs' g∧Moves (CF x cv rv) (CF x cv rv') w (w1.setCell ⟨x,2,none⟩ rv'):=by
 have nx:∀ i,i≠x→(w1.setCell ⟨x,2,none⟩ rv').heap[i]?=w1.heap[i]?:=fun i hi=>Below.heap_setCell w1 ⟨x,2,none⟩ rv' i (by exact hi)
 have l1:Lies w1 x 108 (ccl num cv rv g):=(k.block x h.lies.lt fun e=>h.n2 e.symm).trans h.lies
 have n2:rv'.ownBlock≠some x:=fun q=>by
  rcases e with e|e
  ·exact h.n2 (e▸q)
  ·have:=h.lies.lt;rw[e] at q;have:=Option.some.inj q;omega
 have n3:∀ a,cv.ownBlock=some a→rv'.ownBlock≠some a:=fun a ha q=>by
  rcases e with e|e
  ·exact h.n3 a ha (e▸q)
  ·have:=(h.calls.lt a ha).2;rw[e] at q;have:=Option.some.inj q;omega
 refine⟨⟨l1.put 2 rv',(h.calls.move fun a ha=>k.block a (h.calls.lt a ha).2 fun q=>h.n3 a ha q.symm).move fun a ha=>nx a fun q=>h.n1 (q▸ha),o.move fun a ha=>nx a fun q=>n2 (q▸ha),h.n1,n2,n3⟩,k.os,k.tape,k.output,Nat.le_trans k.size (by simp),fun i hi hn=>?_,fun i hi=>?_⟩
 ·rw[nx i fun q=>hn (.inl q)]
  exact k.block i hi fun q=>hn (.inr (.inr q.symm))
 ·have s:=k.size
  rcases hi with rfl|hi|hi
  ·exact⟨.inl (.inl rfl),by have:=h.lies.lt;simp;omega⟩
  ·exact⟨.inl (.inr (.inl hi)),by have:=(h.calls.lt i hi).2;simp;omega⟩
  ·refine⟨?_,by have:=(o.lt i hi).2;simpa using this⟩
   rcases e with e|e
   ·exact .inl (.inr (.inr (e▸hi)))
   ·rw[e] at hi;exact .inr (by have:=Option.some.inj hi;omega)
end
def VB(w0:World)(R:Nat→Nat→Prop)(w:World)(v:Value)(X:List Pn):Prop:=Sl.Own Pn.k w0.heap.size w v X∧∀ a,v.ownBlock=some a→∀ i,¬R i a
section
variable {T:Nat→Prop} {w0 w w':World} {R R':Nat→Nat→Prop} {v:Value} {X:List Pn}
theorem VB.on(h:VB w0 R w v X)(k:On T R w R' w'):VB w0 R' w' v X:=
 ⟨h.1.move fun a ha=>(k.free a (h.1.lt a ha).2 (h.2 a ha)).1,fun a ha=>(k.free a (h.1.lt a ha).2 (h.2 a ha)).2⟩
theorem VB.nil:VB w0 R w (.slice none 0 0) []:=⟨Sl.Own.nil _ _ _,fun a h=>by cases h⟩
theorem VB.new(f:Fam w0 w R)(k:Below w.heap.size w w')(h:Sl.Own Pn.k w.heap.size w' v X):VB w0 R w' v X:=
 ⟨⟨h.1,by
  rcases h.2 with q|⟨g,cap,cur,h1,h2,q⟩
  ·exact .inl q
  ·exact .inr ⟨g,cap,cur,h1,Nat.le_trans f.below.size h2,q⟩⟩,fun a ha i q=>by have:=(h.lt a ha).1;have:=f.in_ i a q;omega⟩
theorem VB.is(h:VB w0 R w v X):∃ b,Sl.Is Pn.k w v X b:=by
 obtain⟨b,_,q⟩:=h.1.is
 exact⟨b,q⟩
end
structure Ev where
 cf:Cf
 gc:Nat
 b:Nat
 ba:Option Addr
 bn:Nat
 bc:Nat
 bs:List Nat
 x:Nat
 num:Int
 cs:List Cl
abbrev Ev.cl(E:Ev):List Value:=[.int .i64 E.cf.k,.int .i64 E.cf.s,.int .i64 E.cf.l,.int .i64 E.cf.g,.int .i64 E.cf.z,.int .i64 E.cf.h,.int .i64 E.cf.r,.int .i64 E.cf.c,gp E.gc,gp (E.b+1),.slice E.ba E.bn E.bc]
abbrev Ev.v(E:Ev):Value:=.agg #[.int .i64 E.cf.k,.int .i64 E.cf.s,.int .i64 E.cf.l,.int .i64 E.cf.g,.int .i64 E.cf.z,.int .i64 E.cf.h,.int .i64 E.cf.r,.int .i64 E.cf.c,gp E.gc,gp (E.b+1),.slice E.ba E.bn E.bc]
structure St where
 M:List Ow.O
 wm:Int
 hk:Int
 hd:Bool
 sd:Bool
 L:Nat→List Ms.M
 sb:Nat→Bool
 rs:List Rp
 g:Pg
 hg:Int
 ht:Int
 hkd:Int
 hs:Bool
 hst:Option Nat
def TT:Nat→Prop:=fun j=>j<8∨(16≤j∧j≤19)
structure CM(w0:World)(E:Ev)(s:St)(R:Nat→Nat→Prop)(w:World):Prop where
 fam:Fam w0 w R
 few:E.bs.length≤8
 box:∀ (i g:Nat),E.bs[i]?=some g→∃ v,Ms.Box w g E.cf.c (s.sb i) v (s.L i)∧R i=Bx.Fp g v
 table:Ow.Is w E.b E.cf.h s.M
 r16:R 16=Ow.Fp E.b
 ctl:Ct.Is w E.gc s.wm s.hk s.hd s.sd
 r17:R 17=Ct.Fp E.gc
 client:∃ cv rv,Q w E.x E.num cv E.cs rv s.rs s.g∧R 18=CF E.x cv rv
 reps:∀ r∈s.rs,VB w0 R w r.pv r.P
 now:VB w0 R w s.g.r.pv s.g.r.P
 hand:∀ h,s.g.hand=some h→Hd.Is w h E.b s.hg s.ht s.hkd s.hs s.hst∧R 19=Hd.At h
 list:Sl.Own Pk w0.heap.size w (.slice E.ba E.bn E.bc) E.bs
 r21:R 21=fun j=>(Value.slice E.ba E.bn E.bc).ownBlock=some j
section
variable {w0 w w':World} {E:Ev} {s s':St} {R R':Nat→Nat→Prop} {F' G':Nat→Prop} {i g:Nat}
theorem CM.kbox(h:CM w0 E s R w)(k:Kp R R' w w' i):∀ g,E.bs[i]?=some g→∃ v,Ms.Box w' g E.cf.c (s.sb i) v (s.L i)∧R' i=Bx.Fp g v:=fun g e=>by
 obtain⟨v,b,r⟩:=h.box i g e
 have kk:∀ j,Bx.Fp g v j→w'.heap[j]?=w.heap[j]?:=fun j hj=>k.2 j (by rw[r];exact hj)
 exact⟨v,⟨(kk g (.inl rfl)).trans b.lies,b.own.move fun a ha=>kk a (.inr ha)⟩,k.1.trans r⟩
theorem CM.ktable(h:CM w0 E s R w)(k:Kp R R' w w' 16):Ow.Is w' E.b E.cf.h s.M∧R' 16=Ow.Fp E.b:=
 ⟨⟨(k.2 _ (by rw[h.r16];exact .inr rfl)).trans h.table.lies,(k.2 _ (by rw[h.r16];exact .inl rfl)).trans h.table.rows⟩,k.1.trans h.r16⟩
theorem CM.kctl(h:CM w0 E s R w)(k:Kp R R' w w' 17):Ct.Is w' E.gc s.wm s.hk s.hd s.sd∧R' 17=Ct.Fp E.gc:=
 ⟨(k.2 _ (by rw[h.r17])).trans h.ctl,k.1.trans h.r17⟩
theorem CM.kclient(h:CM w0 E s R w)(k:Kp R R' w w' 18):∃ cv rv,Q w' E.x E.num cv E.cs rv s.rs s.g∧R' 18=CF E.x cv rv:=by
 obtain⟨cv,rv,q,r⟩:=h.client
 exact⟨cv,rv,q.keep fun j hj=>k.2 j (by rw[r];exact hj),k.1.trans r⟩
theorem CM.khand(h:CM w0 E s R w)(k:Kp R R' w w' 19):∀ hh,s.g.hand=some hh→Hd.Is w' hh E.b s.hg s.ht s.hkd s.hs s.hst∧R' 19=Hd.At hh:=fun hh e=>by
 obtain⟨l,r⟩:=h.hand hh e
 exact⟨(k.2 hh (by rw[r])).trans l,k.1.trans r⟩
theorem CM.klist(h:CM w0 E s R w)(k:Kp R R' w w' 21):Sl.Own Pk w0.heap.size w' (.slice E.ba E.bn E.bc) E.bs∧R' 21=fun j=>(Value.slice E.ba E.bn E.bc).ownBlock=some j:=
 ⟨h.list.move fun a ha=>k.2 a (by rw[h.r21];exact ha),k.1.trans h.r21⟩
theorem CM.kreps(h:CM w0 E s R w)(k:On TT R w R' w'):(∀ r∈s.rs,VB w0 R' w' r.pv r.P)∧VB w0 R' w' s.g.r.pv s.g.r.P:=⟨fun r hr=>(h.reps r hr).on k,h.now.on k⟩
theorem CM.next(h:CM w0 E s R w)(k:Below w.heap.size w w'):CM w0 E s R w':=by
 have o:On TT R w R w':=On.below h.fam k
 have K:∀ i,Kp R R w w' i:=fun i=>⟨rfl,fun b hb=>k.block b (h.fam.in_ i b hb)⟩
 exact⟨h.fam.next k,h.few,fun i=>h.kbox (K i),(h.ktable (K 16)).1,h.r16,(h.kctl (K 17)).1,h.r17,h.kclient (K 18),(h.kreps o).1,(h.kreps o).2,h.khand (K 19),(h.klist (K 21)).1,h.r21⟩
theorem one_kp(h:Fam w0 w R)(k:Moves (R i) F' w w'):∀ j,j≠i→Kp R (rset R i F') w w' j:=fun j hj=>⟨rset_ne _ _ hj,h.kept k hj⟩
theorem two_kp{j:Nat}(h:Fam w0 w R)(k:Moves (Or2 (R i) (R j)) (Or2 F' G') w w'):∀ l,l≠i→l≠j→Kp R (rset (rset R i F') j G') w w' l:=fun l h1 h2=>⟨by rw[rset_ne _ _ h2,rset_ne _ _ h1],h.kept2 k h1 h2⟩
theorem CM.on18{cv rv:Value}{rs':List Rp}{g':Pg}(h:CM w0 E s R w)(q:Q w' E.x E.num cv E.cs rv rs' g')(k:Moves (R 18) (CF E.x cv rv) w w')(hr:∀ r∈rs',r∈s.rs∨VB w0 R w r.pv r.P)(hn:g'.r=s.g.r∨VB w0 R w g'.r.pv g'.r.P)(hh:g'.hand=none∨g'.hand=s.g.hand):
  ∃ R',CM w0 E {s with rs:=rs',g:=g'} R' w'∧On TT R w R' w':=by
 have o:On TT R w (rset R 18 (CF E.x cv rv)) w':=On.one h.fam k (.inr (by decide))
 have K:=one_kp h.fam k
 refine⟨_,⟨h.fam.one k,h.few,fun i g e=>h.kbox (K i (by have:=(List.getElem?_eq_some_iff.1 e).1;have:=h.few;omega)) g e,(h.ktable (K 16 (by decide))).1,(h.ktable (K 16 (by decide))).2,(h.kctl (K 17 (by decide))).1,(h.kctl (K 17 (by decide))).2,⟨cv,rv,q,rset_same _ _ _⟩,fun r hm=>?_,?_,fun hh' e=>?_,(h.klist (K 21 (by decide))).1,(h.klist (K 21 (by decide))).2⟩,o⟩
 ·rcases hr r hm with q|q
  ·exact (h.reps r q).on o
  ·exact q.on o
 ·rcases hn with q|q
  ·show VB w0 _ w' g'.r.pv g'.r.P
   rw[q];exact h.now.on o
  ·exact q.on o
 ·rcases hh with q|q
  ·rw[show ({s with rs:=rs',g:=g'}:St).g.hand=g'.hand from rfl,q] at e;cases e
  ·exact h.khand (K 19 (by decide)) hh' (by rw[←q];exact e)
theorem CM.on17{wm hk:Int}{hd sd:Bool}(h:CM w0 E s R w)(q:Ct.Is w' E.gc wm hk hd sd)(k:Moves (Ct.Fp E.gc) (Ct.Fp E.gc) w w'):∃ R',CM w0 E {s with wm:=wm,hk:=hk,hd:=hd,sd:=sd} R' w'∧On TT R w R' w':=by
 rw[←h.r17] at k
 have o:On TT R w (rset R 17 (R 17)) w':=On.one h.fam k (.inr (by decide))
 have K:=one_kp h.fam k
 exact⟨_,⟨h.fam.one k,h.few,fun i g e=>h.kbox (K i (by have:=(List.getElem?_eq_some_iff.1 e).1;have:=h.few;omega)) g e,(h.ktable (K 16 (by decide))).1,(h.ktable (K 16 (by decide))).2,q,by rw[rset_same];exact h.r17,h.kclient (K 18 (by decide)),(h.kreps o).1,(h.kreps o).2,h.khand (K 19 (by decide)),(h.klist (K 21 (by decide))).1,(h.klist (K 21 (by decide))).2⟩,o⟩
theorem CM.onBox{v v':Value}{L':List Ms.M}{c':Bool}(h:CM w0 E s R w)(e:E.bs[i]?=some g)(r:R i=Bx.Fp g v)(q:Ms.Box w' g E.cf.c c' v' L')(k:Moves (Bx.Fp g v) (Bx.Fp g v') w w'):
  ∃ R',CM w0 E {s with L:=fun j=>if j=i then L' else s.L j,sb:=fun j=>if j=i then c' else s.sb j} R' w'∧On TT R w R' w'∧R'=rset R i (Bx.Fp g v'):=by
 have hi:i<8:=by have:=(List.getElem?_eq_some_iff.1 e).1;have:=h.few;omega
 rw[←r] at k
 have o:On TT R w (rset R i (Bx.Fp g v')) w':=On.one h.fam k (.inl hi)
 have K:=one_kp h.fam k
 refine⟨_,⟨h.fam.one k,h.few,fun j g' e'=>?_,(h.ktable (K 16 (by omega))).1,(h.ktable (K 16 (by omega))).2,(h.kctl (K 17 (by omega))).1,(h.kctl (K 17 (by omega))).2,h.kclient (K 18 (by omega)),(h.kreps o).1,(h.kreps o).2,h.khand (K 19 (by omega)),(h.klist (K 21 (by omega))).1,(h.klist (K 21 (by omega))).2⟩,o,rfl⟩
 by_cases hj:j=i
 ·subst hj
  rw[e] at e';cases e'
  simp only[if_true];exact⟨v',q,rset_same _ _ _⟩
 ·simp only[hj,if_false]
  exact h.kbox (K j hj) g' e'
end
end Cn
namespace Wh
open Small Foot
section
variable {T T':TypeId} {n g off:Nat} {w:World} {cs cs':List Value}
theorem load_at(h1:∀ w,(isAgg T).run Tryz.prog w=.ok true w)(h2:∀ w,(sizeOf T).run Tryz.prog w=.ok n w)(h:Lies w g T' cs)(ho:off+n≤cs.length):
  (loadVar T ⟨g,off,none⟩).run Tryz.prog w=.ok (.agg ((cs.drop off).take n).toArray) w:=by
 have:=run_loadCells_list (P:=Tryz.prog) w ⟨g,off,none⟩ ((cs.drop off).take n) fun j v hj=>by
  rw[Addr.add_lit];rw[List.getElem?_take] at hj
  split at hj
  ·rw[List.getElem?_drop] at hj
   exact h.cell hj
  ·cases hj
 have hl:((cs.drop off).take n).length=n:=by simp;omega
 rw[hl] at this
 unfold loadVar
 simp only[Sem.run_bind,h1,h2,Result.andThen_ok,if_true,this,Sem.run_pure]
theorem wp_load{o:Oper}{a:Act}{K:Act→World→Prop}{Q:Exit→Act→World→Prop}(h1:∀ w,(isAgg T).run Tryz.prog w=.ok true w)(h2:∀ w,(sizeOf T).run Tryz.prog w=.ok n w)(x:Operand)(ho:o.op=.load T x)(hx:a.eval x=.pointer (some ⟨g,off,none⟩))(h:Lies w g T' cs)(hn:off+n≤cs.length)(ds:List Value)(hd:((cs.drop off).take n)=ds)
  (hK:K (a.put o.dst (.agg ds.toArray)) w):o.wp Tryz.prog a w K Q:=by
 have:=load_at h1 h2 h hn
 rw[hd] at this
 unfold Oper.wp execOp
 simp only[ho,hx,Instr.loadAt,Instr.sureAddr,Sem.run_bind,Sem.run_pure,Result.andThen_ok,this]
 exact hK
theorem setRow_grown(w:World)(g:Nat)(cur:Array Value):w.grownBy (w.setRow g cur) (some g):=
 ⟨rfl,rfl,rfl,by simp[World.setRow],fun i hi hn=>by
  have hg:g≠i:=fun e=>hn (by rw[e])
  simp[World.setRow,Array.getElem?_modify,hg]⟩
theorem store_at(h2:∀ w,(sizeOf T).run Tryz.prog w=.ok n w)(h:Lies w g T' cs)(ho:off+n≤cs.length)(hl':cs'.length=n)(h1:∀ v∈cs',v.oneCell'=true):
  ∃ w',(storeVar T ⟨g,off,none⟩ (.agg cs'.toArray)).run Tryz.prog w=.ok () w'∧Lies w' g T' (cs.take off++cs'++cs.drop (off+n))∧w.grownBy w' (some g):=by
 have hst:=run_storeCells_at Tryz.prog g off T' cs' 0 cs.toArray w h (by simp;omega) h1
 refine⟨w.setRow g (cs.take off++cs'++cs.drop (off+n)).toArray,?_,setRow_heap _ _ _ _ _ _ h,setRow_grown _ _ _⟩
 unfold storeVar
 have hc:(Value.agg cs'.toArray).cells=cs'.toArray:=rfl
 simp only[Sem.run_bind,h2,Result.andThen_ok,hc,List.size_toArray,hl',ne_eq,not_true_eq_false,if_false]
 simpa [hl',List.take_append,List.drop_append] using hst
theorem wp_store{o:Oper}{a:Act}{K:Act→World→Prop}{Q:Exit→Act→World→Prop}(h2:∀ w,(sizeOf T).run Tryz.prog w=.ok n w)(x y:Operand)(ho:o.op=.store T x y)(hx:a.eval x=.pointer (some ⟨g,off,none⟩))(hy:a.eval y=.agg cs'.toArray)(h:Lies w g T' cs)(hn:off+n≤cs.length)(hl':cs'.length=n)(h1:∀ v∈cs',v.oneCell'=true)(ds:List Value)(hd:cs.take off++cs'++cs.drop (off+n)=ds)
  (hK:∀ w',Lies w' g T' ds→w.grownBy w' (some g)→K (a.put o.dst undef) w'):o.wp Tryz.prog a w K Q:=by
 obtain⟨w',hr,q1,q2⟩:=store_at h2 h hn hl' h1
 rw[hd] at q1
 unfold Oper.wp execOp
 simp only[ho,hx,hy,Instr.storeAt,Instr.sureAddr,Sem.run_bind,Sem.run_pure,Result.andThen_ok,hr]
 exact hK w' q1 q2
end
end Wh
namespace Cn
open Small Foot Fm Ca
structure Td where
 mv:Bool
 bg:Bool
 pt:Bool
 dn:Bool
 r:Rp
abbrev Td.cl(t:Td):List Value:=[.bool t.mv,.bool t.bg,.bool t.pt,.bool t.dn,.int .i64 t.r.code,.slice t.r.a t.r.n t.r.c]
abbrev Td.v(t:Td):Value:=.agg #[.bool t.mv,.bool t.bg,.bool t.pt,.bool t.dn,.int .i64 t.r.code,.slice t.r.a t.r.n t.r.c]
theorem lit_pn{base:Nat}{w:World}{v:Value}{L:List Pn}(h:Sl.Own Pn.k base w v L):∃ A n c,v=.slice A n c:=by
 obtain⟨b,_,hi⟩:=h.is
 obtain⟨A,c,e⟩:=hi.len
 exact⟨A,_,c,e⟩
theorem own_base{α:Type}{K:Kind α}{base base':Nat}{w:World}{v:Value}{L:List α}(h:Sl.Own K base w v L)(hb:base'≤base):Sl.Own K base' w v L:=
 ⟨h.1,by
  rcases h.2 with q|⟨g,cap,cur,h1,h2,q⟩
  ·exact .inl q
  ·exact .inr ⟨g,cap,cur,h1,Nat.le_trans hb h2,q⟩⟩
theorem Td.one(t:Td):∀ v∈t.cl,v.oneCell'=true:=by
 intro v hv
 simp only[List.mem_cons,List.not_mem_nil,or_false] at hv
 rcases hv with rfl|rfl|rfl|rfl|rfl|rfl<;>rfl
section
variable {o:Oper} {a:Act} {K:Act→World→Prop} {Qq:Exit→Act→World→Prop} {w:World} {g:Nat}
theorem ld_told{t:Td}(x:Operand)(ho:o.op=.load 51 x)(hx:a.eval x=gp g)(h:Lies w g 51 t.cl)(hK:K (a.put o.dst t.v) w):o.wp Tryz.prog a w K Qq:=
 Wh.wp_load Tryz.isAgg51 Tryz.sizeOf51 x ho hx h (Nat.le_refl _) t.cl rfl hK
theorem st_told{t':Td}{cs:List Value}(x y:Operand)(ho:o.op=.store 51 x y)(hx:a.eval x=gp g)(hy:a.eval y=t'.v)(h:Lies w g 51 cs)(hl:cs.length=6)(hK:∀ w',Lies w' g 51 t'.cl→w.grownBy w' (some g)→K (a.put o.dst undef) w'):o.wp Tryz.prog a w K Qq:=
 Wh.wp_store Tryz.sizeOf51 x y ho hx hy h (by rw[hl];exact Nat.le_refl _) rfl t'.one t'.cl (by rw[List.drop_eq_nil_of_le (by rw[hl];exact Nat.le_refl _)];simp) hK
theorem ld_env{E:Ev}(x:Operand)(ho:o.op=.load 32 x)(hx:a.eval x=gp g)(h:Lies w g 32 E.cl)(hK:K (a.put o.dst E.v) w):o.wp Tryz.prog a w K Qq:=
 Wh.wp_load Tryz.isAgg32 Tryz.sizeOf32 x ho hx h (Nat.le_refl _) E.cl rfl hK
theorem ld_cfg{E:Ev}(x:Operand)(ho:o.op=.load 23 x)(hx:a.eval x=gp g)(h:Lies w g 32 E.cl)(hK:K (a.put o.dst E.cf.val) w):o.wp Tryz.prog a w K Qq:=
 Wh.wp_load Tryz.isAgg23 Tryz.sizeOf23 x ho hx h (by simp) [.int .i64 E.cf.k,.int .i64 E.cf.s,.int .i64 E.cf.l,.int .i64 E.cf.g,.int .i64 E.cf.z,.int .i64 E.cf.h,.int .i64 E.cf.r,.int .i64 E.cf.c] rfl hK
theorem ld_call{y:Cl}(x:Operand)(ho:o.op=.load 46 x)(hx:a.eval x=gp g)(h:Lies w g 46 y.cl)(hK:K (a.put o.dst y.val) w):o.wp Tryz.prog a w K Qq:=
 Wh.wp_load Tryz.isAgg46 Tryz.sizeOf46 x ho hx h (Nat.le_refl _) y.cl rfl hK
theorem st_call{y':Cl}{cs:List Value}(x y:Operand)(ho:o.op=.store 46 x y)(hx:a.eval x=gp g)(hy:a.eval y=y'.val)(h:Lies w g 46 cs)(hl:cs.length=7)(hK:∀ w',Lies w' g 46 y'.cl→w.grownBy w' (some g)→K (a.put o.dst undef) w'):o.wp Tryz.prog a w K Qq:=
 Wh.wp_store Tryz.sizeOf46 x y ho hx hy h (by rw[hl];exact Nat.le_refl _) rfl (cok.one y') y'.cl (by rw[List.drop_eq_nil_of_le (by rw[hl];exact Nat.le_refl _)];simp) hK
theorem told_next{y:Cl}{b:Bool}(h2:a.tmps[2]?.getD undef=gp g)(h3:a.tmps[3]?.getD undef=.bool b)(h:Lies w g 46 y.cl):
  (results Tryz.f14 a.tmps).run Tryz.prog w=.ok (.tuple #[y.val,.bool b]) w:=by
 have:=Wh.load_at (off:=0) Tryz.isAgg46 Tryz.sizeOf46 h (Nat.le_refl _)
 rw[show (List.take 7 (List.drop 0 y.cl))=y.cl from rfl] at this
 simp[results,Tryz.results14,h2,h3,asAddr,this,Result.andThen]
theorem told_at{f:Func}{k:Nat}{T:TypeId}{v:Value}{tm:Array Value}(hr:f.results=#[.cell k T])(hk:tm[k]?.getD undef=gp g)(hl:(loadVar T ⟨g,0,none⟩).run Tryz.prog w=.ok v w):(results f tm).run Tryz.prog w=.ok v w:=by
 simp[results,hr,hk,asAddr,hl]
theorem told_told{f:Func}{k:Nat}{t:Td}{tm:Array Value}(hr:f.results=#[.cell k 51])(hk:tm[k]?.getD undef=gp g)(h:Lies w g 51 t.cl):(results f tm).run Tryz.prog w=.ok t.v w:=
 told_at hr hk (Wh.load_at (off:=0) Tryz.isAgg51 Tryz.sizeOf51 h (Nat.le_refl _))
theorem told_rep{f:Func}{k:Nat}{y:Rp}{tm:Array Value}(hr:f.results=#[.cell k 43])(hk:tm[k]?.getD undef=gp g)(h:Lies w g 43 y.cl):(results f tm).run Tryz.prog w=.ok y.v w:=
 told_at hr hk (Wh.load_at (off:=0) Tryz.isAgg43 Tryz.sizeOf43 h (Nat.le_refl _))
theorem st_rep{y':Rp}{cs:List Value}(x y:Operand)(ho:o.op=.store 43 x y)(hx:a.eval x=gp g)(hy:a.eval y=y'.v)(h:Lies w g 43 cs)(hl:cs.length=2)(hK:∀ w',Lies w' g 43 y'.cl→w.grownBy w' (some g)→K (a.put o.dst undef) w'):o.wp Tryz.prog a w K Qq:=
 Wh.wp_store Tryz.sizeOf43 x y ho hx hy h (by rw[hl];exact Nat.le_refl _) rfl (rok.one y') y'.cl (by rw[List.drop_eq_nil_of_le (by rw[hl];exact Nat.le_refl _)];simp) hK
theorem ld_rep{y:Rp}(x:Operand)(ho:o.op=.load 43 x)(hx:a.eval x=gp g)(h:Lies w g 43 y.cl)(hK:K (a.put o.dst y.v) w):o.wp Tryz.prog a w K Qq:=
 Wh.wp_load Tryz.isAgg43 Tryz.sizeOf43 x ho hx h (Nat.le_refl _) y.cl rfl hK
end
section
variable {w w':World} {E:Ev} {x:Nat} {num:Int} {cv rv:Value} {cs:List Cl} {rs:List Rp} {g:Pg}
theorem over_ok(H:Hid (Q w x num cv cs rv rs g)):Calls Tryz.prog 13 #[gp x] w fun r w'=>r=.returned (.bool (decide (cs.length≤rs.length)))∧Below w.heap.size w w':=by
 obtain⟨A,c,B,d,rfl,rfl⟩:=H.out.lits
 have c1:=H.out.lies.cell (i:=1) rfl
 have c2:=H.out.lies.cell (i:=2) rfl
 obtain⟨n,hn⟩:∃ n,n=cs.length:=⟨_,rfl⟩
 obtain⟨m,hm⟩:∃ m,m=rs.length:=⟨_,rfl⟩
 rw[←hn] at c1 ⊢
 rw[←hm] at c2 ⊢
 clear hn hm
 go_enter Tryz.func13,Tryz.ntmps13
 go_wp2_with fail
 go_quiet (fail)
 go_wp2
 go_ret
 exact⟨by simp,Ct.below_drewN _ _⟩
theorem next_none(H:Hid (Q w x num cv cs rv rs g))(hk:cs.length≤rs.length):Calls Tryz.prog 14 #[gp x] w fun r w'=>r=.returned (.tuple #[.agg #[.int .i64 0,.string ⟨#[]⟩,.int .i64 0,.int .i64 0,.int .i64 0,.int .i64 0,.int .i64 0],.bool false])∧Below w.heap.size w w':=by
 have hd:decide (cs.length≤rs.length)=true:=by simpa using hk
 have B0:=below1 w (Obj.cells #[.int .i64 0,.string ⟨#[]⟩,.int .i64 0,.int .i64 0,.int .i64 0,.int .i64 0,.int .i64 0] 46)
 have L0:=hid (Lies.new w 46 [.int .i64 0,.string ⟨#[]⟩,.int .i64 0,.int .i64 0,.int .i64 0,.int .i64 0,.int .i64 0])
 have H0:=hid (H.out.next B0)
 have B0:=hid B0
 go_enter Tryz.func14,Tryz.ntmps14
 go_wp2_with fail
 refine (over_ok H0).mono ?_
 rintro r w1 ⟨rfl,k1⟩
 rw[hd]
 have L1:=hid (L0.out.next k1)
 have K1:=hid (after B0.out k1)
 clear k1
 go_wp2_with (first
  |(refine wpList_plain rfl fun K' hK'=>st_call (y':=⟨0,⟨#[]⟩,0,0,0,0,0⟩) _ _ rfl rfl rfl L1.out rfl (fun w2 z1 z2=>hK' _ _ ?_))
  |fail)
 exact bodyPost_ret (told_next rfl rfl z1) rfl ⟨rfl,K1.out.grown z2 K1.out.size fun j hj=>by cases hj;exact Nat.le_refl _⟩
theorem next_some{y:Cl}(H:Hid (Q w x num cv cs rv rs g))(hk:cs[rs.length]?=some y):Calls Tryz.prog 14 #[gp x] w fun r w'=>r=.returned (.tuple #[y.val,.bool true])∧Below w.heap.size w w':=by
 have hlt:rs.length<cs.length:=(List.getElem?_eq_some_iff.1 hk).1
 have hd:decide (cs.length≤rs.length)=false:=by simpa using hlt
 obtain⟨A,c,B,d,rfl,rfl⟩:=H.out.lits
 have B0:=below1 w (Obj.cells #[.int .i64 0,.string ⟨#[]⟩,.int .i64 0,.int .i64 0,.int .i64 0,.int .i64 0,.int .i64 0] 46)
 have L0:=hid (Lies.new w 46 [.int .i64 0,.string ⟨#[]⟩,.int .i64 0,.int .i64 0,.int .i64 0,.int .i64 0,.int .i64 0])
 have H0:=hid (H.out.next B0)
 have B0:=hid B0
 have HK:=hid hk
 clear hk
 go_enter Tryz.func14,Tryz.ntmps14
 go_wp2_with fail
 refine (over_ok H0).mono ?_
 rintro r w1 ⟨rfl,k1⟩
 rw[hd]
 have L1:=hid (L0.out.next k1)
 have K1:=hid (after B0.out k1)
 have H1:=hid (H0.out.next k1)
 clear k1 hd
 go_upto_region 3 with fail
 have c1:=H1.out.lies.cell (i:=1) rfl
 have c2:=H1.out.lies.cell (i:=2) rfl
 obtain⟨b,hb,hi⟩:=H1.out.calls.is
 obtain⟨off,cap,e,-,-,hbl,hc⟩:=hi.some_ cok (by omega)
 simp only[Value.slice.injEq] at e
 obtain⟨rfl,-,-⟩:=e
 have hy:=hc rs.length y HK.out
 simp only[←Nat.add_assoc] at hy
 have y0:∀ u:Later w1,u.w.cell? ⟨b,off+rs.length*7,none⟩=some (.int .i64 y.op):=Later.cell (hy 0 _ rfl)
 have y1:∀ u:Later w1,u.w.cell? ⟨b,off+rs.length*7+1,none⟩=some (.string y.key):=Later.cell (hy 1 _ rfl)
 have y2:∀ u:Later w1,u.w.cell? ⟨b,off+rs.length*7+2,none⟩=some (.int .i64 y.t):=Later.cell (hy 2 _ rfl)
 have y3:∀ u:Later w1,u.w.cell? ⟨b,off+rs.length*7+3,none⟩=some (.int .i64 y.v):=Later.cell (hy 3 _ rfl)
 have y4:∀ u:Later w1,u.w.cell? ⟨b,off+rs.length*7+4,none⟩=some (.int .i64 y.e):=Later.cell (hy 4 _ rfl)
 have y5:∀ u:Later w1,u.w.cell? ⟨b,off+rs.length*7+5,none⟩=some (.int .i64 y.u):=Later.cell (hy 5 _ rfl)
 have y6:∀ u:Later w1,u.w.cell? ⟨b,off+rs.length*7+6,none⟩=some (.int .i64 y.s):=Later.cell (hy 6 _ rfl)
 have d1:=Later.cell c1
 have d2:=Later.cell c2
 clear hy hc c1 c2
 have i1:(rs.length:Int)<(cs.length:Int):=by omega
 have i0:(0:Int)≤(rs.length:Int):=by omega
 refine wp_region_later_tail 11 (by kernel_rfl) (by kernel_rfl) ?_
 simp only[List.take_succ_cons,List.take_zero,List.drop_succ_cons,List.drop_zero]
 repeat (go_big_quiet_step (fail))
 refine wpQuiet_nil ?_
 rintro _ ⟨u,rfl⟩
 have L2:=hid (L1.out.next u.below)
 have K2:=hid (after K1.out u.below)
 clear y0 y1 y2 y3 y4 y5 y6 d1 d2
 generalize u.w=w2 at L2 K2 ⊢
 go_wp2_with (first
  |(refine wpList_plain rfl fun K' hK'=>st_call (y':=y) _ _ rfl rfl rfl L2.out rfl (fun w2 z1 z2=>hK' _ _ ?_))
  |fail)
 exact bodyPost_ret (told_next rfl rfl z1) rfl ⟨rfl,K2.out.grown z2 K2.out.size fun j hj=>by cases hj;exact Nat.le_refl _⟩
theorem closed_ok{m k:Int}{h c:Bool}(H:Hid (Ct.Is w E.gc m k h c)):Calls Tryz.prog 90 #[E.v] w fun r w'=>r=.returned (.bool c)∧Below w.heap.size w w':=by
 have B0:=below1 w (Obj.cells #[.int .i64 E.cf.k,.int .i64 E.cf.s,.int .i64 E.cf.l,.int .i64 E.cf.g,.int .i64 E.cf.z,.int .i64 E.cf.h,.int .i64 E.cf.r,.int .i64 E.cf.c,gp E.gc,gp (E.b+1),.slice E.ba E.bn E.bc] 32)
 have L0:=hid (Lies.new w 32 E.cl)
 have H0:=hid (Lies.next H.out B0)
 have B0:=hid B0
 go_enter Tryz.func90,Tryz.ntmps90
 go_upto_region 1 with fail
 generalize w.heap.size=g1 at L0 ⊢
 generalize w.alloc (Obj.cells #[.int .i64 E.cf.k,.int .i64 E.cf.s,.int .i64 E.cf.l,.int .i64 E.cf.g,.int .i64 E.cf.z,.int .i64 E.cf.h,.int .i64 E.cf.r,.int .i64 E.cf.c,gp E.gc,gp (E.b+1),.slice E.ba E.bn E.bc] 32)=w1 at L0 H0 B0 ⊢
 have c8:=L0.out.cell (i:=8) rfl
 go_wp2_with fail
 refine (Ct.closed_ok H0).mono ?_
 rintro r w2 ⟨rfl,rfl⟩
 go_wp2
 go_ret
 exact⟨rfl,B0.out⟩
theorem hold_free{m k:Int}{c:Bool}(n:Int)(H:Hid (Ct.Is w E.gc m k false c)):Calls Tryz.prog 89 #[E.v,.int .i64 n] w fun r w'=>r=.returned (.bool true)∧Ct.Is w' E.gc m n true c∧Moves (Ct.Fp E.gc) (Ct.Fp E.gc) w w':=by
 have B0:=below1 w (Obj.cells #[.int .i64 E.cf.k,.int .i64 E.cf.s,.int .i64 E.cf.l,.int .i64 E.cf.g,.int .i64 E.cf.z,.int .i64 E.cf.h,.int .i64 E.cf.r,.int .i64 E.cf.c,gp E.gc,gp (E.b+1),.slice E.ba E.bn E.bc] 32)
 have L0:=hid (Lies.new w 32 E.cl)
 have H0:=hid (Lies.next H.out B0)
 have V0:=hid (Moves.of_below B0 (Ct.Is.in H.out))
 clear B0
 go_enter Tryz.func89,Tryz.ntmps89
 go_upto_region 1 with fail
 generalize w.heap.size=g1 at L0 ⊢
 generalize w.alloc (Obj.cells #[.int .i64 E.cf.k,.int .i64 E.cf.s,.int .i64 E.cf.l,.int .i64 E.cf.g,.int .i64 E.cf.z,.int .i64 E.cf.h,.int .i64 E.cf.r,.int .i64 E.cf.c,gp E.gc,gp (E.b+1),.slice E.ba E.bn E.bc] 32)=w1 at L0 H0 V0 ⊢
 have c8:=L0.out.cell (i:=8) rfl
 go_wp2_with fail
 refine (Ct.hold_free H0 n).mono ?_
 rintro r w2 ⟨rfl,k1,k2⟩
 go_wp2
 go_ret
 exact⟨rfl,k1,V0.out.trans k2⟩
theorem home_ok{i:Nat}{M:List Ow.O}{o:Ow.O}(H:Hid (Ow.Is w E.b E.cf.h M))(hx:M[i]?=some o):Calls Tryz.prog 122 #[E.v,.int .i64 i] w fun r w'=>r=.returned (.tuple #[.int .i64 o.s,.bool (!o.m)])∧Below w.heap.size w w':=by
 have B0:=below1 w (Obj.cells #[.int .i64 E.cf.k,.int .i64 E.cf.s,.int .i64 E.cf.l,.int .i64 E.cf.g,.int .i64 E.cf.z,.int .i64 E.cf.h,.int .i64 E.cf.r,.int .i64 E.cf.c,gp E.gc,gp (E.b+1),.slice E.ba E.bn E.bc] 32)
 have L0:=hid (Lies.new w 32 E.cl)
 have H0:=hid (Ow.Is.next H.out B0)
 have B0:=hid B0
 go_enter Tryz.func122,Tryz.ntmps122
 go_upto_region 1 with fail
 generalize w.heap.size=g1 at L0 ⊢
 generalize w.alloc (Obj.cells #[.int .i64 E.cf.k,.int .i64 E.cf.s,.int .i64 E.cf.l,.int .i64 E.cf.g,.int .i64 E.cf.z,.int .i64 E.cf.h,.int .i64 E.cf.r,.int .i64 E.cf.c,gp E.gc,gp (E.b+1),.slice E.ba E.bn E.bc] 32)=w1 at L0 H0 B0 ⊢
 have c9:=L0.out.cell (i:=9) rfl
 obtain⟨os,ov,om⟩:=o
 go_wp2_with fail
 refine (Ow.of_yes H0 hx).mono ?_
 rintro r w2 ⟨rfl,k1⟩
 have B2:Hid (Below w.heap.size w w2):=hid (after B0.out k1)
 clear k1
 go_upto_region 4 with fail
 have B3:=hid (after B2.out (below1 w2 (Obj.cells #[.int .i64 os,.int .i64 ov,.bool om] 154)))
 have L3:=hid (Lies.new w2 154 [.int .i64 os,.int .i64 ov,.bool om])
 generalize w2.heap.size=g2 at L3 ⊢
 generalize w2.alloc (Obj.cells #[.int .i64 os,.int .i64 ov,.bool om] 154)=w3 at L3 B3 ⊢
 have c0:=L3.out.cell (i:=0) rfl
 have c2:=L3.out.cell (i:=2) rfl
 go_quiet (fail)
 go_wp2
 go_ret2
 exact⟨rfl,after B3.out (Ct.below_drewN _ _)⟩
theorem apart_ok(y:Rp)(w:World)(H:Hid (Out.Rd w y.pv y.P))(hn:y.P.length≤9000):Calls Tryz.prog 48 #[y.v] w fun r w'=>∃ z:Rp,r=.returned z.v∧z.code=y.code∧z.P=y.P∧Sl.Own Pn.k w.heap.size w' z.pv z.P∧Below w.heap.size w w':=by
 obtain⟨code,ya,yn,yc,P⟩:=y
 dsimp only at *
 have B0:=below2 w (Obj.cells #[.int .i64 code,.slice ya yn yc] 43) (Obj.cells #[.int .i64 0,.slice none 0 0] 43)
 have L0:=hid ((Lies.new w 43 [.int .i64 code,.slice ya yn yc]).next (below1 _ (Obj.cells #[.int .i64 0,.slice none 0 0] 43)))
 have M0:=Lies.new (w.alloc (Obj.cells #[.int .i64 code,.slice ya yn yc] 43)) 43 [.int .i64 0,.slice none 0 0]
 simp only[World.size_alloc] at M0
 have M0:=hid M0
 have H0:=hid (H.out.next B0)
 have B0:=hid B0
 go_enter Tryz.func48,Tryz.ntmps48
 go_upto_region 1 with fail
 generalize hg:w.heap.size=g1 at L0 M0 ⊢
 generalize (w.alloc (Obj.cells #[.int .i64 code,.slice ya yn yc] 43)).alloc (Obj.cells #[.int .i64 0,.slice none 0 0] 43)=w1 at L0 M0 H0 B0 ⊢
 have c0:=L0.out.cell (i:=0) rfl
 have c1:=L0.out.cell (i:=1) rfl
 go_wp2_with fail
 refine (Out.clone_ok _ _ w1 H0 hn).mono ?_
 rintro r w2 ⟨v',rfl,o2,k2⟩
 obtain⟨A,n,c,rfl⟩:=lit_pn o2
 have s1:Hid (w.heap.size≤w1.heap.size):=hid B0.out.size
 have L2:=hid (L0.out.next k2)
 have M2:=hid (M0.out.next k2)
 have O2:=hid o2
 have B2:=hid (after B0.out k2)
 have NX:Hid (∀ a,(Value.slice A n c).ownBlock=some a→w1.heap.size≤a):=hid fun a ha=>(o2.lt a ha).1
 have gl:Hid (g1<w1.heap.size∧g1+1<w1.heap.size):=hid ⟨L0.out.lt,M0.out.lt⟩
 have HG:=hid hg
 clear o2 k2 c0 c1 hg
 have c0:=L2.out.cell (i:=0) rfl
 have c1:=L2.out.cell (i:=1) rfl
 have f1:=L2.out.open_ 1
 dsimp only
 go_upto_region 2 with fail
 have l3:=hid (L2.out.put 1 (.slice A n c))
 have k3:w2.grownBy (w2.setCell ⟨g1,1,none⟩ (.slice A n c)) (some g1):=⟨rfl,rfl,rfl,by simp,fun i hi hn=>Below.heap_setCell w2 ⟨g1,1,none⟩ _ i fun e=>hn (by rw[e])⟩
 have m3:=hid ((k3.block (g1+1) M2.out.lt (by simp)).trans M2.out:Lies _ (g1+1) _ _)
 have K3:=hid k3
 have O3:=hid (O2.out.move fun i hi=>k3.block i (O2.out.lt i hi).2 (by have:=NX.out i hi;have:=gl.out;simp;omega))
 have B3:=hid (B2.out.grown k3 B2.out.size fun j hj=>by cases hj;have:=HG.out;omega)
 clear c0 c1 f1 k3 L2 M2 O2 B2
 generalize w2.setCell ⟨g1,1,none⟩ (.slice A n c)=w3 at l3 m3 K3 O3 B3 ⊢
 go_wp2_with (first
  |(refine wpList_plain rfl fun K' hK'=>ld_rep (y:=⟨code,A,n,c,P⟩) _ rfl rfl l3.out (hK' _ _ ?_))
  |(refine wpList_plain rfl fun K' hK'=>st_rep (y':=⟨code,A,n,c,P⟩) _ _ rfl rfl rfl m3.out rfl (fun w4 z1 z2=>hK' _ _ ?_))
  |fail)
 refine bodyPost_ret (told_rep (y:=⟨code,A,n,c,P⟩) rfl rfl z1) rfl ⟨⟨code,A,n,c,P⟩,rfl,rfl,rfl,?_,B3.out.grown z2 B3.out.size fun j hj=>by cases hj;have:=HG.out;omega⟩
 have o4:Sl.Own Pn.k w1.heap.size w4 (.slice A n c) P:=O3.out.move fun i hi=>z2.block i (O3.out.lt i hi).2 (by have:=NX.out i hi;have:=gl.out;simp;omega)
 exact own_base o4 s1.out
end
end Cn
end Go.Proofs.YtfjlnniahfbdfaaGreat
