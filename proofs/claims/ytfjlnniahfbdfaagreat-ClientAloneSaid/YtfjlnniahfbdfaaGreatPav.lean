/- A part of the proof. -/
import Derived.Test.YtfjlnniahfbdfaaGreatPad
import Derived.Test.YtfjlnniahfbdfaaGreatPaa
import Derived.Test.YtfjlnniahfbdfaaGreatPas
import Derived.Test.YtfjlnniahfbdfaaGreatPat
import Derived.Test.YtfjlnniahfbdfaaGreatPau
import Derived.Deep.RegionHeld3
set_option linter.unusedVariables false
set_option maxHeartbeats 4000000
namespace Go.Proofs.YtfjlnniahfbdfaaGreat
open Lib (hid)
open Go.ChangeShapes Go.WideShapes Go.ChangeAt Go.RowKit
namespace Md
open Small Pane
abbrev only(s e:Int)(L:List Pn):List Pn:=L.filter fun p=>decide (p.s=s∧p.e=e)
theorem only_one{L:List Pn}{s e:Int}{k:Nat}{p:Pn}(up:Rises L)(hp:L[k]?=some p)(he:Eq2 p s e):only s e L=[p]:=by
 have e1:L=L.take k++p::L.drop (k+1):=by
  obtain⟨h1,h2⟩:=List.getElem?_eq_some_iff.1 hp
  conv=>lhs;rw[←List.take_append_drop k L,List.drop_eq_getElem_cons h1,h2]
 have hr:=up
 rw[Rises,e1] at hr
 obtain⟨r1,r2,r3⟩:=List.pairwise_append.1 hr
 obtain⟨r4,r5⟩:=List.pairwise_cons.1 r2
 have z1:(L.take k).filter (fun p=>decide (p.s=s∧p.e=e))=[]:=List.filter_eq_nil_iff.2 fun y hy=>by
  have:=r3 y hy p (List.mem_cons_self ..);simp only[Ah,Eq2] at this he;simp only[decide_eq_true_eq];omega
 have z2:(L.drop (k+1)).filter (fun p=>decide (p.s=s∧p.e=e))=[]:=List.filter_eq_nil_iff.2 fun y hy=>by
  have:=r4 y hy;simp only[Ah,Eq2] at this he;simp only[decide_eq_true_eq];omega
 have hq:decide (p.s=s∧p.e=e)=true:=by
  simp only[Eq2] at he;simp only[decide_eq_true_eq];exact he
 conv=>lhs;rw[only,e1]
 rw[List.filter_append,List.filter_cons,z1,z2,hq]
 rfl
theorem only_none{L:List Pn}{s e:Int}(h:∀ p∈L,¬Eq2 p s e):only s e L=[]:=List.filter_eq_nil_iff.2 fun y hy=>by
 have:=h y hy
 simpa [Eq2] using this
set_option maxRecDepth 100000 in
theorem only_ok(v:Value)(L:List Pn)(b:Nat)(s e:Int)(w:World)(H:Hid (Sl.Is Pn.k w v L b))(hn:L.length≤9000)(up:Hid (Rises L)):
  Calls Tryz.prog 137 #[v,win s e] w fun r w'=>∃ u,r=.returned u∧Sl.Own Pn.k w.heap.size w' u (only s e L)∧Below w.heap.size w w':=by
 obtain⟨k,A⟩:=At.ex up.out s e
 have K0:=hid (below1 w (Obj.cells #[.int .i64 s,.int .i64 e] 129))
 by_cases hx:∃ p,L[k]?=some p∧Eq2 p s e
 ·obtain⟨p,hp,he⟩:=hx
  have E:=hid (only_one up.out hp he);go_enter Tryz.func137,Tryz.ntmps137;go_wp2_with fail
  refine (find_yes v L b k s e p _ (hid (H.out.next K0.out)) hn (hid A) (hid hp) (hid he)).mono ?_
  rintro r w1 ⟨rfl,k1⟩;have K1:=hid (after K0.out k1);clear k1 K0;go_wp2;go_ret;refine⟨_,rfl,?_,after K1.out (below2 _ _ _)⟩
  rw[E.out];obtain⟨rfl,rfl⟩:=he;have LN:=Lies.new (w1.alloc (Obj.cells p.cl.toArray 133)) 133 p.cl;simp only[World.size_alloc] at LN;exact Sl.Own.one (K:=Pn.k) Pn.ok (x:=p) LN (by have:=K1.out.size;omega)
 ·have E:=hid (only_none (L:=L) (s:=s) (e:=e) fun p hp he=>hx (by
   have hh:=A.found up.out hp he;exact⟨p,hh,he⟩))
  go_enter Tryz.func137,Tryz.ntmps137;go_wp2_with fail
  refine (find_no v L b k s e _ (hid (H.out.next K0.out)) hn (hid A) (hid fun x hx' he=>hx ⟨x,hx',he⟩)).mono ?_
  rintro r w1 ⟨rfl,k1⟩;have K1:=hid (after K0.out k1);clear k1 K0;go_wp2;go_ret;exact⟨_,rfl,by rw[E.out];exact Sl.Own.nil _ _ _,after K1.out (below1 _ _)⟩
end Md
set_option maxRecDepth 100000
namespace Md
open Small Foot Pane Grp
abbrev cfOf(x:C8):Cf:=⟨x.k,x.s,x.l,x.g,x.z,x.h,x.r,x.c⟩
end Md
namespace Md
open Small Foot Pane Grp Ca
abbrev puts(op:Int):Prop:=op=1∨op=2
def MAsked(cf:C8)(S:Lists)(mark:Int)(x:Cl)(z:Option (Nat×Int×Int×Int))(code:Int)(P O:List Pn)(c:Nat)(S':Lists):Prop:=
 (puts x.op∧P=[]∧∃ S1,Outs cf.z mark S O S1∧NoneOver cf.z mark S1∧Taken cf.k x.key x.v cf.z mark z S1 code c S')∨
 (¬puts x.op∧code=0∧c=0∧Outs cf.z mark S O S'∧NoneOver cf.z mark S'∧P=if x.op=4 then only x.t x.e (S' x.key) else S' x.key)
def Asked(w:World)(g:Nat)(F:Nat→Prop)(cf:C8)(S:Lists)(N n:Nat)(x:Cl)(mark:Int)(z:Option (Nat×Int×Int×Int))(r:Ending)(w':World):Prop:=
 ∃ rv ov code P O c S' n' F',r=.returned (.tuple #[rep code rv,ov])∧MAsked cf S mark x z code P O c S'∧n'≤n+c∧P.length≤9000∧Gr.Is w' g F' cf S' (N+c) n'∧Moves F F' w w'∧Sl.Own Pn.k w.heap.size w' rv P∧Sl.Own Pn.k w.heap.size w' ov O
theorem put_two{w:World}{gy:Nat}{a b:Value}(u v:Value):w.grownBy ((w.setCell ⟨gy,0,none⟩ u).setCell ⟨gy,1,none⟩ v) (some gy):=
 ⟨rfl,rfl,rfl,by simp,fun i hi hn=>by
  have h:i≠gy:=fun e=>hn (by rw[e])
  rw[Below.heap_setCell _ _ _ _ h,Below.heap_setCell _ _ _ _ h]⟩
theorem lit{base:Nat}{w:World}{v:Value}{L:List Pn}(h:Sl.Own Pn.k base w v L):∃ A n c,v=.slice A n c:=by
 obtain⟨b,-,i⟩:=h.is
 obtain⟨A,c,e⟩:=i.len
 exact⟨A,_,c,e⟩
theorem asked_end{w w2 w3:World}{g N n':Nat}{F F':Nat→Prop}{cf:C8}{S':Lists}(K0:Below w.heap.size w w2)(sz:w2.heap.size=w.heap.size+1+1)(nF:¬F (w.heap.size+1))(hw:In w F)(V3:Moves F F' w2 w3)(G3:Gr.Is w3 g F' cf S' N n')
  (y:Lies w3 (w.heap.size+1) 43 [.int .i64 0,.slice none 0 0]) (u v:Value):
  ((w3.setCell ⟨w.heap.size+1,0,none⟩ u).setCell ⟨w.heap.size+1,1,none⟩ v).cell? ⟨w.heap.size+1,0,none⟩=some u∧((w3.setCell ⟨w.heap.size+1,0,none⟩ u).setCell ⟨w.heap.size+1,1,none⟩ v).cell? ⟨w.heap.size+1,1,none⟩=some v∧
  Gr.Is ((w3.setCell ⟨w.heap.size+1,0,none⟩ u).setCell ⟨w.heap.size+1,1,none⟩ v) g F' cf S' N n'∧Moves F F' w ((w3.setCell ⟨w.heap.size+1,0,none⟩ u).setCell ⟨w.heap.size+1,1,none⟩ v)∧
  ∀ (p:Value) (L:List Pn),Sl.Own Pn.k w2.heap.size w3 p L→Sl.Own Pn.k w.heap.size ((w3.setCell ⟨w.heap.size+1,0,none⟩ u).setCell ⟨w.heap.size+1,1,none⟩ v) p L:=by
 have Z:=(y.put 0 u).put 1 v
 have k:=put_two (w:=w3) (gy:=w.heap.size+1) (a:=u) (b:=v) u v
 have nF':¬F' (w.heap.size+1):=fun q=>by
  rcases (V3.new _ q).1 with r|r
  ·exact nF r
  ·omega
 have V:=(Moves.of_below K0 hw).trans V3
 exact⟨Z.cell (i:=0) rfl,Z.cell (i:=1) rfl,G3.grown k nF',moves_grown V k (fun b e=>by have:=Option.some.inj e;omega),fun p L o=>Gr.own_base (Gr.own_grown o k (by omega)) (by omega)⟩
theorem keyed_ok{g N n:Nat}{cf:C8}{S:Lists}{F:Nat→Prop}(x:Cl)(mark:Int)(z:Option (Nat×Int×Int×Int))(w:World)(H:Hid (Gr.Is w g F cf S N n))(hN:N≤8880)(M:Hid (Asg.may cf.k cf.s cf.l cf.g cf.z cf.h cf.r cf.c))(B:Hid (cf.s≤9223372036854775807∧cf.l≤9223372036854775807∧cf.g≤9223372036854775807∧cf.z≤9223372036854775807))
  (ft:Hid ((Lit.int .i64 x.t).wf=true)) (fk:Hid ((Lit.int .i64 mark).wf=true)) (hk:x.key.size≤maxLen) (T:Hid (Asg.Told cf.k cf.s cf.l cf.g cf.z x.t z)):
  Calls Tryz.prog 100 #[gp g,x.val,.int .i64 mark] w (Asked w g F cf S N n x mark z):=by
 have fz:Hid ((Lit.int .i64 cf.z).wf=true):=hid (wf_of (by have:=M.out.2.1;omega) B.out.2.2.2)
 obtain⟨op,key,t,v,e,u,s⟩:=x
 dsimp only at *
 have hw:=H.out.in
 have X0:=hid ((Lies.new w 46 [.int .i64 op,.string key,.int .i64 t,.int .i64 v,.int .i64 e,.int .i64 u,.int .i64 s]).next (below1 _ (Obj.cells #[.int .i64 0,.slice none 0 0] 43)))
 have y00:=Lies.new (w.alloc (Obj.cells #[.int .i64 op,.string key,.int .i64 t,.int .i64 v,.int .i64 e,.int .i64 u,.int .i64 s] 46)) 43 [.int .i64 0,.slice none 0 0]
 simp only[World.size_alloc] at y00
 have Y0:=hid y00
 clear y00
 have k00:=below2 w (Obj.cells #[.int .i64 op,.string key,.int .i64 t,.int .i64 v,.int .i64 e,.int .i64 u,.int .i64 s] 46) (Obj.cells #[.int .i64 0,.slice none 0 0] 43)
 have G0:=hid (H.out.next k00)
 have K0:=hid k00
 clear k00
 have s00:((w.alloc (Obj.cells #[.int .i64 op,.string key,.int .i64 t,.int .i64 v,.int .i64 e,.int .i64 u,.int .i64 s] 46)).alloc (Obj.cells #[.int .i64 0,.slice none 0 0] 43)).heap.size=w.heap.size+1+1:=by simp
 have sz:=hid s00
 clear s00
 go_enter Tryz.func100,Tryz.ntmps100
 go_upto_region 1 with fail
 generalize ((w.alloc (Obj.cells #[.int .i64 op,.string key,.int .i64 t,.int .i64 v,.int .i64 e,.int .i64 u,.int .i64 s] 46)).alloc (Obj.cells #[.int .i64 0,.slice none 0 0] 43))=w2 at X0 Y0 K0 G0 sz ⊢
 have nF:Hid (¬F (w.heap.size+1)):=hid fun q=>by have:=hw _ q;omega
 have nX:Hid (¬F w.heap.size):=hid fun q=>by have:=hw _ q;omega
 by_cases hp:puts op
 ·have x1:=X0.out.cell (i:=1) rfl
  have x2:=X0.out.cell (i:=2) rfl;have x3:=X0.out.cell (i:=3) rfl;have x0:=X0.out.cell (i:=0) rfl;rcases hp with rfl|rfl
  all_goals
   go_wp2_with fail
   refine (Gr.take_ok key t v mark z w2 G0 hN M B ft fk hk T).mono ?_
   rintro r w3 ⟨sv,O,S1,code,c,S',n',F',rfl,ho,hno,htk,hn',G3,V3,o3,-⟩;have Y3:=V3.lies nF.out Y0.out;have y0:=Y3.cell (i:=0) rfl;have y1:=Y3.cell (i:=1) rfl;have f0:=Y3.open_ 0;have f1:=Y3.open_ 1;have HH:=hid (And.intro ho (And.intro hno (And.intro htk (And.intro hn' (And.intro G3 (And.intro V3 o3))))));clear ho hno htk hn' G3 V3 o3 x0 x1 x2 x3;go_wp2;obtain⟨ho,hno,htk,hn',G3,V3,o3⟩:=HH.out;obtain⟨q0,q1,q2,q3,q4⟩:=asked_end K0.out sz.out nF.out hw V3 G3 Y3 (.int .i64 code) (.slice none 0 0)
   exact bodyPost_ret (v:=.tuple #[rep code (.slice none 0 0),sv]) (by simp[results,Tryz.results100,go_sem,q0,q1]) rfl
    ⟨_,_,code,[],O,c,S',n',F',rfl,.inl ⟨by simp[puts],rfl,S1,ho,hno,htk⟩,hn',by simp,q2,q3,Sl.Own.nil _ _ _,q4 _ _ o3⟩
 ·have r1:(op == 1)=false:=by simp[puts] at hp;simp;omega
  have r2:(op == 2)=false:=by simp[puts] at hp;simp;omega
  have HP:=hid hp;clear hp;have x0:=X0.out.cell (i:=0) rfl;go_wp2_with fail
  refine (Gr.settle_ok mark w2 G0 hN fz fk).mono ?_
  rintro r w3 ⟨sv,O,S',n',F',rfl,ho,hno,hlen,g3,v3,o3,-⟩;have G3:=hid g3;have V3:=hid v3;have O3:=hid (And.intro ho (And.intro hno (And.intro hlen o3)));have Y3:=hid (v3.lies nF.out Y0.out);have X3:=hid (v3.lies nX.out X0.out);clear x0 ho hno hlen g3 v3 o3;have x1:=X3.out.cell (i:=1) rfl;go_wp2_with fail
  refine (Gr.panes_ok key w3 G3 hN hk).mono ?_
  rintro r w4 ⟨lv,rfl,o4,k4⟩;have s3:=hid V3.out.size;have G4:=hid (G3.out.next k4);have V4:=hid (V3.out.trans (Moves.of_below k4 G3.out.in));have Y4:=hid (Y3.out.next k4);have X4:=hid (X3.out.next k4);have P4:=hid (Gr.own_base o4 s3.out);have O4:Hid (Sl.Own Pn.k w2.heap.size w4 sv O):=hid (O3.out.2.2.2.next k4);have F4:=hid (G4.out.fine hN);clear x1 o4 k4 Y3 X3;have x0:=X4.out.cell (i:=0) rfl;by_cases h4:op=4
  ·have r4:(op == 4)=true:=by simp[h4]
   have x2:=X4.out.cell (i:=2) rfl;have x4:=X4.out.cell (i:=4) rfl;obtain⟨b4,-,i4⟩:=P4.out.is;go_wp2_with fail
   refine (only_ok lv (S' key) b4 t e w4 (hid i4) (F4.out.few key) (hid (F4.out.rises key))).mono ?_
   rintro r w5 ⟨pv,rfl,o5,k5⟩;have Y5:=Y4.out.next k5;have G5:=hid (G4.out.next k5);have V5:=hid (V4.out.trans (Moves.of_below k5 G4.out.in));have s5:=hid V4.out.size;have P5:=hid (Gr.own_base o5 s5.out);have O5:=hid (O4.out.next k5);have y0:=Y5.cell (i:=0) rfl;have y1:=Y5.cell (i:=1) rfl;have f0:=Y5.open_ 0;have f1:=Y5.open_ 1;clear o5 k5 x0 x2 x4 i4;obtain⟨Av,nv,cv,rfl⟩:=lit P5.out;go_wp2;obtain⟨q0,q1,q2,q3,q4⟩:=asked_end K0.out sz.out nF.out hw V5.out G5.out Y5 (.int .i64 0) (.slice Av nv cv);obtain⟨ho,hno,hlen,-⟩:=O3.out
   exact bodyPost_ret (v:=.tuple #[rep 0 (.slice Av nv cv),sv]) (by simp[results,Tryz.results100,go_sem,q0,q1]) rfl
    ⟨_,_,0,only t e (S' key),O,0,S',n',F',rfl,.inr ⟨HP.out,rfl,rfl,ho,hno,by simp[h4]⟩,by omega,Nat.le_trans (List.length_filter_le _ _) (F4.out.few key),q2,q3,q4 _ _ P5.out,q4 _ _ O5.out⟩
  ·have r4:(op == 4)=false:=by simp[h4]
   have y0:=Y4.out.cell (i:=0) rfl;have y1:=Y4.out.cell (i:=1) rfl;have f0:=Y4.out.open_ 0;have f1:=Y4.out.open_ 1;obtain⟨Av,nv,cv,rfl⟩:=lit P4.out;go_wp2;obtain⟨q0,q1,q2,q3,q4⟩:=asked_end K0.out sz.out nF.out hw V4.out G4.out Y4.out (.int .i64 0) (.slice Av nv cv);obtain⟨ho,hno,hlen,-⟩:=O3.out
   exact bodyPost_ret (v:=.tuple #[rep 0 (.slice Av nv cv),sv]) (by simp[results,Tryz.results100,go_sem,q0,q1]) rfl
    ⟨_,_,0,S' key,O,0,S',n',F',rfl,.inr ⟨HP.out,rfl,rfl,ho,hno,by simp[h4]⟩,by omega,F4.out.few key,q2,q3,q4 _ _ P4.out,q4 _ _ O4.out⟩
end Md
namespace Out
open Small Foot
section
variable {F F':Nat→Prop} {a b c w w':World}
theorem Wr.of_below(k:Below w.heap.size w w'):Wr F w w':=⟨k.os,k.tape,k.output,k.size,fun i hi _=>k.block i hi⟩
theorem Wr.of_moves(k:Moves F F' w w'):Wr F w w':=⟨k.os,k.tape,k.output,k.size,k.block⟩
theorem Wr.trans(h:Wr F a b)(k:Wr F b c):Wr F a c:=⟨k.os.trans h.os,k.tape.trans h.tape,k.output.trans h.output,Nat.le_trans h.size k.size,fun i hi hn=>(k.block i (Nat.lt_of_lt_of_le hi h.size) hn).trans (h.block i hi hn)⟩
theorem Wr.more{G:Nat→Prop}(h:Wr F a b)(hG:∀ i,F i→G i):Wr G a b:=⟨h.os,h.tape,h.output,h.size,fun i hi hn=>h.block i hi fun q=>hn (hG i q)⟩
theorem Wr.set{i j:Nat}(h:Wr F a b)(u:Value)(hi:a.heap.size≤i):Wr F a (b.setCell ⟨i,j,none⟩ u):=
 ⟨h.os,h.tape,h.output,by simpa using h.size,fun k hk hn=>(Below.heap_setCell b ⟨i,j,none⟩ u k (by show k≠i;omega)).trans (h.block k hk hn)⟩
theorem Wr.drew:Wr F w w.drew:=Wr.of_below (Below.refl _ _).drew
theorem Wr.lies{g:Nat}{t:TypeId}{cs:List Value}(h:Wr F w w')(hf:¬F g)(l:Lies w g t cs):Lies w' g t cs:=(h.block g l.lt hf).trans l
end
end Out
namespace Md
open Small Foot Pane Grp Ca
theorem drewN_below(w:World)(n:Nat):Below w.heap.size w (w.drewN n):=by
 induction n with
 |zero=>exact Below.refl _ _
 |succ n ih=>exact ih.drew
theorem box_kept{w5 w9:World}{Fg Fg':Nat→Prop}(V9:Moves Fg Fg' (w5.drew.alloc (Obj.cells #[.int .i64 0,.slice none 0 0] 43)) w9)(hF:In w5 Fg):
  w9.cell? ⟨w5.heap.size,0,none⟩=some (.int .i64 0)∧w9.cell? ⟨w5.heap.size,1,none⟩=some (.slice none 0 0)∧w9.frozen? ⟨w5.heap.size,0,none⟩=false∧w9.frozen? ⟨w5.heap.size,1,none⟩=false:=by
 have l:Lies w9 w5.heap.size 43 [.int .i64 0,.slice none 0 0]:=V9.lies (fun q=>by have:=hF _ q;omega) (Lies.new w5.drew 43 [.int .i64 0,.slice none 0 0])
 exact⟨l.cell (i:=0) rfl,l.cell (i:=1) rfl,l.open_ 0,l.open_ 1⟩
section
variable {w5 w9:World} {g N n:Nat} {Fg Fg':Nat→Prop} {cf:C8} {S':Lists} {code:Int} {rv ov:Value} {P O:List Pn}
end
end Md
namespace Sh
open Small Foot Pane Grp Ca Md
abbrev ov(z mark:Int)(p:Pn):Bool:=decide (p.e+z≤mark)
abbrev ofK(x:ByteArray)(L:List Pn):List Pn:=L.filter fun p=>decide (p.key=x)
abbrev tle(p q:Pn):Prop:=Tmr.le (tmOf p) (tmOf q)
section
variable {z mark mark':Int} {S S':Lists} {O:List Pn}
theorem outs_by(o:Outs z mark S O S')(F:Fine S):(∀ x,(S' x).filter (fun p=>!ov z mark p)=(S x).filter fun p=>!ov z mark p)∧(∀ x,(ofK x O++(S' x).filter (ov z mark)).Perm ((S x).filter (ov z mark)))∧O.Pairwise tle∧(∀ p∈O,p∈S p.key∧ov z mark p=true)∧(∀ p∈O,∀ x q,q∈S' x→tle p q)∧Fine S':=by
 induction o with
 |none=>exact⟨fun _=>rfl,fun _=>List.Perm.refl _,List.Pairwise.nil,fun p h=>(by cases h),fun p h=>(by cases h),F⟩
 |@more O1 S1 p k h hp ho hl ih=>
  obtain⟨i1,i2,i3,i4,i5,i6⟩:=ih;have hpm:p∈S1 p.key:=List.mem_of_getElem? hp;have hkl:=(List.getElem?_eq_some_iff.1 hp).1
  have hov:ov z mark p=true:=by simpa using ho
  have split:S1 p.key=(S1 p.key).take k++p::(S1 p.key).drop (k+1):=by
   obtain⟨h1,h2⟩:=List.getElem?_eq_some_iff.1 hp
   conv=>lhs;rw[←List.take_append_drop k (S1 p.key),List.drop_eq_getElem_cons h1,h2]
  refine⟨fun x=>?_,fun x=>?_,List.pairwise_append.2 ⟨i3,List.pairwise_singleton _ _,fun a ha b hb=>?_⟩,fun q hq=>?_,fun q hq x y hy=>?_,i6.cut _ _⟩
  ·by_cases e:x=p.key
   ·subst e
    rw[set_same,←i1,List.filter_append]
    conv=>rhs;rw[split,List.filter_append,List.filter_cons]
    simp[hov]
   ·rw[set_other _ _ e];exact i1 x
  ·have hk:ofK x (O1++[p])=ofK x O1++(if p.key=x then [p] else []):=by
    rw[ofK,List.filter_append]
    congr 1
    by_cases e:p.key=x<;>simp[e]
   rw[hk];by_cases e:x=p.key
   ·subst e
    rw[set_same,if_pos rfl];refine List.Perm.trans ?_ (i2 p.key)
    rw[List.append_assoc];refine List.Perm.append_left _ ?_
    conv=>rhs;rw[split]
    rw[List.filter_append,List.filter_append,List.filter_cons,if_pos hov];rw[List.singleton_append];exact List.perm_middle.symm
   ·rw[set_other _ _ e,if_neg (fun q=>e q.symm),List.append_nil];exact i2 x
  ·simp only[List.mem_singleton] at hb
   subst hb;exact i5 a ha _ _ hpm
  ·rcases List.mem_append.1 hq with hq|hq
   ·exact i4 q hq
   ·simp only[List.mem_singleton] at hq
    subst hq;exact⟨(h.sub _ _ hpm),hov⟩
  ·have hy':y∈S1 x:=by
    by_cases e:x=p.key
    ·subst e;rw[set_same] at hy;exact cut_mem hy
    ·rw[set_other _ _ e] at hy;exact hy
   rcases List.mem_append.1 hq with hq|hq
   ·exact i5 q hq x y hy'
   ·simp only[List.mem_singleton] at hq
    subst hq;exact hl x y hy'
theorem outs_all(o:Outs z mark S O S')(no:NoneOver z mark S')(F:Fine S):(∀ x,S' x=(S x).filter fun p=>!ov z mark p)∧(∀ x,(ofK x O).Perm ((S x).filter (ov z mark)))∧O.Pairwise tle∧∀ p∈O,p∈S p.key:=by
 obtain⟨i1,i2,i3,i4,-,-⟩:=outs_by o F
 have h0:∀ x,(S' x).filter (fun p=>!ov z mark p)=S' x:=fun x=>List.filter_eq_self.2 fun p hp=>by simpa using no x p hp
 have h1:∀ x,(S' x).filter (ov z mark)=[]:=fun x=>List.filter_eq_nil_iff.2 fun p hp=>by simpa using no x p hp
 exact⟨fun x=>by rw[←i1,h0],fun x=>by have:=i2 x;rwa [h1,List.append_nil] at this,i3,fun p hp=>(i4 p hp).1⟩
end
section
variable {kind v late mark a d l s e:Int} {key:ByteArray}
end
end Sh
end Go.Proofs.YtfjlnniahfbdfaaGreat
