/- A part of the proof. -/
import Derived.Test.YtfjlnniahfbdfaaGreatPax
import Derived.Test.YtfjlnniahfbdfaaGreatPas
import Derived.Test.YtfjlnniahfbdfaaGreatRows
import Derived.WalkKit
import Derived.ProofKit
import Derived.OpenShut
import Derived.IntWalk
import Derived.Lib.Hide
import Derived.LaidEql
import Derived.LoopTactic
import Derived.Test.YtfjlnniahfbdfaaGreatPav
import Derived.Test.YtfjlnniahfbdfaaGreatPat
set_option linter.unusedVariables false
set_option maxHeartbeats 4000000
namespace Go.Proofs.YtfjlnniahfbdfaaGreat
open Lib (hid)
open Go.ChangeShapes Go.WideShapes Go.ChangeAt Go.RowKit
namespace Rr
open Small Foot Pane Grp Rg
def Is(w:World)(g:Nat)(F:Nat→Prop)(cf:C8)(R:List Pn):Prop:=∃ lv b,Rg.Rg w g cf lv R b∧b<w.heap.size∧∀ k,F k↔(k=g∨k=b)
section
variable {w w':World} {g b:Nat} {cf:C8} {R R':List Pn} {F:Nat→Prop} {lv lv':Value}
theorem of_rg(h:Rg.Rg w g cf lv R b):∃ b2,Rg.Rg w g cf lv R b2∧b2<w.heap.size∧(b2=g∨b2=b):=by
 rcases h.list with ⟨h1,h2⟩|⟨off,cap,h1,h2,h3,h4,h5⟩
 ·exact⟨g,⟨h.lies,.inl ⟨h1,h2⟩,fun q=>absurd h2 q⟩,h.lies.lt,.inl rfl⟩
 ·exact⟨b,h,h4,.inr rfl⟩
theorem Is.keep(h:Is w g F cf R)(k:∀ i,F i→w'.heap[i]?=w.heap[i]?)(s:w.heap.size≤w'.heap.size):Is w' g F cf R:=by
 obtain⟨lv,b,h,hb,hF⟩:=h
 exact⟨lv,b,⟨(k g ((hF g).2 (.inl rfl))).trans h.lies,h.list.keep (k b ((hF b).2 (.inr rfl))) s,h.ne⟩,Nat.lt_of_lt_of_le hb s,hF⟩
theorem Is.in(h:Is w g F cf R):In w F:=by
 obtain⟨lv,b,h,hb,hF⟩:=h
 intro k hk
 rcases (hF k).1 hk with rfl|rfl
 ·exact h.lies.lt
 ·exact hb
theorem Is.next(h:Is w g F cf R)(k:Below w.heap.size w w'):Is w' g F cf R:=h.keep (fun i hi=>k.block i (h.in i hi)) k.size
theorem Is.went{b':Nat}(hg:g<w.heap.size)(hF:∀ k,F k↔(k=g∨k=b))(k:w.grownBy w' (some g))(r:Rg.Rg w' g cf lv' R' b')(fr:b'=b∨w.heap.size≤b'):∃ F',Is w' g F' cf R'∧Moves F F' w w':=by
 obtain⟨b2,r2,hb2,e⟩:=of_rg r
 refine⟨fun i=>i=g∨i=b2,⟨lv',b2,r2,hb2,fun _=>Iff.rfl⟩,k.os,k.tape,k.output,k.size,fun i hi hn=>k.block i hi fun q=>hn ((hF i).2 (.inl (Option.some.inj q))),fun i hi=>?_⟩
 rcases hi with rfl|rfl
 ·exact⟨.inl ((hF i).2 (.inl rfl)),Nat.lt_of_lt_of_le hg k.size⟩
 ·refine⟨?_,hb2⟩
  rcases e with rfl|rfl
  ·exact .inl ((hF i).2 (.inl rfl))
  ·rcases fr with rfl|q
   ·exact .inl ((hF i).2 (.inr rfl))
   ·exact .inr q
end
def Settled(w:World)(g:Nat)(F:Nat→Prop)(cf:C8)(R:List Pn)(mark:Int)(r:Ending)(w':World):Prop:=
 ∃ sv O R' F',r=.returned sv∧ROuts cf.z mark R O R'∧(∀ q,q∈R'→¬q.e+cf.z≤mark)∧O.length+R'.length=R.length∧Is w' g F' cf R'∧Moves F F' w w'∧Sl.Own Pn.k w.heap.size w' sv O
theorem settle_ok{g:Nat}{cf:C8}{R:List Pn}{F:Nat→Prop}(mark:Int)(w:World)(H:Hid (Is w g F cf R))(hn:R.length≤10000)(fz:Hid ((Lit.int .i64 cf.z).wf=true))(fk:Hid ((Lit.int .i64 mark).wf=true))(fe:Hid (∀ p∈R,(Lit.int .i64 p.e).wf=true)):
  Calls Tryz.prog 46 #[gp g,.int .i64 mark] w (Settled w g F cf R mark):=by
 obtain⟨lv,b,h,hb,hF⟩:=H.out
 refine (Rg.settle_ok g cf lv R b mark w (hid h) hn fz fk fe).mono ?_
 rintro r w1 ⟨sv,O,R1,lv1,b1,rfl,ho,hno,out1,rg1,gr1,hlen,fr1⟩
 obtain⟨F',i,m⟩:=Is.went h.lies.lt hF gr1 rg1 fr1
 exact⟨sv,O,R1,F',rfl,ho,hno,hlen,i,m,out1⟩
def Took(w:World)(g:Nat)(F:Nat→Prop)(cf:C8)(R:List Pn)(key:ByteArray)(v mark:Int)(x:Option (Nat×Int×Int×Int))(r:Ending)(w':World):Prop:=
 ∃ sv O R1 code R' F',r=.returned (.tuple #[.int .i64 code,sv])∧ROuts cf.z mark R O R1∧(∀ q,q∈R1→¬q.e+cf.z≤mark)∧RTaken cf.k key v cf.z mark x R1 code R'∧O.length+R1.length=R.length∧Is w' g F' cf R'∧Moves F F' w w'∧Sl.Own Pn.k w.heap.size w' sv O
theorem take_ok{g:Nat}{cf:C8}{R:List Pn}{F:Nat→Prop}(key:ByteArray)(t v mark:Int)(x:Option (Nat×Int×Int×Int))(w:World)(H:Hid (Is w g F cf R))(hn:R.length≤9000)(M:Hid (Asg.may cf.k cf.s cf.l cf.g cf.z cf.h cf.r cf.c))(B:Hid (cf.s≤9223372036854775807∧cf.l≤9223372036854775807∧cf.g≤9223372036854775807∧cf.z≤9223372036854775807))
  (ft:Hid ((Lit.int .i64 t).wf=true)) (fk:Hid ((Lit.int .i64 mark).wf=true)) (fe:Hid (∀ p∈R,(Lit.int .i64 p.e).wf=true)) (T:Hid (Asg.Told cf.k cf.s cf.l cf.g cf.z t x)):
  Calls Tryz.prog 81 #[gp g,.string key,.int .i64 t,.int .i64 v,.int .i64 mark] w (Took w g F cf R key v mark x):=by
 obtain⟨lv,b,h,hb,hF⟩:=H.out
 refine (Rg.take_ok g cf lv R b key t v mark x w (hid h) hn M B ft fk fe T).mono ?_
 rintro r w1 ⟨sv,O,R1,R',u,b',code,rfl,ro,rno,rtk,rt,hlen⟩
 obtain⟨F',i,m⟩:=Is.went h.lies.lt hF rt.grown rt.rg rt.fr
 exact⟨sv,O,R1,code,R',F',rfl,ro,rno,rtk,hlen,i,m,rt.out⟩
theorem panesR_ok{g:Nat}{cf:C8}{R:List Pn}{F:Nat→Prop}(key:ByteArray)(w:World)(H:Hid (Is w g F cf R))(hn:R.length≤10000)(D:Hid ((ofKey key R).Pairwise fun p q=>¬Eq2 p q.s q.e)):
  Calls Tryz.prog 82 #[gp g,.string key] w fun r w'=>∃ v P,r=.returned v∧P.Perm (ofKey key R)∧Rises P∧Sl.Own Pn.k w.heap.size w' v P∧Below w.heap.size w w':=by
 obtain⟨lv,b,h,hb,hF⟩:=H.out
 exact Rg.panes_ok g cf lv R b key w (hid h) hn D
theorem routs_sub{late mark:Int}{R R' O:List Pn}(h:ROuts late mark R O R'):R'.Sublist R:=by
 induction h with
 |none=>exact List.Sublist.refl _
 |@more O R1 p k _ hp _ _ ih=>
  refine List.Sublist.trans ?_ ih
  have e:=Grp.split_at hp
  conv=>rhs;rw[e]
  exact List.Sublist.append_left (List.sublist_cons_self _ _) _
theorem routs_apart{late mark:Int}{R R' O:List Pn}{key:ByteArray}(h:ROuts late mark R O R')(D:(ofKey key R).Pairwise fun p q=>¬Eq2 p q.s q.e):(ofKey key R').Pairwise fun p q=>¬Eq2 p q.s q.e:=
 D.sublist ((routs_sub h).filter _)
theorem routs_none{late mark:Int}{R R' O:List Pn}(h:ROuts late mark R O R')(hn:∀ q,q∈R→¬q.e+late≤mark):O=[]∧R'=R:=by
 induction h with
 |none=>exact⟨rfl,rfl⟩
 |@more O1 R1 p k h hp ho _ ih=>
  obtain⟨-,rfl⟩:=ih;exact absurd ho (hn p (List.mem_of_getElem? hp))
theorem Is.grown{w w':World}{g b:Nat}{cf:C8}{R:List Pn}{F:Nat→Prop}(h:Is w g F cf R)(k:w.grownBy w' (some b))(hb:¬F b):Is w' g F cf R:=h.keep (fun i hi=>k.block i (h.in i hi) fun e=>hb (Option.some.inj e▸hi)) k.size
end Rr
set_option maxRecDepth 100000
namespace Errs
set_option maxRecDepth 100000 in
theorem eql_code_deep(w:World)(d:Nat)(a b:Int):
  (Op.equalIn (d+2) 73 (.iface 134 (.int .i64 a)) (.iface 134 (.int .i64 b))).run Tryz.prog w=.ok (a == b) w:=by
 have hc:∃ i,Tryz.prog.info? 134=some i∧i.comparable=true:=⟨_,rfl,by kernel_rfl⟩
 obtain⟨i,hinfo,hcomp⟩:=hc
 simp[Op.equalIn,run_underlying Tryz.underlying73,run_underlying Tryz.underlying134,typeInfo,hinfo,hcomp]
theorem eql_code(w:World)(a b:Int):
  (binOp .eql 73 (.iface 134 (.int .i64 a)) (.iface 134 (.int .i64 b))).run Tryz.prog w=.ok (.bool (a == b)) w:=by
 simp only[binOp]
 simp[Op.equal,Op.maxDepth,eql_code_deep w 9998 a b]
end Errs
namespace Md
open Small Foot Pane Grp Ca
section
variable {mo N:Nat} {F:Nat→Prop} {cf:C8} {S:Lists} {mark:Int} {L:List Pn} {cl:Bool}
end
def Fw(n:Nat)(f:Nat→Cl)(most:Nat):Prop:=n≤most∧∀ i,i<n→(f i).key.size≤100
def Row(A:Option Addr)(n:Nat)(f:Nat→Cl)(w:World):Prop:=0<n→∃ b off,A=some ⟨b,off,none⟩∧∀ i,i<n→∀ j v,(f i).cl[j]?=some v→w.cell? ⟨b,off+(i*7+j),none⟩=some v
theorem Row.next{A:Option Addr}{n:Nat}{f:Nat→Cl}{w w':World}(h:Row A n f w)(k:Below w.heap.size w w'):Row A n f w':=fun h0=>by
 obtain⟨b,off,e,hc⟩:=h h0
 exact⟨b,off,e,fun i hi j v hj=>cell_keep k (hc i hi j v hj)⟩
theorem few_ok(A:Option Addr)(n cp:Nat)(f:Nat→Cl)(most:Nat)(b:Bool)(w:World)(hb:Hid (b=true↔Fw n f most))(hm:most≤1000)(hn:n≤maxLen)(hc:Hid (Row A n f w)):
  Calls Tryz.prog 8 #[.slice A n cp,.int .i64 most] w fun r w'=>r=.returned (.int .i64 (cond b 1 0))∧Below w.heap.size w w':=by
 unfold maxLen at hn
 go_enter Tryz.func8,Tryz.ntmps8
 go_wp2_with fail
 go_loopw [5] (fun si wr=>∃ i:Nat,i≤n∧i≤most∧si=.int .i64 i∧Hid (∀ j,j<i→(f j).key.size≤100)∧wr=w) (fun si _=>n-(intOf si).toNat)
 case atStart=>exact⟨0,by omega,by omega,rfl,hid (fun j hj=>absurd hj (by omega)),rfl⟩
 case round=>
  obtain⟨i,hi,him,rfl,K,rfl⟩:=hrel;by_cases h1:i<n
  ·have i1:(i:Int)<n:=by omega
   by_cases h2:i<most
   ·have i2:(i:Int)<most:=by omega
    obtain⟨ab,off,rfl,hcell⟩:=hc.out (by omega)
    have c1:=hcell i h1 1 _ rfl;rw[←Nat.add_assoc] at c1;by_cases h3:100<(f i).key.size
    ·have e1:decide ((100:Int)<(f i).key.size)=true:=decide_eq_true (by omega)
     have e2:decide (100<(f i).key.size)=true:=decide_eq_true h3
     obtain rfl:b=false:=by
      cases b with
      |false=>rfl
      |true=>have:=(hb.out.1 rfl).2 i h1;omega
     clear h3 hcell;go_wp2;go_ret;exact⟨rfl,Below.refl _ _⟩
    ·have e1:decide ((100:Int)<(f i).key.size)=false:=decide_eq_false (by omega)
     have e2:decide (100<(f i).key.size)=false:=decide_eq_false h3;have h3:=hid h3;clear hcell;go_wp2_with fail
     exact⟨⟨i+1,by omega,by omega,by go_num,hid (fun j hj=>by
      rcases Nat.lt_or_ge j i with q|q
      ·exact K.out j q
      ·obtain rfl:j=i:=by omega
       have:=h3.out;omega),trivial⟩,by simp[intOf];omega⟩
   ·have i2:¬(i:Int)<most:=by omega
    obtain rfl:b=false:=by
     cases b with
     |false=>rfl
     |true=>have:=(hb.out.1 rfl).1;omega
    have i3:(most:Int)<n:=by omega
    go_wp2;go_ret;exact⟨rfl,Below.refl _ _⟩
  ·obtain rfl:i=n:=by omega
   have i1:¬(i:Int)<i:=by omega
   obtain rfl:b=true:=hb.out.2 ⟨him,K.out⟩;have i3:¬(most:Int)<i:=by omega
   go_wp2;go_ret;exact⟨rfl,Below.refl _ _⟩
end Md
instance:Inhabited Cl:=⟨⟨0,⟨#[]⟩,0,0,0,0,0⟩⟩
namespace Opens
end Opens
namespace Md
open Small Foot Pane Grp Ca
section
variable {cf:C8} {S S':Lists} {mark mark':Int} {L L' P:List Pn} {cl cl':Bool} {x:Cl} {z:Option (Nat×Int×Int×Int)} {code:Int} {c:Nat}
end
end Md
end Go.Proofs.YtfjlnniahfbdfaaGreat
