/- A part of the proof. -/
import Derived.Test.YtfjlnniahfbdfaaGreatPap
import Derived.Test.YtfjlnniahfbdfaaGreatPaq
import Derived.Test.YtfjlnniahfbdfaaGreatPac
import Derived.Deep.QuietTactic
import Derived.BigQuiet
set_option linter.unusedVariables false
set_option maxHeartbeats 4000000
namespace Go.Proofs.YtfjlnniahfbdfaaGreat
open Lib (hid)
open Go.ChangeShapes Go.WideShapes Go.ChangeAt Go.RowKit
namespace Grp
open Small Foot Pane
inductive Tk(kind:Int)(key:ByteArray)(v late mark a d l:Int)(S:Lists):Nat→Nat→Lists→Prop
 |zero:Tk kind key v late mark a d l S 0 0 S
 |over {i c:Nat} {S':Lists} (h:Tk kind key v late mark a d l S i c S') (ho:a+i*d+l+late≤mark):Tk kind key v late mark a d l S (i+1) c S'
 |put {i c:Nat} {S':Lists} {L':List Pn} (h:Tk kind key v late mark a d l S i c S') (ho:¬a+i*d+l+late≤mark) (hp:Put1 kind key (a+i*d) (a+i*d+l) v (S' key) L'):Tk kind key v late mark a d l S (i+1) (c+1) (S'.set key L')
theorem Tk.le{kind:Int}{key:ByteArray}{v late mark a d l:Int}{S S':Lists}{i c:Nat}(h:Tk kind key v late mark a d l S i c S'):c≤i:=by
 induction h with
 |zero=>omega
 |over _ _ ih=>omega
 |put _ _ _ ih=>omega
theorem cnt_cut{L:List Pn}{n k:Nat}(h:Cnt L n):∃ n',Cnt (L.take k++L.drop (k+1)) n'∧n'≤n:=by
 have hp:∀ p∈L.take k++L.drop (k+1),1≤p.c:=fun p hp=>h.pos p (cut_mem hp)
 have h1:=(sum_pos hp).1
 have h2:sumC (L.take k++L.drop (k+1))≤sumC L:=by
  by_cases hk:k<L.length
  ·obtain⟨x,hx⟩:=at_some hk
   have e:=split_at hx;have:sumC L=sumC (L.take k)+(x.c+sumC (L.drop (k+1))):=by rw[←sumC_cons,←sumC_app,←e]
   have:=h.pos x (List.mem_of_getElem? hx);rw[sumC_app];omega
  ·rw[List.take_of_length_le (by omega),List.drop_of_length_le (by omega),List.append_nil]
   exact Int.le_refl _
 have h3:=h.cnt
 refine⟨(sumC (L.take k++L.drop (k+1))).toNat,⟨rises_cut h.rises k,hp,by omega⟩,by omega⟩
theorem apart_cut{L:List Pn}(k:Nat)(h:Apart L):Apart (L.take k++L.drop (k+1)):=by
 refine⟨fun p hp=>h.may p (cut_mem hp),h.apart.sublist ?_⟩
 by_cases hk:k<L.length
 ·obtain⟨x,hx⟩:=at_some hk
  have e:=split_at hx
  conv=>rhs;rw[e]
  exact List.Sublist.append (List.Sublist.refl _) (List.sublist_cons_self _ _)
 ·rw[List.take_of_length_le (by omega),List.drop_of_length_le (by omega),List.append_nil]
  exact List.Sublist.refl _
theorem Ok.cut{kind:Int}{S:Lists}{N:Nat}(h:Ok kind S N)(x:ByteArray)(k:Nat):Ok kind (S.set x ((S x).take k++(S x).drop (k+1))) N:=by
 refine⟨fun y=>?_,fun y p hp=>?_,fun h2 y=>?_⟩
 ·by_cases e:y=x
  ·subst e;rw[set_same]
   obtain⟨n,c,q⟩:=h.cnt y;obtain⟨n',c',q'⟩:=cnt_cut (k:=k) c;exact⟨n',c',by omega⟩
  ·rw[set_other _ _ e];exact h.cnt y
 ·by_cases e:y=x
  ·subst e;rw[set_same] at hp;exact h.key y p (cut_mem hp)
  ·rw[set_other _ _ e] at hp;exact h.key y p hp
 ·by_cases e:y=x
  ·subst e;rw[set_same];exact apart_cut k (h.apart h2 y)
  ·rw[set_other _ _ e];exact h.apart h2 y
theorem Ok.outs{kind late mark:Int}{S S':Lists}{N:Nat}{O:List Pn}(h:Ok kind S N)(o:Outs late mark S O S'):Ok kind S' N:=by
 induction o with
 |none=>exact h
 |more _ _ _ _ ih=>exact ih.cut _ _
structure TE(w:World)(g m tg:Nat)(cf:C8)(n cnt N:Nat)(FT Bk:Nat→Prop)(sv:Value)(O:List Pn)(c:Nat)(S':Lists)(n' cnt':Nat)(f':ByteArray→Option Value)(FT' Bk':Nat→Prop)(wr:World):Prop where
 q:Gq wr g m tg cf S' (duesOf S') n' cnt' f' FT' Bk'
 ok:Ok cf.k S' (N+c)
 n:n'≤n+c
 cnt:cnt'≤cnt+c
 v:Moves (Fp g m FT) (Fp g m FT') w wr
 bk:∀ b,Bk' b→(Bk b∨w.heap.size≤b)∧b<wr.heap.size
 out:Sl.Own Pn.k w.heap.size wr sv O
 ap:∀ b,sv.ownBlock=some b→¬Fp g m FT' b∧¬Bk' b
section
variable {w wr w':World} {g m tg n cnt N c n' cnt':Nat} {cf:C8} {S':Lists} {f':ByteArray→Option Value} {FT Bk FT' Bk':Nat→Prop} {sv:Value} {O:List Pn}
theorem TE.next(h:TE w g m tg cf n cnt N FT Bk sv O c S' n' cnt' f' FT' Bk' wr)(k:Below wr.heap.size wr w'):TE w g m tg cf n cnt N FT Bk sv O c S' n' cnt' f' FT' Bk' w':=
 ⟨h.q.next k,h.ok,h.n,h.cnt,h.v.trans (Moves.of_below k h.q.in),fun b hb=>⟨(h.bk b hb).1,Nat.lt_of_lt_of_le (h.bk b hb).2 k.size⟩,h.out.next k,h.ap⟩
theorem TE.beside{key:ByteArray}{s e v:Int}{r:Ending}(h:TE w g m tg cf n cnt N FT Bk sv O c S' n' cnt' f' FT' Bk' wr)(P:PutTo wr g m tg cf S' n' cnt' (N+c) FT' Bk' key s e v r w'):
  r=.returned (.tuple #[])∧∃ L' n2 cnt2 f2 FT2 Bk2,Put1 cf.k key s e v (S' key) L'∧TE w g m tg cf n cnt N FT Bk sv O (c+1) (S'.set key L') n2 cnt2 f2 FT2 Bk2 w'∧wr.heap.size≤w'.heap.size∧(∀ b,b<wr.heap.size→¬Fp g m FT' b→w'.heap[b]?=wr.heap[b]?∧¬Fp g m FT2 b):=by
 obtain⟨rfl,L',p1,ok',n2,c2,f2,FT2,Bk2,q2,hn2,hc2,V2,B2⟩:=P
 have new:∀ b,b<wr.heap.size→¬Fp g m FT' b→¬Fp g m FT2 b:=fun b hb hn q=>by
  rcases (V2.new b q).1 with r|r
  ·exact hn r
  ·omega
 refine⟨rfl,L',n2,c2,f2,FT2,Bk2,p1,⟨q2,ok',by have:=h.n;omega,by have:=h.cnt;omega,h.v.trans V2,fun b hb=>?_,h.out.move fun b hb=>V2.block b (h.out.lt b hb).2 (h.ap b hb).1,fun b hb=>⟨new b (h.out.lt b hb).2 (h.ap b hb).1,fun q=>?_⟩⟩,V2.size,fun b hb hn=>⟨V2.block b hb hn,new b hb hn⟩⟩
 ·have s1:=h.v.size
  have s2:=V2.size;rcases B2 b hb with r|r
  ·exact⟨(h.bk b r).1,Nat.lt_of_lt_of_le (h.bk b r).2 s2⟩
  ·exact⟨.inr (by omega),r.2⟩
 ·have hl:=(h.out.lt b hb).2
  rcases B2 b q with r|r
  ·exact (h.ap b hb).2 r
  ·omega
theorem SS.te{S S1:Lists}{mark:Int}(Q:SS w g m tg cf S n cnt FT Bk mark sv O S1 n' cnt' f' FT' Bk' wr)(hO:Ok cf.k S N):TE w g m tg cf n cnt N FT Bk sv O 0 S1 n' cnt' f' FT' Bk' wr:=
 ⟨Q.q,hO.outs Q.outs,by have:=Q.len;omega,Q.cnt,Q.v,Q.bk,Q.out,Q.ap⟩
end
structure TS(w:World)(g m tg:Nat)(cf:C8)(S1:Lists)(n cnt N:Nat)(FT Bk:Nat→Prop)(key:ByteArray)(v mark a d l:Int)(sv:Value)(O:List Pn)(gw nn i c:Nat)(S':Lists)(n' cnt':Nat)(f':ByteArray→Option Value)(FT' Bk':Nat→Prop)(wr:World):Prop where
 te:TE w g m tg cf n cnt N FT Bk sv O c S' n' cnt' f' FT' Bk' wr
 tk:Tk cf.k key v cf.z mark a d l S1 i c S'
 wins:Asg.Wins wr gw nn a d l
 gw:gw<wr.heap.size∧¬Fp g m FT' gw
section
variable {w wr w':World} {g m tg n cnt N gw nn i c n' cnt':Nat} {cf:C8} {S1 S':Lists} {f':ByteArray→Option Value} {FT Bk FT' Bk':Nat→Prop} {key:ByteArray} {v mark a d l:Int} {sv:Value} {O:List Pn}
theorem TS.next(h:TS w g m tg cf S1 n cnt N FT Bk key v mark a d l sv O gw nn i c S' n' cnt' f' FT' Bk' wr)(k:Below wr.heap.size wr w'):TS w g m tg cf S1 n cnt N FT Bk key v mark a d l sv O gw nn i c S' n' cnt' f' FT' Bk' w':=
 ⟨h.te.next k,h.tk,h.wins.next k,Nat.lt_of_lt_of_le h.gw.1 k.size,h.gw.2⟩
theorem TS.over(h:TS w g m tg cf S1 n cnt N FT Bk key v mark a d l sv O gw nn i c S' n' cnt' f' FT' Bk' wr)(ho:a+i*d+l+cf.z≤mark):TS w g m tg cf S1 n cnt N FT Bk key v mark a d l sv O gw nn (i+1) c S' n' cnt' f' FT' Bk' wr:=
 ⟨h.te,h.tk.over ho,h.wins,h.gw⟩
theorem TS.put{r:Ending}(h:TS w g m tg cf S1 n cnt N FT Bk key v mark a d l sv O gw nn i c S' n' cnt' f' FT' Bk' wr)(ho:¬a+i*d+l+cf.z≤mark)(P:PutTo wr g m tg cf S' n' cnt' (N+c) FT' Bk' key (a+i*d) (a+i*d+l) v r w'):
  r=.returned (.tuple #[])∧∃ S2 n2 cnt2 f2 FT2 Bk2,TS w g m tg cf S1 n cnt N FT Bk key v mark a d l sv O gw nn (i+1) (c+1) S2 n2 cnt2 f2 FT2 Bk2 w':=by
 obtain⟨hr,L',n2,cnt2,f2,FT2,Bk2,p1,te,hs,hb⟩:=h.te.beside P
 obtain⟨b1,b2⟩:=hb gw h.gw.1 h.gw.2
 exact⟨hr,_,n2,cnt2,f2,FT2,Bk2,te,h.tk.put ho p1,fun j hj=>⟨(cell_block (a:=⟨gw,j*2,none⟩) b1).trans (h.wins j hj).1,(cell_block (a:=⟨gw,j*2+1,none⟩) b1).trans (h.wins j hj).2⟩,Nat.lt_of_lt_of_le h.gw.1 hs,b2⟩
end
def Taken(kind:Int)(key:ByteArray)(v late mark:Int):Option (Nat×Int×Int×Int)→Lists→Int→Nat→Lists→Prop
 |none,S1,code,c,S'=>code=4∧c=0∧S'=S1
 |some (nn,a,d,l),S1,code,c,S'=>Tk kind key v late mark a d l S1 nn c S'∧code=if c=0 then 1 else 0
def codeOf(c:Nat):Int:=if c=0 then 1 else 0
def TakeTo(w:World)(g m tg:Nat)(cf:C8)(S:Lists)(n cnt N:Nat)(FT Bk:Nat→Prop)(key:ByteArray)(v mark:Int)(x:Option (Nat×Int×Int×Int))(r:Ending)(w':World):Prop:=
 ∃ sv O S1 code c S' n' cnt' f' FT' Bk',r=.returned (.tuple #[.int .i64 code,sv])∧Outs cf.z mark S O S1∧NoneOver cf.z mark S1∧Taken cf.k key v cf.z mark x S1 code c S'∧TE w g m tg cf n cnt N FT Bk sv O c S' n' cnt' f' FT' Bk' w'
theorem told_fits{k s l g z h r c t:Int}{nn:Nat}{a d b:Int}(M:Asg.may k s l g z h r c)(t0:-9223372036854775808≤t)(s1:s≤9223372036854775807)(g1:g≤9223372036854775807)(T:Asg.Told k s l g z t (some (nn,a,d,b))):
  nn≤16∧1≤nn∧1≤b∧(k=2→nn=1)∧∀ i:Nat,i<nn→-9223372036854775808≤a+i*d∧a+i*d+b+z≤9223372036854775807:=by
 have z0:=M.2.1
 cases T with
 |slidesYes q hk q1 b b' f hh=>
  obtain⟨a0,a1,a2⟩:=Asg.slide_may hk M;refine⟨by omega,by omega,by omega,fun e=>by omega,fun i hi=>?_⟩
  have h1:0≤(i:Int)*Asg.slideOf k s l:=Int.mul_nonneg (by omega) (by omega)
  have h2:(i:Int)*Asg.slideOf k s l≤(q:Int)*Asg.slideOf k s l:=Int.mul_le_mul_of_nonneg_right (by omega) (by omega)
  omega
 |sessionYes hk hh=>
  have g0:1≤g:=by have:=M.1;unfold Asg.mayW at this;omega
  refine⟨by omega,by omega,g0,fun _=>rfl,fun i hi=>?_⟩
  obtain rfl:i=0:=by omega
  omega
set_option maxRecDepth 100000 in
theorem take_ok{g m tg n cnt N:Nat}{cf:C8}{S:Lists}{fm:ByteArray→Option Value}{FT Bk:Nat→Prop}(key:ByteArray)(t v mark:Int)(x:Option (Nat×Int×Int×Int))(w:World)(H:Hid (Gq w g m tg cf S (duesOf S) n cnt fm FT Bk))(O:Hid (Ok cf.k S N))(hN:N≤8880)
  (hB:Hid (∀ b,Bk b→b<w.heap.size)) (hc:cnt≤1048000) (hn:n≤1048000) (M:Hid (Asg.may cf.k cf.s cf.l cf.g cf.z cf.h cf.r cf.c)) (B:Hid (cf.s≤9223372036854775807∧cf.l≤9223372036854775807∧cf.g≤9223372036854775807∧cf.z≤9223372036854775807))
  (ft:Hid ((Lit.int .i64 t).wf=true)) (fk:Hid ((Lit.int .i64 mark).wf=true)) (hk:key.size≤maxLen) (T:Hid (Asg.Told cf.k cf.s cf.l cf.g cf.z t x)):
  Calls Tryz.prog 135 #[gp g,.string key,.int .i64 t,.int .i64 v,.int .i64 mark] w (TakeTo w g m tg cf S n cnt N FT Bk key v mark x):=by
 have fz:Hid ((Lit.int .i64 cf.z).wf=true):=hid (wf_of (by have:=M.out.2.1;omega) B.out.2.2.2)
 go_enter Tryz.func135,Tryz.ntmps135
 go_wp2_with fail
 refine (settle_ok mark w H (hid (O.out.fine (by omega))) hB (by omega) fz fk).mono ?_
 rintro r w1 ⟨sv,L,S1,n1,cnt1,f1,FT1,Bk1,rfl,Q1,NO⟩
 have TE1:=hid (Q1.te O.out)
 have OU:=hid Q1.outs
 have NO:=hid NO
 clear Q1
 have c0:=TE1.out.q.lies.cell (i:=0) rfl
 have c1:=TE1.out.q.lies.cell (i:=1) rfl
 have c2:=TE1.out.q.lies.cell (i:=2) rfl
 have c3:=TE1.out.q.lies.cell (i:=3) rfl
 have c4:=TE1.out.q.lies.cell (i:=4) rfl
 have c5:=TE1.out.q.lies.cell (i:=5) rfl
 have c6:=TE1.out.q.lies.cell (i:=6) rfl
 have c7:=TE1.out.q.lies.cell (i:=7) rfl
 go_wp2_with fail
 refine (Asg.of_okN cf.k cf.s cf.l cf.g cf.z cf.h cf.r cf.c t x _ B.out.1 B.out.2.1 B.out.2.2.1 B.out.2.2.2 (fit ft.out).1 (fit ft.out).2 M.out T.out).mono ?_
 rintro r w2 ⟨u1,u2,rfl,hR,k2,hf⟩
 have TE2:=hid (TE1.out.next k2)
 clear c0 c1 c2 c3 c4 c5 c6 c7
 cases x with
 |none=>
  obtain⟨rfl,rfl⟩:=hR;clear TE1 hf k2;go_wp2_with fail
  go_ret2;exact⟨_,_,_,_,_,_,_,_,_,_,_,rfl,OU.out,NO.out,⟨rfl,rfl,rfl⟩,TE2.out⟩
 |some y=>
  obtain⟨nn,a,d,l⟩:=y;obtain⟨gw,gc,rfl,rfl,hW⟩:=hR;obtain⟨n16,n0,l0,n2,FW⟩:=told_fits M.out (fit ft.out).1 B.out.1 B.out.2.2.1 T.out;have FW:=hid FW;have hg:=hf gw rfl;have glt:gw<w2.heap.size:=World.block_lt_of_cell? _ _ (hW 0 (by omega)).1
  have TS0:Hid (TS w g m tg cf S1 n cnt N FT Bk key v mark a d l sv L gw nn 0 0 S1 n1 cnt1 f1 FT1 Bk1 w2):=
   hid ⟨TE2.out,.zero,hW,glt,fun q=>by have:=TE1.out.q.in gw q;omega⟩
  clear TE1 TE2 hW hg glt hf k2;go_wp2_with fail
  go_loopw [15,35] (fun sc si wr=>∃ (i c:Nat) (Si:Lists) (n' cnt':Nat) (f':ByteArray→Option Value) (FT' Bk':Nat→Prop),i≤nn∧sc=.int .i64 (codeOf c)∧si=.int .i64 i∧Hid (TS w g m tg cf S1 n cnt N FT Bk key v mark a d l sv L gw nn i c Si n' cnt' f' FT' Bk' wr)) (fun _ si _=>nn-(intOf si).toNat)
  case atStart=>exact⟨0,0,S1,n1,cnt1,f1,FT1,Bk1,by omega,rfl,rfl,TS0⟩
  case round=>
   obtain⟨i,c,Si,n',cnt',f',FT',Bk',hi,rfl,rfl,Q⟩:=hrel;have hcn:=Q.out.te.n;have hcc:=Q.out.te.cnt;have hci:=Q.out.tk.le;by_cases hlt:i<nn
   ·obtain⟨x0,x1⟩:=Q.out.wins i hlt
    obtain⟨b0,b1⟩:=FW.out i hlt;have z0:=M.out.2.1;have Q1:=hid (Q.out.next (below1 wr (Obj.cells #[.int .i64 (a+i*d),.int .i64 (a+i*d+l)] 129)));have Y1:Hid (Lies (wr.alloc (Obj.cells #[.int .i64 (a+i*d),.int .i64 (a+i*d+l)] 129)) wr.heap.size 129 [.int .i64 (a+i*d),.int .i64 (a+i*d+l)]):=hid (Lies.new wr 129 [.int .i64 (a+i*d),.int .i64 (a+i*d+l)]);have i0:(i:Int)<(nn:Int):=by omega
    clear Q;go_upto_region 9 with fail
    obtain⟨gy,hgy⟩:∃ gy,gy=wr.heap.size:=⟨_,rfl⟩;rw[←hgy] at Y1 ⊢;clear hgy x0 x1;generalize wr.alloc (Obj.cells #[.int .i64 (a+i*d),.int .i64 ((a+i*d)+l)] 129)=w3 at *;have c4:=Q1.out.te.q.lies.cell (i:=4) rfl;have s0:=Y1.out.cell (i:=0) rfl;have s1:=Y1.out.cell (i:=1) rfl;go_still_tail 7,(by kernel_rfl)
    change wpList _ _ _ _ _ w3.drew
    have Q2:=hid (Q1.out.next (w':=w3.drew) (Below.refl _ _).drew);have Y2:=hid (Y1.out.next (w':=w3.drew) (Below.refl _ _).drew);clear Q1 Y1 c4 s0 s1;generalize w3.drew=w4 at *;go_wp2_with fail
    refine (Spn.over_ok (a+i*d) (a+i*d+l) cf.z mark _ (by omega) (by omega) (fit fz.out).1 (fit fz.out).2 (fit fk.out).1 (fit fk.out).2).mono ?_
    rintro r w5 ⟨rfl,k5⟩;have Q3:=hid (Q2.out.next k5);have Y3:=hid (Y2.out.next k5);clear Q2 Y2 k5;by_cases ho:(a+i*d)+l+cf.z≤mark
    ·have hd:decide ((a+i*d)+l+cf.z≤mark)=true:=decide_eq_true ho
     have Q4:=hid (Q3.out.over ho);clear Q3 Y3;rw[hd];go_wp2_with fail
     go_roundw
     case rel=>exact⟨i+1,c,Si,n',cnt',f',FT',Bk',by omega,rfl,by go_num,Q4⟩
     case measure=>simp[intOf];omega
    ·have hd:decide ((a+i*d)+l+cf.z≤mark)=false:=decide_eq_false ho
     have s0:=Y3.out.cell (i:=0) rfl;have s1:=Y3.out.cell (i:=1) rfl;clear Y3;rw[hd];go_wp2_with fail
     refine (put_ok key (a+i*d) ((a+i*d)+l) v _ (hid Q3.out.te.q) (hid Q3.out.te.ok) (by omega) (by omega) hk (by omega) (by omega) (wf_of b0 (by omega)) (wf_of (by omega) (by omega))).mono ?_
     rintro r w6 P;obtain⟨rfl,S2,n2,cnt2,f2,FT2,Bk2,Q4⟩:=Q3.out.put (by omega) P
     have Q4:=hid Q4;clear Q3 P s0 s1;go_wp2_with fail
     go_roundw
     case rel=>exact⟨i+1,c+1,S2,n2,cnt2,f2,FT2,Bk2,by omega,rfl,by go_num,Q4⟩
     case measure=>simp[intOf];omega
   ·obtain rfl:i=nn:=by omega
    go_wp2_with fail
    go_ret2;exact⟨_,_,_,_,_,_,_,_,_,_,_,rfl,OU.out,NO.out,⟨Q.out.tk,rfl⟩,Q.out.te⟩
end Grp
end Go.Proofs.YtfjlnniahfbdfaaGreat
