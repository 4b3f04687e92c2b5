/- A part of the proof. -/
import Derived.Test.YtfjlnniahfbdfaaGreatPai
import Derived.Test.YtfjlnniahfbdfaaGreatPaj
import Derived.Test.YtfjlnniahfbdfaaGreatPaf
import Derived.Test.YtfjlnniahfbdfaaGreatPak
import Derived.StillTailTactics
import Derived.Deep.DeepCutAuto
import Derived.Test.YtfjlnniahfbdfaaGreatPam
set_option linter.unusedVariables false
set_option maxHeartbeats 4000000
namespace Go.Proofs.YtfjlnniahfbdfaaGreat
open Lib (hid)
open Go.ChangeShapes Go.WideShapes Go.ChangeAt Go.RowKit
namespace Grp
open Small Foot Pane
def Mp3(B gx g m:Nat)(vl:Value)(key:ByteArray)(s e v:Int)(L':List Pn)(i:Nat)(u:Value)(w:World):Prop:=match i with
 |0=>u=gp g
 |1=>u=gp g
 |2=>u=.pointer (some ⟨g,8,none⟩)
 |3=>u=.map (some m)
 |4=>u=.string key
 |5=>u=vl
 |6=>u=.string key
 |7=>u=win s e
 |8=>u=.int .i64 v
 |9=>Sl.Own Pn.k B w u L'
 |_=>True
theorem Mp3.mono(B gx g m:Nat)(vl:Value)(key:ByteArray)(s e v:Int)(L':List Pn):∀ i u w w',Mp3 B gx g m vl key s e v L' i u w→Below w.heap.size w w'→Mp3 B gx g m vl key s e v L' i u w'
 |0,u,w,w',h,k=>h
 |1,u,w,w',h,k=>h
 |2,u,w,w',h,k=>h
 |3,u,w,w',h,k=>h
 |4,u,w,w',h,k=>h
 |5,u,w,w',h,k=>h
 |6,u,w,w',h,k=>h
 |7,u,w,w',h,k=>h
 |8,u,w,w',h,k=>h
 |9,u,w,w',h,k=>Sl.Own.next (K:=Pn.k) h k
 |i+10,u,w,w',h,k=>trivial
def Goes(w w':World)(g m tg:Nat)(cf:C8)(S:Lists)(M:Tmr.Tm→Prop)(n cnt:Nat)(FT Bk:Nat→Prop):Prop:=
 ∃ n' cnt' f' FT' Bk',Gq w' g m tg cf S M n' cnt' f' FT' Bk'∧n'≤n∧cnt'≤cnt∧Moves (Fp g m FT) (Fp g m FT') w w'∧∀ b,Bk' b→Bk b∨(w.heap.size≤b∧b<w'.heap.size)
set_option maxRecDepth 100000 in
theorem put_plain{g m tg n cnt:Nat}{cf:C8}{S:Lists}{M:Tmr.Tm→Prop}{fm:ByteArray→Option Value}{FT Bk:Nat→Prop}(key:ByteArray)(s e v:Int)(L':List Pn)(w:World)(H:Hid (Gq w g m tg cf S M n cnt fm FT Bk))(hk2:cf.k≠2)
  (hk:key.size≤maxLen) (hc:cnt<1048576) (hn:n<1048576) (fs:(Lit.int .i64 s).wf=true) (fe:(Lit.int .i64 e).wf=true) (hL:L'≠[])
  (PUT:Hid (∀ (l:Value) (b:Nat) (w:World),Hid (Sl.Is Pn.k w l (S key) b)→Calls Tryz.prog 171 #[l,.string key,win s e,.int .i64 v] w fun r w'=>∃ v',r=.returned v'∧Sl.Own Pn.k w.heap.size w' v' L'∧Below w.heap.size w w')):
  Calls Tryz.prog 157 #[gp g,.string key,win s e,.int .i64 v] w fun r w'=>r=.returned (.tuple #[])∧Grp.Goes w w' g m tg cf (S.set key L') (fun y=>y=⟨key,s,e⟩∨M y) (n+1) (cnt+1) FT Bk:=by
 have K0:=hid (below1 w (Obj.cells #[.int .i64 s,.int .i64 e] 129))
 have X0:=hid (Lies.new w 129 [.int .i64 s,.int .i64 e])
 obtain⟨vl,b,hv,iv⟩:=H.out.list key
 have I0:=hid (iv.next K0.out)
 have H0:=hid (H.out.next K0.out)
 have hl:=H0.out.map.look hk
 rw[hv] at hl
 have c0:=H0.out.lies.cell (i:=0) rfl
 have c8:=H0.out.lies.cell (i:=8) rfl
 have q1:(cf.k == 2)=false:=by simpa using hk2
 have q2:(cf.k != 2)=true:=by simpa using hk2
 clear iv hv
 go_enter Tryz.func157,Tryz.ntmps157
 go_upto_region 3 with fail
 obtain⟨gx,hgx⟩:∃ gx,gx=w.heap.size:=⟨_,rfl⟩
 change Hid (Below w.heap.size w (w.alloc (Obj.cells #[.int .i64 s,.int .i64 e] 129))) at K0
 change Hid (Lies (w.alloc (Obj.cells #[.int .i64 s,.int .i64 e] 129)) w.heap.size _ _) at X0
 rw[←hgx] at X0 ⊢
 have HG:=hid hgx
 clear hgx hl c0 c8
 generalize w.alloc (Obj.cells #[.int .i64 s,.int .i64 e] 129)=w0 at *
 refine wp_region_goes Goes.below 10 81 (Mp3 w0.heap.size gx g m vl key s e v L') (by show _=_;kernel_rfl) (by show _=_;kernel_rfl) (by show _=_;kernel_rfl) (Mp3.mono w0.heap.size gx g m vl key s e v L') ?_ ?_
 ·intro i hi o ho a' w' Kc hd hout hdep hB hK
  match i,hi,ho with
  |0,_,ho=>exact Sl.wp_move _ (Reg.Has.op (p:=Op.move (.tmp 0)) (t:=25) (by show _=_;kernel_rfl) ho).1 (hK _ _ (hout 0 (Reg.Free.out (by show _=_;kernel_rfl))) (Below.refl _ _))
  |1,_,ho=>
   refine wp_val (V:=gp g) (w':=w') ?_ (hK _ _ rfl (Below.refl _ _))
   have hop:=(Reg.Has.op (p:=Op.nilCheck (.tmp 25)) (t:=26) (by show _=_;kernel_rfl) ho).1
   have h6:a'.eval (.tmp 25)=gp g:=(hdep 0 (mem_of (by show _=_;kernel_rfl)) 25 (by show _=_;kernel_rfl))
   generalize a'.eval=ev at h6;simp[execOp,hop,h6,go_sem]
  |2,_,ho=>
   refine wp_val (V:=.pointer (some ⟨g,8,none⟩)) (w':=w') ?_ (hK _ _ rfl (Below.refl _ _))
   have hop:=(Reg.Has.op (p:=Op.fieldAddr 190 (.tmp 26) 1) (t:=27) (by show _=_;kernel_rfl) ho).1
   have h6:a'.eval (.tmp 26)=.pointer (some ⟨g,0,none⟩):=(hdep 1 (mem_of (by show _=_;kernel_rfl)) 26 (by show _=_;kernel_rfl))
   generalize a'.eval=ev at h6;simp[execOp,hop,h6,go_sem]
  |3,_,ho=>
   refine wp_val (V:=.map (some m)) (w':=w') ?_ (hK _ _ rfl (Below.refl _ _))
   have hop:=(Reg.Has.op (p:=Op.load 186 (.tmp 27)) (t:=28) (by show _=_;kernel_rfl) ho).1
   have h6:a'.eval (.tmp 27)=.pointer (some ⟨g,8,none⟩):=(hdep 2 (mem_of (by show _=_;kernel_rfl)) 27 (by show _=_;kernel_rfl))
   have k0:=(H0.out.next hB).lies.cell (i:=8) rfl;generalize a'.eval=ev at h6;simp[execOp,hop,h6,go_sem,k0]
  |4,_,ho=>exact Sl.wp_move _ (Reg.Has.op (p:=Op.move (.tmp 1)) (t:=29) (by show _=_;kernel_rfl) ho).1 (hK _ _ (hout 1 (Reg.Free.out (by show _=_;kernel_rfl))) (Below.refl _ _))
  |5,_,ho=>exact Sl.wp_move _ (Reg.Has.op (p:=Op.move (.tmp 8)) (t:=30) (by show _=_;kernel_rfl) ho).1 (hK _ _ (hout 8 (Reg.Free.out (by show _=_;kernel_rfl))) (Below.refl _ _))
  |6,_,ho=>exact Sl.wp_move _ (Reg.Has.op (p:=Op.move (.tmp 1)) (t:=31) (by show _=_;kernel_rfl) ho).1 (hK _ _ (hout 1 (Reg.Free.out (by show _=_;kernel_rfl))) (Below.refl _ _))
  |7,_,ho=>
   refine wp_val (V:=win s e) (w':=w') ?_ (hK _ _ rfl (Below.refl _ _))
   have hop:=(Reg.Has.op (p:=Op.load 129 (.tmp 6)) (t:=32) (by show _=_;kernel_rfl) ho).1
   have h6:a'.eval (.tmp 6)=.pointer (some ⟨gx,0,none⟩):=(hout 6 (Reg.Free.out (by show _=_;kernel_rfl)))
   have k1:=(X0.out.next hB).cell (i:=0) rfl;have k2:=(X0.out.next hB).cell (i:=1) rfl;generalize a'.eval=ev at h6;simp[execOp,hop,h6,go_sem,k1,k2]
  |8,_,ho=>exact Sl.wp_move _ (Reg.Has.op (p:=Op.move (.tmp 3)) (t:=33) (by show _=_;kernel_rfl) ho).1 (hK _ _ (hout 3 (Reg.Free.out (by show _=_;kernel_rfl))) (Below.refl _ _))
  |9,_,ho=>
   refine wp_call (S:=fun x w2=>Sl.Own Pn.k w'.heap.size w2 x L'∧Below w'.heap.size w' w2) (Reg.Has.op (p:=Op.call {callee:=Callee.value (.func 171),args:=#[.tmp 30,.tmp 31,.tmp 32,.tmp 33],argTypes:=#[41,9,129,2]}) (t:=34) (by show _=_;kernel_rfl) ho).1 #[vl,.string key,win s e,.int .i64 v] (by simp[show a'.eval (.tmp 30)=_ from (hdep 5 (mem_of (by show _=_;kernel_rfl)) 30 (by show _=_;kernel_rfl)),show a'.eval (.tmp 31)=_ from (hdep 6 (mem_of (by show _=_;kernel_rfl)) 31 (by show _=_;kernel_rfl)),show a'.eval (.tmp 32)=_ from (hdep 7 (mem_of (by show _=_;kernel_rfl)) 32 (by show _=_;kernel_rfl)),show a'.eval (.tmp 33)=_ from (hdep 8 (mem_of (by show _=_;kernel_rfl)) 33 (by show _=_;kernel_rfl))]) (fun _ _=>enters Tryz.func171 (by kernel_rfl) rfl _ _) ((PUT.out vl b w' (hid (I0.out.next hB))).mono (fun _ _ ⟨v',h1,h2⟩=>⟨v',h1,h2⟩)) ?_
   rintro x w2 ⟨h1,h2⟩;exact hK _ _ (own_base h1 hB.size) h2
 ·intro f w' hv' hB hev
  have e28:f 3=.map (some m):=hv' 3 (by omega)
  have e29:f 4=.string key:=hv' 4 (by omega)
  have o5:Sl.Own Pn.k w0.heap.size w' (f 9) L':=hv' 9 (by omega)
  have h28:=(hev 3 (by omega) 28 (by show _=_;kernel_rfl)).trans e28
  have h29:=(hev 4 (by omega) 29 (by show _=_;kernel_rfl)).trans e29
  have h34:=hev 9 (by omega) 34 (by show _=_;kernel_rfl)
  clear hv' hev
  change wpList _ _ _ [_] _ _
  have H2:=hid (H0.out.next hB);have K2:=hid (after K0.out hB);have X2:=hid (X0.out.next hB);have O5:=hid o5;have IN:Hid (∀ i,Fp g m FT i→i<w.heap.size):=hid H.out.in;refine wpList_store rfl _ _ _ rfl (x:=key) (m:=m) (f 9) h28 h29 h34 H2.out.map hk (by omega) (updOf_ok _ _ _) ?_
  intro w1 M1 G1;have hcn:(if fm key=none then cnt+1 else cnt)≤cnt+1:=by split<;>omega
  generalize (if fm key=none then cnt+1 else cnt)=c1 at *
  have G1:=hid G1;have G4:=hid (grown_over (j:=w1.heap.size) K2.out G1.out (grown_refl _ _) (Nat.le_trans K2.out.size G1.out.size));obtain⟨b5,ob5,i5⟩:=O5.out.is
  have nf:∀ i,Fp g m FT i→b5≠i:=fun i hi e=>by
   have:=IN.out i hi;have:=K0.out.size;omega
  have nm:some gx≠some m:=fun e=>by
   have:=IN.out m (.inr (.inl rfl));have:=HG.out;have:=Option.some.inj e;omega
  have I6:=i5.keep (G1.out.block _ (is_lt i5 hL) (fun e=>nf m (.inr (.inl rfl)) (Option.some.inj e))) G1.out.size
  have Q4:=hid (H.out.mapped (Bk':=fun b=>Bk b∨b=b5) M1 G4.out (updOf_ok _ _ _) (fun b hb=>.inl hb) (.inr ⟨hL,_,b5,rfl,I6,nf _ (.inl rfl),nf _ (.inr (.inl rfl)),fun q=>nf _ (.inr (.inr q)) rfl,.inr rfl⟩))
  have B6:Hid (w.heap.size≤b5∧b5<w1.heap.size):=hid ⟨by have:=K0.out.size;omega,is_lt I6 hL⟩
  have X3:=hid (lies_grown X2.out G1.out nm);have V4:=hid (H.out.moves_map G4.out);clear nm nf I6 i5 ob5 M1 G1 G4 o5 O5 X2 H2 H0 I0 e28 e29;have c9:=Q4.out.lies.cell (i:=9) rfl;have s0:=X3.out.cell (i:=0) rfl;have s1:=X3.out.cell (i:=1) rfl
  change wpList _ _ _ [] (Act.put (Act.put (Act.put (Act.put (Act.put (Act.put (Act.put (Act.put (Act.put (Act.put (Act.put _ (some 25) (f 0)) (some 26) (f 1)) (some 27) (f 2)) (some 28) (f 3)) (some 29) (f 4)) (some 30) (f 5)) (some 31) (f 6)) (some 32) (f 7)) (some 33) (f 8)) (some 34) (f 9)) none _) _
  rw[Rel.puts_zero];rw[put_none];clear h28 h29 h34;go_upto_region 4 with fail
  go_still_tail 7,(by kernel_rfl)
  change wpList _ _ _ _ _ w1.drew
  have Q5:=hid (Q4.out.next (w':=w1.drew) (Below.refl _ _).drew);have V5:=hid (V4.out.trans (Moves.of_below (w':=w1.drew) (Below.refl _ _).drew Q4.out.in));clear Q4 V4 X3 c9 s0 s1;have hW1:w1.heap.size≤w1.drew.heap.size:=Nat.le_refl _;generalize w1.drew=W at *;go_wp2_with fail
  refine (Tmr.put_foot W ⟨key,s,e⟩ (hid Q5.out.ts) (hid ⟨hk,fs,fe⟩) hn).mono ?_
  rintro r w2 ⟨b',n',F',rfl,-,hn',T2,V2⟩;have G6:=hid (Q5.out.timed T2 V2);have V6:=hid (V5.out.trans (Q5.out.moves_ts V2));have hn6:n'≤n+1:=by rw[hn'];split<;>omega
  have hW2:=V2.size;clear T2 V2 hn' Q5 V5;dsimp only;go_wp2;exact bodyPost_ret (v:=.tuple #[]) (by simp[results,Tryz.results157,go_sem]) rfl ⟨rfl,n',_,_,F',_,G6.out,hn6,hcn,V6.out,fun b hb=>hb.imp id (fun e=>by rw[e];exact⟨B6.out.1,Nat.lt_of_lt_of_le B6.out.2 (Nat.le_trans hW1 hW2)⟩)⟩
end Grp
namespace Grp
open Small Foot Pane
def Left(M:Tmr.Tm→Prop)(key:ByteArray)(N:List (Int×Int))(i:Nat):Tmr.Tm→Prop:=fun y=>M y∧∀ j q,j<i→N[j]?=some q→y≠⟨key,q.1,q.2⟩
theorem left_next{M:Tmr.Tm→Prop}{key:ByteArray}{N:List (Int×Int)}{i:Nat}{q:Int×Int}(h:N[i]?=some q)(y:Tmr.Tm):(y≠⟨key,q.1,q.2⟩∧Left M key N i y)↔Left M key N (i+1) y:=by
 constructor
 ·rintro⟨h1,h2,h3⟩
  refine⟨h2,fun j r hj hr=>?_⟩
  by_cases e:j=i
  ·subst e;rw[h] at hr;obtain rfl:=Option.some.inj hr;exact h1
  ·exact h3 j r (by omega) hr
 ·rintro⟨h2,h3⟩
  exact⟨h3 i q (by omega) h,h2,fun j r hj hr=>h3 j r (by omega) hr⟩
theorem cell_block{w w':World}{a:Addr}(h:w'.heap[a.block]?=w.heap[a.block]?):w'.cell? a=w.cell? a:=by simp[World.cell?,h]
structure MSt(w2 wr:World)(g m tg:Nat)(cf:C8)(S:Lists)(M:Tmr.Tm→Prop)(n cnt:Nat)(fm:ByteArray→Option Value)(FT Bk:Nat→Prop)(n':Nat)(FT':Nat→Prop):Prop where
 q:Gq wr g m tg cf S M n' cnt fm FT' Bk
 le:n'≤n
 v:Moves FT FT' w2 wr
set_option maxRecDepth 100000 in
theorem put_merge{g m tg n cnt:Nat}{cf:C8}{S:Lists}{M:Tmr.Tm→Prop}{fm:ByteArray→Option Value}{FT Bk:Nat→Prop}(key:ByteArray)(s e v a z:Int)(L':List Pn)(N:List (Int×Int))(w:World)(H:Hid (Gq w g m tg cf S M n cnt fm FT Bk))(hk2:cf.k=2)
  (hk:key.size≤maxLen) (hc:cnt<1048576) (hn:n<1048576) (fs:(Lit.int .i64 a).wf=true) (fe:(Lit.int .i64 z).wf=true) (hL:L'≠[]) (hN:N.length≤9000) (fN:Hid (∀ (i:Nat) (q:Int×Int),N[i]?=some q→(Lit.int .i64 q.1).wf=true∧(Lit.int .i64 q.2).wf=true))
  (MRG:Hid (∀ (l:Value) (b:Nat) (w:World),Hid (Sl.Is Pn.k w l (S key) b)→Calls Tryz.prog 173 #[l,.string key,win s e,.int .i64 v] w fun r w'=>∃ v' vg,r=.returned (.tuple #[v',vg,win a z])∧Sl.Own Pn.k w.heap.size w' v' L'∧Sl.Own Wn.k w.heap.size w' vg N∧Below w.heap.size w w')):
  Calls Tryz.prog 157 #[gp g,.string key,win s e,.int .i64 v] w fun r w'=>r=.returned (.tuple #[])∧Grp.Goes w w' g m tg cf (S.set key L') (fun y=>y=⟨key,a,z⟩∨Left M key N N.length y) (n+1) (cnt+1) FT Bk:=by
 have K0:=hid (below1 w (Obj.cells #[.int .i64 s,.int .i64 e] 129))
 have X0:=Lies.new w 129 [.int .i64 s,.int .i64 e]
 have s0:=X0.cell (i:=0) rfl
 have s1:=X0.cell (i:=1) rfl
 obtain⟨vl,b,hv,iv⟩:=H.out.list key
 have I0:=hid (iv.next K0.out)
 have H0:=hid (H.out.next K0.out)
 have hl:=H0.out.map.look hk
 rw[hv] at hl
 have c0:=H0.out.lies.cell (i:=0) rfl
 have c8:=H0.out.lies.cell (i:=8) rfl
 have q1:(cf.k == 2)=true:=by simpa using hk2
 have q2:(cf.k != 2)=false:=by simpa using hk2
 have IN:Hid (∀ i,Fp g m FT i→i<w.heap.size):=hid H.out.in
 clear iv hv X0
 go_enter Tryz.func157,Tryz.ntmps157
 go_wp2_with fail
 refine (MRG.out vl b _ I0).mono ?_
 rintro r w1 ⟨v',vg,rfl,o1,o2,k1⟩
 have K2:=hid (after K0.out (after k1 (below1 w1 (Obj.cells #[.int .i64 a,.int .i64 z] 129))))
 have H2:=hid (H0.out.next (after k1 (below1 w1 (Obj.cells #[.int .i64 a,.int .i64 z] 129))))
 obtain⟨b5,hb5,i5⟩:=(o1.next (below1 w1 (Obj.cells #[.int .i64 a,.int .i64 z] 129))).is
 have I5:=hid i5
 obtain⟨bg,hbg,ig⟩:=(o2.next (below1 w1 (Obj.cells #[.int .i64 a,.int .i64 z] 129))).is
 obtain⟨GV,gc,rfl⟩:=ig.len
 have IG:=hid ig
 have N2:Hid (Lies (w1.alloc (Obj.cells #[.int .i64 a,.int .i64 z] 129)) w1.heap.size 129 [.int .i64 a,.int .i64 z]):=hid (Lies.new w1 129 [.int .i64 a,.int .i64 z])
 have hs:Hid (w.heap.size≤w1.heap.size∧w.heap.size≤b5∧w.heap.size≤bg):=hid (by have:=k1.size;have:=K0.out.size;omega)
 clear i5 ig o1 o2 k1 hb5 hbg hl c0 c8 s0 s1
 go_wp2_with fail
 obtain⟨gn,hgn⟩:∃ gn,gn=w1.heap.size:=⟨_,rfl⟩
 rw[←hgn] at N2 hs ⊢
 clear hgn
 generalize w1.alloc (Obj.cells #[.int .i64 a,.int .i64 z] 129)=w2 at *
 go_loopw [54] (fun si wr=>∃ (i n':Nat) (FT':Nat→Prop),i≤N.length∧si=.int .i64 i∧Hid (MSt w2 wr g m tg cf S (Left M key N i) n cnt fm FT Bk n' FT')) (fun si _=>N.length-(intOf si).toNat)
 case atStart=>exact⟨0,n,FT,by omega,rfl,hid ⟨⟨H2.out.lies,H2.out.map,H2.out.ts.congr (fun y=>⟨fun h=>⟨h,fun j q hj=>absurd hj (by omega)⟩,fun h=>h.1⟩),H2.out.ne,H2.out.ng,H2.out.nm,H2.out.lists⟩,Nat.le_refl _,Moves.refl H2.out.ts.in⟩⟩
 case round=>
  obtain⟨i,n',FT',hi,rfl,Q⟩:=hrel;have nbg:∀ j,w.heap.size≤j→¬FT j:=fun j hj q=>by have:=IN.out j (.inr (.inr q));omega
  by_cases hlt:i<N.length
  ·obtain⟨off,cap',he,h2,h3,h4,hcell⟩:=IG.out.some_ Wn.ok (by omega)
   obtain⟨rfl,rfl⟩:GV=some ⟨bg,off,none⟩∧gc=cap':=by simpa using he
   obtain⟨y,hy⟩:=Wn.at_some hlt;obtain⟨c1,c2⟩:=Wn.cells hy hcell;have sb:wr.heap[bg]?=w2.heap[bg]?:=Q.out.v.block bg h4 (nbg bg hs.out.2.2);have c1:=(cell_block (a:=⟨bg,_,none⟩) sb).trans c1;have c2:=(cell_block (a:=⟨bg,_,none⟩) sb).trans c2;have i0:(i:Int)<N.length:=by omega
   have Q1:=hid (Q.out.q.next (below1 wr (Obj.cells #[.int .i64 y.1,.int .i64 y.2] 129)));have Y1:Hid (Lies (wr.alloc (Obj.cells #[.int .i64 y.1,.int .i64 y.2] 129)) wr.heap.size 129 [.int .i64 y.1,.int .i64 y.2]):=hid (Lies.new wr 129 [.int .i64 y.1,.int .i64 y.2]);have V1:=hid (Q.out.v.trans (Moves.of_below (below1 wr (Obj.cells #[.int .i64 y.1,.int .i64 y.2] 129)) Q.out.q.ts.in));have le1:=Q.out.le;have HY:=hid hy;clear hcell he h2 h3 h4 sb hy Q;go_upto_region 9 with fail
   obtain⟨gy,hgy⟩:∃ gy,gy=wr.heap.size:=⟨_,rfl⟩;rw[←hgy] at Y1 ⊢;clear hgy c1 c2;generalize wr.alloc (Obj.cells #[.int .i64 y.1,.int .i64 y.2] 129)=w3 at *;have c9:=Q1.out.lies.cell (i:=9) rfl;have s0:=Y1.out.cell (i:=0) rfl;have s1:=Y1.out.cell (i:=1) rfl;go_still_tail 7,(by kernel_rfl)
   change wpList _ _ _ _ _ w3.drew
   have Q2:=hid (Q1.out.next (w':=w3.drew) (Below.refl _ _).drew);have V2:=hid (V1.out.trans (Moves.of_below (w':=w3.drew) (Below.refl _ _).drew Q1.out.ts.in));clear Q1 V1 Y1 c9 s0 s1;generalize w3.drew=w4 at *;go_wp2_with fail
   refine (Tmr.drop_foot w4 ⟨key,y.1,y.2⟩ (hid Q2.out.ts) (hid ⟨hk,(fN.out i y HY.out).1,(fN.out i y HY.out).2⟩)).mono ?_
   rintro r w5 ⟨b',n2,F2,rfl,-,hn2,T2,U2⟩;have Q3:=hid (Q2.out.timed (T2.congr (left_next HY.out)) U2);have V3:=hid (V2.out.trans U2)
   have le2:n2≤n:=by
    have:n2≤n':=by rw[hn2];split<;>omega
    omega
   clear T2 U2 hn2 Q2 V2;dsimp only;go_wp2_with fail
   exact⟨⟨i+1,n2,F2,by omega,by go_num,hid ⟨Q3.out,le2,V3.out⟩⟩,by simp[intOf];omega⟩
  ·obtain rfl:i=N.length:=by omega
   have Q1:=hid Q.out.q;have V1:=hid Q.out.v;have le1:=Q.out.le;clear Q;obtain⟨w5,hrun,M1,G1⟩:=Q1.out.map.store hk v' (by omega) (updOf_ok fm key (some v'))
   have hcn:(if fm key=none then cnt+1 else cnt)≤cnt+1:=by split<;>omega
   generalize (if fm key=none then cnt+1 else cnt)=cc at *
   have G1:=hid G1;have nf:∀ j,Fp g m FT j→b5≠j:=fun j hj e=>by have:=IN.out j hj;have:=hs.out;omega
   have h5:=is_lt I5.out hL
   have b5T:¬FT' b5:=fun q=>by
    rcases (V1.out.new b5 q).1 with r|r
    ·exact nbg b5 hs.out.2.1 r
    ·omega
   have I6:=(I5.out.keep (V1.out.block b5 h5 (nbg b5 hs.out.2.1)) V1.out.size).keep (G1.out.block _ (Nat.lt_of_lt_of_le h5 V1.out.size) (fun e=>nf m (.inr (.inl rfl)) (Option.some.inj e))) G1.out.size
   have Q2:=hid (Q1.out.mapped (Bk':=fun b=>Bk b∨b=b5) M1 G1.out (updOf_ok _ _ _) (fun b hb=>.inl hb) (.inr ⟨hL,_,b5,rfl,I6,nf _ (.inl rfl),nf _ (.inr (.inl rfl)),b5T,.inr rfl⟩))
   have B6:Hid (b5<w5.heap.size):=hid (is_lt I6 hL);have gnl:gn<w2.heap.size:=N2.out.lt;have N3:=hid (((G1.out.block _ (Nat.lt_of_lt_of_le gnl V1.out.size) (fun e=>by have:=IN.out m (.inr (.inl rfl));have:=hs.out;have:=Option.some.inj e;omega)).trans (V1.out.block gn gnl (nbg gn hs.out.1))).trans N2.out)
   have N3:Hid (Lies w5 gn 129 [.int .i64 a,.int .i64 z]):=N3;have V2:=hid (((Moves.of_below K2.out H.out.in).trans (H2.out.moves_ts V1.out)).trans (Q1.out.moves_map G1.out));have c8:=Q1.out.lies.cell (i:=8) rfl;clear I6 b5T h5 nf M1 G1 Q1 V1 gnl;go_upto_region 12 with fail
   have c9:=Q2.out.lies.cell (i:=9) rfl;have s0:=N3.out.cell (i:=0) rfl;have s1:=N3.out.cell (i:=1) rfl;clear hrun c8;go_still_tail 7,(by kernel_rfl)
   change wpList _ _ _ _ _ w5.drew
   have Q3:=hid (Q2.out.next (w':=w5.drew) (Below.refl _ _).drew);have V3:=hid (V2.out.trans (Moves.of_below (w':=w5.drew) (Below.refl _ _).drew Q2.out.in));clear Q2 V2 N3 c9 s0 s1;have hW1:w5.heap.size≤w5.drew.heap.size:=Nat.le_refl _;generalize w5.drew=w6 at *;go_wp2_with fail
   refine (Tmr.put_foot w6 ⟨key,a,z⟩ (hid Q3.out.ts) (hid ⟨hk,fs,fe⟩) (by omega)).mono ?_
   rintro r w7 ⟨b',n2,F2,rfl,-,hn2,T2,U2⟩;have Q4:=hid (Q3.out.timed T2 U2);have V4:=hid (V3.out.trans (Q3.out.moves_ts U2))
   have hn6:n2≤n+1:=by
    have:n2≤n'+1:=by rw[hn2];split<;>omega
    omega
   have hW2:=U2.size;clear T2 U2 hn2 Q3 V3;dsimp only;go_wp2;exact bodyPost_end (v:=.tuple #[]) (by simp[results,Tryz.results157,go_sem]) rfl ⟨rfl,n2,_,_,F2,_,Q4.out,hn6,hcn,V4.out,fun b hb=>hb.imp id (fun e=>by rw[e];exact⟨hs.out.2.1,Nat.lt_of_lt_of_le B6.out (Nat.le_trans hW1 hW2)⟩)⟩
end Grp
end Go.Proofs.YtfjlnniahfbdfaaGreat
