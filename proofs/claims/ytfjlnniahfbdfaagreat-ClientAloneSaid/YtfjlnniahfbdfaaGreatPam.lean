/- A part of the proof. -/
import Derived.Test.YtfjlnniahfbdfaaGreatPak
import Derived.Test.YtfjlnniahfbdfaaGreatPaf
set_option linter.unusedVariables false
set_option maxHeartbeats 4000000
namespace Go.Proofs.YtfjlnniahfbdfaaGreat
open Lib (hid)
open Go.ChangeShapes Go.WideShapes Go.ChangeAt Go.RowKit Small
namespace Pane
def Mk(B:Nat)(p:Pn)(i:Nat)(u:Value)(w:World):Prop:=match i with
 |0=>u=.string p.key
 |1=>u=win p.s p.e
 |2=>u=.int .i64 p.m
 |3=>u=Agg.agv p.c p.m p.l p.u
 |4=>u=p.v
 |5=>∃ g,u=.pointer (some ⟨g,0,none⟩)∧Lies w g 133 zp.cl∧B≤g
 |_=>True
theorem Mk.mono(B:Nat)(p:Pn):∀ i u w w',Mk B p i u w→Below w.heap.size w w'→Mk B p i u w'
 |0,u,w,w',h,k=>h
 |1,u,w,w',h,k=>h
 |2,u,w,w',h,k=>h
 |3,u,w,w',h,k=>h
 |4,u,w,w',h,k=>h
 |5,u,w,w',⟨g,h1,h2,h3⟩,k=>⟨g,h1,h2.next k,h3⟩
 |i+6,u,w,w',h,k=>trivial
def Mn(B:Nat)(v0:Value)(key:ByteArray)(s e v:Int)(N:List Pn)(i:Nat)(u:Value)(w:World):Prop:=match i with
 |0=>u=v0
 |1=>u=.string key
 |2=>u=win s e
 |3=>u=.int .i64 v
 |4=>Sl.Own Pn.k B w u N
 |5=>u=win s e
 |6=>Sl.Own Pn.k B w u N
 |7=>u=.slice none 0 0
 |_=>True
theorem Mn.mono(B:Nat)(v0:Value)(key:ByteArray)(s e v:Int)(N:List Pn):∀ i u w w',Mn B v0 key s e v N i u w→Below w.heap.size w w'→Mn B v0 key s e v N i u w'
 |0,u,w,w',h,k=>h
 |1,u,w,w',h,k=>h
 |2,u,w,w',h,k=>h
 |3,u,w,w',h,k=>h
 |4,u,w,w',h,k=>Sl.Own.next (K:=Pn.k) h k
 |5,u,w,w',h,k=>h
 |6,u,w,w',h,k=>Sl.Own.next (K:=Pn.k) h k
 |7,u,w,w',h,k=>h
 |i+8,u,w,w',h,k=>trivial
def My(B B0:Nat)(vr vg:Value)(g1:Nat)(k:Nat)(x:Pn)(N:List Pn)(i:Nat)(u:Value)(w:World):Prop:=match i with
 |0=>u=vr
 |1=>u=.int .i64 k
 |2=>u=x.v
 |3=>∃ g,u=.slice (some ⟨g,0,none⟩) 1 1∧Lies w g 133 x.cl∧vr.ownBlock≠some g
 |4=>Sl.Own Pn.k B w u N∧(u.ownBlock=vr.ownBlock∨∃ g,u.ownBlock=some g∧B0≤g)
 |5=>u=vg
 |6=>u=.pointer (some ⟨g1,1,none⟩)
 |7=>u=win x.s x.e
 |8=>Sl.Own Pn.k B w u N∧(u.ownBlock=vr.ownBlock∨∃ g,u.ownBlock=some g∧B0≤g)
 |9=>u=vg
 |_=>True
def Sx(row:Option Nat)(j:Nat)(a b:World):Prop:=if j=4 then a.grownBy b row else Below a.heap.size a b
theorem Sx.of{row:Option Nat}{j:Nat}{a b:World}(h:j≠4)(k:Below a.heap.size a b):Sx row j a b:=by unfold Sx;rw[if_neg h];exact k
theorem Sx.four{row:Option Nat}{a b:World}(k:a.grownBy b row):Sx row 4 a b:=by unfold Sx;rw[if_pos rfl];exact k
theorem Sx.below{row:Option Nat}{j:Nat}{a b:World}(h:j≠4)(k:Sx row j a b):Below a.heap.size a b:=by unfold Sx at k;rwa [if_neg h] at k
theorem Sx.grown{row:Option Nat}{j:Nat}{a b:World}(k:Sx row j a b):a.grownBy b row:=by
 by_cases h:j=4
 ·subst h;unfold Sx at k;rwa [if_pos rfl] at k
 ·exact Goes.grown_below _ (k.below h)
def Tx(row:Option Nat)(k:Nat)(a b:World):Prop:=if k=4 then Below a.heap.size a b else a.grownBy b row
theorem Tx.goes(row:Option Nat)(k:Nat):Goes (Tx row k):=by
 unfold Tx
 by_cases h:k=4
 ·simp only[if_pos h];exact Goes.below
 ·simp only[if_neg h];exact Goes.grown row
theorem Tx.of{row:Option Nat}{k j:Nat}{a b:World}(h:j≠k)(s:Sx row j a b):Tx row k a b:=by
 unfold Tx
 by_cases e:k=4
 ·rw[if_pos e];exact s.below (by omega)
 ·rw[if_neg e];exact s.grown
set_option maxRecDepth 100000 in
theorem merge_ok(l:Value)(L:List Pn)(b k:Nat)(key:ByteArray)(s e v:Int)(x0:Pn)(w:World)(H:Hid (Sl.Is Pn.k w l L b))(hn:L.length≤9000)(X0:Hid (x0=joined s e (one key s e v) L))(A:Hid (At (restOf s e L) x0.s x0.e k))
  (hne:Hid (metOf s e L=[]→∀ y,L[k]?=some y→¬Eq2 y s e)):
  Calls Tryz.prog 173 #[l,.string key,win s e,.int .i64 v] w fun r w'=>∃ v' vg,r=.returned (.tuple #[v',vg,win x0.s x0.e])∧Sl.Own Pn.k w.heap.size w' v' ((restOf s e L).take k++x0::(restOf s e L).drop k)∧Sl.Own Wn.k w.heap.size w' vg (wo (wins (metOf s e L)) (x0.s,x0.e))∧Below w.heap.size w w':=by
 obtain⟨AD,cap,hl⟩:=H.out.len
 subst hl
 have K0:=hid (below2 w (Obj.cells #[.int .i64 s,.int .i64 e] 129) (Obj.cells #[.int .i64 0,.int .i64 0] 129))
 have S0:=hid ((Lies.new w 129 [.int .i64 s,.int .i64 e]).next (below1 _ (Obj.cells #[.int .i64 0,.int .i64 0] 129)))
 have R0:=Lies.new (w.alloc (Obj.cells #[.int .i64 s,.int .i64 e] 129)) 129 [.int .i64 0,.int .i64 0]
 rw[World.size_alloc] at R0
 have R0:=hid R0
 go_enter Tryz.func173,Tryz.ntmps173
 go_wp2_with fail
 change Hid (Below w.heap.size w ((w.alloc (Obj.cells #[.int .i64 s,.int .i64 e] 129)).alloc (Obj.cells #[.int .i64 0,.int .i64 0] 129))) at K0
 generalize (w.alloc (Obj.cells #[.int .i64 s,.int .i64 e] 129)).alloc (Obj.cells #[.int .i64 0,.int .i64 0] 129)=w0 at *
 have hz:Hid (w.heap.size+2≤w0.heap.size):=hid (by have:=R0.out.lt;omega)
 refine wp_region_goes Goes.below 6 84 (Mk w0.heap.size (one key s e v)) (by show _=_;kernel_rfl) (by show _=_;kernel_rfl) (by show _=_;kernel_rfl) (Mk.mono w0.heap.size (one key s e v)) ?_ ?_
 ·intro i hi o ho a' w' Kc hd hout hdep hB hK
  match i,hi,ho with
  |0,_,ho=>exact Sl.wp_move _ (Reg.Has.op (p:=Op.move (.tmp 1)) (t:=19) (by show _=_;kernel_rfl) ho).1 (hK _ _ (hout 1 (Reg.Free.out (by show _=_;kernel_rfl))) (Below.refl _ _))
  |1,_,ho=>
   refine wp_val (V:=win s e) (w':=w') ?_ (hK _ _ rfl (Below.refl _ _))
   have hop:=(Reg.Has.op (p:=Op.load 129 (.tmp 6)) (t:=20) (by show _=_;kernel_rfl) ho).1
   have h6:a'.eval (.tmp 6)=.pointer (some ⟨w.heap.size,0,none⟩):=(hout 6 (Reg.Free.out (by show _=_;kernel_rfl)))
   have c0:=cell_keep hB (S0.out.cell (i:=0) rfl);have c1:=cell_keep hB (S0.out.cell (i:=1) rfl);generalize a'.eval=ev at h6;simp[execOp,hop,h6,go_sem,c0,c1]
  |2,_,ho=>exact Sl.wp_move _ (Reg.Has.op (p:=Op.move (.tmp 3)) (t:=21) (by show _=_;kernel_rfl) ho).1 (hK _ _ (hout 3 (Reg.Free.out (by show _=_;kernel_rfl))) (Below.refl _ _))
  |3,_,ho=>
   refine wp_call (S:=fun x w2=>x=Agg.agv 1 v v v∧Below w'.heap.size w' w2) (Reg.Has.op (p:=Op.call {callee:=Callee.value (.func 188),args:=#[.tmp 21],argTypes:=#[2]}) (t:=22) (by show _=_;kernel_rfl) ho).1 #[.int .i64 v] (by simp[show a'.eval (.tmp 21)=_ from (hdep 2 (mem_of (by show _=_;kernel_rfl)) 21 (by show _=_;kernel_rfl))]) (fun _ _=>enters Tryz.func188 (by kernel_rfl) rfl _ _) ((Agg.of_ok v w').mono (fun e w2 ⟨h1,h2⟩=>⟨_,h1,rfl,h2⟩)) ?_
   rintro x w2 ⟨rfl,h2⟩;exact hK _ _ rfl h2
  |4,_,ho=>
   refine wp_val (V:=(one key s e v).v) (w':=w') ?_ (hK _ _ rfl (Below.refl _ _))
   have hop:=(Reg.Has.op (p:=Op.build 133 #[(0,.tmp 19),(1,.tmp 20),(2,.tmp 22)]) (t:=23) (by show _=_;kernel_rfl) ho).1
   have h2:a'.eval (.tmp 19)=.string key:=(hdep 0 (mem_of (by show _=_;kernel_rfl)) 19 (by show _=_;kernel_rfl))
   have h3:a'.eval (.tmp 20)=win s e:=(hdep 1 (mem_of (by show _=_;kernel_rfl)) 20 (by show _=_;kernel_rfl))
   have h5:a'.eval (.tmp 22)=Agg.agv 1 v v v:=(hdep 3 (mem_of (by show _=_;kernel_rfl)) 22 (by show _=_;kernel_rfl))
   generalize a'.eval=ev at h2 h3 h5;simp[execOp,hop,h2,h3,h5,go_sem]
  |5,_,ho=>
   refine wp_val (V:=.pointer (some ⟨w'.heap.size,0,none⟩)) (w':=w'.alloc (.cells zp.cl.toArray 133)) ?_ (hK _ _ ⟨_,rfl,Lies.new _ _ _,hB.size⟩ (below1 _ _))
   have hop:=(Reg.Has.op (p:=Op.alloc 133) (t:=11) (by show _=_;kernel_rfl) ho).1
   simp[execOp,hop,go_sem]
 ·intro f w' hv hB hev
  have e4:f 4=(one key s e v).v:=hv 4 (by omega)
  obtain⟨g1,e5,z5,hg⟩:=hv 5 (by omega)
  change wpList _ _ _ [_] (Act.put (Act.put (Act.put (Act.put (Act.put (Act.put _ (some 19) (f 0)) (some 20) (f 1)) (some 21) (f 2)) (some 22) (f 3)) (some 23) (f 4)) (some 11) (f 5)) _
  rw[Rel.puts_zero];clear hv hev;rw[e4,e5];obtain⟨⟨z0,z1,z2,z3,z4,z5',z6⟩,y0,y1,y2,y3,y4,y5,y6⟩:=seven z5;have O1:=put7_lies z5 (.string key) (.int .i64 s) (.int .i64 e) (.int .i64 1) (.int .i64 v) (.int .i64 v) (.int .i64 v)
  have M1:MS w w.heap.size g1 (w.heap.size+1) s e zp (.slice none 0 0) (.slice none 0 0) [] [] w':=
   ⟨after K0.out hB,Nat.le_refl _,by have:=hz.out;omega,by omega,by have:=hz.out;omega,by have:=hz.out;omega,by omega,S0.out.next hB,R0.out.next hB,z5,Sl.Own.nil _ _ _,Sl.Own.nil _ _ _,fun a ha=>(by cases ha),fun a ha=>(by cases ha)⟩
  have M2:=M1.oned (x':=one key s e v) O1 (grown_cells _ (grown_cells _ (grown_cells _ (grown_cells _ (grown_cells _ (grown_cells _ (grown_cells _ (grown_refl _ _))))))));go_wp2_with fail
  change Code.wp _ _ _ _ (put7 w' g1 (.string key) (.int .i64 s) (.int .i64 e) (.int .i64 1) (.int .i64 v) (.int .i64 v) (.int .i64 v))
  obtain⟨W,hW⟩:∃ W,W=put7 w' g1 (.string key) (.int .i64 s) (.int .i64 e) (.int .i64 1) (.int .i64 v) (.int .i64 v) (.int .i64 v):=⟨_,rfl⟩;rw[←hW] at M2 ⊢;have M2:=hid M2;clear hW O1 M1 z0 z1 z2 z3 z4 z5' z6 y0 y1 y2 y3 y4 y5 y6 z5 e4 e5 hB;have HL:=hid (H.out.next K0.out);generalize f 0=f0 at *;generalize f 1=f1 at *;generalize f 2=f2 at *;generalize f 3=f3 at *;go_loopw [12,13,26] (fun sr sm si wr=>∃ (i:Nat) (x:Pn),i≤L.length∧si=.int .i64 i∧Hid (x=joined s e (one key s e v) (L.take i))∧Hid (MS w w.heap.size g1 (w.heap.size+1) s e x sr sm (restOf s e (L.take i)) (wins (metOf s e (L.take i))) wr)) (fun _ _ si _=>L.length-(intOf si).toNat)
  case atStart=>exact⟨0,one key s e v,by omega,rfl,hid rfl,M2⟩
  case round=>
   obtain⟨i,x,hi,rfl,X,MI⟩:=hrel;by_cases hlt:i<L.length
   ·obtain⟨off,cap',he,h2,h3,h4,hcell⟩:=H.out.some_ Pn.ok (by omega)
    obtain⟨rfl,rfl⟩:AD=some ⟨b,off,none⟩∧cap=cap':=by simpa using he
    obtain⟨p,hp⟩:=at_some hlt;have K:=hid MI.out.below;obtain⟨c0,c1,c2,c3,c4,c5,c6⟩:=Tmr.pane_cells hp hcell;have c0:=cell_keep K.out c0;have c1:=cell_keep K.out c1;have c2:=cell_keep K.out c2;have c3:=cell_keep K.out c3;have c4:=cell_keep K.out c4;have c5:=cell_keep K.out c5;have c6:=cell_keep K.out c6;have s0:=(MI.out.sp.next (below1 _ (Obj.cells p.cl.toArray 133))).cell (i:=0) rfl;have s1:=(MI.out.sp.next (below1 _ (Obj.cells p.cl.toArray 133))).cell (i:=1) rfl;have HP:=hid hp;have i0:(i:Int)<L.length:=by omega
    clear hcell he h2 h3 h4 hp;go_wp2_with fail
    refine (Spn.meet_ok p.s p.e s e _).mono ?_
    rintro r w2 ⟨rfl,k2⟩;have P2:=hid ((Lies.new _ 133 p.cl).next k2);have I2:=hid (MI.out.next (after (below1 _ _) k2));clear k2 s0 s1 c0 c1 c2 c3 c4 c5 c6;obtain⟨mt,hmt⟩:∃ mt,mt=decide (max p.s s<min p.e e):=⟨_,rfl⟩;rw[←hmt];have HM:Hid (meets s e p=mt):=hid hmt.symm;clear hmt;cases mt
    ·obtain⟨⟨q0,q1,q2,q3,q4,q5,q6⟩,-⟩:=seven P2.out
     obtain⟨t1,t2⟩:=rest_no HP.out HM.out;have T1:=hid t1;have T2:=hid t2;clear t1 t2;have hfl:Hid ((restOf s e (L.take i)).length≤L.length):=hid (filter_le (fun p=>!meets s e p) L i)
     have hw:=hid I2.out.below.size;go_wp2_with (at_builtin;refine wpList_plain rfl fun K' hK'=>Sl.wp_append (K:=Pn.k) Pn.ok (.tmp 35) (.tmp 37) rfl (base:=w.heap.size) (l:=restOf s e (L.take i)) (l2:=[p]) (by exact I2.out.rest.next (below1 _ _)) (by exact Sl.Is.one Pn.ok (x:=p) (Lies.new _ _ _)) (by have:=hfl.out;simp only[List.length_singleton];omega) (by have:=hw.out;simp;omega) (fun v' w3 x1 x2 x3=>hK' _ _ ?_))
     have I3:=hid ((I2.out.next (below1 _ _)).rested x1 x2 x3);clear x1 x2 x3;go_wp2_with fail
     exact⟨⟨i+1,x,by omega,by go_num,hid (by show x=List.foldl _ _ (metOf s e _);rw[T2.out];exact X.out),hid (by rw[T1.out,T2.out];exact I3.out)⟩,by simp[intOf];omega⟩
    ·obtain⟨t1,t2⟩:=rest_yes HP.out HM.out
     have T1:=hid t1;have T2:=hid t2;clear t1 t2;have hfl:Hid ((wins (metOf s e (L.take i))).length≤L.length):=hid (by rw[List.length_map];exact filter_le (meets s e) L i)
     have hw:=hid I2.out.below.size;have J:=hid fun w:World=>Spn.join_ok x.s x.e p.s p.e w
     have G:=hid fun w:World=>Agg.merge_ok (ag x) (ag p) w
     have XJ:Hid (join2 x p=mk x.key (min x.s p.s) (max x.e p.e) (Agg.mrg (ag x) (ag p))):=hid rfl;generalize min x.s p.s=ns at *;generalize max x.e p.e=ne at *;generalize Agg.mrg (ag x) (ag p)=z at *;have hpg:Hid (g1<wr.heap.size):=hid MI.out.one.lt;have np1:¬g1=wr.heap.size:=by have:=hpg.out;omega
     have np2:¬wr.heap.size=g1:=by have:=hpg.out;omega
     obtain⟨⟨q0,q1,q2,q3,q4,q5,q6⟩,-⟩:=seven P2.out;obtain⟨⟨o0,o1,o2,o3,o4,o5,o6⟩,-⟩:=seven I2.out.one;go_wp2_with fail
     refine (J.out _).mono ?_
     rintro r w3 ⟨rfl,k3⟩;have P3:=hid (P2.out.next k3);have I3:=hid (I2.out.next k3);clear k3 q0 q1 q2 q3 q4 q5 q6 o0 o1 o2 o3 o4 o5 o6;obtain⟨⟨q0,q1,q2,q3,q4,q5,q6⟩,-⟩:=seven P3.out;obtain⟨⟨o0,o1,o2,o3,o4,o5,o6⟩,z0,z1,z2,z3,z4,z5,z6⟩:=seven I3.out.one
     have I4:Hid (MS w w.heap.size g1 (w.heap.size+1) s e ⟨x.key,ns,ne,x.c,x.m,x.l,x.u⟩ _ _ (restOf s e (L.take i)) (wins (metOf s e (L.take i))) ((w3.setCell ⟨g1,1,none⟩ (.int .i64 ns)).setCell ⟨g1,2,none⟩ (.int .i64 ne))):=
      hid (I3.out.oned (x':=⟨x.key,ns,ne,x.c,x.m,x.l,x.u⟩) ((I3.out.one.put 1 (.int .i64 ns)).put 2 (.int .i64 ne)) (grown_cells _ (grown_cells _ (grown_refl _ _))))
     have P4:Hid (Lies ((w3.setCell ⟨g1,1,none⟩ (.int .i64 ns)).setCell ⟨g1,2,none⟩ (.int .i64 ne)) wr.heap.size 133 p.cl):=hid ((P3.out.far np2 _).far np2 _);go_wp2_with fail
     refine (G.out _).mono ?_
     rintro r w4 ⟨rfl,k4⟩;have P5:=hid (P4.out.next k4);have I5:=hid (I4.out.next k4);clear k4 q0 q1 q2 q3 q4 q5 q6 o0 o1 o2 o3 o4 o5 o6 z0 z1 z2 z3 z4 z5 z6;obtain⟨⟨q0,q1,q2,q3,q4,q5,q6⟩,-⟩:=seven P5.out;obtain⟨⟨o0,o1,o2,o3,o4,o5,o6⟩,z0,z1,z2,z3,z4,z5,z6⟩:=seven I5.out.one
     have I6:Hid (MS w w.heap.size g1 (w.heap.size+1) s e ⟨x.key,ns,ne,z.c,z.s,z.l,z.u⟩ _ _ (restOf s e (L.take i)) (wins (metOf s e (L.take i))) ((((w4.setCell ⟨g1,3,none⟩ (.int .i64 z.c)).setCell ⟨g1,4,none⟩ (.int .i64 z.s)).setCell ⟨g1,5,none⟩ (.int .i64 z.l)).setCell ⟨g1,6,none⟩ (.int .i64 z.u))):=
      hid (I5.out.oned (x':=⟨x.key,ns,ne,z.c,z.s,z.l,z.u⟩) ((((I5.out.one.put 3 (.int .i64 z.c)).put 4 (.int .i64 z.s)).put 5 (.int .i64 z.l)).put 6 (.int .i64 z.u)) (grown_cells _ (grown_cells _ (grown_cells _ (grown_cells _ (grown_refl _ _))))))
     have hw6:=hid I6.out.below.size;have sz6:((((w4.setCell ⟨g1,3,none⟩ (.int .i64 z.c)).setCell ⟨g1,4,none⟩ (.int .i64 z.s)).setCell ⟨g1,5,none⟩ (.int .i64 z.l)).setCell ⟨g1,6,none⟩ (.int .i64 z.u)).heap.size=w4.heap.size:=by simp
     have l7:=Lies.new ((((w4.setCell ⟨g1,3,none⟩ (.int .i64 z.c)).setCell ⟨g1,4,none⟩ (.int .i64 z.s)).setCell ⟨g1,5,none⟩ (.int .i64 z.l)).setCell ⟨g1,6,none⟩ (.int .i64 z.u)) 129 [.int .i64 p.s,.int .i64 p.e];rw[sz6] at l7;have L7:=hid l7;clear sz6 l7;go_wp2_with (at_builtin;refine wpList_plain rfl fun K' hK'=>Sl.wp_append (K:=Wn.k) Wn.ok (.tmp 51) (.tmp 54) rfl (base:=w.heap.size) (l:=wins (metOf s e (L.take i))) (l2:=[(p.s,p.e)]) (by exact I6.out.met.next (below1 _ _)) (by exact Sl.Is.one Wn.ok (x:=(p.s,p.e)) L7.out) (by have:=hfl.out;simp only[List.length_singleton];omega) (by have:=hw6.out;simp at this ⊢;omega) (fun v' w7 x1 x2 x3=>hK' _ _ ?_))
     have I7:=hid ((I6.out.next (below1 _ _)).metted x1 x2 x3);clear x1 x2 x3;go_wp2_with fail
     have q7:wins (metOf s e (L.take i)++[p])=wins (metOf s e (L.take i))++[(p.s,p.e)]:=by simp[wins]
     exact⟨⟨i+1,⟨x.key,ns,ne,z.c,z.s,z.l,z.u⟩,by omega,by go_num,hid (by show _=List.foldl _ _ (metOf s e _);rw[T2.out,List.foldl_append];show _=join2 (joined s e (one key s e v) (L.take i)) p;rw[←X.out];exact XJ.out.symm),hid (by rw[T1.out,T2.out,q7];exact I7.out)⟩,by simp[intOf];omega⟩
   ·obtain rfl:i=L.length:=by omega
    rw[List.take_length] at X MI;obtain rfl:x=x0:=by rw[X0.out];exact X.out
    have hRn:Hid ((restOf s e L).length≤9000):=hid (Nat.le_trans (List.length_filter_le _ _) hn);have hsz:Hid (w.heap.size+1<wr.heap.size):=hid MI.out.res.lt;obtain⟨bm,-,hm⟩:=MI.out.met.is;obtain⟨AM,cm,hsm⟩:=hm.len;clear hm;obtain⟨nm,hnm⟩:∃ nm,nm=(wins (metOf s e L)).length:=⟨_,rfl⟩;rw[←hnm] at hsm;subst hsm;by_cases hM:metOf s e L=[]
    ·have hM:=hid hM
     obtain rfl:nm=0:=by rw[hnm,hM.out];rfl
     clear hnm
     have hR:Hid (restOf s e L=L):=hid (List.filter_eq_self.2 fun p hp=>by
      have:=hM.out;rw[metOf,List.filter_eq_nil_iff] at this;have:=this p hp
      simpa using this)
     have hx:Hid (x=one key s e v):=hid (by rw[X.out,joined,hM.out];rfl)
     have A0:Hid (At L s e k):=hid (by have:=A.out;rw[hR.out,hx.out] at this;exact this)
     go_wp2_with fail
     refine wp_region_goes Goes.below 8 84 (Mn wr.heap.size (.slice AD L.length cap) key s e v (L.take k++one key s e v::L.drop k)) (by show _=_;kernel_rfl) (by show _=_;kernel_rfl) (by show _=_;kernel_rfl) (Mn.mono wr.heap.size (.slice AD L.length cap) key s e v (L.take k++one key s e v::L.drop k)) ?_ ?_
     ·intro i hi o ho a' w' Kc hd hout hdep hB hK
      match i,hi,ho with
      |0,_,ho=>exact Sl.wp_move _ (Reg.Has.op (p:=Op.move (.tmp 0)) (t:=60) (by show _=_;kernel_rfl) ho).1 (hK _ _ (hout 0 (Reg.Free.out (by show _=_;kernel_rfl))) (Below.refl _ _))
      |1,_,ho=>exact Sl.wp_move _ (Reg.Has.op (p:=Op.move (.tmp 1)) (t:=61) (by show _=_;kernel_rfl) ho).1 (hK _ _ (hout 1 (Reg.Free.out (by show _=_;kernel_rfl))) (Below.refl _ _))
      |2,_,ho=>
       refine wp_val (V:=win s e) (w':=w') ?_ (hK _ _ rfl (Below.refl _ _))
       have hop:=(Reg.Has.op (p:=Op.load 129 (.tmp 6)) (t:=62) (by show _=_;kernel_rfl) ho).1
       have h6:a'.eval (.tmp 6)=.pointer (some ⟨w.heap.size,0,none⟩):=(hout 6 (Reg.Free.out (by show _=_;kernel_rfl)))
       have c0:=cell_keep hB (MI.out.sp.cell (i:=0) rfl);have c1:=cell_keep hB (MI.out.sp.cell (i:=1) rfl);generalize a'.eval=ev at h6;simp[execOp,hop,h6,go_sem,c0,c1]
      |3,_,ho=>exact Sl.wp_move _ (Reg.Has.op (p:=Op.move (.tmp 3)) (t:=63) (by show _=_;kernel_rfl) ho).1 (hK _ _ (hout 3 (Reg.Free.out (by show _=_;kernel_rfl))) (Below.refl _ _))
      |4,_,ho=>
       refine wp_call (S:=fun x w2=>Sl.Own Pn.k w'.heap.size w2 x _∧Below w'.heap.size w' w2) (Reg.Has.op (p:=Op.call {callee:=Callee.value (.func 171),args:=#[.tmp 60,.tmp 61,.tmp 62,.tmp 63],argTypes:=#[41,9,129,2]}) (t:=64) (by show _=_;kernel_rfl) ho).1 #[.slice AD L.length cap,.string key,win s e,.int .i64 v] (by simp[show a'.eval (.tmp 60)=_ from (hdep 0 (mem_of (by show _=_;kernel_rfl)) 60 (by show _=_;kernel_rfl)),show a'.eval (.tmp 61)=_ from (hdep 1 (mem_of (by show _=_;kernel_rfl)) 61 (by show _=_;kernel_rfl)),show a'.eval (.tmp 62)=_ from (hdep 2 (mem_of (by show _=_;kernel_rfl)) 62 (by show _=_;kernel_rfl)),show a'.eval (.tmp 63)=_ from (hdep 3 (mem_of (by show _=_;kernel_rfl)) 63 (by show _=_;kernel_rfl))]) (fun _ _=>enters Tryz.func171 (by kernel_rfl) rfl _ _) ((put_no _ L b k key s e v w' (hid (H.out.next (after MI.out.below hB))) hn A0 (hid (hne.out hM.out))).mono (fun _ _ ⟨v',h1,h2⟩=>⟨v',h1,h2⟩)) ?_
       rintro x w2 ⟨h1,h2⟩;exact hK _ _ (own_base h1 hB.size) h2
      |5,_,ho=>
       refine wp_val (V:=win s e) (w':=w') ?_ (hK _ _ rfl (Below.refl _ _))
       have hop:=(Reg.Has.op (p:=Op.load 129 (.tmp 6)) (t:=65) (by show _=_;kernel_rfl) ho).1
       have h6:a'.eval (.tmp 6)=.pointer (some ⟨w.heap.size,0,none⟩):=(hout 6 (Reg.Free.out (by show _=_;kernel_rfl)))
       have c0:=cell_keep hB (MI.out.sp.cell (i:=0) rfl);have c1:=cell_keep hB (MI.out.sp.cell (i:=1) rfl);generalize a'.eval=ev at h6;simp[execOp,hop,h6,go_sem,c0,c1]
      |6,_,ho=>exact wp_assign _ (Reg.Has.op (p:=Op.assign (.tmp 64)) (t:=8) (by show _=_;kernel_rfl) ho).1 (hK _ _ (hdep 4 (mem_of (by show _=_;kernel_rfl)) 64 (by show _=_;kernel_rfl)) (Below.refl _ _))
      |7,_,ho=>exact wp_assign _ (Reg.Has.op (p:=Op.assign (.const (.slice none 0 0))) (t:=9) (by show _=_;kernel_rfl) ho).1 (hK _ _ rfl (Below.refl _ _))
     ·intro f w' hv hB hev
      have e5:f 5=win s e:=hv 5 (by omega)
      have e6:Sl.Own Pn.k wr.heap.size w' (f 6) (L.take k++one key s e v::L.drop k):=hv 6 (by omega)
      have e7:f 7=.slice none 0 0:=hv 7 (by omega)
      change wpList _ _ _ [_] (Act.put (Act.put (Act.put (Act.put (Act.put (Act.put (Act.put (Act.put _ (some 60) (f 0)) (some 61) (f 1)) (some 62) (f 2)) (some 63) (f 3)) (some 64) (f 4)) (some 65) (f 5)) (some 8) (f 6)) (some 9) (f 7)) _
      rw[Rel.puts_zero];clear hv hev;rw[e5,e7];have z:=MI.out.res.next hB;have c0:=z.cell (i:=0) rfl;have c1:=z.cell (i:=1) rfl;have q0:=z.open_ 0;have q1:=z.open_ 1;have O:=hid e6;have K2:=hid (after MI.out.below hB);have Z:=hid z;clear e5 e6 e7 hB z;go_wp2;obtain⟨W,hW⟩:∃ W,W=(w'.setCell ⟨w.heap.size+1,0,none⟩ (.int .i64 s)).setCell ⟨w.heap.size+1,1,none⟩ (.int .i64 e):=⟨_,rfl⟩;have Z2:=(Z.out.put 0 (.int .i64 s)).put 1 (.int .i64 e);have K3:=(K2.out.setCell (show w.heap.size≤(⟨w.heap.size+1,0,none⟩:Addr).block by simp) (.int .i64 s)).setCell (show w.heap.size≤(⟨w.heap.size+1,1,none⟩:Addr).block by simp) (.int .i64 e)
      have O3:Sl.Own Pn.k wr.heap.size W (f 6) (L.take k++one key s e v::L.drop k):=by
       rw[hW];refine O.out.move fun a ha=>?_
       have hne2:a≠w.heap.size+1:=by have:=(O.out.lt a ha).1;have:=hsz.out;omega
       rw[Below.heap_setCell _ _ _ _ hne2,Below.heap_setCell _ _ _ _ hne2]
      rw[←hW] at Z2 K3 ⊢;clear hW;have d0:=Z2.cell (i:=0) rfl;have d1:=Z2.cell (i:=1) rfl;refine bodyPost_ret (v:=.tuple #[f 6,.slice none 0 0,win s e]) (by simp[results,Tryz.results173,go_sem,d0,d1]) rfl ⟨f 6,.slice none 0 0,by rw[hx.out],?_,?_,K3⟩
      ·rw[hR.out,hx.out];exact own_base O3 (by have:=hsz.out;omega)
      ·rw[hM.out];exact Sl.Own.nil _ _ _
    ·have h1:0<(wins (metOf s e L)).length:=by
      cases hq:metOf s e L with
      |nil=>exact absurd hq hM
      |cons p q=>simp[wins]
     have hMn:Hid ((wins (metOf s e L)).length≤9000):=hid (by rw[List.length_map];exact Nat.le_trans (List.length_filter_le _ _) hn)
     have hb:((nm:Int) == 0)=false:=by rw[beq_eq_false_iff_ne];omega
     clear hM h1 hnm;have I1:=hid MI.out;obtain⟨⟨o0,o1,o2,o3,o4,o5,o6⟩,-⟩:=seven I1.out.one;obtain⟨br,-,hr⟩:=I1.out.rest.is;have HR:=hid hr
     obtain⟨fd,hfd⟩:∃ fd:Bool,fd=true↔∃ y,(restOf s e L)[k]?=some y∧Eq2 y x.s x.e:=by
      by_cases q:∃ y,(restOf s e L)[k]?=some y∧Eq2 y x.s x.e
      ·exact⟨true,by simp[q]⟩
      ·exact⟨false,by simp[q]⟩
     have FD:=hid hfd;clear hr hfd;go_wp2_with fail
     refine (place_ok _ (restOf s e L) br k x.s x.e fd _ HR hRn.out A FD).mono ?_
     rintro r w2 ⟨rfl,k2⟩;have I2:=hid (I1.out.next k2);clear k2 o0 o1 o2 o3 o4 o5 o6;go_wp2_with fail
     refine (delete_ok _ (wins (metOf s e L)) w.heap.size g1 x.s x.e _ (hid I2.out.met) hMn.out (hid ⟨I2.out.one.cell (i:=1) rfl,I2.out.one.cell (i:=2) rfl⟩) (fun a ha=>(I2.out.nm a ha).2.1.symm)).mono ?_
     rintro r w3 ⟨vg,rfl,x1,x2,x3⟩;have I3:=hid (I2.out.metted x1 x2 (.inl x3));have hsz3:Hid (w.heap.size+1<w3.heap.size):=hid I3.out.res.lt;clear x1 x2 x3;generalize hvr:u12=vr at *;go_wp2_with fail
     refine wp_region_each (R:=fun a b=>a.grownBy b vr.ownBlock) (Goes.grown _) (S:=Sx vr.ownBlock) (T:=Tx vr.ownBlock) (fun k=>Tx.goes _ k) (fun j a b h=>h.grown) (fun k j a b h q=>Tx.of h q) 10 84
      (My w.heap.size w3.heap.size vr vg g1 k x ((restOf s e L).take k++x::(restOf s e L).drop k)) (by show _=_;kernel_rfl) (by show _=_;kernel_rfl) (by show _=_;kernel_rfl) ?_ ?_ ?_
     ·intro i j u a b hji hnd h hS
      match i,h with
      |0,h=>exact h
      |1,h=>exact h
      |2,h=>exact h
      |3,⟨g,q1,q2,q3⟩=>exact⟨g,q1,lies_grown q2 hS.grown q3.symm,q3⟩
      |4,h=>exact⟨h.1.next (hS.below hji),h.2⟩
      |5,h=>exact h
      |6,h=>exact h
      |7,h=>exact h
      |8,h=>exact⟨h.1.next (hS.below (fun q=>hnd (by subst q;exact mem_of (by show _=_;kernel_rfl)))),h.2⟩
      |9,h=>exact h
      |i+10,h=>exact trivial
     ·intro i hi o ho a' w' Kc hd hout hdep hB hK
      match i,hi,ho with
      |0,_,ho=>exact Sl.wp_move _ (Reg.Has.op (p:=Op.move (.tmp 12)) (t:=76) (by show _=_;kernel_rfl) ho).1 (hK _ _ (hout 12 (Reg.Free.out (by show _=_;kernel_rfl))) (Sx.of (by decide) (Below.refl _ _)))
      |1,_,ho=>exact Sl.wp_move _ (Reg.Has.op (p:=Op.move (.tmp 16)) (t:=77) (by show _=_;kernel_rfl) ho).1 (hK _ _ (hout 16 (Reg.Free.out (by show _=_;kernel_rfl))) (Sx.of (by decide) (Below.refl _ _)))
      |2,_,ho=>exact Pn.val.load x _ _ _ _ _ _ g1 0 (Reg.Has.op (p:=Op.load 133 (.tmp 11)) (t:=78) (by show _=_;kernel_rfl) ho).1 (hout 11 (Reg.Free.out (by show _=_;kernel_rfl))) (fun j u hj=>by rw[Nat.zero_add];exact (lies_grown I3.out.one hB (fun q=>(I3.out.nr _ q.symm).2.1 rfl)).cell hj) (hK _ _ rfl (Sx.of (by decide) (Below.refl _ _)))
      |3,_,ho=>exact Sl.wp_lit1 (K:=Pn.k) (.tmp 78) x (Reg.Has.op (p:=Op.buildSlice 41 1 #[(0,.tmp 78)]) (t:=79) (by show _=_;kernel_rfl) ho).1 (hdep 2 (mem_of (by show _=_;kernel_rfl)) 78 (by show _=_;kernel_rfl)) (Pn.lit1 _ _) (hK _ _ ⟨_,rfl,Lies.new _ _ _,fun q=>by have:=(I3.out.rest.lt _ q).2;have:=hB.size;omega⟩ (Sx.of (by decide) (below1 _ _)))
      |4,_,ho=>
       obtain⟨g,q1,q2,q3⟩:=(hdep 3 (mem_of (by show _=_;kernel_rfl)) 79 (by show _=_;kernel_rfl))
       have hB:Below w3.heap.size w3 w':=hB;refine wp_call (S:=fun u w2=>Sl.Own Pn.k w.heap.size w2 u _∧w'.grownBy w2 vr.ownBlock∧(u.ownBlock=vr.ownBlock∨u.ownBlock=some w'.heap.size)) (Reg.Has.op (p:=Op.call {callee:=Callee.value (.func 187),args:=#[.tmp 76,.tmp 77,.tmp 79],argTypes:=#[41,3,41]}) (t:=80) (by show _=_;kernel_rfl) ho).1 #[vr,.int .i64 k,.slice (some ⟨g,0,none⟩) 1 1] (by simp[show a'.eval (.tmp 76)=_ from (hdep 0 (mem_of (by show _=_;kernel_rfl)) 76 (by show _=_;kernel_rfl)),show a'.eval (.tmp 77)=_ from (hdep 1 (mem_of (by show _=_;kernel_rfl)) 77 (by show _=_;kernel_rfl)),show a'.eval (.tmp 79)=_ from q1]) (fun _ _=>enters Tryz.func187 (by kernel_rfl) rfl _ _) ((insert_ok w.heap.size k g vr _ x w' (hid (I3.out.rest.next hB)) (Nat.le_trans I3.out.below.size hB.size) A.out.le hRn.out (hid q2) (fun b hb e=>q3 (by rw[hb,e]))).mono (fun _ _ ⟨v',h1,h2,h3,h4⟩=>⟨v',h1,h2,h3,h4⟩)) ?_
       rintro u w2 ⟨h1,h2,h3⟩;exact hK _ _ ⟨h1,by rcases h3 with h3|h3;exact .inl h3;exact .inr ⟨_,h3,hB.size⟩⟩ (Sx.four h2)
      |5,_,ho=>exact Sl.wp_move _ (Reg.Has.op (p:=Op.move (.tmp 18)) (t:=81) (by show _=_;kernel_rfl) ho).1 (hK _ _ (hout 18 (Reg.Free.out (by show _=_;kernel_rfl))) (Sx.of (by decide) (Below.refl _ _)))
      |6,_,ho=>
       refine wp_val (V:=.pointer (some ⟨g1,1,none⟩)) (w':=w') ?_ (hK _ _ rfl (Sx.of (by decide) (Below.refl _ _)))
       have hop:=(Reg.Has.op (p:=Op.fieldAddr 133 (.tmp 11) 1) (t:=82) (by show _=_;kernel_rfl) ho).1
       have h6:a'.eval (.tmp 11)=.pointer (some ⟨g1,0,none⟩):=(hout 11 (Reg.Free.out (by show _=_;kernel_rfl)))
       generalize a'.eval=ev at h6;simp[execOp,hop,h6,go_sem]
      |7,_,ho=>
       refine wp_val (V:=win x.s x.e) (w':=w') ?_ (hK _ _ rfl (Sx.of (by decide) (Below.refl _ _)))
       have hop:=(Reg.Has.op (p:=Op.load 129 (.tmp 82)) (t:=83) (by show _=_;kernel_rfl) ho).1
       have h6:a'.eval (.tmp 82)=.pointer (some ⟨g1,1,none⟩):=(hdep 6 (mem_of (by show _=_;kernel_rfl)) 82 (by show _=_;kernel_rfl))
       have hz:=lies_grown I3.out.one hB (fun q=>(I3.out.nr _ q.symm).2.1 rfl)
       have c0:=hz.cell (i:=1) rfl;have c1:=hz.cell (i:=2) rfl;generalize a'.eval=ev at h6;simp[execOp,hop,h6,go_sem,c0,c1]
      |8,_,ho=>exact wp_assign _ (Reg.Has.op (p:=Op.assign (.tmp 80)) (t:=8) (by show _=_;kernel_rfl) ho).1 (hK _ _ (hdep 4 (mem_of (by show _=_;kernel_rfl)) 80 (by show _=_;kernel_rfl)) (Sx.of (by decide) (Below.refl _ _)))
      |9,_,ho=>exact wp_assign _ (Reg.Has.op (p:=Op.assign (.tmp 81)) (t:=9) (by show _=_;kernel_rfl) ho).1 (hK _ _ (hdep 5 (mem_of (by show _=_;kernel_rfl)) 81 (by show _=_;kernel_rfl)) (Sx.of (by decide) (Below.refl _ _)))
     ·intro f w' hv hB hev
      have e7:f 7=win x.s x.e:=hv 7 (by omega)
      obtain⟨e8,e8'⟩:Sl.Own Pn.k w.heap.size w' (f 8) ((restOf s e L).take k++x::(restOf s e L).drop k)∧((f 8).ownBlock=vr.ownBlock∨∃ g,(f 8).ownBlock=some g∧w3.heap.size≤g):=hv 8 (by omega)
      have e9:f 9=vg:=hv 9 (by omega)
      change wpList _ _ _ [_] (Act.put (Act.put (Act.put (Act.put (Act.put (Act.put (Act.put (Act.put (Act.put (Act.put _ (some 76) (f 0)) (some 77) (f 1)) (some 78) (f 2)) (some 79) (f 3)) (some 80) (f 4)) (some 81) (f 5)) (some 82) (f 6)) (some 83) (f 7)) (some 8) (f 8)) (some 9) (f 9)) _
      rw[Rel.puts_zero];clear hv hev;rw[e7,e9];have nrow:∀ a:Nat,(∀ q,vr.ownBlock=some q→q≠a)→some a≠vr.ownBlock:=fun a h q=>h a q.symm rfl
      have z:=lies_grown I3.out.res hB (nrow _ fun q hq=>(I3.out.nr q hq).2.2.1)
      have c0:=z.cell (i:=0) rfl;have c1:=z.cell (i:=1) rfl;have q0:=z.open_ 0;have q1:=z.open_ 1;have O:=hid e8
      have OB:Hid (∀ a,(f 8).ownBlock=some a→a≠w.heap.size+1):=hid fun a ha=>by
       rcases e8' with q|⟨g,q,hg⟩
       ·exact (I3.out.nr a (q▸ha)).2.2.1
       ·rw[q] at ha
        obtain rfl:=Option.some.inj ha;have:=hsz3.out;omega
      have K2:=hid (I3.out.below.grown hB I3.out.below.size (fun a ha=>(I3.out.rest.lt a ha).1))
      have G2:=hid (I3.out.met.move (w':=w') fun a ha=>hB.block a (I3.out.met.lt a ha).2 (fun q=>(I3.out.nr a q.symm).2.2.2 ha))
      have Z:=hid z;clear e7 e8 e9 e8' hB z nrow;go_wp2;obtain⟨W,hW⟩:∃ W,W=(w'.setCell ⟨w.heap.size+1,0,none⟩ (.int .i64 x.s)).setCell ⟨w.heap.size+1,1,none⟩ (.int .i64 x.e):=⟨_,rfl⟩;have Z2:=(Z.out.put 0 (.int .i64 x.s)).put 1 (.int .i64 x.e);have K3:=(K2.out.setCell (show w.heap.size≤(⟨w.heap.size+1,0,none⟩:Addr).block by simp) (.int .i64 x.s)).setCell (show w.heap.size≤(⟨w.heap.size+1,1,none⟩:Addr).block by simp) (.int .i64 x.e)
      have O3:Sl.Own Pn.k w.heap.size W (f 8) ((restOf s e L).take k++x::(restOf s e L).drop k):=by
       rw[hW];refine O.out.move fun a ha=>?_
       have hne2:=OB.out a ha;rw[Below.heap_setCell _ _ _ _ hne2,Below.heap_setCell _ _ _ _ hne2]
      have G3:Sl.Own Wn.k w.heap.size W vg (wo (wins (metOf s e L)) (x.s,x.e)):=by
       rw[hW];refine G2.out.move fun a ha=>?_
       have hne2:=(I3.out.nm a ha).2.2;rw[Below.heap_setCell _ _ _ _ hne2,Below.heap_setCell _ _ _ _ hne2]
      rw[←hW] at Z2 K3 ⊢;clear hW;have d0:=Z2.cell (i:=0) rfl;have d1:=Z2.cell (i:=1) rfl;exact bodyPost_ret (v:=.tuple #[f 8,vg,win x.s x.e]) (by simp[results,Tryz.results173,go_sem,d0,d1]) rfl ⟨f 8,vg,rfl,O3,G3,K3⟩
end Pane
end Go.Proofs.YtfjlnniahfbdfaaGreat
