/- A part of the proof. -/
import Derived.Test.YtfjlnniahfbdfaaGreatPbf
set_option linter.unusedVariables false
set_option maxHeartbeats 4000000
namespace Go.Proofs.YtfjlnniahfbdfaaGreat
open Lib (hid)
open Go.ChangeShapes Go.WideShapes Go.ChangeAt Go.RowKit
set_option maxRecDepth 100000
namespace Cn
open Small Foot Fm Ca
def St.ended(s:St)(y:Rp):St:={s.dropped with rs:=s.rs++[y],g:=g0}
section
variable {w0 w w':World} {E:Ev} {s s':St} {R R':Nat→Nat→Prop}
theorem build_prog(w:World):(Instr.build 106 #[]).run Tryz.prog w=.ok (.agg #[.bool false,.int .i64 0,.int .i64 0,.slice none 0 0,.pointer none,.int .i64 0,.int .i64 0,.pointer none]) w:=by kernel_rfl
theorem wp_build_prog{o:Oper}{a:Act}{K:Act→World→Prop}{Qq:Exit→Act→World→Prop}(ho:o.op=.build 106 #[])(hK:K (a.put o.dst (.agg #[.bool false,.int .i64 0,.int .i64 0,.slice none 0 0,.pointer none,.int .i64 0,.int .i64 0,.pointer none])) w):o.wp Tryz.prog a w K Qq:=by
 unfold Oper.wp execOp
 simp only[ho,List.map_toArray,List.map_nil,Sem.run_bind,Sem.run_pure,Result.andThen_ok,build_prog]
 exact hK
theorem alloc1(w:World)(T1:TypeId)(c1:List Value):∃ W,w.alloc (.cells c1.toArray T1)=W∧Lies W w.heap.size T1 c1∧Below w.heap.size w W:=⟨_,rfl,Lies.new _ _ _,below1 _ _⟩
theorem alloc2(w:World)(T1 T2:TypeId)(c1 c2:List Value):∃ W,(w.alloc (.cells c1.toArray T1)).alloc (.cells c2.toArray T2)=W∧Lies W w.heap.size T1 c1∧Lies W (w.heap.size+1) T2 c2∧Below w.heap.size w W:=
 ⟨_,rfl,(Lies.new w T1 c1).next (below1 _ _),by have:=Lies.new (w.alloc (.cells c1.toArray T1)) T2 c2;simp only[World.size_alloc] at this;exact this,below2 _ _ _⟩
theorem alloc3(w:World)(T1 T2 T3:TypeId)(c1 c2 c3:List Value):∃ W,((w.alloc (.cells c1.toArray T1)).alloc (.cells c2.toArray T2)).alloc (.cells c3.toArray T3)=W∧Lies W w.heap.size T1 c1∧Lies W (w.heap.size+1) T2 c2∧Lies W (w.heap.size+1+1) T3 c3∧Below w.heap.size w W:=by
 obtain⟨W,rfl,l1,l2,k⟩:=alloc2 w T1 T2 c1 c2
 refine⟨_,rfl,l1.next (below1 _ _),l2.next (below1 _ _),?_,below3 _ _ _ _⟩
 have:=Lies.new ((w.alloc (.cells c1.toArray T1)).alloc (.cells c2.toArray T2)) T3 c3
 simp only[World.size_alloc] at this
 exact this
theorem alloc4(w:World)(T1 T2 T3 T4:TypeId)(c1 c2 c3 c4:List Value):∃ W,(((w.alloc (.cells c1.toArray T1)).alloc (.cells c2.toArray T2)).alloc (.cells c3.toArray T3)).alloc (.cells c4.toArray T4)=W∧Lies W w.heap.size T1 c1∧Lies W (w.heap.size+1) T2 c2∧Lies W (w.heap.size+1+1) T3 c3∧Lies W (w.heap.size+1+1+1) T4 c4∧Below w.heap.size w W:=by
 obtain⟨W,rfl,l1,l2,l3,k⟩:=alloc3 w T1 T2 T3 c1 c2 c3
 refine⟨_,rfl,l1.next (below1 _ _),l2.next (below1 _ _),l3.next (below1 _ _),?_,after k (below1 _ _)⟩
 have:=Lies.new (((w.alloc (.cells c1.toArray T1)).alloc (.cells c2.toArray T2)).alloc (.cells c3.toArray T3)) T4 c4
 simp only[World.size_alloc] at this
 exact this
theorem step_append_at{α:Type}{K:Kind α}(O:K.Ok){ops:Array Oper}{o:Oper}{a:Act}{w:World}{Kc:Act→World→Prop}{Qq:Exit→Act→World→Prop}{El:Prop}{l l2:List α}{base b2:Nat}(hgd:o.guard=none)(s x:Operand)(hop:o.op=Op.call {callee:=Callee.builtin Builtin.append,args:=#[s,x],argTypes:=#[K.t,K.t]})
  (vs vx:Value) (hs:a.eval s=vs) (hxx:a.eval x=vx) (h:Sl.Own K base w vs l) (hx:Sl.Is K w vx l2 b2) (hn:l.length+l2.length≤1048576) (hb:base≤w.heap.size) {g j:Nat} {T:TypeId} {cs:List Value} {u:Value} (hl:Lies w g T cs) (hj:cs[j]?=some u) (hg:vs.ownBlock≠some g)
  (hK:∀ A m c w',Hid (m=(l++l2).length)→w'.cell? ⟨g,j,none⟩=some u→w'.frozen? ⟨g,j,none⟩=false→Sl.Own K base w' (.slice A m c) (l++l2)→w.grownBy w' vs.ownBlock→((Value.slice A m c).ownBlock=vs.ownBlock∨(Value.slice A m c).ownBlock=some w.heap.size)→Kc (a.put o.dst (.slice A m c)) w'):
  if Region.wanted o (yielded ops a.tmps)=true then Oper.wp Tryz.prog o a w Kc Qq else El:=by
 have hw:Region.wanted o (yielded ops a.tmps)=true:=by simp[Region.wanted,hgd]
 rw[if_pos hw]
 subst hs hxx
 obtain⟨v',w',hr,q1,q2,q3⟩:=Sl.run_append O o.type h hx hn hb
 obtain⟨A,c,rfl⟩:∃ A c,v'=.slice A (l++l2).length c:=by obtain⟨b,_,h⟩:=q1.is;exact h.len
 have lw:Lies w' g T cs:=(q2.block g hl.lt fun e=>hg e.symm).trans hl
 unfold Oper.wp
 simp[execOp,hop,resolve,invoke,builtin,hr,Result.andThen]
 have:=hK A _ c w' (hid rfl) (lw.cell hj) (lw.open_ j) q1 q2 q3
 rw[List.length_append] at this
 exact this
theorem grown_set(w:World)(g j:Nat)(v:Value):w.grownBy (w.setCell ⟨g,j,none⟩ v) (some g):=⟨rfl,rfl,rfl,by simp,fun i hi hn=>Below.heap_setCell w ⟨g,j,none⟩ v i fun e=>hn (by rw[e])⟩
theorem grown_trans{r:Option Nat}{w1 w2 w3:World}(h:w1.grownBy w2 r)(k:w2.grownBy w3 r):w1.grownBy w3 r:=
 ⟨k.os.trans h.os,k.tape.trans h.tape,k.output.trans h.output,Nat.le_trans h.size k.size,fun i hi hn=>(k.block i (Nat.lt_of_lt_of_le hi h.size) hn).trans (h.block i hi hn)⟩
theorem Nw.move{w2:World}{g:Nat}{r:Rp}(h:Nw w R' w' r)(k:w'.grownBy w2 (some g))(hg:∀ a,r.pv.ownBlock=some a→a≠g):Nw w R' w2 r:=⟨h.1.move fun a ha=>k.block a (h.1.lt a ha).2 fun e=>hg a ha (Option.some.inj e),h.2⟩
theorem Q.over{x:Nat}{num:Int}{cv rv:Value}{cs:List Cl}{rs:List Rp}{g g':Pg}(h:Q w x num cv cs rv rs g)(l:Lies w' x 108 (ccl num cv rv g'))(k:w.grownBy w' (some x)):Q w' x num cv cs rv rs g'∧Moves (CF x cv rv) (CF x cv rv) w w':=by
 refine⟨⟨l,h.calls.move fun a ha=>k.block a (h.calls.lt a ha).2 fun e=>h.n1 (Option.some.inj e▸ha),h.reps.move fun a ha=>k.block a (h.reps.lt a ha).2 fun e=>h.n2 (Option.some.inj e▸ha),h.n1,h.n2,h.n3⟩,k.os,k.tape,k.output,k.size,fun i hi hn=>k.block i hi fun e=>hn (.inl (Option.some.inj e)),fun i hi=>⟨.inl hi,Nat.lt_of_lt_of_le (h.in i hi) k.size⟩⟩
theorem end_ok(t:Td)(y:Rp)(H:Hid (CM w0 E s R w))(hh:Hid (Held E s))(Y:Hid (VB w0 R w y.pv y.P))(hn:y.P.length≤9000)(hr:s.rs.length≤1000):
  Calls Tryz.prog 87 #[gp E.x,t.v,y.v] w fun r w'=>∃ z R',r=.returned (Td.v ⟨true,t.bg,t.pt,true,z⟩)∧z.code=y.code∧z.P=y.P∧Nw w R' w' z∧CM w0 E (s.ended y) R' w'∧On TT R w R' w':=by
 obtain⟨W,hW,t0,y0,z0,k0⟩:=alloc3 w 51 43 51 t.cl y.cl [.bool false,.bool false,.bool false,.bool false,.int .i64 0,.slice none 0 0]
 obtain⟨g,hg⟩:∃ g,w.heap.size=g:=⟨_,rfl⟩
 have T0:=hid (Bo.new H.out.fam t0 (Nat.le_refl _))
 have Y0:=hid (Bo.new H.out.fam y0 (by omega))
 have Z0:=hid (Bo.new H.out.fam z0 (by omega))
 have F0:=hid H.out.fam
 have H0:=hid (H.out.next k0)
 have O0:Hid (On TT R w R W):=hid (On.below H.out.fam k0)
 have OLD:=hid H.out.old
 have LO:Hid (w0.heap.size≤w.heap.size):=hid H.out.fam.below.size
 have HG:=hid hg
 rw[hg] at T0 Y0 Z0
 go_enter Tryz.func87,Tryz.ntmps87
 go_upto_region 1 with fail
 clear hg hW t0 y0 z0 k0 H
 go_wp2_with fail
 refine (drop_any H0 hh).mono ?_
 rintro r w1 ⟨rfl,R1,c1,o1⟩
 have T1:=hid (T0.out.on o1)
 have Y1:=hid (Y0.out.on o1)
 have Z1:=hid (Z0.out.on o1)
 have O1:=hid (O0.out.trans o1)
 have V1:=hid (Y.out.on O1.out)
 obtain⟨cv,rv,q1,hr1⟩:=c1.client
 rw[dropped_rs] at q1
 obtain⟨cA,cC,rA,rC,rfl,rfl⟩:=q1.lits
 have Q1:=hid q1
 have HR1:=hid hr1
 have C1:=hid c1
 clear T0 Y0 Z0 H0 O0 o1 c1 q1 hr1
 dsimp only
 go_upto_region 3 with (first
  |(refine wpList_plain rfl fun K' hK'=>wp_build_prog rfl (hK' _ _ ?_))
  |(refine wpList_plain rfl fun K' hK'=>Wh.wp_store (off:=3) Tryz.sizeOf106 _ _ rfl rfl rfl Q1.out.lies (by simp) rfl (by intro v hv;simp only[List.mem_cons,List.not_mem_nil,or_false] at hv;rcases hv with rfl|rfl|rfl|rfl|rfl|rfl|rfl|rfl<;>rfl) (ccl E.num (.slice cA E.cs.length cC) (.slice rA s.rs.length rC) g0) rfl (fun w2 z1 z2=>hK' _ _ ?_))
  |fail)
 obtain⟨q2,m2⟩:=Q1.out.over z1 z2
 rw[←HR1.out] at m2
 have m2':Moves (R1 18) (CF E.x (.slice cA E.cs.length cC) (.slice rA s.rs.length rC)) w1 w2:=by rw[HR1.out] at m2 ⊢;exact m2
 obtain⟨R2,c2,o2⟩:=C1.out.on18 q2 m2' (fun r hr=>.inl (by rw[dropped_rs];exact hr)) (.inr VB.nil) (.inl rfl)
 have T2:=hid (T1.out.on o2)
 have Y2:=hid (Y1.out.on o2)
 have Z2':=hid (Z1.out.on o2)
 have V2:=hid (V1.out.on o2)
 have O2:=hid (O1.out.trans o2)
 have C2:=hid c2
 obtain⟨cv2,rv2,q2',hr2⟩:=c2.client
 clear T1 Y1 Z1 V1 O1 C1 Q1 HR1 m2 m2' o2 c2 z1 z2 q2
 obtain⟨cA2,cC2,rA2,rC2,rfl,rfl⟩:=q2'.lits
 have Q2:=hid q2'
 have HR2:=hid hr2
 clear q2' hr2
 dsimp only at Q2
 simp only[Act.put]
 have Q3:=hid (Q2.out.next (below1 w2 (Obj.cells y.cl.toArray 43)))
 have X3:Hid (Lies (w2.alloc (Obj.cells y.cl.toArray 43)) w2.heap.size 43 y.cl):=hid (Lies.new _ _ _)
 have c2a:=Q2.out.lies.cell (i:=2) rfl
 have c2b:=Q3.out.lies.cell (i:=2) rfl
 dsimp only[Rp.cl,List.toArray] at c2b
 have y0:=Y2.out.lies.cell (i:=0) rfl
 have y1:=Y2.out.lies.cell (i:=1) rfl
 have HLn:Hid (s.rs.length+1≤1048576):=hid (by omega)
 go_region_law (refine step_append_at rok rfl (.tmp 17) (.tmp 19) rfl (.slice rA2 s.rs.length rC2) (.slice (some ⟨w2.heap.size,0,none⟩) 1 1) (by simp[Act.eval]) (by simp[Act.eval]) (base:=0) (l:=s.rs) (l2:=[y]) (b2:=w2.heap.size) (by exact (Q3.out.next (Below.refl _ _).drew).reps) (by exact Sl.Is.one rok (x:=y) X3.out) (by have:=HLn.out;simp;omega) (Nat.zero_le _) (g:=E.x) (j:=2) (by exact (Q3.out.next (Below.refl _ _).drew).lies) rfl (by exact Q3.out.n2) ?_;intro A m c w3 hm y1 y2 z1 z2 z3;have HM:=hid hm;have Z1:=hid z1;have Z2:=hid z2;have Z3:=hid z3;clear z1 z2 z3)
 all_goals
  have Q4:=hid ((Q3.out.next (Below.refl _ _).drew).rep Z2.out Z1.out Z3.out);have M4:Hid (Moves (R2 18) (CF E.x (.slice cA2 E.cs.length cC2) (.slice A m c)) w2 (w3.setCell ⟨E.x,2,none⟩ (.slice A m c))):=hid (by rw[HR2.out];exact (Moves.of_below (below1 _ _).drew Q2.out.in).trans Q4.out.2)
  obtain⟨R4,c4,o4⟩:=C2.out.on18 (g':=g0) Q4.out.1 M4.out (fun r hr=>by
   rcases List.mem_append.1 hr with h|h
   ·exact .inl h
   ·rw[List.mem_singleton] at h;subst h;exact .inr V2.out) (.inl rfl) (.inr rfl)
  have C4:Hid (CM w0 E (s.ended y) R4 (w3.setCell ⟨E.x,2,none⟩ (.slice A m c))):=hid c4;have T4:=hid (T2.out.on o4);have Y4:=hid (Y2.out.on o4);have Z4:=hid (Z2'.out.on o4);have V4:=hid (V2.out.on o4);have O4:=hid (O2.out.trans o4)
  have OL:Hid (Old w.heap.size (s.ended y)):=hid ⟨fun r hr a ha=>by
   rcases List.mem_append.1 (show r∈s.rs++[y] from hr) with h|h
   ·exact OLD.out.1 r h a ha
   ·rw[List.mem_singleton] at h;subst h;exact (Y.out.1.lt a ha).2,fun a ha=>by cases ha⟩
  clear c2a c2b y0 y1 Q2 HR2 Q3 X3 Q4 M4 Z1 Z2 Z3 c4 o4 C2 T2 Y2 Z2' V2 O2 HM;generalize w3.setCell ⟨E.x,2,none⟩ (.slice A m c)=w4 at C4 T4 Y4 Z4 V4 O4 ⊢;have y0:=Y4.out.lies.cell (i:=0) rfl;have y1:=Y4.out.lies.cell (i:=1) rfl;go_wp2_with fail
  refine (apart_ok y w4 (hid (.inl V4.out.is)) hn).mono ?_
  rintro r w5 ⟨z,rfl,e1,e2,z5,k5⟩;have T5:=hid (T4.out.next k5);have Z5:=hid (Z4.out.next k5);have C5:=hid (C4.out.next k5);have O5:=hid (O4.out.trans (On.below C4.out.fam k5));have NZ:=hid (And.intro e1 (And.intro e2 (show Nw w R4 w5 z from ⟨own_base z5 O4.out.size,fun a ha i q=>by have:=(z5.lt a ha).1;have:=C4.out.fam.in_ i a q;omega⟩)))
  have NX:Hid (∀ a,z.pv.ownBlock=some a→w4.heap.size≤a):=hid fun a ha=>(z5.lt a ha).1
  have L4:Hid (g<w4.heap.size∧g+1+1<w4.heap.size):=hid ⟨T4.out.lies.lt,Z4.out.lies.lt⟩;have t0:=T5.out.lies.cell (i:=0) rfl;have t3:=T5.out.lies.cell (i:=3) rfl;have f0:=T5.out.lies.open_ 0;have f3:=T5.out.lies.open_ 3;clear y0 y1 e1 e2 z5 k5 T4 Y4 Z4 V4 C4 O4;dsimp only
  go_upto_region 5 with (first
   |(refine wpList_plain rfl fun K' hK'=>Wh.wp_store (off:=4) Tryz.sizeOf43 _ _ rfl rfl rfl ((T5.out.lies.put 0 (.bool true)).put 3 (.bool true)) (by simp) rfl (rok.one z) (Td.cl ⟨true,t.bg,t.pt,true,z⟩) rfl (fun w6 z1 z2=>hK' _ _ ?_))
   |fail)
  have g6:w5.grownBy w6 (some g):=grown_trans (grown_trans (grown_set w5 g 0 (.bool true)) (grown_set _ g 3 (.bool true))) z2;have C6:=hid (C5.out.aside g6 T5.out.out (by have:=LO.out;have:=HG.out;omega) OL.out (by have:=HG.out;omega))
  have Z6:=hid (Z5.out.far g6 (by omega))
  have L6:=hid z1;have N6:=hid (And.intro NZ.out.1 (And.intro NZ.out.2.1 (NZ.out.2.2.move g6 fun a ha=>by have:=NX.out a ha;have:=L4.out;omega)))
  have O6:=hid (Cn.On.aside F0.out O5.out g6 (by have:=HG.out;omega))
  clear t0 t3 f0 f3 z1 z2 g6 T5 Z5 C5 O5 NZ;simp only[Act.put]
  go_wp2_with (first
   |(refine wpList_plain rfl fun K' hK'=>ld_told (t:=⟨true,t.bg,t.pt,true,z⟩) _ rfl rfl L6.out (hK' _ _ ?_))
   |(refine wpList_plain rfl fun K' hK'=>st_told (t':=⟨true,t.bg,t.pt,true,z⟩) _ _ rfl rfl rfl Z6.out.lies rfl (fun w7 z1 z2=>hK' _ _ ?_))
   |fail)
  refine bodyPost_ret (told_told (t:=⟨true,t.bg,t.pt,true,z⟩) rfl rfl z1) rfl ⟨z,R4,rfl,N6.out.1,N6.out.2.1,N6.out.2.2.move z2 fun a ha=>by have:=NX.out a ha;have:=HG.out;have:=L4.out;omega,C6.out.aside z2 Z6.out.out (by have:=LO.out;have:=HG.out;omega) OL.out (by have:=HG.out;omega),Cn.On.aside F0.out O6.out z2 (by have:=HG.out;omega)⟩
end
end Cn
namespace Cn
open Small Foot Fm Ca
abbrev rc(code:Int):Rp:=⟨code,none,0,0,[]⟩
abbrev t0:Td:=⟨false,false,false,false,r0⟩
section
variable {w0 w w':World} {E:Ev} {s s':St} {R R':Nat→Nat→Prop}
theorem old_ended{n:Nat}{y:Rp}(h:Old n s)(k:∀ a,y.pv.ownBlock=some a→a<n):Old n (s.ended y):=
 ⟨fun r hr a ha=>by
  rcases List.mem_append.1 (show r∈s.rs++[y] from hr) with q|q
  ·exact h.1 r q a ha
  ·rw[List.mem_singleton] at q;subst q;exact k a ha,fun a ha=>by cases ha⟩
def Went(w0:World)(E:Ev)(R:Nat→Nat→Prop)(w:World)(s s':St)(t':Td)(r:Ending)(w':World):Prop:=
 ∃ z R',r=.returned (Td.v ⟨t'.mv,t'.bg,t'.pt,t'.dn,z⟩)∧z.code=t'.r.code∧z.P=t'.r.P∧Nw w R' w' z∧CM w0 E s' R' w'∧On TT R w R' w'∧∀ n,Old n s→Old n s'
theorem refuse_ok(t:Td)(code:Int)(H:Hid (CM w0 E s R w))(hh:Hid (Held E s))(hr:s.rs.length≤1000):
  Calls Tryz.prog 50 #[gp E.x,t.v,.int .i64 code] w (Went w0 E R w s (s.ended (rc code)) ⟨true,t.bg,true,true,rc code⟩):=by
 obtain⟨W,hW,t0,z0,k0⟩:=alloc2 w 51 51 t.cl [.bool false,.bool false,.bool false,.bool false,.int .i64 0,.slice none 0 0]
 obtain⟨g,hg⟩:∃ g,w.heap.size=g:=⟨_,rfl⟩
 have T0:=hid (Bo.new H.out.fam t0 (Nat.le_refl _))
 have Z0:=hid (Bo.new H.out.fam z0 (by omega))
 have F0:=hid H.out.fam
 have H0:=hid (H.out.next k0)
 have O0:Hid (On TT R w R W):=hid (On.below H.out.fam k0)
 have OLD:=hid H.out.old
 have LO:Hid (w0.heap.size≤w.heap.size):=hid H.out.fam.below.size
 have HG:=hid hg
 rw[hg] at T0 Z0
 have c2:=T0.out.lies.cell (i:=2) rfl
 have f2:=T0.out.lies.open_ 2
 go_enter Tryz.func50,Tryz.ntmps50
 go_upto_region 2 with fail
 clear hg hW t0 z0 k0 H c2 f2
 have g1:=grown_set W g 2 (.bool true)
 have H1:=hid (H0.out.aside g1 T0.out.out (by have:=LO.out;have:=HG.out;omega) OLD.out (by have:=HG.out;omega))
 have T1:Hid (Bo R (W.setCell ⟨g,2,none⟩ (.bool true)) g 51 (Td.cl ⟨t.mv,t.bg,true,t.dn,t.r⟩)):=hid ⟨T0.out.lies.put 2 (.bool true),T0.out.out⟩
 have Z1:=hid (Z0.out.far g1 (by omega))
 have O1:=hid (Cn.On.aside F0.out O0.out g1 (by have:=HG.out;omega))
 clear g1 T0 Z0 H0 O0
 generalize W.setCell ⟨g,2,none⟩ (.bool true)=w1 at H1 T1 Z1 O1 ⊢
 go_wp2_with (first
  |(refine wpList_plain rfl fun K' hK'=>ld_told (t:=⟨t.mv,t.bg,true,t.dn,t.r⟩) _ rfl rfl T1.out.lies (hK' _ _ ?_))
  |fail)
 refine (end_ok ⟨t.mv,t.bg,true,t.dn,t.r⟩ (rc code) H1 hh (hid VB.nil) (by simp) hr).mono ?_
 rintro r w2 ⟨z,R2,rfl,e1,e2,nz,c2,o2⟩
 have N2:=hid (And.intro e1 (And.intro e2 nz))
 have C2:=hid c2
 have Z2:=hid (Z1.out.on o2)
 have O2:=hid (O1.out.trans o2)
 have L1:Hid (g+1<w1.heap.size):=hid Z1.out.lies.lt
 have S1:Hid (w.heap.size≤w1.heap.size):=hid O1.out.size
 clear e1 e2 nz c2 o2 Z1 T1 O1 H1
 dsimp only
 go_wp2_with (first
  |(refine wpList_plain rfl fun K' hK'=>st_told (t':=⟨true,t.bg,true,true,z⟩) _ _ rfl rfl rfl Z2.out.lies rfl (fun w7 z1 z2=>hK' _ _ ?_))
  |fail)
 have ol:=old_ended (y:=rc code) OLD.out (fun a ha=>by cases ha)
 exact bodyPost_ret (told_told (t:=⟨true,t.bg,true,true,z⟩) rfl rfl z1) rfl ⟨z,R2,rfl,N2.out.1,N2.out.2.1,(N2.out.2.2.far z2 L1.out).less S1.out,C2.out.aside z2 Z2.out.out (by have:=LO.out;have:=HG.out;omega) ol (by have:=HG.out;omega),Cn.On.aside F0.out O2.out z2 (by have:=HG.out;omega),fun n h=>old_ended h (fun a ha=>by cases ha)⟩
end
end Cn
end Go.Proofs.YtfjlnniahfbdfaaGreat
