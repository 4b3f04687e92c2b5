/- A part of the proof. -/
import Derived.Test.YtfjlnniahfbdfaaGreatPbh
set_option linter.unusedVariables false
set_option maxHeartbeats 4000000
namespace Go.Proofs.YtfjlnniahfbdfaaGreat
open Lib (hid)
open Go.ChangeShapes Go.WideShapes Go.ChangeAt Go.RowKit
set_option maxRecDepth 100000
namespace Cn
open Small Foot Fm Ca
section
variable {w0 w w':World} {E:Ev} {s s':St} {R R':Nat→Nat→Prop}
theorem CM.cell{j:Nat}{v:Value}{g':Pg}(H:CM w0 E s R w)(e:∀ cv rv,(ccl E.num cv rv s.g).set j v=ccl E.num cv rv g')(hn:g'.r=s.g.r)(hh:g'.hand=none∨g'.hand=s.g.hand):
  ∃ R',CM w0 E {s with g:=g'} R' (w.setCell ⟨E.x,j,none⟩ v)∧On TT R w R' (w.setCell ⟨E.x,j,none⟩ v):=by
 obtain⟨cv,rv,q,hr⟩:=H.client
 obtain⟨q5,m5⟩:=q.put (g':=g') j v (e cv rv)
 rw[←hr] at m5
 have m5':Moves (R 18) (CF E.x cv rv) w (w.setCell ⟨E.x,j,none⟩ v):=by rw[hr] at m5 ⊢;exact m5
 exact H.on18 q5 m5' (fun r hr=>.inl hr) (.inl hn) hh
inductive Kwy(E:Ev)(s:St)(y:Cl)(t:Td):St→Td→Prop
 |wait (h:s.g.ask=1):Kwy E s y t s t
 |done (h:s.g.ask=2) (hP:s.g.r.P.length≤9000):Kwy E s y t (s.ended s.g.r) ⟨true,t.bg,t.pt,true,s.g.r⟩
 |again {s':St} {t':Td} (h:s.g.ask=3) (wy:Way E {s with g:={s.g with ask:=0}} y {t with mv:=true} s' t'):Kwy E s y t s' t'
 |first {s':St} {t':Td} (h:s.g.ask=0) (wy:Way E s y t s' t'):Kwy E s y t s' t'
theorem keyed_st{t t':Td}{y:Cl}(H:Hid (CM w0 E s R w))(hh:Hid (Held E s))(hr:s.rs.length≤1000)(hc:E.cf.c≤16)(fc:Hid E.cf.Fit)(fy:Hid y.Fit)(ht:Hid (t.r=r0))(ky:Kwy E s y t s' t'):
  Calls Tryz.prog 52 #[gp E.x,E.v,y.val,t.v] w (Went w0 E R w s s' t'):=by
 obtain⟨W,hW,e0,y0,t0,z0,k0⟩:=alloc4 w 32 46 51 51 E.cl y.cl t.cl [.bool false,.bool false,.bool false,.bool false,.int .i64 0,.slice none 0 0]
 obtain⟨g,hg⟩:∃ g,w.heap.size=g:=⟨_,rfl⟩
 have E0:=hid (Bo.new H.out.fam e0 (Nat.le_refl _))
 have Y0:=hid (Bo.new H.out.fam y0 (by omega))
 have T0:=hid (Bo.new H.out.fam t0 (by omega))
 have Z0:=hid (Bo.new H.out.fam z0 (by omega))
 have F0:=hid H.out.fam
 have H0:=hid (H.out.next k0)
 have O0:Hid (On TT R w R W):=hid (On.below H.out.fam k0)
 have OLD:=hid H.out.old
 have LO:Hid (w0.heap.size≤w.heap.size):=hid H.out.fam.below.size
 have HG:=hid hg
 rw[hg] at E0 Y0 T0 Z0
 obtain⟨cv,rv,q0,-⟩:=H0.out.client
 have c4:=q0.lies.cell (i:=4) rfl
 have c5:=Later.cell (q0.lies.cell (i:=5) rfl)
 have c6:=Later.cell (q0.lies.cell (i:=6) rfl)
 have f4:=q0.lies.open_ 4
 clear q0
 go_enter Tryz.func52,Tryz.ntmps52
 go_upto_region 1 with fail
 clear hg hW e0 y0 t0 z0 k0 H
 cases ky with
 |wait h=>
  rw[h] at c4;clear h c5 c6
  go_wp2_with (first
   |(refine wpList_plain rfl fun K' hK'=>ld_told (t:=t) _ rfl rfl T0.out.lies (hK' _ _ ?_))
   |(refine wpList_plain rfl fun K' hK'=>st_told (t':=t) _ _ rfl rfl rfl Z0.out.lies rfl (fun w7 z1 z2=>hK' _ _ ?_))
   |fail)
  exact bodyPost_ret (told_told (t:=t) rfl rfl z1) rfl ⟨t.r,R,rfl,rfl,rfl,by rw[ht.out];exact Nw.zero,H0.out.aside z2 Z0.out.out (by have:=LO.out;have:=HG.out;omega) OLD.out (by have:=HG.out;omega),Cn.On.aside F0.out O0.out z2 (by have:=HG.out;omega),fun n h=>h⟩
 |done h hP=>
  rw[h] at c4;have HP:=hid hP;clear h hP;go_upto_region 5 with fail
  have t0:=Later.cell (T0.out.lies.cell (i:=0) rfl);have t1:=Later.cell (T0.out.lies.cell (i:=1) rfl);have t2:=Later.cell (T0.out.lies.cell (i:=2) rfl);have t3:=Later.cell (T0.out.lies.cell (i:=3) rfl);have t4:=Later.cell (T0.out.lies.cell (i:=4) rfl);have t5:=Later.cell (T0.out.lies.cell (i:=5) rfl);refine wp_region_later_tail 7 (by kernel_rfl) (by kernel_rfl) ?_
  simp only[List.take_succ_cons,List.take_zero,List.drop_succ_cons,List.drop_zero]
  repeat (go_big_quiet_step (fail))
  refine wpQuiet_nil ?_
  rintro _ ⟨u,rfl⟩;have k1:=u.below;have Z1:=hid (Z0.out.next k1);have O1:=hid (O0.out.trans (On.below H0.out.fam k1));have H1:=hid (H0.out.next k1);clear k1 t0 t1 t2 t3 t4 t5 c4 c5 c6 f4 E0 Y0 T0 Z0 O0 H0;generalize u.w=w1 at Z1 O1 H1 ⊢;go_wp2_with fail
  refine (end_ok t s.g.r H1 hh (hid H1.out.now) HP.out hr).mono ?_
  rintro r w6 ⟨z,R6,rfl,e1,e2,nz,c6,o6⟩;have N6:=hid (And.intro e1 (And.intro e2 nz));have C6:=hid c6;have Z6:=hid (Z1.out.on o6);have O6:=hid (O1.out.trans o6);have L6:Hid (g+1+1+1<w1.heap.size∧w.heap.size≤w1.heap.size):=hid ⟨Z1.out.lies.lt,O1.out.size⟩;clear e1 e2 nz c6 o6;dsimp only
  go_wp2_with (first
   |(refine wpList_plain rfl fun K' hK'=>st_told (t':=⟨true,t.bg,t.pt,true,z⟩) _ _ rfl rfl rfl Z6.out.lies rfl (fun w7 z1 z2=>hK' _ _ ?_))
   |fail)
  have ol:∀ n,Old n s→Old n (s.ended s.g.r):=fun n h=>old_ended h h.2
  exact bodyPost_ret (told_told (t:=⟨true,t.bg,t.pt,true,z⟩) rfl rfl z1) rfl ⟨z,R6,rfl,N6.out.1,N6.out.2.1,(N6.out.2.2.far z2 L6.out.1).less L6.out.2,C6.out.aside z2 Z6.out.out (by have:=LO.out;have:=HG.out;omega) (ol _ OLD.out) (by have:=HG.out;omega),Cn.On.aside F0.out O6.out z2 (by have:=HG.out;omega),ol⟩
 |again h wy=>
  rw[h] at c4;clear h c5 c6;go_upto_region 8 with fail
  obtain⟨R1,h1,o1⟩:=H0.out.cell (j:=4) (v:=.int .i64 0) (g':={s.g with ask:=0}) (fun _ _=>rfl) rfl (.inr rfl)
  have H1:=hid h1;have E1:=hid (E0.out.on o1);have Y1:=hid (Y0.out.on o1);have T1:=hid (T0.out.on o1);have Z1:=hid (Z0.out.on o1);have O1:=hid (O0.out.trans o1);clear h1 o1 c4 f4 H0 E0 Y0 T0 Z0 O0;generalize W.setCell ⟨E.x,4,none⟩ (.int .i64 0)=w1 at H1 E1 Y1 T1 Z1 O1 ⊢;have t0:=T1.out.lies.cell (i:=0) rfl;have f0:=T1.out.lies.open_ 0;go_upto_region 9 with fail
  have g6:=grown_set w1 (g+1+1) 0 (.bool true);have H2:=hid (H1.out.aside g6 T1.out.out (by have:=LO.out;have:=HG.out;omega) OLD.out (by have:=HG.out;omega))
  have T2:Hid (Bo R1 (w1.setCell ⟨g+1+1,0,none⟩ (.bool true)) (g+1+1) 51 (Td.cl {t with mv:=true})):=hid ⟨T1.out.lies.put 0 (.bool true),T1.out.out⟩
  have E2:=hid (E1.out.far g6 (by omega))
  have Y2:=hid (Y1.out.far g6 (by omega))
  have Z2:=hid (Z1.out.far g6 (by omega))
  have O2:=hid (Cn.On.aside F0.out O1.out g6 (by have:=HG.out;omega))
  clear g6 t0 f0 H1 E1 Y1 T1 Z1 O1;generalize w1.setCell ⟨g+1+1,0,none⟩ (.bool true)=w2 at H2 E2 Y2 T2 Z2 O2 ⊢
  go_wp2_with (first
   |(refine wpList_plain rfl fun K' hK'=>ld_env (E:=E) _ rfl rfl E2.out.lies (hK' _ _ ?_))
   |(refine wpList_plain rfl fun K' hK'=>ld_call (y:=y) _ rfl rfl Y2.out.lies (hK' _ _ ?_))
   |(refine wpList_plain rfl fun K' hK'=>ld_told (t:={t with mv:=true}) _ rfl rfl T2.out.lies (hK' _ _ ?_))
   |fail)
  refine (send_ok (t:={t with mv:=true}) H2 hh hr hc fc fy ht wy).mono ?_
  rintro r w6 ⟨z,R6,rfl,e1,e2,nz,c6,o6,ol⟩;have N6:=hid (And.intro e1 (And.intro e2 nz));have C6:=hid c6;have Z6:=hid (Z2.out.on o6);have O6:=hid (O2.out.trans o6);have L6:Hid (g+1+1+1<w2.heap.size∧w.heap.size≤w2.heap.size):=hid ⟨Z2.out.lies.lt,O2.out.size⟩;have OL:=hid ol;clear e1 e2 nz c6 o6 ol;dsimp only
  go_wp2_with (first
   |(refine wpList_plain rfl fun K' hK'=>st_told (t':=⟨t'.mv,t'.bg,t'.pt,t'.dn,z⟩) _ _ rfl rfl rfl Z6.out.lies rfl (fun w7 z1 z2=>hK' _ _ ?_))
   |fail)
  exact bodyPost_ret (told_told (t:=⟨t'.mv,t'.bg,t'.pt,t'.dn,z⟩) rfl rfl z1) rfl ⟨z,R6,rfl,N6.out.1,N6.out.2.1,(N6.out.2.2.far z2 L6.out.1).less L6.out.2,C6.out.aside z2 Z6.out.out (by have:=LO.out;have:=HG.out;omega) (OL.out _ OLD.out) (by have:=HG.out;omega),Cn.On.aside F0.out O6.out z2 (by have:=HG.out;omega),fun n h=>OL.out n h⟩
 |first h wy=>
  rw[h] at c4;clear h c5 c6 f4
  go_wp2_with (first
   |(refine wpList_plain rfl fun K' hK'=>ld_env (E:=E) _ rfl rfl E0.out.lies (hK' _ _ ?_))
   |(refine wpList_plain rfl fun K' hK'=>ld_call (y:=y) _ rfl rfl Y0.out.lies (hK' _ _ ?_))
   |(refine wpList_plain rfl fun K' hK'=>ld_told (t:=t) _ rfl rfl T0.out.lies (hK' _ _ ?_))
   |fail)
  refine (send_ok (t:=t) H0 hh hr hc fc fy ht wy).mono ?_
  rintro r w6 ⟨z,R6,rfl,e1,e2,nz,c6,o6,ol⟩;have N6:=hid (And.intro e1 (And.intro e2 nz));have C6:=hid c6;have Z6:=hid (Z0.out.on o6);have O6:=hid (O0.out.trans o6);have L6:Hid (g+1+1+1<W.heap.size∧w.heap.size≤W.heap.size):=hid ⟨Z0.out.lies.lt,O0.out.size⟩;have OL:=hid ol;clear e1 e2 nz c6 o6 ol;dsimp only
  go_wp2_with (first
   |(refine wpList_plain rfl fun K' hK'=>st_told (t':=⟨t'.mv,t'.bg,t'.pt,t'.dn,z⟩) _ _ rfl rfl rfl Z6.out.lies rfl (fun w7 z1 z2=>hK' _ _ ?_))
   |fail)
  exact bodyPost_ret (told_told (t:=⟨t'.mv,t'.bg,t'.pt,t'.dn,z⟩) rfl rfl z1) rfl ⟨z,R6,rfl,N6.out.1,N6.out.2.1,(N6.out.2.2.far z2 L6.out.1).less L6.out.2,C6.out.aside z2 Z6.out.out (by have:=LO.out;have:=HG.out;omega) (OL.out _ OLD.out) (by have:=HG.out;omega),Cn.On.aside F0.out O6.out z2 (by have:=HG.out;omega),fun n h=>OL.out n h⟩
end
end Cn
namespace Cn
open Small Foot Fm Ca
abbrev dcl(m:Ms.M)(mv:Bool)(r:Rp)(oa:Option Addr)(on oc:Nat)(st:Option Nat):List Value:=[.int .i64 m.kind,.int .i64 m.fr,.int .i64 m.call.op,.string m.call.key,.int .i64 m.call.t,.int .i64 m.call.v,.int .i64 m.call.e,.int .i64 m.call.u,.int .i64 m.call.s,.int .i64 m.group,Ms.stv m.st,.bool mv,.int .i64 r.code,.slice r.a r.n r.c,.slice oa on oc,stv st]
abbrev dval(m:Ms.M)(mv:Bool)(r:Rp)(oa:Option Addr)(on oc:Nat)(st:Option Nat):Value:=.agg #[.int .i64 m.kind,.int .i64 m.fr,.int .i64 m.call.op,.string m.call.key,.int .i64 m.call.t,.int .i64 m.call.v,.int .i64 m.call.e,.int .i64 m.call.u,.int .i64 m.call.s,.int .i64 m.group,Ms.stv m.st,.bool mv,.int .i64 r.code,.slice r.a r.n r.c,.slice oa on oc,stv st]
section
variable {o:Oper} {a:Act} {K:Act→World→Prop} {Qq:Exit→Act→World→Prop} {w:World} {g:Nat}
theorem ld_did{m:Ms.M}{mv:Bool}{r:Rp}{oa:Option Addr}{on oc:Nat}{st:Option Nat}(x:Operand)(ho:o.op=.load 57 x)(hx:a.eval x=gp g)(h:Lies w g 57 (dcl m mv r oa on oc st))(hK:K (a.put o.dst (dval m mv r oa on oc st)) w):o.wp Tryz.prog a w K Qq:=
 Wh.wp_load Tryz.isAgg57 Tryz.sizeOf57 x ho hx h (Nat.le_refl _) (dcl m mv r oa on oc st) rfl hK
theorem ld_did_rep{m:Ms.M}{mv:Bool}{r:Rp}{oa:Option Addr}{on oc:Nat}{st:Option Nat}(x:Operand)(ho:o.op=.load 43 x)(hx:a.eval x=.pointer (some ⟨g,12,none⟩))(h:Lies w g 57 (dcl m mv r oa on oc st))(hK:K (a.put o.dst r.v) w):o.wp Tryz.prog a w K Qq:=
 Wh.wp_load Tryz.isAgg43 Tryz.sizeOf43 x ho hx h (by simp) r.cl rfl hK
end
theorem neq_call(y:Cl)(w:World):(binOp .neq 46 y.val y.val).run Tryz.prog w=.ok (.bool false) w:=by
 simp[go_sem]
def Took(w0:World)(E:Ev)(R:Nat→Nat→Prop)(w:World)(s:St)(r:Rp)(e:Ending)(w':World):Prop:=
 e=.returned (.bool true)∧∃ z R',z.code=r.code∧z.P=r.P∧CM w0 E {s with g:={s.g with ask:=2,r:=z}} R' w'∧On TT R w R' w'
section
variable {w0 w w':World} {E:Ev} {s s':St} {R R':Nat→Nat→Prop} {m:Ms.M} {mv:Bool} {r:Rp} {oa:Option Addr} {on oc:Nat} {st:Option Nat}
theorem answer_ok{y:Cl}(H:Hid (CM w0 E s R w))(hk:Hid (E.cs[s.rs.length]?=some y))(ha:Hid (s.g.ask=1))(hm:Hid (m.fr=E.num))(hy:Hid (m.call=y))(hv:Hid (mv=false))(Y:Hid (Out.Rd w r.pv r.P))(hn:r.P.length≤9000):Calls Tryz.prog 59 #[gp E.x,dval m mv r oa on oc st] w (Took w0 E R w s r):=by
 obtain⟨kind,fr,call,group,mst⟩:=m
 obtain rfl:fr=E.num:=hm.out
 obtain rfl:call=y:=hy.out
 obtain rfl:mv=false:=hv.out
 clear hm hy hv
 obtain⟨W,hW,d0,k0⟩:=alloc1 w 57 (dcl ⟨kind,E.num,call,group,mst⟩ false r oa on oc st)
 obtain⟨g,hg⟩:∃ g,w.heap.size=g:=⟨_,rfl⟩
 have D0:=hid (Bo.new H.out.fam d0 (Nat.le_refl _))
 have F0:=hid H.out.fam
 have H0:=hid (H.out.next k0)
 have O0:Hid (On TT R w R W):=hid (On.below H.out.fam k0)
 have OLD:=hid H.out.old
 have LO:Hid (w0.heap.size≤w.heap.size):=hid H.out.fam.below.size
 have HG:=hid hg
 have B0:=hid k0
 rw[hg] at D0
 go_enter Tryz.func59,Tryz.ntmps59
 go_upto_region 1 with fail
 clear hg hW d0 k0 H
 obtain⟨cv,rv,q0,-⟩:=H0.out.client
 go_wp2_with fail
 refine (next_some (hid q0) hk.out).mono ?_
 rintro r1 w1 ⟨rfl,k1⟩
 clear q0
 dsimp only
 go_upto_region 2 with fail
 obtain⟨W2,hW2,y2,k2⟩:=alloc1 w1 46 call.cl
 obtain⟨d,hd⟩:∃ d,w1.heap.size=d:=⟨_,rfl⟩
 rw[show w1.alloc (Obj.cells #[.int .i64 call.op,.string call.key,.int .i64 call.t,.int .i64 call.v,.int .i64 call.e,.int .i64 call.u,.int .i64 call.s] 46)=W2 from hW2,hd]
 have f1:=H0.out.fam.next k1
 have Y1:=hid (Bo.new f1 y2 (Nat.le_refl _))
 have D1:=hid ((D0.out.next k1).next k2)
 have H1:=hid ((H0.out.next k1).next k2)
 have O1:=hid (O0.out.trans (On.below H0.out.fam (after k1 k2)))
 have B1:=hid (after B0.out (after k1 k2))
 rw[hd] at Y1
 clear hW2 hd y2 k1 k2 f1 H0 D0 O0 B0
 obtain⟨cv,rv,q1,-⟩:=H1.out.client
 have c0:=q1.lies.cell (i:=0) rfl
 have c4:=q1.lies.cell (i:=4) rfl
 clear q1
 have d1:=D1.out.lies.cell (i:=1) rfl
 rw[ha.out] at c4
 have d2:=D1.out.lies.cell (i:=2) rfl
 have d3:=D1.out.lies.cell (i:=3) rfl
 have d4:=D1.out.lies.cell (i:=4) rfl
 have d5:=D1.out.lies.cell (i:=5) rfl
 have d6:=D1.out.lies.cell (i:=6) rfl
 have d7:=D1.out.lies.cell (i:=7) rfl
 have d8:=D1.out.lies.cell (i:=8) rfl
 have d11:=D1.out.lies.cell (i:=11) rfl
 have y0:=Y1.out.lies.cell (i:=0) rfl
 have y1:=Y1.out.lies.cell (i:=1) rfl
 have y2:=Y1.out.lies.cell (i:=2) rfl
 have y3:=Y1.out.lies.cell (i:=3) rfl
 have y4:=Y1.out.lies.cell (i:=4) rfl
 have y5:=Y1.out.lies.cell (i:=5) rfl
 have y6:=Y1.out.lies.cell (i:=6) rfl
 have nq:=fun w=>neq_call call w
 go_quiet (fail)
 generalize hw3:W2.drewN _=w3
 have k3:Below W2.heap.size W2 w3:=by rw[←hw3];exact Ct.below_drewN _ _
 have H3:=hid (H1.out.next k3)
 have O3:=hid (O1.out.trans (On.below H1.out.fam k3))
 have D3:=hid (D1.out.next k3)
 have Y3:=hid (Y.out.next (after B1.out k3))
 have d11:=D3.out.lies.cell (i:=11) rfl
 clear k3 hw3 c0 c4 d1 d2 d3 d4 d5 d6 d7 d8 y0 y1 y2 y3 y4 y5 y6 nq H1 O1 D1 Y1 B1
 go_wp2_with (first
  |(refine wpList_plain rfl fun K' hK'=>ld_did_rep (r:=r) _ rfl rfl D3.out.lies (hK' _ _ ?_))
  |fail)
 refine (apart_ok r w3 Y3 hn).mono ?_
 rintro r1 w4 ⟨z,rfl,e1,e2,o4,k4⟩
 have H4:=hid (H3.out.next k4)
 have O4:=hid (O3.out.trans (On.below H3.out.fam k4))
 have V4:=hid (VB.new H3.out.fam k4 o4)
 have EE:=hid (And.intro e1 e2)
 obtain⟨cv,rv,q4,hr4⟩:=H4.out.client
 have Q4:=hid (And.intro q4 hr4)
 have c4:=q4.lies.cell (i:=4) rfl
 have p4:=q4.lies.open_ 4
 clear q4 k4 o4 e1 e2 d11 hr4
 dsimp only
 go_wp2_with (first
  |(refine wpList_plain rfl fun K' hK'=>Wh.wp_store (off:=5) Tryz.sizeOf43 _ _ rfl rfl rfl (Q4.out.1.lies.put 4 (.int .i64 2)) (by simp) rfl (rok.one z) (ccl E.num cv rv {s.g with ask:=2,r:=z}) rfl (fun w5 z1 z2=>hK' _ _ ?_))
  |fail)
 go_ret
 obtain⟨q5,m5⟩:=Q4.out.1.over z1 (grown_trans (grown_set w4 E.x 4 (.int .i64 2)) z2)
 have m5':Moves (R 18) (CF E.x cv rv) w4 w5:=by rw[Q4.out.2];exact m5
 obtain⟨R5,c5,o5⟩:=H4.out.on18 q5 m5' (fun r hr=>.inl hr) (.inr V4.out) (.inr rfl)
 exact⟨rfl,z,R5,EE.out.1,EE.out.2,c5,O4.out.trans o5⟩
theorem did_ok{y:Cl}(H:Hid (CM w0 E s R w))(hk:Hid (E.cs[s.rs.length]?=some y))(ha:Hid (s.g.ask=1))(h1:Hid (m.kind=1))(hm:Hid (m.fr=E.num))(hy:Hid (m.call=y))(hv:Hid (mv=false))(Y:Hid (Out.Rd w r.pv r.P))(hn:r.P.length≤9000):Calls Tryz.prog 20 #[gp E.x,dval m mv r oa on oc st] w (Took w0 E R w s r):=by
 obtain⟨W,hW,d0,k0⟩:=alloc1 w 57 (dcl m mv r oa on oc st)
 obtain⟨g,hg⟩:∃ g,w.heap.size=g:=⟨_,rfl⟩
 have D0:=hid (Bo.new H.out.fam d0 (Nat.le_refl _))
 have F0:=hid H.out.fam
 have H0:=hid (H.out.next k0)
 have O0:Hid (On TT R w R W):=hid (On.below H.out.fam k0)
 have OLD:=hid H.out.old
 have LO:Hid (w0.heap.size≤w.heap.size):=hid H.out.fam.below.size
 have HG:=hid hg
 have B0:=hid k0
 rw[hg] at D0
 go_enter Tryz.func20,Tryz.ntmps20
 go_upto_region 1 with fail
 clear hg hW d0 k0 H
 have k0:=D0.out.lies.cell (i:=0) rfl
 rw[h1.out] at k0
 go_wp2_with (first
  |(refine wpList_plain rfl fun K' hK'=>ld_did _ rfl rfl D0.out.lies (hK' _ _ ?_))
  |fail)
 refine (answer_ok H0 hk ha hm hy hv (hid (Y.out.next B0.out)) hn).mono ?_
 rintro r1 w1 ⟨rfl,z,R1,e1,e2,c1,o1⟩
 dsimp only
 go_wp2
 go_ret
 exact⟨rfl,z,R1,e1,e2,c1,O0.out.trans o1⟩
theorem did_mark{n:Nat}(H:Hid (CM w0 E s R w))(h1:Hid (m.kind=2))(hd:Hid (s.g.due=(n:Int)+1))(hn:n≤100):Calls Tryz.prog 20 #[gp E.x,dval m mv r oa on oc st] w fun e w'=>e=.returned (.bool true)∧∃ R',CM w0 E {s with g:={s.g with due:=n}} R' w'∧On TT R w R' w':=by
 obtain⟨W,hW,d0,k0⟩:=alloc1 w 57 (dcl m mv r oa on oc st)
 obtain⟨g,hg⟩:∃ g,w.heap.size=g:=⟨_,rfl⟩
 have D0:=hid (Bo.new H.out.fam d0 (Nat.le_refl _))
 have F0:=hid H.out.fam
 have H0:=hid (H.out.next k0)
 have O0:Hid (On TT R w R W):=hid (On.below H.out.fam k0)
 have OLD:=hid H.out.old
 have LO:Hid (w0.heap.size≤w.heap.size):=hid H.out.fam.below.size
 have HG:=hid hg
 have B0:=hid k0
 rw[hg] at D0
 go_enter Tryz.func20,Tryz.ntmps20
 go_upto_region 1 with fail
 clear hg hW d0 k0 H
 have k0:=D0.out.lies.cell (i:=0) rfl
 rw[h1.out] at k0
 obtain⟨cv,rv,q0,-⟩:=H0.out.client
 have c9:=q0.lies.cell (i:=9) rfl
 have p9:=q0.lies.open_ 9
 rw[hd.out] at c9
 have e9:((n:Int)+1 == 0)=false:=by simp;omega
 clear q0
 go_wp2
 go_ret
 obtain⟨R1,h2,o2⟩:=H0.out.cell (j:=9) (v:=.int .i64 (n:Int)) (g':={s.g with due:=n}) (fun _ _=>rfl) rfl (.inr rfl)
 refine⟨rfl,R1,?_,O0.out.trans ?_⟩
 ·simpa using h2
 ·simpa using o2
end
end Cn
end Go.Proofs.YtfjlnniahfbdfaaGreat
