/- A part of the proof. -/
import Derived.Test.YtfjlnniahfbdfaaGreatPbi
set_option linter.unusedVariables false
set_option maxHeartbeats 4000000
namespace Go.Proofs.YtfjlnniahfbdfaaGreat
open Lib (hid)
open Go.ChangeShapes Go.WideShapes Go.ChangeAt Go.RowKit
set_option maxRecDepth 100000
namespace Cn
open Small Foot Fm Ca
section
variable {w0 w w':World} {E:Ev} {s s':St} {R R':Nat→Nat→Prop}
theorem build_told0(w:World):(Instr.build 51 #[]).run Tryz.prog w=.ok (Td.v t0) w:=by kernel_rfl
theorem build_told2(w:World):(Instr.build 51 #[(0,.bool true),(1,.bool true)]).run Tryz.prog w=.ok (Td.v ⟨true,true,false,false,r0⟩) w:=by kernel_rfl
theorem wp_told0{o:Oper}{a:Act}{w:World}{K:Act→World→Prop}{Qq:Exit→Act→World→Prop}(ho:o.op=.build 51 #[])(hK:K (a.put o.dst (Td.v t0)) w):o.wp Tryz.prog a w K Qq:=by
 unfold Oper.wp execOp
 simp only[ho,List.map_toArray,List.map_nil,Sem.run_bind,Sem.run_pure,Result.andThen_ok,build_told0]
 exact hK
theorem wp_told2{o:Oper}{a:Act}{w:World}{K:Act→World→Prop}{Qq:Exit→Act→World→Prop}(ho:o.op=.build 51 #[(0,.const (.bool true)),(1,.const (.bool true))])(hK:K (a.put o.dst (Td.v ⟨true,true,false,false,r0⟩)) w):o.wp Tryz.prog a w K Qq:=by
 unfold Oper.wp execOp
 simp only[ho,List.map_toArray,List.map_cons,List.map_nil,show a.eval (.const (.bool true))=.bool true from rfl,Sem.run_bind,Sem.run_pure,Result.andThen_ok,build_told2]
 exact hK
abbrev St.beg(s:St):St:={s with g:={s.g with b:=true}}
abbrev tb:Td:=⟨true,true,false,false,r0⟩
theorem step_over(H:Hid (CM w0 E s R w))(hk:Hid (E.cs.length≤s.rs.length)):Calls Tryz.prog 16 #[gp E.x,E.v] w (Went w0 E R w s s t0):=by
 obtain⟨W,hW,e0,z0,k0⟩:=alloc2 w 32 51 E.cl [.bool false,.bool false,.bool false,.bool false,.int .i64 0,.slice none 0 0]
 obtain⟨g,hg⟩:∃ g,w.heap.size=g:=⟨_,rfl⟩
 have E0:=hid (Bo.new H.out.fam e0 (Nat.le_refl _))
 have Z0:=hid (Bo.new H.out.fam z0 (by omega))
 have F0:=hid H.out.fam
 have H0:=hid (H.out.next k0)
 have O0:Hid (On TT R w R W):=hid (On.below H.out.fam k0)
 have OLD:=hid H.out.old
 have LO:Hid (w0.heap.size≤w.heap.size):=hid H.out.fam.below.size
 have HG:=hid hg
 rw[hg] at E0 Z0
 go_enter Tryz.func16,Tryz.ntmps16
 go_upto_region 1 with fail
 clear hg hW e0 z0 k0 H
 obtain⟨cv,rv,q0,-⟩:=H0.out.client
 go_wp2_with fail
 refine (next_none (hid q0) hk.out).mono ?_
 rintro r w1 ⟨rfl,k1⟩
 have Z1:=hid (Z0.out.next k1)
 have H1:=hid (H0.out.next k1)
 have O1:=hid (O0.out.trans (On.below H0.out.fam k1))
 clear q0 k1 H0 Z0 O0 E0
 have Z2:=hid (Z1.out.next (below1 w1 (Obj.cells #[.int .i64 0,.string ⟨#[]⟩,.int .i64 0,.int .i64 0,.int .i64 0,.int .i64 0,.int .i64 0] 46)))
 have H2:=hid (H1.out.next (below1 w1 (Obj.cells #[.int .i64 0,.string ⟨#[]⟩,.int .i64 0,.int .i64 0,.int .i64 0,.int .i64 0,.int .i64 0] 46)))
 have O2:=hid (O1.out.trans (On.below (T:=TT) H1.out.fam (below1 w1 (Obj.cells #[.int .i64 0,.string ⟨#[]⟩,.int .i64 0,.int .i64 0,.int .i64 0,.int .i64 0,.int .i64 0] 46))))
 dsimp only
 go_wp2_with (first
  |(refine wpList_plain rfl fun K' hK'=>wp_told0 rfl (hK' _ _ ?_))
  |(refine wpList_plain rfl fun K' hK'=>st_told (t':=t0) _ _ rfl rfl rfl Z2.out.lies rfl (fun w9 z1 z2=>hK' _ _ ?_))
  |fail)
 exact bodyPost_ret (told_told (t:=t0) rfl rfl z1) rfl ⟨r0,R,rfl,rfl,rfl,Nw.zero,H2.out.aside z2 Z2.out.out (by have:=LO.out;have:=HG.out;omega) OLD.out (by have:=HG.out;omega),Cn.On.aside F0.out O2.out z2 (by have:=HG.out;omega),fun n h=>h⟩
theorem step_bad{y:Cl}(H:Hid (CM w0 E s R w))(hk:Hid (E.cs[s.rs.length]?=some y))(hh:Hid (Held E s))(hr:s.rs.length≤1000)(fc:Hid E.cf.Fit)(fy:Hid y.Fit)(hb:Hid (s.g.b=false))(HM:Hid (¬mayC E.cf y)):Calls Tryz.prog 16 #[gp E.x,E.v] w (Went w0 E R w s (s.beg.ended (rc 6)) ⟨true,true,true,true,rc 6⟩):=by
 obtain⟨W,hW,e0,z0,k0⟩:=alloc2 w 32 51 E.cl [.bool false,.bool false,.bool false,.bool false,.int .i64 0,.slice none 0 0]
 obtain⟨g,hg⟩:∃ g,w.heap.size=g:=⟨_,rfl⟩
 have E0:=hid (Bo.new H.out.fam e0 (Nat.le_refl _))
 have Z0:=hid (Bo.new H.out.fam z0 (by omega))
 have F0:=hid H.out.fam
 have H0:=hid (H.out.next k0)
 have O0:Hid (On TT R w R W):=hid (On.below H.out.fam k0)
 have OLD:=hid H.out.old
 have LO:Hid (w0.heap.size≤w.heap.size):=hid H.out.fam.below.size
 have HG:=hid hg
 rw[hg] at E0 Z0
 go_enter Tryz.func16,Tryz.ntmps16
 go_upto_region 1 with fail
 clear hg hW e0 z0 k0 H
 obtain⟨cv,rv,q0,-⟩:=H0.out.client
 go_wp2_with fail
 refine (next_some (hid q0) hk.out).mono ?_
 rintro r w1 ⟨rfl,k1⟩
 clear q0
 dsimp only
 go_upto_region 5 with fail
 obtain⟨W2,hW2,y2,t2,k2⟩:=alloc2 w1 46 51 y.cl [.bool false,.bool false,.bool false,.bool false,.int .i64 0,.slice none 0 0]
 obtain⟨d,hd⟩:∃ d,w1.heap.size=d:=⟨_,rfl⟩
 rw[show (w1.alloc (Obj.cells #[.int .i64 y.op,.string y.key,.int .i64 y.t,.int .i64 y.v,.int .i64 y.e,.int .i64 y.u,.int .i64 y.s] 46)).alloc (Obj.cells #[.bool false,.bool false,.bool false,.bool false,.int .i64 0,.slice none 0 0] 51)=W2 from hW2,hd]
 have E1:=hid ((E0.out.next k1).next k2)
 have Z1:=hid ((Z0.out.next k1).next k2)
 have f1:=H0.out.fam.next k1
 have Y1:=hid (Bo.new f1 y2 (Nat.le_refl _))
 have T1:=hid (Bo.new f1 t2 (by omega))
 have H1:=hid ((H0.out.next k1).next k2)
 have O1:=hid (O0.out.trans (On.below H0.out.fam (after k1 k2)))
 have D1:Hid (g+1<d∧d+1<W2.heap.size∧w.heap.size≤W2.heap.size):=hid ⟨by rw[←hd];exact (Z0.out.next k1).lies.lt,by rw[←hd];exact t2.lt,O1.out.size⟩
 rw[hd] at Y1 T1
 clear hW2 hd y2 t2 k1 k2 f1 H0 E0 Z0 O0
 obtain⟨cv,rv,q1,-⟩:=H1.out.client
 have c3:=q1.lies.cell (i:=3) rfl
 have c7:=q1.lies.cell (i:=7) rfl
 have p3:=q1.lies.open_ 3
 clear q1
 rw[hb.out] at c3
 go_upto_region 7 with fail
 obtain⟨R1,h2,o2⟩:=H1.out.cell (j:=3) (v:=.bool true) (g':={s.g with b:=true}) (fun _ _=>rfl) rfl (.inr rfl)
 have H2:=hid h2
 have E2:=hid (E1.out.on o2)
 have Y2:=hid (Y1.out.on o2)
 have T2:=hid (T1.out.on o2)
 have Z2:=hid (Z1.out.on o2)
 have O2:=hid (O1.out.trans o2)
 clear h2 o2 c3 p3 c7 H1 E1 Y1 T1 Z1 O1
 have S2:Hid (W2.heap.size≤(W2.setCell ⟨E.x,3,none⟩ (.bool true)).heap.size):=hid (by simp)
 generalize W2.setCell ⟨E.x,3,none⟩ (.bool true)=w2 at H2 E2 Y2 T2 Z2 O2 S2 ⊢
 go_upto_region 8 with (first
  |(refine wpList_plain rfl fun K' hK'=>wp_told2 rfl (hK' _ _ ?_))
  |(refine wpList_plain rfl fun K' hK'=>st_told (t':=tb) _ _ rfl rfl rfl T2.out.lies rfl (fun w3 z1 z2=>hK' _ _ ?_))
  |fail)
 have H3:=hid (H2.out.aside z2 T2.out.out (by have:=LO.out;have:=D1.out;have:=HG.out;omega) OLD.out (by have:=D1.out;have:=HG.out;omega))
 have T3:Hid (Bo R1 w3 (d+1) 51 (Td.cl tb)):=hid ⟨z1,T2.out.out⟩
 have E3:=hid (E2.out.far z2 (by have:=D1.out;omega))
 have Y3:=hid (Y2.out.far z2 (by omega))
 have Z3:=hid (Z2.out.far z2 (by have:=D1.out;omega))
 have O3:=hid (Cn.On.aside F0.out O2.out z2 (by have:=D1.out;have:=HG.out;omega))
 have S3:Hid (W2.heap.size≤w3.heap.size):=hid (Nat.le_trans S2.out z2.size)
 clear z1 z2 H2 E2 Y2 T2 Z2 O2 S2
 simp only[Act.put]
 go_wp2_with (first
  |(refine wpList_plain rfl fun K' hK'=>ld_cfg (E:=E) _ rfl rfl E3.out.lies (hK' _ _ ?_))
  |(refine wpList_plain rfl fun K' hK'=>ld_call (y:=y) _ rfl rfl Y3.out.lies (hK' _ _ ?_))
  |fail)
 refine (Ca.may_ok E.cf y _ false (hid (by simp[HM.out])) fc.out fy.out).mono ?_
 rintro r w4 ⟨rfl,k4⟩
 have H4:=hid (H3.out.next k4)
 have T4:=hid (T3.out.next k4)
 have E4:=hid (E3.out.next k4)
 have Y4:=hid (Y3.out.next k4)
 have Z4:=hid (Z3.out.next k4)
 have O4:=hid (O3.out.trans (On.below H3.out.fam k4))
 have S4:Hid (W2.heap.size≤w4.heap.size):=hid (Nat.le_trans S3.out k4.size)
 clear k4 H3 T3 E3 Y3 Z3 O3 S3
 dsimp only
 go_wp2_with (first
  |(refine wpList_plain rfl fun K' hK'=>ld_told (t:=tb) _ rfl rfl T4.out.lies (hK' _ _ ?_))
  |fail)
 refine (refuse_ok tb 6 H4 hh hr).mono ?_
 rintro r w8 ⟨z,R8,rfl,e1,e2,nz,c8,o8,ol⟩
 have N8:=hid (And.intro e1 (And.intro e2 nz))
 have C8:=hid c8
 have Z8:=hid (Z4.out.on o8)
 have O8:=hid (O4.out.trans o8)
 have L8:Hid (g+1<w4.heap.size∧w.heap.size≤w4.heap.size):=hid ⟨Z4.out.lies.lt,O4.out.size⟩
 have OL:=hid ol
 clear e1 e2 nz c8 o8 ol
 dsimp only
 go_wp2_with (first
  |(refine wpList_plain rfl fun K' hK'=>st_told (t':=⟨true,true,true,true,z⟩) _ _ rfl rfl rfl Z8.out.lies rfl (fun w9 z1 z2=>hK' _ _ ?_))
  |fail)
 exact bodyPost_ret (told_told (t:=⟨true,true,true,true,z⟩) rfl rfl z1) rfl ⟨z,R8,rfl,N8.out.1,N8.out.2.1,(N8.out.2.2.far z2 L8.out.1).less L8.out.2,C8.out.aside z2 Z8.out.out (by have:=LO.out;have:=HG.out;omega) (OL.out _ OLD.out) (by have:=HG.out;omega),Cn.On.aside F0.out O8.out z2 (by have:=HG.out;omega),fun n h=>OL.out n h⟩
theorem step_key_new{y:Cl}{t':Td}(H:Hid (CM w0 E s R w))(hk:Hid (E.cs[s.rs.length]?=some y))(hh:Hid (Held E s))(hr:s.rs.length≤1000)(fc:Hid E.cf.Fit)(fy:Hid y.Fit)(hkd:Hid (kd y.op=true))(hb:Hid (s.g.b=false))(HM:Hid (mayC E.cf y))(P:Hid (∀ w1 R1,CM w0 E s.beg R1 w1→Calls Tryz.prog 52 #[gp E.x,E.v,y.val,Td.v tb] w1 (Went w0 E R1 w1 s.beg s' t'))):Calls Tryz.prog 16 #[gp E.x,E.v] w (Went w0 E R w s s' t'):=by
 obtain⟨W,hW,e0,z0,k0⟩:=alloc2 w 32 51 E.cl [.bool false,.bool false,.bool false,.bool false,.int .i64 0,.slice none 0 0]
 obtain⟨g,hg⟩:∃ g,w.heap.size=g:=⟨_,rfl⟩
 have E0:=hid (Bo.new H.out.fam e0 (Nat.le_refl _))
 have Z0:=hid (Bo.new H.out.fam z0 (by omega))
 have F0:=hid H.out.fam
 have H0:=hid (H.out.next k0)
 have O0:Hid (On TT R w R W):=hid (On.below H.out.fam k0)
 have OLD:=hid H.out.old
 have LO:Hid (w0.heap.size≤w.heap.size):=hid H.out.fam.below.size
 have HG:=hid hg
 rw[hg] at E0 Z0
 go_enter Tryz.func16,Tryz.ntmps16
 go_upto_region 1 with fail
 clear hg hW e0 z0 k0 H
 obtain⟨cv,rv,q0,-⟩:=H0.out.client
 go_wp2_with fail
 refine (next_some (hid q0) hk.out).mono ?_
 rintro r w1 ⟨rfl,k1⟩
 clear q0
 dsimp only
 go_upto_region 5 with fail
 obtain⟨W2,hW2,y2,t2,k2⟩:=alloc2 w1 46 51 y.cl [.bool false,.bool false,.bool false,.bool false,.int .i64 0,.slice none 0 0]
 obtain⟨d,hd⟩:∃ d,w1.heap.size=d:=⟨_,rfl⟩
 rw[show (w1.alloc (Obj.cells #[.int .i64 y.op,.string y.key,.int .i64 y.t,.int .i64 y.v,.int .i64 y.e,.int .i64 y.u,.int .i64 y.s] 46)).alloc (Obj.cells #[.bool false,.bool false,.bool false,.bool false,.int .i64 0,.slice none 0 0] 51)=W2 from hW2,hd]
 have E1:=hid ((E0.out.next k1).next k2)
 have Z1:=hid ((Z0.out.next k1).next k2)
 have f1:=H0.out.fam.next k1
 have Y1:=hid (Bo.new f1 y2 (Nat.le_refl _))
 have T1:=hid (Bo.new f1 t2 (by omega))
 have H1:=hid ((H0.out.next k1).next k2)
 have O1:=hid (O0.out.trans (On.below H0.out.fam (after k1 k2)))
 have D1:Hid (g+1<d∧d+1<W2.heap.size∧w.heap.size≤W2.heap.size):=hid ⟨by rw[←hd];exact (Z0.out.next k1).lies.lt,by rw[←hd];exact t2.lt,O1.out.size⟩
 rw[hd] at Y1 T1
 clear hW2 hd y2 t2 k1 k2 f1 H0 E0 Z0 O0
 obtain⟨cv,rv,q1,-⟩:=H1.out.client
 have c3:=q1.lies.cell (i:=3) rfl
 have c7:=q1.lies.cell (i:=7) rfl
 have p3:=q1.lies.open_ 3
 clear q1
 rw[hb.out] at c3
 go_upto_region 7 with fail
 obtain⟨R1,h2,o2⟩:=H1.out.cell (j:=3) (v:=.bool true) (g':={s.g with b:=true}) (fun _ _=>rfl) rfl (.inr rfl)
 have H2:=hid h2
 have E2:=hid (E1.out.on o2)
 have Y2:=hid (Y1.out.on o2)
 have T2:=hid (T1.out.on o2)
 have Z2:=hid (Z1.out.on o2)
 have O2:=hid (O1.out.trans o2)
 clear h2 o2 c3 p3 c7 H1 E1 Y1 T1 Z1 O1
 have S2:Hid (W2.heap.size≤(W2.setCell ⟨E.x,3,none⟩ (.bool true)).heap.size):=hid (by simp)
 generalize W2.setCell ⟨E.x,3,none⟩ (.bool true)=w2 at H2 E2 Y2 T2 Z2 O2 S2 ⊢
 go_upto_region 8 with (first
  |(refine wpList_plain rfl fun K' hK'=>wp_told2 rfl (hK' _ _ ?_))
  |(refine wpList_plain rfl fun K' hK'=>st_told (t':=tb) _ _ rfl rfl rfl T2.out.lies rfl (fun w3 z1 z2=>hK' _ _ ?_))
  |fail)
 have H3:=hid (H2.out.aside z2 T2.out.out (by have:=LO.out;have:=D1.out;have:=HG.out;omega) OLD.out (by have:=D1.out;have:=HG.out;omega))
 have T3:Hid (Bo R1 w3 (d+1) 51 (Td.cl tb)):=hid ⟨z1,T2.out.out⟩
 have E3:=hid (E2.out.far z2 (by have:=D1.out;omega))
 have Y3:=hid (Y2.out.far z2 (by omega))
 have Z3:=hid (Z2.out.far z2 (by have:=D1.out;omega))
 have O3:=hid (Cn.On.aside F0.out O2.out z2 (by have:=D1.out;have:=HG.out;omega))
 have S3:Hid (W2.heap.size≤w3.heap.size):=hid (Nat.le_trans S2.out z2.size)
 clear z1 z2 H2 E2 Y2 T2 Z2 O2 S2
 simp only[Act.put]
 go_wp2_with (first
  |(refine wpList_plain rfl fun K' hK'=>ld_cfg (E:=E) _ rfl rfl E3.out.lies (hK' _ _ ?_))
  |(refine wpList_plain rfl fun K' hK'=>ld_call (y:=y) _ rfl rfl Y3.out.lies (hK' _ _ ?_))
  |fail)
 refine (Ca.may_ok E.cf y _ true (hid (by simp[HM.out])) fc.out fy.out).mono ?_
 rintro r w4 ⟨rfl,k4⟩
 have H4:=hid (H3.out.next k4)
 have T4:=hid (T3.out.next k4)
 have E4:=hid (E3.out.next k4)
 have Y4:=hid (Y3.out.next k4)
 have Z4:=hid (Z3.out.next k4)
 have O4:=hid (O3.out.trans (On.below H3.out.fam k4))
 have S4:Hid (W2.heap.size≤w4.heap.size):=hid (Nat.le_trans S3.out k4.size)
 clear k4 H3 T3 E3 Y3 Z3 O3 S3
 dsimp only
 go_wp2_with (first
  |(refine wpList_plain rfl fun K' hK'=>ld_call (y:=y) _ rfl rfl Y4.out.lies (hK' _ _ ?_))
  |fail)
 refine (Ca.keyed_ok y _).mono ?_
 rintro r w5 ⟨rfl,k5⟩
 rw[hkd.out]
 have H5:=hid (H4.out.next k5)
 have T5:=hid (T4.out.next k5)
 have E5:=hid (E4.out.next k5)
 have Y5:=hid (Y4.out.next k5)
 have Z5:=hid (Z4.out.next k5)
 have O5:=hid (O4.out.trans (On.below H4.out.fam k5))
 have S5:Hid (W2.heap.size≤w5.heap.size):=hid (Nat.le_trans S4.out k5.size)
 clear k5 H4 T4 E4 Y4 Z4 O4 S4
 dsimp only
 go_wp2_with (first
  |(refine wpList_plain rfl fun K' hK'=>ld_env (E:=E) _ rfl rfl E5.out.lies (hK' _ _ ?_))
  |(refine wpList_plain rfl fun K' hK'=>ld_call (y:=y) _ rfl rfl Y5.out.lies (hK' _ _ ?_))
  |(refine wpList_plain rfl fun K' hK'=>ld_told (t:=tb) _ rfl rfl T5.out.lies (hK' _ _ ?_))
  |fail)
 refine (P.out _ _ H5.out).mono ?_
 rintro r w8 ⟨z,R8,rfl,e1,e2,nz,c8,o8,ol⟩
 have N8:=hid (And.intro e1 (And.intro e2 nz))
 have C8:=hid c8
 have Z8:=hid (Z5.out.on o8)
 have O8:=hid (O5.out.trans o8)
 have L8:Hid (g+1<w5.heap.size∧w.heap.size≤w5.heap.size):=hid ⟨Z5.out.lies.lt,O5.out.size⟩
 have OL:=hid ol
 clear e1 e2 nz c8 o8 ol
 dsimp only
 go_wp2_with (first
  |(refine wpList_plain rfl fun K' hK'=>st_told (t':=⟨t'.mv,t'.bg,t'.pt,t'.dn,z⟩) _ _ rfl rfl rfl Z8.out.lies rfl (fun w9 z1 z2=>hK' _ _ ?_))
  |fail)
 exact bodyPost_ret (told_told (t:=⟨t'.mv,t'.bg,t'.pt,t'.dn,z⟩) rfl rfl z1) rfl ⟨z,R8,rfl,N8.out.1,N8.out.2.1,(N8.out.2.2.far z2 L8.out.1).less L8.out.2,C8.out.aside z2 Z8.out.out (by have:=LO.out;have:=HG.out;omega) (OL.out _ OLD.out) (by have:=HG.out;omega),Cn.On.aside F0.out O8.out z2 (by have:=HG.out;omega),fun n h=>OL.out n h⟩
theorem step_key_old{y:Cl}{t':Td}(H:Hid (CM w0 E s R w))(hk:Hid (E.cs[s.rs.length]?=some y))(hh:Hid (Held E s))(hr:s.rs.length≤1000)(fc:Hid E.cf.Fit)(fy:Hid y.Fit)(hkd:Hid (kd y.op=true))(hb:Hid (s.g.b=true))(P:Hid (∀ w1 R1,CM w0 E s R1 w1→Calls Tryz.prog 52 #[gp E.x,E.v,y.val,Td.v t0] w1 (Went w0 E R1 w1 s s' t'))):Calls Tryz.prog 16 #[gp E.x,E.v] w (Went w0 E R w s s' t'):=by
 obtain⟨W,hW,e0,z0,k0⟩:=alloc2 w 32 51 E.cl [.bool false,.bool false,.bool false,.bool false,.int .i64 0,.slice none 0 0]
 obtain⟨g,hg⟩:∃ g,w.heap.size=g:=⟨_,rfl⟩
 have E0:=hid (Bo.new H.out.fam e0 (Nat.le_refl _))
 have Z0:=hid (Bo.new H.out.fam z0 (by omega))
 have F0:=hid H.out.fam
 have H0:=hid (H.out.next k0)
 have O0:Hid (On TT R w R W):=hid (On.below H.out.fam k0)
 have OLD:=hid H.out.old
 have LO:Hid (w0.heap.size≤w.heap.size):=hid H.out.fam.below.size
 have HG:=hid hg
 rw[hg] at E0 Z0
 go_enter Tryz.func16,Tryz.ntmps16
 go_upto_region 1 with fail
 clear hg hW e0 z0 k0 H
 obtain⟨cv,rv,q0,-⟩:=H0.out.client
 go_wp2_with fail
 refine (next_some (hid q0) hk.out).mono ?_
 rintro r w1 ⟨rfl,k1⟩
 clear q0
 dsimp only
 go_upto_region 5 with fail
 obtain⟨W2,hW2,y2,t2,k2⟩:=alloc2 w1 46 51 y.cl [.bool false,.bool false,.bool false,.bool false,.int .i64 0,.slice none 0 0]
 obtain⟨d,hd⟩:∃ d,w1.heap.size=d:=⟨_,rfl⟩
 rw[show (w1.alloc (Obj.cells #[.int .i64 y.op,.string y.key,.int .i64 y.t,.int .i64 y.v,.int .i64 y.e,.int .i64 y.u,.int .i64 y.s] 46)).alloc (Obj.cells #[.bool false,.bool false,.bool false,.bool false,.int .i64 0,.slice none 0 0] 51)=W2 from hW2,hd]
 have E1:=hid ((E0.out.next k1).next k2)
 have Z1:=hid ((Z0.out.next k1).next k2)
 have f1:=H0.out.fam.next k1
 have Y1:=hid (Bo.new f1 y2 (Nat.le_refl _))
 have T1:=hid (Bo.new f1 t2 (by omega))
 have H1:=hid ((H0.out.next k1).next k2)
 have O1:=hid (O0.out.trans (On.below H0.out.fam (after k1 k2)))
 have D1:Hid (g+1<d∧d+1<W2.heap.size∧w.heap.size≤W2.heap.size):=hid ⟨by rw[←hd];exact (Z0.out.next k1).lies.lt,by rw[←hd];exact t2.lt,O1.out.size⟩
 rw[hd] at Y1 T1
 clear hW2 hd y2 t2 k1 k2 f1 H0 E0 Z0 O0
 obtain⟨cv,rv,q1,-⟩:=H1.out.client
 have c3:=q1.lies.cell (i:=3) rfl
 have c7:=q1.lies.cell (i:=7) rfl
 have p3:=q1.lies.open_ 3
 clear q1
 rw[hb.out] at c3
 go_upto_region 10 with fail
 have H3:=H1
 have E3:=E1
 have Y3:=Y1
 have Z3:=Z1
 have O3:=O1
 have T3:Hid (Bo R W2 (d+1) 51 (Td.cl t0)):=T1
 have S3:Hid (W2.heap.size≤W2.heap.size):=hid (Nat.le_refl _)
 have c73:=c7
 clear c3 p3 c7 H1 E1 Y1 Z1 O1 T1
 go_wp2_with (first
  |(refine wpList_plain rfl fun K' hK'=>ld_call (y:=y) _ rfl rfl Y3.out.lies (hK' _ _ ?_))
  |fail)
 refine (Ca.keyed_ok y _).mono ?_
 rintro r w5 ⟨rfl,k5⟩
 rw[hkd.out]
 have H5:=hid (H3.out.next k5)
 have T5:=hid (T3.out.next k5)
 have E5:=hid (E3.out.next k5)
 have Y5:=hid (Y3.out.next k5)
 have Z5:=hid (Z3.out.next k5)
 have O5:=hid (O3.out.trans (On.below H3.out.fam k5))
 have S5:Hid (W2.heap.size≤w5.heap.size):=hid (Nat.le_trans S3.out k5.size)
 clear k5 H3 T3 E3 Y3 Z3 O3 S3
 dsimp only
 go_wp2_with (first
  |(refine wpList_plain rfl fun K' hK'=>ld_env (E:=E) _ rfl rfl E5.out.lies (hK' _ _ ?_))
  |(refine wpList_plain rfl fun K' hK'=>ld_call (y:=y) _ rfl rfl Y5.out.lies (hK' _ _ ?_))
  |(refine wpList_plain rfl fun K' hK'=>ld_told (t:=t0) _ rfl rfl T5.out.lies (hK' _ _ ?_))
  |fail)
 refine (P.out _ _ H5.out).mono ?_
 rintro r w8 ⟨z,R8,rfl,e1,e2,nz,c8,o8,ol⟩
 have N8:=hid (And.intro e1 (And.intro e2 nz))
 have C8:=hid c8
 have Z8:=hid (Z5.out.on o8)
 have O8:=hid (O5.out.trans o8)
 have L8:Hid (g+1<w5.heap.size∧w.heap.size≤w5.heap.size):=hid ⟨Z5.out.lies.lt,O5.out.size⟩
 have OL:=hid ol
 clear e1 e2 nz c8 o8 ol
 dsimp only
 go_wp2_with (first
  |(refine wpList_plain rfl fun K' hK'=>st_told (t':=⟨t'.mv,t'.bg,t'.pt,t'.dn,z⟩) _ _ rfl rfl rfl Z8.out.lies rfl (fun w9 z1 z2=>hK' _ _ ?_))
  |fail)
 exact bodyPost_ret (told_told (t:=⟨t'.mv,t'.bg,t'.pt,t'.dn,z⟩) rfl rfl z1) rfl ⟨z,R8,rfl,N8.out.1,N8.out.2.1,(N8.out.2.2.far z2 L8.out.1).less L8.out.2,C8.out.aside z2 Z8.out.out (by have:=LO.out;have:=HG.out;omega) (OL.out _ OLD.out) (by have:=HG.out;omega),Cn.On.aside F0.out O8.out z2 (by have:=HG.out;omega),fun n h=>OL.out n h⟩
theorem step_start_new{y:Cl}{t':Td}(H:Hid (CM w0 E s R w))(hk:Hid (E.cs[s.rs.length]?=some y))(hh:Hid (Held E s))(hr:s.rs.length≤1000)(fc:Hid E.cf.Fit)(fy:Hid y.Fit)(hkd:Hid (kd y.op=false))(hn:Hid (s.g.held=none))(hb:Hid (s.g.b=false))(HM:Hid (mayC E.cf y))(P:Hid (∀ w1 R1,CM w0 E s.beg R1 w1→Calls Tryz.prog 53 #[gp E.x,E.v,y.val,Td.v tb] w1 (Went w0 E R1 w1 s.beg s' t'))):Calls Tryz.prog 16 #[gp E.x,E.v] w (Went w0 E R w s s' t'):=by
 obtain⟨W,hW,e0,z0,k0⟩:=alloc2 w 32 51 E.cl [.bool false,.bool false,.bool false,.bool false,.int .i64 0,.slice none 0 0]
 obtain⟨g,hg⟩:∃ g,w.heap.size=g:=⟨_,rfl⟩
 have E0:=hid (Bo.new H.out.fam e0 (Nat.le_refl _))
 have Z0:=hid (Bo.new H.out.fam z0 (by omega))
 have F0:=hid H.out.fam
 have H0:=hid (H.out.next k0)
 have O0:Hid (On TT R w R W):=hid (On.below H.out.fam k0)
 have OLD:=hid H.out.old
 have LO:Hid (w0.heap.size≤w.heap.size):=hid H.out.fam.below.size
 have HG:=hid hg
 rw[hg] at E0 Z0
 go_enter Tryz.func16,Tryz.ntmps16
 go_upto_region 1 with fail
 clear hg hW e0 z0 k0 H
 obtain⟨cv,rv,q0,-⟩:=H0.out.client
 go_wp2_with fail
 refine (next_some (hid q0) hk.out).mono ?_
 rintro r w1 ⟨rfl,k1⟩
 clear q0
 dsimp only
 go_upto_region 5 with fail
 obtain⟨W2,hW2,y2,t2,k2⟩:=alloc2 w1 46 51 y.cl [.bool false,.bool false,.bool false,.bool false,.int .i64 0,.slice none 0 0]
 obtain⟨d,hd⟩:∃ d,w1.heap.size=d:=⟨_,rfl⟩
 rw[show (w1.alloc (Obj.cells #[.int .i64 y.op,.string y.key,.int .i64 y.t,.int .i64 y.v,.int .i64 y.e,.int .i64 y.u,.int .i64 y.s] 46)).alloc (Obj.cells #[.bool false,.bool false,.bool false,.bool false,.int .i64 0,.slice none 0 0] 51)=W2 from hW2,hd]
 have E1:=hid ((E0.out.next k1).next k2)
 have Z1:=hid ((Z0.out.next k1).next k2)
 have f1:=H0.out.fam.next k1
 have Y1:=hid (Bo.new f1 y2 (Nat.le_refl _))
 have T1:=hid (Bo.new f1 t2 (by omega))
 have H1:=hid ((H0.out.next k1).next k2)
 have O1:=hid (O0.out.trans (On.below H0.out.fam (after k1 k2)))
 have D1:Hid (g+1<d∧d+1<W2.heap.size∧w.heap.size≤W2.heap.size):=hid ⟨by rw[←hd];exact (Z0.out.next k1).lies.lt,by rw[←hd];exact t2.lt,O1.out.size⟩
 rw[hd] at Y1 T1
 clear hW2 hd y2 t2 k1 k2 f1 H0 E0 Z0 O0
 obtain⟨cv,rv,q1,-⟩:=H1.out.client
 have c3:=q1.lies.cell (i:=3) rfl
 have c7:=q1.lies.cell (i:=7) rfl
 have p3:=q1.lies.open_ 3
 clear q1
 rw[hb.out] at c3
 go_upto_region 7 with fail
 obtain⟨R1,h2,o2⟩:=H1.out.cell (j:=3) (v:=.bool true) (g':={s.g with b:=true}) (fun _ _=>rfl) rfl (.inr rfl)
 have H2:=hid h2
 have E2:=hid (E1.out.on o2)
 have Y2:=hid (Y1.out.on o2)
 have T2:=hid (T1.out.on o2)
 have Z2:=hid (Z1.out.on o2)
 have O2:=hid (O1.out.trans o2)
 clear h2 o2 c3 p3 c7 H1 E1 Y1 T1 Z1 O1
 have S2:Hid (W2.heap.size≤(W2.setCell ⟨E.x,3,none⟩ (.bool true)).heap.size):=hid (by simp)
 generalize W2.setCell ⟨E.x,3,none⟩ (.bool true)=w2 at H2 E2 Y2 T2 Z2 O2 S2 ⊢
 go_upto_region 8 with (first
  |(refine wpList_plain rfl fun K' hK'=>wp_told2 rfl (hK' _ _ ?_))
  |(refine wpList_plain rfl fun K' hK'=>st_told (t':=tb) _ _ rfl rfl rfl T2.out.lies rfl (fun w3 z1 z2=>hK' _ _ ?_))
  |fail)
 have H3:=hid (H2.out.aside z2 T2.out.out (by have:=LO.out;have:=D1.out;have:=HG.out;omega) OLD.out (by have:=D1.out;have:=HG.out;omega))
 have T3:Hid (Bo R1 w3 (d+1) 51 (Td.cl tb)):=hid ⟨z1,T2.out.out⟩
 have E3:=hid (E2.out.far z2 (by have:=D1.out;omega))
 have Y3:=hid (Y2.out.far z2 (by omega))
 have Z3:=hid (Z2.out.far z2 (by have:=D1.out;omega))
 have O3:=hid (Cn.On.aside F0.out O2.out z2 (by have:=D1.out;have:=HG.out;omega))
 have S3:Hid (W2.heap.size≤w3.heap.size):=hid (Nat.le_trans S2.out z2.size)
 clear z1 z2 H2 E2 Y2 T2 Z2 O2 S2
 simp only[Act.put]
 go_wp2_with (first
  |(refine wpList_plain rfl fun K' hK'=>ld_cfg (E:=E) _ rfl rfl E3.out.lies (hK' _ _ ?_))
  |(refine wpList_plain rfl fun K' hK'=>ld_call (y:=y) _ rfl rfl Y3.out.lies (hK' _ _ ?_))
  |fail)
 refine (Ca.may_ok E.cf y _ true (hid (by simp[HM.out])) fc.out fy.out).mono ?_
 rintro r w4 ⟨rfl,k4⟩
 have H4:=hid (H3.out.next k4)
 have T4:=hid (T3.out.next k4)
 have E4:=hid (E3.out.next k4)
 have Y4:=hid (Y3.out.next k4)
 have Z4:=hid (Z3.out.next k4)
 have O4:=hid (O3.out.trans (On.below H3.out.fam k4))
 have S4:Hid (W2.heap.size≤w4.heap.size):=hid (Nat.le_trans S3.out k4.size)
 clear k4 H3 T3 E3 Y3 Z3 O3 S3
 dsimp only
 go_wp2_with (first
  |(refine wpList_plain rfl fun K' hK'=>ld_call (y:=y) _ rfl rfl Y4.out.lies (hK' _ _ ?_))
  |fail)
 refine (Ca.keyed_ok y _).mono ?_
 rintro r w5 ⟨rfl,k5⟩
 rw[hkd.out]
 have H5:=hid (H4.out.next k5)
 have T5:=hid (T4.out.next k5)
 have E5:=hid (E4.out.next k5)
 have Y5:=hid (Y4.out.next k5)
 have Z5:=hid (Z4.out.next k5)
 have O5:=hid (O4.out.trans (On.below H4.out.fam k5))
 have S5:Hid (W2.heap.size≤w5.heap.size):=hid (Nat.le_trans S4.out k5.size)
 clear k5 H4 T4 E4 Y4 Z4 O4 S4
 dsimp only
 obtain⟨cv,rv,q5,-⟩:=H5.out.client
 have c7:=q5.lies.cell (i:=7) rfl
 rw[show ({s.g with b:=true}:Pg).held=none from hn.out] at c7
 clear q5
 go_wp2_with (first
  |(refine wpList_plain rfl fun K' hK'=>ld_env (E:=E) _ rfl rfl E5.out.lies (hK' _ _ ?_))
  |(refine wpList_plain rfl fun K' hK'=>ld_call (y:=y) _ rfl rfl Y5.out.lies (hK' _ _ ?_))
  |(refine wpList_plain rfl fun K' hK'=>ld_told (t:=tb) _ rfl rfl T5.out.lies (hK' _ _ ?_))
  |fail)
 refine (P.out _ _ H5.out).mono ?_
 rintro r w8 ⟨z,R8,rfl,e1,e2,nz,c8,o8,ol⟩
 have N8:=hid (And.intro e1 (And.intro e2 nz))
 have C8:=hid c8
 have Z8:=hid (Z5.out.on o8)
 have O8:=hid (O5.out.trans o8)
 have L8:Hid (g+1<w5.heap.size∧w.heap.size≤w5.heap.size):=hid ⟨Z5.out.lies.lt,O5.out.size⟩
 have OL:=hid ol
 clear e1 e2 nz c8 o8 ol
 dsimp only
 go_wp2_with (first
  |(refine wpList_plain rfl fun K' hK'=>st_told (t':=⟨t'.mv,t'.bg,t'.pt,t'.dn,z⟩) _ _ rfl rfl rfl Z8.out.lies rfl (fun w9 z1 z2=>hK' _ _ ?_))
  |fail)
 exact bodyPost_ret (told_told (t:=⟨t'.mv,t'.bg,t'.pt,t'.dn,z⟩) rfl rfl z1) rfl ⟨z,R8,rfl,N8.out.1,N8.out.2.1,(N8.out.2.2.far z2 L8.out.1).less L8.out.2,C8.out.aside z2 Z8.out.out (by have:=LO.out;have:=HG.out;omega) (OL.out _ OLD.out) (by have:=HG.out;omega),Cn.On.aside F0.out O8.out z2 (by have:=HG.out;omega),fun n h=>OL.out n h⟩
theorem step_further{y:Cl}{t':Td}(H:Hid (CM w0 E s R w))(hk:Hid (E.cs[s.rs.length]?=some y))(hh:Hid (Held E s))(hr:s.rs.length≤1000)(fc:Hid E.cf.Fit)(fy:Hid y.Fit)(hkd:Hid (kd y.op=false))(hn:Hid (s.g.held=some E.gc))(hb:Hid (s.g.b=true))(P:Hid (∀ w1 R1,CM w0 E s R1 w1→Calls Tryz.prog 54 #[gp E.x,E.v,y.val] w1 (Went w0 E R1 w1 s s' t'))):Calls Tryz.prog 16 #[gp E.x,E.v] w (Went w0 E R w s s' t'):=by
 obtain⟨W,hW,e0,z0,k0⟩:=alloc2 w 32 51 E.cl [.bool false,.bool false,.bool false,.bool false,.int .i64 0,.slice none 0 0]
 obtain⟨g,hg⟩:∃ g,w.heap.size=g:=⟨_,rfl⟩
 have E0:=hid (Bo.new H.out.fam e0 (Nat.le_refl _))
 have Z0:=hid (Bo.new H.out.fam z0 (by omega))
 have F0:=hid H.out.fam
 have H0:=hid (H.out.next k0)
 have O0:Hid (On TT R w R W):=hid (On.below H.out.fam k0)
 have OLD:=hid H.out.old
 have LO:Hid (w0.heap.size≤w.heap.size):=hid H.out.fam.below.size
 have HG:=hid hg
 rw[hg] at E0 Z0
 go_enter Tryz.func16,Tryz.ntmps16
 go_upto_region 1 with fail
 clear hg hW e0 z0 k0 H
 obtain⟨cv,rv,q0,-⟩:=H0.out.client
 go_wp2_with fail
 refine (next_some (hid q0) hk.out).mono ?_
 rintro r w1 ⟨rfl,k1⟩
 clear q0
 dsimp only
 go_upto_region 5 with fail
 obtain⟨W2,hW2,y2,t2,k2⟩:=alloc2 w1 46 51 y.cl [.bool false,.bool false,.bool false,.bool false,.int .i64 0,.slice none 0 0]
 obtain⟨d,hd⟩:∃ d,w1.heap.size=d:=⟨_,rfl⟩
 rw[show (w1.alloc (Obj.cells #[.int .i64 y.op,.string y.key,.int .i64 y.t,.int .i64 y.v,.int .i64 y.e,.int .i64 y.u,.int .i64 y.s] 46)).alloc (Obj.cells #[.bool false,.bool false,.bool false,.bool false,.int .i64 0,.slice none 0 0] 51)=W2 from hW2,hd]
 have E1:=hid ((E0.out.next k1).next k2)
 have Z1:=hid ((Z0.out.next k1).next k2)
 have f1:=H0.out.fam.next k1
 have Y1:=hid (Bo.new f1 y2 (Nat.le_refl _))
 have T1:=hid (Bo.new f1 t2 (by omega))
 have H1:=hid ((H0.out.next k1).next k2)
 have O1:=hid (O0.out.trans (On.below H0.out.fam (after k1 k2)))
 have D1:Hid (g+1<d∧d+1<W2.heap.size∧w.heap.size≤W2.heap.size):=hid ⟨by rw[←hd];exact (Z0.out.next k1).lies.lt,by rw[←hd];exact t2.lt,O1.out.size⟩
 rw[hd] at Y1 T1
 clear hW2 hd y2 t2 k1 k2 f1 H0 E0 Z0 O0
 obtain⟨cv,rv,q1,-⟩:=H1.out.client
 have c3:=q1.lies.cell (i:=3) rfl
 have c7:=q1.lies.cell (i:=7) rfl
 have p3:=q1.lies.open_ 3
 clear q1
 rw[hb.out] at c3
 go_upto_region 10 with fail
 have H3:=H1
 have E3:=E1
 have Y3:=Y1
 have Z3:=Z1
 have O3:=O1
 have T3:Hid (Bo R W2 (d+1) 51 (Td.cl t0)):=T1
 have S3:Hid (W2.heap.size≤W2.heap.size):=hid (Nat.le_refl _)
 have c73:=c7
 clear c3 p3 c7 H1 E1 Y1 Z1 O1 T1
 go_wp2_with (first
  |(refine wpList_plain rfl fun K' hK'=>ld_call (y:=y) _ rfl rfl Y3.out.lies (hK' _ _ ?_))
  |fail)
 refine (Ca.keyed_ok y _).mono ?_
 rintro r w5 ⟨rfl,k5⟩
 rw[hkd.out]
 have H5:=hid (H3.out.next k5)
 have T5:=hid (T3.out.next k5)
 have E5:=hid (E3.out.next k5)
 have Y5:=hid (Y3.out.next k5)
 have Z5:=hid (Z3.out.next k5)
 have O5:=hid (O3.out.trans (On.below H3.out.fam k5))
 have S5:Hid (W2.heap.size≤w5.heap.size):=hid (Nat.le_trans S3.out k5.size)
 clear k5 H3 T3 E3 Y3 Z3 O3 S3
 dsimp only
 obtain⟨cv,rv,q5,-⟩:=H5.out.client
 have c7:=q5.lies.cell (i:=7) rfl
 rw[hn.out] at c7
 clear q5
 go_wp2_with (first
  |(refine wpList_plain rfl fun K' hK'=>ld_env (E:=E) _ rfl rfl E5.out.lies (hK' _ _ ?_))
  |(refine wpList_plain rfl fun K' hK'=>ld_call (y:=y) _ rfl rfl Y5.out.lies (hK' _ _ ?_))
  |(refine wpList_plain rfl fun K' hK'=>ld_told (t:=t0) _ rfl rfl T5.out.lies (hK' _ _ ?_))
  |fail)
 refine (P.out _ _ H5.out).mono ?_
 rintro r w8 ⟨z,R8,rfl,e1,e2,nz,c8,o8,ol⟩
 have N8:=hid (And.intro e1 (And.intro e2 nz))
 have C8:=hid c8
 have Z8:=hid (Z5.out.on o8)
 have O8:=hid (O5.out.trans o8)
 have L8:Hid (g+1<w5.heap.size∧w.heap.size≤w5.heap.size):=hid ⟨Z5.out.lies.lt,O5.out.size⟩
 have OL:=hid ol
 clear e1 e2 nz c8 o8 ol
 dsimp only
 go_wp2_with (first
  |(refine wpList_plain rfl fun K' hK'=>st_told (t':=⟨t'.mv,t'.bg,t'.pt,t'.dn,z⟩) _ _ rfl rfl rfl Z8.out.lies rfl (fun w9 z1 z2=>hK' _ _ ?_))
  |fail)
 exact bodyPost_ret (told_told (t:=⟨t'.mv,t'.bg,t'.pt,t'.dn,z⟩) rfl rfl z1) rfl ⟨z,R8,rfl,N8.out.1,N8.out.2.1,(N8.out.2.2.far z2 L8.out.1).less L8.out.2,C8.out.aside z2 Z8.out.out (by have:=LO.out;have:=HG.out;omega) (OL.out _ OLD.out) (by have:=HG.out;omega),Cn.On.aside F0.out O8.out z2 (by have:=HG.out;omega),fun n h=>OL.out n h⟩
end
end Cn
end Go.Proofs.YtfjlnniahfbdfaaGreat
