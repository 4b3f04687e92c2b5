/- A part of the proof. -/
import Derived.Test.YtfjlnniahfbdfaaGreatPbm
import Derived.Test.YtfjlnniahfbdfaaGreatPbi
set_option linter.unusedVariables false
set_option maxHeartbeats 4000000
namespace Go.Proofs.YtfjlnniahfbdfaaGreat
open Lib (hid)
open Go.ChangeShapes Go.WideShapes Go.ChangeAt Go.RowKit
set_option maxRecDepth 100000
namespace Cn
open Small Foot Fm Ca
abbrev c0z:Cl:=⟨0,⟨#[]⟩,0,0,0,0,0⟩
abbrev tm:Td:=⟨true,false,false,false,r0⟩
theorem build_td0(w:World):(Instr.build 51 #[]).run Tryz.prog w=.ok t0.v w:=by kernel_rfl
theorem build_tdm(w:World):(Instr.build 51 #[(0,.bool true)]).run Tryz.prog w=.ok tm.v w:=by kernel_rfl
theorem build_rc(c:Int)(w:World):(Instr.build 43 #[(0,.int .i64 c)]).run Tryz.prog w=.ok (rc c).v w:=by kernel_rfl
theorem build_mark(k:Int)(w:World):(Instr.build 55 #[(0,.int .i64 k)]).run Tryz.prog w=.ok (Ms.val ⟨k,0,c0z,0,none⟩) w:=by kernel_rfl
section
variable {o:Oper} {a:Act} {w:World} {K:Act→World→Prop} {Qq:Exit→Act→World→Prop}
theorem wp_td0(ho:o.op=.build 51 #[])(hK:K (a.put o.dst t0.v) w):o.wp Tryz.prog a w K Qq:=by
 unfold Oper.wp execOp
 simp only[ho,List.map_toArray,List.map_nil,Sem.run_bind,Sem.run_pure,Result.andThen_ok,build_td0]
 exact hK
theorem wp_tdm(ho:o.op=.build 51 #[(0,.const (.bool true))])(hK:K (a.put o.dst tm.v) w):o.wp Tryz.prog a w K Qq:=by
 unfold Oper.wp execOp
 simp only[ho,List.map_toArray,List.map_cons,List.map_nil,show a.eval (.const (.bool true))=.bool true from rfl,Sem.run_bind,Sem.run_pure,Result.andThen_ok,build_tdm]
 exact hK
theorem wp_rc(c:Int)(ho:o.op=.build 43 #[(0,.const (.int .i64 c))])(hK:K (a.put o.dst (rc c).v) w):o.wp Tryz.prog a w K Qq:=by
 unfold Oper.wp execOp
 simp only[ho,List.map_toArray,List.map_cons,List.map_nil,show a.eval (.const (.int .i64 c))=.int .i64 c from rfl,Sem.run_bind,Sem.run_pure,Result.andThen_ok,build_rc]
 exact hK
end
section
variable {w0 w w':World} {E:Ev} {s s':St} {R R':Nat→Nat→Prop}
theorem CM.on19{hh:Nat}{tg tt kd:Int}{sn:Bool}{st:Option Nat}(h:CM w0 E s R w)(e:s.g.hand=some hh)(l:Hd.Is w' hh E.b tg tt kd sn st)(k:Moves (Hd.At hh) (Hd.At hh) w w'):
  ∃ R',CM w0 E {s with hg:=tg,ht:=tt,hkd:=kd,hs:=sn,hst:=st} R' w'∧On TT R w R' w':=by
 obtain⟨-,r⟩:=h.hand hh e
 rw[←r] at k
 have o:On TT R w (rset R 19 (R 19)) w':=On.one h.fam k (.inr (by decide))
 have K:=one_kp h.fam k
 exact⟨_,⟨h.fam.one k,h.few,fun i g e=>h.kbox (K i (by have:=blt h e;omega)) g e,(h.ktable (K 16 (by decide))).1,(h.ktable (K 16 (by decide))).2,(h.kctl (K 17 (by decide))).1,(h.kctl (K 17 (by decide))).2,h.kclient (K 18 (by decide)),(h.kreps o).1,(h.kreps o).2,fun h' e'=>by
  obtain rfl:hh=h':=Option.some.inj (e.symm.trans e');exact⟨l,by rw[rset_same];exact r⟩,(h.klist (K 21 (by decide))).1,(h.klist (K 21 (by decide))).2⟩,o⟩
theorem mark_put{j g1:Nat}(H:Hid (CM w0 E s R w))(hp:Hid (s.g.put=j))(hj:Hid ((j:Int)<E.cf.h))(hg1:Hid (E.bs[j]?=some g1))(hs:Hid (s.sb j=false))(hc:E.cf.c≤16)(h8:(j:Int)≤100)(hd:0≤s.g.due∧s.g.due≤100)(hl:(s.L j).length<E.cf.c):Calls Tryz.prog 95 #[gp E.x,E.v] w (Went w0 E R w s {s.msg j ⟨2,0,c0z,0,none⟩ with g:={s.g with put:=j+1,due:=s.g.due+1}} tm):=by
 obtain⟨W,hW,e0,z0,k0⟩:=alloc2 w 32 51 E.cl [.bool false,.bool false,.bool false,.bool false,.int .i64 0,.slice none 0 0]
 obtain⟨g,hg⟩:∃ g,w.heap.size=g:=⟨_,rfl⟩
 have E0:=hid (Bo.new H.out.fam e0 (Nat.le_refl _))
 have Z0:=hid (Bo.new H.out.fam z0 (by omega))
 have F0:=hid H.out.fam
 have H0:=hid (H.out.next k0)
 have O0:Hid (On TT R w R W):=hid (On.below H.out.fam k0)
 have OLD:=hid H.out.old
 have LO:Hid (w0.heap.size≤w.heap.size):=hid H.out.fam.below.size
 have HG:=hid hg
 rw[hg] at E0 Z0
 go_enter Tryz.func95,Tryz.ntmps95
 go_upto_region 1 with fail
 clear hg hW e0 z0 k0 H
 have hj1:=hj.out
 obtain⟨cv,rv,q0,-⟩:=H0.out.client
 have q8:=q0.lies.cell (i:=8) rfl
 rw[hp.out] at q8
 have p8:=Later.cell q8
 have e5:=Later.cell (E0.out.lies.cell (i:=5) rfl)
 clear q0 q8
 refine wp_region_later_tail 9 (by kernel_rfl) (by kernel_rfl) ?_
 simp only[List.take_succ_cons,List.take_zero,List.drop_succ_cons,List.drop_zero]
 repeat (go_big_quiet_step (fail))
 refine wpQuiet_nil ?_
 rintro _ ⟨u,rfl⟩
 have k1:=u.below
 have E1:=hid (E0.out.next k1)
 have Z1:=hid (Z0.out.next k1)
 have O1:=hid (O0.out.trans (On.below H0.out.fam k1))
 have H1:=hid (H0.out.next k1)
 clear k1 p8 e5 E0 Z0 O0 H0
 generalize u.w=w1 at E1 Z1 O1 H1 ⊢
 go_upto_region 2 with fail
 have l0:=Later.cell (E1.out.lies.cell (i:=0) rfl)
 have l1:=Later.cell (E1.out.lies.cell (i:=1) rfl)
 have l2:=Later.cell (E1.out.lies.cell (i:=2) rfl)
 have l3:=Later.cell (E1.out.lies.cell (i:=3) rfl)
 have l4:=Later.cell (E1.out.lies.cell (i:=4) rfl)
 have l5:=Later.cell (E1.out.lies.cell (i:=5) rfl)
 have l6:=Later.cell (E1.out.lies.cell (i:=6) rfl)
 have l7:=Later.cell (E1.out.lies.cell (i:=7) rfl)
 have l8:=Later.cell (E1.out.lies.cell (i:=8) rfl)
 have l9:=Later.cell (E1.out.lies.cell (i:=9) rfl)
 have l10:=Later.cell (E1.out.lies.cell (i:=10) rfl)
 obtain⟨cv,rv,q0,-⟩:=H1.out.client
 have q8:=q0.lies.cell (i:=8) rfl
 rw[hp.out] at q8
 have p8:=Later.cell q8
 have bm:=fun w=>build_mark 2 w
 clear q0 q8
 refine wp_region_later_tail 7 (by kernel_rfl) (by kernel_rfl) ?_
 simp only[List.take_succ_cons,List.take_zero,List.drop_succ_cons,List.drop_zero]
 repeat (go_big_quiet_step (fail))
 refine wpQuiet_nil ?_
 rintro _ ⟨u,rfl⟩
 have k1:=u.below
 have E2:=hid (E1.out.next k1)
 have Z2:=hid (Z1.out.next k1)
 have O2:=hid (O1.out.trans (On.below H1.out.fam k1))
 have H2:=hid (H1.out.next k1)
 clear k1 p8 bm l0 l1 l2 l3 l4 l5 l6 l7 l8 l9 l10 E1 Z1 O1 H1
 generalize u.w=w2 at E2 Z2 O2 H2 ⊢
 go_wp2_with fail
 refine (eput_ok (i:=j) (g:=g1) H2 hg1.out ⟨2,0,c0z,0,none⟩ hs.out hl hc).mono ?_
 rintro r w3 ⟨rfl,R3,h3,o3⟩
 have Z3:=hid (Z2.out.on o3)
 have O3:=hid (O2.out.trans o3)
 have H3:=hid h3
 clear h3 o3 H2 E2 Z2 O2
 obtain⟨cv,rv,q3,-⟩:=H3.out.client
 have c8:=q3.lies.cell (i:=8) rfl
 have p8:=q3.lies.open_ 8
 rw[show (s.msg j ⟨2,0,c0z,0,none⟩).g.put=j from hp.out] at c8
 have a1:(j:Int)+1≤9223372036854775807:=by omega
 have a2:-9223372036854775808≤(j:Int)+1:=by omega
 clear q3
 dsimp only
 go_upto_region 5 with fail
 obtain⟨R4,h4,o4⟩:=H3.out.cell (j:=8) (v:=.int .i64 (j+1)) (g':={s.g with put:=(j:Int)+1}) (fun _ _=>rfl) rfl (.inr rfl)
 have Z4:=hid (Z3.out.on o4)
 have O4:=hid (O3.out.trans o4)
 have H4:=hid h4
 clear h4 o4 H3 Z3 O3 c8 p8
 generalize w3.setCell ⟨E.x,8,none⟩ (.int .i64 (j+1))=w4 at Z4 O4 H4 ⊢
 obtain⟨cv,rv,q4,-⟩:=H4.out.client
 have c9:=q4.lies.cell (i:=9) rfl
 have p9:=q4.lies.open_ 9
 have a3:s.g.due+1≤9223372036854775807:=by omega
 have a4:-9223372036854775808≤s.g.due+1:=by omega
 clear q4
 go_upto_region 6 with fail
 obtain⟨R5,h5,o5⟩:=H4.out.cell (j:=9) (v:=.int .i64 (s.g.due+1)) (g':={s.g with put:=(j:Int)+1,due:=s.g.due+1}) (fun _ _=>rfl) rfl (.inr rfl)
 have Z5:=hid (Z4.out.on o5)
 have O5:=hid (O4.out.trans o5)
 have H5:=hid h5
 clear h5 o5 H4 Z4 O4 c9 p9
 generalize w4.setCell ⟨E.x,9,none⟩ (.int .i64 (s.g.due+1))=w5 at Z5 O5 H5 ⊢
 go_wp2_with (first
  |(refine wpList_plain rfl fun K' hK'=>wp_tdm rfl (hK' _ _ ?_))
  |(refine wpList_plain rfl fun K' hK'=>st_told (t':=tm) _ _ rfl rfl rfl Z5.out.lies rfl (fun w7 z1 z2=>hK' _ _ ?_))
  |fail)
 exact bodyPost_ret (told_told (t:=tm) rfl rfl z1) rfl ⟨r0,_,rfl,rfl,rfl,Nw.zero,H5.out.aside z2 Z5.out.out (by have:=LO.out;have:=HG.out;omega) OLD.out (by have:=HG.out;omega),Cn.On.aside F0.out O5.out z2 (by have:=HG.out;omega),fun n h=>h⟩
theorem mark_end(H:Hid (CM w0 E s R w))(hp:Hid (E.cf.h≤s.g.put))(hd:¬0<s.g.due)(hh:Hid (Held E s))(hr:s.rs.length≤1000):Calls Tryz.prog 95 #[gp E.x,E.v] w (Went w0 E R w s (s.ended (rc 0)) ⟨true,false,false,true,rc 0⟩):=by
 obtain⟨W,hW,e0,z0,k0⟩:=alloc2 w 32 51 E.cl [.bool false,.bool false,.bool false,.bool false,.int .i64 0,.slice none 0 0]
 obtain⟨g,hg⟩:∃ g,w.heap.size=g:=⟨_,rfl⟩
 have E0:=hid (Bo.new H.out.fam e0 (Nat.le_refl _))
 have Z0:=hid (Bo.new H.out.fam z0 (by omega))
 have F0:=hid H.out.fam
 have H0:=hid (H.out.next k0)
 have O0:Hid (On TT R w R W):=hid (On.below H.out.fam k0)
 have OLD:=hid H.out.old
 have LO:Hid (w0.heap.size≤w.heap.size):=hid H.out.fam.below.size
 have HG:=hid hg
 rw[hg] at E0 Z0
 go_enter Tryz.func95,Tryz.ntmps95
 go_upto_region 1 with fail
 clear hg hW e0 z0 k0 H
 have hj1:¬s.g.put<E.cf.h:=by have:=hp.out;omega
 obtain⟨cv,rv,q0,-⟩:=H0.out.client
 have q8:=q0.lies.cell (i:=8) rfl
 have p8:=Later.cell q8
 have e5:=Later.cell (E0.out.lies.cell (i:=5) rfl)
 clear q0 q8
 refine wp_region_later_tail 9 (by kernel_rfl) (by kernel_rfl) ?_
 simp only[List.take_succ_cons,List.take_zero,List.drop_succ_cons,List.drop_zero]
 repeat (go_big_quiet_step (fail))
 refine wpQuiet_nil ?_
 rintro _ ⟨u,rfl⟩
 have k1:=u.below
 have E1:=hid (E0.out.next k1)
 have Z1:=hid (Z0.out.next k1)
 have O1:=hid (O0.out.trans (On.below H0.out.fam k1))
 have H1:=hid (H0.out.next k1)
 clear k1 p8 e5 E0 Z0 O0 H0
 generalize u.w=w1 at E1 Z1 O1 H1 ⊢
 obtain⟨cv,rv,q1,-⟩:=H1.out.client
 have c9:=q1.lies.cell (i:=9) rfl
 clear q1
 go_upto_region 9 with fail
 clear c9
 go_wp2_with (first
  |(refine wpList_plain rfl fun K' hK'=>wp_td0 rfl (hK' _ _ ?_))
  |(refine wpList_plain rfl fun K' hK'=>wp_rc 0 rfl (hK' _ _ ?_))
  |fail)
 refine (end_ok t0 (rc 0) H1 hh (hid VB.nil) (by simp) hr).mono ?_
 rintro r w8 ⟨z,R8,rfl,e1,e2,nz,c8,o8⟩
 have N8:=hid (And.intro e1 (And.intro e2 nz))
 have C8:=hid c8
 have Z8:=hid (Z1.out.on o8)
 have O8:=hid (O1.out.trans o8)
 have L8:Hid (g+1<w1.heap.size∧w.heap.size≤w1.heap.size):=hid ⟨Z1.out.lies.lt,O1.out.size⟩
 clear e1 e2 nz c8 o8
 dsimp only
 go_wp2_with (first
  |(refine wpList_plain rfl fun K' hK'=>st_told (t':=⟨true,false,false,true,z⟩) _ _ rfl rfl rfl Z8.out.lies rfl (fun w9 z1 z2=>hK' _ _ ?_))
  |fail)
 exact bodyPost_ret (told_told (t:=⟨true,false,false,true,z⟩) rfl rfl z1) rfl ⟨z,R8,rfl,N8.out.1,N8.out.2.1,(N8.out.2.2.far z2 L8.out.1).less L8.out.2,C8.out.aside z2 Z8.out.out (by have:=LO.out;have:=HG.out;omega) (old_ended OLD.out (fun a ha=>by cases ha)) (by have:=HG.out;omega),Cn.On.aside F0.out O8.out z2 (by have:=HG.out;omega),fun n h=>old_ended h (fun a ha=>by cases ha)⟩
theorem move_end{hh:Nat}(H:Hid (CM w0 E s R w))(hn:Hid (s.g.hand=some hh))(hk:s.hkd=0)(hh2:Hid (Held E s))(hr:s.rs.length≤1000):Calls Tryz.prog 96 #[gp E.x,E.v] w (Went w0 E R w s (s.ended (rc 0)) ⟨true,false,false,true,rc 0⟩):=by
 obtain⟨W,hW,e0,z0,k0⟩:=alloc2 w 32 51 E.cl [.bool false,.bool false,.bool false,.bool false,.int .i64 0,.slice none 0 0]
 obtain⟨g,hg⟩:∃ g,w.heap.size=g:=⟨_,rfl⟩
 have E0:=hid (Bo.new H.out.fam e0 (Nat.le_refl _))
 have Z0:=hid (Bo.new H.out.fam z0 (by omega))
 have F0:=hid H.out.fam
 have H0:=hid (H.out.next k0)
 have O0:Hid (On TT R w R W):=hid (On.below H.out.fam k0)
 have OLD:=hid H.out.old
 have LO:Hid (w0.heap.size≤w.heap.size):=hid H.out.fam.below.size
 have HG:=hid hg
 rw[hg] at E0 Z0
 go_enter Tryz.func96,Tryz.ntmps96
 go_upto_region 1 with fail
 clear hg hW e0 z0 k0 H
 obtain⟨cv,rv,q0,-⟩:=H0.out.client
 have c10:=q0.lies.cell (i:=10) rfl
 rw[hn.out,stv_some] at c10
 clear q0
 go_wp2_with fail
 refine (Hd.over_ok (hid (H0.out.hand hh hn.out).1)).mono ?_
 rintro r _ ⟨rfl,rfl⟩
 rw[show (s.hkd == 0)=true by rw[hk];rfl]
 clear c10
 dsimp only
 go_wp2_with (first
  |(refine wpList_plain rfl fun K' hK'=>wp_td0 rfl (hK' _ _ ?_))
  |(refine wpList_plain rfl fun K' hK'=>wp_rc 0 rfl (hK' _ _ ?_))
  |fail)
 refine (end_ok t0 (rc 0) H0 hh2 (hid VB.nil) (by simp) hr).mono ?_
 rintro r w8 ⟨z,R8,rfl,e1,e2,nz,c8,o8⟩
 have N8:=hid (And.intro e1 (And.intro e2 nz))
 have C8:=hid c8
 have Z8:=hid (Z0.out.on o8)
 have O8:=hid (O0.out.trans o8)
 have L8:Hid (g+1<W.heap.size∧w.heap.size≤W.heap.size):=hid ⟨Z0.out.lies.lt,O0.out.size⟩
 clear e1 e2 nz c8 o8
 dsimp only
 go_wp2_with (first
  |(refine wpList_plain rfl fun K' hK'=>st_told (t':=⟨true,false,false,true,z⟩) _ _ rfl rfl rfl Z8.out.lies rfl (fun w9 z1 z2=>hK' _ _ ?_))
  |fail)
 exact bodyPost_ret (told_told (t:=⟨true,false,false,true,z⟩) rfl rfl z1) rfl ⟨z,R8,rfl,N8.out.1,N8.out.2.1,(N8.out.2.2.far z2 L8.out.1).less L8.out.2,C8.out.aside z2 Z8.out.out (by have:=LO.out;have:=HG.out;omega) (old_ended OLD.out (fun a ha=>by cases ha)) (by have:=HG.out;omega),Cn.On.aside F0.out O8.out z2 (by have:=HG.out;omega),fun n h=>old_ended h (fun a ha=>by cases ha)⟩
theorem move_put{hh j g1:Nat}(H:Hid (CM w0 E s R w))(hn:Hid (s.g.hand=some hh))(hs:Hid (s.hs=false))(ha:Hid ((s.hkd=3∧∃ (i:Nat) (o:Ow.O),s.hg=i∧s.M[i]?=some o∧o.s=j)∨(s.hkd=4∧s.ht=j)))(hg1:Hid (E.bs[j]?=some g1))(hb:Hid (s.sb j=false))(hc:E.cf.c≤16)(hl:(s.L j).length<E.cf.c):Calls Tryz.prog 96 #[gp E.x,E.v] w (Went w0 E R w s {s.msg j ⟨s.hkd,0,c0z,s.hg,s.hst⟩ with hs:=true,hst:=none} tm):=by
 have hk:s.hkd≠0:=by rcases ha.out with h|h<;>have:=h.1<;>omega
 have ASK:Hid (∀ w1,CM w0 E s R w1→Calls Tryz.prog 132 #[gp hh] w1 fun r w'=>r=.returned (.tuple #[.int .i64 j,Hd.mval s.hkd s.hg s.hst,.bool true])∧Below w1.heap.size w1 w'):=hid fun w1 h1=>by
  have h2:=(h1.hand hh hn.out).1;rw[hs.out] at h2;rcases ha.out with ⟨k3,i,o,e1,e2,e3⟩|⟨k4,e3⟩
  ·rw[k3] at h2 ⊢
   rw[e1] at h2 ⊢;rw[←e3];exact Hd.ask_give (hid h2) (hid h1.table) e2
  ·rw[k4] at h2 ⊢
   rw[←e3];exact Hd.ask_have (hid h2)
 obtain⟨W,hW,e0,z0,k0⟩:=alloc2 w 32 51 E.cl [.bool false,.bool false,.bool false,.bool false,.int .i64 0,.slice none 0 0]
 obtain⟨g,hg⟩:∃ g,w.heap.size=g:=⟨_,rfl⟩
 have E0:=hid (Bo.new H.out.fam e0 (Nat.le_refl _))
 have Z0:=hid (Bo.new H.out.fam z0 (by omega))
 have F0:=hid H.out.fam
 have H0:=hid (H.out.next k0)
 have O0:Hid (On TT R w R W):=hid (On.below H.out.fam k0)
 have OLD:=hid H.out.old
 have LO:Hid (w0.heap.size≤w.heap.size):=hid H.out.fam.below.size
 have HG:=hid hg
 rw[hg] at E0 Z0
 go_enter Tryz.func96,Tryz.ntmps96
 go_upto_region 1 with fail
 clear hg hW e0 z0 k0 H
 obtain⟨cv,rv,q0,-⟩:=H0.out.client
 have c10:=q0.lies.cell (i:=10) rfl
 rw[hn.out,stv_some] at c10
 clear q0
 go_wp2_with fail
 refine (Hd.over_ok (hid (H0.out.hand hh hn.out).1)).mono ?_
 rintro r _ ⟨rfl,rfl⟩
 rw[show (s.hkd == 0)=false by simp;exact hk]
 dsimp only
 go_wp2_with fail
 refine (ASK.out _ H0.out).mono ?_
 rintro r w1 ⟨rfl,k1⟩
 have Z1:=hid (Z0.out.next k1)
 have E1:=hid (E0.out.next k1)
 have O1:=hid (O0.out.trans (On.below H0.out.fam k1))
 have H1:=hid (H0.out.next k1)
 clear k1 c10 H0 E0 Z0 O0
 dsimp only
 go_upto_region 4 with fail
 obtain⟨w2,hw2,m2,k2⟩:=alloc1 w1 55 (Ms.cl ⟨s.hkd,0,c0z,s.hg,s.hst⟩)
 rw[show w1.alloc (Obj.cells #[.int .i64 s.hkd,.int .i64 0,.int .i64 0,.string ⟨#[]⟩,.int .i64 0,.int .i64 0,.int .i64 0,.int .i64 0,.int .i64 0,.int .i64 s.hg,Ms.stv s.hst] 55)=w2 from hw2]
 have G2:=hid (Bo.new H1.out.fam m2 (Nat.le_refl _))
 have Z2:=hid (Z1.out.next k2)
 have E2:=hid (E1.out.next k2)
 have O2:=hid (O1.out.trans (On.below H1.out.fam k2))
 have H2:=hid (H1.out.next k2)
 clear hw2 k2 m2 H1 E1 Z1 O1
 generalize w1.heap.size=gm at G2 ⊢
 have l0:=E2.out.lies.cell (i:=0) rfl
 have l1:=E2.out.lies.cell (i:=1) rfl
 have l2:=E2.out.lies.cell (i:=2) rfl
 have l3:=E2.out.lies.cell (i:=3) rfl
 have l4:=E2.out.lies.cell (i:=4) rfl
 have l5:=E2.out.lies.cell (i:=5) rfl
 have l6:=E2.out.lies.cell (i:=6) rfl
 have l7:=E2.out.lies.cell (i:=7) rfl
 have l8:=E2.out.lies.cell (i:=8) rfl
 have l9:=E2.out.lies.cell (i:=9) rfl
 have l10:=E2.out.lies.cell (i:=10) rfl
 have m0:=G2.out.lies.cell (i:=0) rfl
 have m1:=G2.out.lies.cell (i:=1) rfl
 have m2:=G2.out.lies.cell (i:=2) rfl
 have m3:=G2.out.lies.cell (i:=3) rfl
 have m4:=G2.out.lies.cell (i:=4) rfl
 have m5:=G2.out.lies.cell (i:=5) rfl
 have m6:=G2.out.lies.cell (i:=6) rfl
 have m7:=G2.out.lies.cell (i:=7) rfl
 have m8:=G2.out.lies.cell (i:=8) rfl
 have m9:=G2.out.lies.cell (i:=9) rfl
 have m10:=G2.out.lies.cell (i:=10) rfl
 go_wp2_with fail
 refine (eput_ok (i:=j) (g:=g1) H2 hg1.out ⟨s.hkd,0,c0z,s.hg,s.hst⟩ hb.out hl hc).mono ?_
 rintro r w3 ⟨rfl,R3,h3,o3⟩
 have Z3:=hid (Z2.out.on o3)
 have O3:=hid (O2.out.trans o3)
 have H3:=hid h3
 clear l0 m0 l1 m1 l2 m2 l3 m3 l4 m4 l5 m5 l6 m6 l7 m7 l8 m8 l9 m9 l10 m10
 clear h3 o3 H2 E2 Z2 O2 G2
 obtain⟨cv,rv,q3,-⟩:=H3.out.client
 have c10:=q3.lies.cell (i:=10) rfl
 rw[show (s.msg j ⟨s.hkd,0,c0z,s.hg,s.hst⟩).g.hand=some hh from hn.out,stv_some] at c10
 clear q3
 dsimp only
 go_wp2_with fail
 have h3:=(H3.out.hand hh hn.out).1
 rw[show (s.msg j ⟨s.hkd,0,c0z,s.hg,s.hst⟩).hs=false from hs.out] at h3
 refine (Hd.sent_yes (hid h3) hk).mono ?_
 rintro r w4 ⟨rfl,i4,v4⟩
 obtain⟨R4,h4,o4⟩:=H3.out.on19 (show (s.msg j ⟨s.hkd,0,c0z,s.hg,s.hst⟩).g.hand=some hh from hn.out) i4 v4
 have Z4:=hid (Z3.out.on o4)
 have O4:=hid (O3.out.trans o4)
 have H4:=hid h4
 clear h4 o4 h3 i4 v4 c10 H3 Z3 O3
 dsimp only
 go_wp2_with (first
  |(refine wpList_plain rfl fun K' hK'=>wp_tdm rfl (hK' _ _ ?_))
  |(refine wpList_plain rfl fun K' hK'=>st_told (t':=tm) _ _ rfl rfl rfl Z4.out.lies rfl (fun w7 z1 z2=>hK' _ _ ?_))
  |fail)
 exact bodyPost_ret (told_told (t:=tm) rfl rfl z1) rfl ⟨r0,_,rfl,rfl,rfl,Nw.zero,H4.out.aside z2 Z4.out.out (by have:=LO.out;have:=HG.out;omega) OLD.out (by have:=HG.out;omega),Cn.On.aside F0.out O4.out z2 (by have:=HG.out;omega),fun n h=>h⟩
def Emptied(E:Ev)(s:St)(r:Ending):Prop:=∃ b:Bool,r=.returned (.bool b)∧(b=true↔∀ i,i<E.bs.length→s.L i=[])
theorem eempty_ok(H:Hid (CM w0 E s R w)):Calls Tryz.prog 97 #[E.v] w fun r w'=>Emptied E s r∧Below w.heap.size w w':=by
 obtain⟨W,hW,e0,k0⟩:=alloc1 w 32 E.cl
 obtain⟨g,hg⟩:∃ g,w.heap.size=g:=⟨_,rfl⟩
 have E0:=hid e0
 have H0:=hid (H.out.next k0)
 have K0:=hid k0
 rw[hg] at E0
 go_enter Tryz.func97,Tryz.ntmps97
 go_upto_region 1 with fail
 clear hW k0 e0 hg H
 have e10:=E0.out.cell (i:=10) rfl
 obtain⟨A,cp,hA⟩:∃ A cp,(Value.slice E.ba E.bn E.bc)=.slice A E.bs.length cp:=by
  obtain⟨_,_,q⟩:=H0.out.list.is;exact q.len
 simp only[Value.slice.injEq] at hA
 obtain⟨hA1,hA2,hA3⟩:=hA
 rw[hA2] at e10
 clear hA1 hA2 hA3
 go_wp2_with fail
 clear e10
 go_loopw [8] (fun si wr=>∃ k:Nat,k≤E.bs.length∧si=.int .i64 k∧Hid (Below w.heap.size w wr)∧Hid (CM w0 E s R wr)∧Hid (∀ i,i<k→s.L i=[])) (fun si _=>E.bs.length-(intOf si).toNat)
 case atStart=>exact⟨0,Nat.zero_le _,rfl,K0,H0,hid fun i hi=>absurd hi (Nat.not_lt_zero i)⟩
 case round=>
  obtain⟨k,hk,rfl,KR,HR,AR⟩:=hrel;clear H0 K0;have h8:=HR.out.few;by_cases hlt:k<E.bs.length
  ·obtain⟨gb,hgb⟩:∃ gb,E.bs[k]?=some gb:=⟨_,List.getElem?_eq_getElem hlt⟩
   obtain⟨-,-,bl,off,hba0,hcell⟩:=HR.out.lst hgb;rw[hba0];obtain⟨bv,hb,-⟩:=HR.out.box k gb hgb;have HB:=hid hb;have i0:¬((k:Int)<0):=by omega
   have i1:¬((E.bs.length:Int)≤(k:Int)):=by omega
   have i2:(0:Int)≤(k:Int):=by omega
   have i3:(k:Int)<(E.bs.length:Int):=by omega
   clear hb hgb;go_wp2_with fail
   refine (Bq.len_ok gb E.cf.c _ bv _ wr HB).mono ?_
   rintro r _ ⟨rfl,rfl⟩;clear hcell HB;dsimp only;obtain⟨n,hn⟩:∃ n,(s.L k).length=n:=⟨_,rfl⟩;rw[hn];by_cases hL:s.L k=[]
   ·obtain rfl:n=0:=by rw[←hn,hL];rfl
    have f1:(k:Int)+1≤9223372036854775807:=by omega
    have f2:-9223372036854775808≤(k:Int)+1:=by omega
    have A2:Hid (∀ i,i<k+1→s.L i=[]):=hid fun i hi=>by
     by_cases e:i=k
     ·rw[e];exact hL
     ·exact AR.out i (by omega)
    clear hL hn;go_wp2_with fail
    exact⟨⟨k+1,hlt,by go_num,KR,HR,A2⟩,by simp[intOf];omega⟩
   ·have z1:(0:Int)<(n:Int):=by have:=List.length_pos_iff.2 hL;omega
    have HL:=hid hL;clear hL hn;go_wp2_with fail
    go_ret;exact⟨⟨false,rfl,by simp;exact⟨k,hlt,HL.out⟩⟩,KR.out⟩
  ·have e:k=E.bs.length:=by omega
   have i3:¬((k:Int)<(E.bs.length:Int)):=by omega
   go_wp2;go_ret;exact⟨⟨true,rfl,by simp;exact fun i hi=>AR.out i (by omega)⟩,KR.out⟩
theorem further_mark{t':Td}{y:Cl}(H:Hid (CM w0 E s R w))(ho:Hid (y.op=3))(P:Hid (∀ w1 R1,CM w0 E s R1 w1→Calls Tryz.prog 95 #[gp E.x,E.v] w1 (Went w0 E R1 w1 s s' t'))):Calls Tryz.prog 54 #[gp E.x,E.v,y.val] w (Went w0 E R w s s' t'):=by
 obtain⟨W,hW,e0,y0,z0,k0⟩:=alloc3 w 32 46 51 E.cl y.cl [.bool false,.bool false,.bool false,.bool false,.int .i64 0,.slice none 0 0]
 obtain⟨g,hg⟩:∃ g,w.heap.size=g:=⟨_,rfl⟩
 have E0:=hid (Bo.new H.out.fam e0 (Nat.le_refl _))
 have Z0:=hid (Bo.new H.out.fam z0 (by omega))
 have F0:=hid H.out.fam
 have H0:=hid (H.out.next k0)
 have O0:Hid (On TT R w R W):=hid (On.below H.out.fam k0)
 have OLD:=hid H.out.old
 have LO:Hid (w0.heap.size≤w.heap.size):=hid H.out.fam.below.size
 have HG:=hid hg
 have c0:=y0.cell (i:=0) rfl
 rw[ho.out] at c0
 rw[hg] at E0 Z0 c0
 go_enter Tryz.func54,Tryz.ntmps54
 go_upto_region 1 with fail
 clear hg hW e0 y0 z0 k0 H
 go_wp2_with (first
  |(refine wpList_plain rfl fun K' hK'=>ld_env (E:=E) _ rfl rfl E0.out.lies (hK' _ _ ?_))
  |fail)
 refine (P.out _ _ H0.out).mono ?_
 rintro r w8 ⟨z,R8,rfl,e1,e2,nz,c8,o8,ol⟩
 have N8:=hid (And.intro e1 (And.intro e2 nz))
 have C8:=hid c8
 have Z8:=hid (Z0.out.on o8)
 have O8:=hid (O0.out.trans o8)
 have L8:Hid (g+1+1<W.heap.size∧w.heap.size≤W.heap.size):=hid ⟨Z0.out.lies.lt,O0.out.size⟩
 have OL:Hid (∀ n,Old n s→Old n s'):=hid fun n h=>ol n h
 clear e1 e2 nz c8 o8 ol c0
 dsimp only
 go_wp2_with (first
  |(refine wpList_plain rfl fun K' hK'=>st_told (t':=⟨t'.mv,t'.bg,t'.pt,t'.dn,z⟩) _ _ rfl rfl rfl Z8.out.lies rfl (fun w9 z1 z2=>hK' _ _ ?_))
  |fail)
 exact bodyPost_ret (told_told (t:=⟨t'.mv,t'.bg,t'.pt,t'.dn,z⟩) rfl rfl z1) rfl ⟨z,R8,rfl,N8.out.1,N8.out.2.1,(N8.out.2.2.far z2 L8.out.1).less L8.out.2,C8.out.aside z2 Z8.out.out (by have:=LO.out;have:=HG.out;omega) (OL.out _ OLD.out) (by have:=HG.out;omega),Cn.On.aside F0.out O8.out z2 (by have:=HG.out;omega),fun n h=>OL.out n h⟩
theorem further_move{t':Td}{y:Cl}(H:Hid (CM w0 E s R w))(ho:Hid (y.op=6))(P:Hid (∀ w1 R1,CM w0 E s R1 w1→Calls Tryz.prog 96 #[gp E.x,E.v] w1 (Went w0 E R1 w1 s s' t'))):Calls Tryz.prog 54 #[gp E.x,E.v,y.val] w (Went w0 E R w s s' t'):=by
 obtain⟨W,hW,e0,y0,z0,k0⟩:=alloc3 w 32 46 51 E.cl y.cl [.bool false,.bool false,.bool false,.bool false,.int .i64 0,.slice none 0 0]
 obtain⟨g,hg⟩:∃ g,w.heap.size=g:=⟨_,rfl⟩
 have E0:=hid (Bo.new H.out.fam e0 (Nat.le_refl _))
 have Z0:=hid (Bo.new H.out.fam z0 (by omega))
 have F0:=hid H.out.fam
 have H0:=hid (H.out.next k0)
 have O0:Hid (On TT R w R W):=hid (On.below H.out.fam k0)
 have OLD:=hid H.out.old
 have LO:Hid (w0.heap.size≤w.heap.size):=hid H.out.fam.below.size
 have HG:=hid hg
 have c0:=y0.cell (i:=0) rfl
 rw[ho.out] at c0
 rw[hg] at E0 Z0 c0
 go_enter Tryz.func54,Tryz.ntmps54
 go_upto_region 1 with fail
 clear hg hW e0 y0 z0 k0 H
 go_wp2_with (first
  |(refine wpList_plain rfl fun K' hK'=>ld_env (E:=E) _ rfl rfl E0.out.lies (hK' _ _ ?_))
  |fail)
 refine (P.out _ _ H0.out).mono ?_
 rintro r w8 ⟨z,R8,rfl,e1,e2,nz,c8,o8,ol⟩
 have N8:=hid (And.intro e1 (And.intro e2 nz))
 have C8:=hid c8
 have Z8:=hid (Z0.out.on o8)
 have O8:=hid (O0.out.trans o8)
 have L8:Hid (g+1+1<W.heap.size∧w.heap.size≤W.heap.size):=hid ⟨Z0.out.lies.lt,O0.out.size⟩
 have OL:Hid (∀ n,Old n s→Old n s'):=hid fun n h=>ol n h
 clear e1 e2 nz c8 o8 ol c0
 dsimp only
 go_wp2_with (first
  |(refine wpList_plain rfl fun K' hK'=>st_told (t':=⟨t'.mv,t'.bg,t'.pt,t'.dn,z⟩) _ _ rfl rfl rfl Z8.out.lies rfl (fun w9 z1 z2=>hK' _ _ ?_))
  |fail)
 exact bodyPost_ret (told_told (t:=⟨t'.mv,t'.bg,t'.pt,t'.dn,z⟩) rfl rfl z1) rfl ⟨z,R8,rfl,N8.out.1,N8.out.2.1,(N8.out.2.2.far z2 L8.out.1).less L8.out.2,C8.out.aside z2 Z8.out.out (by have:=LO.out;have:=HG.out;omega) (OL.out _ OLD.out) (by have:=HG.out;omega),Cn.On.aside F0.out O8.out z2 (by have:=HG.out;omega),fun n h=>OL.out n h⟩
theorem further_end{y:Cl}(H:Hid (CM w0 E s R w))(ho:Hid (y.op=7))(hL:∀ i,i<E.bs.length→s.L i=[])(hh:Hid (Held E s))(hr:s.rs.length≤1000):Calls Tryz.prog 54 #[gp E.x,E.v,y.val] w (Went w0 E R w s (s.ended (rc 0)) ⟨true,false,false,true,rc 0⟩):=by
 obtain⟨W,hW,e0,y0,z0,k0⟩:=alloc3 w 32 46 51 E.cl y.cl [.bool false,.bool false,.bool false,.bool false,.int .i64 0,.slice none 0 0]
 obtain⟨g,hg⟩:∃ g,w.heap.size=g:=⟨_,rfl⟩
 have E0:=hid (Bo.new H.out.fam e0 (Nat.le_refl _))
 have Z0:=hid (Bo.new H.out.fam z0 (by omega))
 have F0:=hid H.out.fam
 have H0:=hid (H.out.next k0)
 have O0:Hid (On TT R w R W):=hid (On.below H.out.fam k0)
 have OLD:=hid H.out.old
 have LO:Hid (w0.heap.size≤w.heap.size):=hid H.out.fam.below.size
 have HG:=hid hg
 have c0:=y0.cell (i:=0) rfl
 rw[ho.out] at c0
 rw[hg] at E0 Z0 c0
 go_enter Tryz.func54,Tryz.ntmps54
 go_upto_region 1 with fail
 clear hg hW e0 y0 z0 k0 H
 go_wp2_with (first
  |(refine wpList_plain rfl fun K' hK'=>ld_env (E:=E) _ rfl rfl E0.out.lies (hK' _ _ ?_))
  |fail)
 refine (eempty_ok H0).mono ?_
 rintro r w1 ⟨⟨b,rfl,hb⟩,k1⟩
 have Z1:=hid (Z0.out.next k1)
 have O1:=hid (O0.out.trans (On.below H0.out.fam k1))
 have H1:=hid (H0.out.next k1)
 clear k1 H0 E0 Z0 O0 c0
 obtain rfl:b=true:=hb.2 hL
 clear hb
 dsimp only
 go_wp2_with (first
  |(refine wpList_plain rfl fun K' hK'=>wp_td0 rfl (hK' _ _ ?_))
  |(refine wpList_plain rfl fun K' hK'=>wp_rc 0 rfl (hK' _ _ ?_))
  |fail)
 refine (end_ok t0 (rc 0) H1 hh (hid VB.nil) (by simp) hr).mono ?_
 rintro r w8 ⟨z,R8,rfl,e1,e2,nz,c8,o8⟩
 have N8:=hid (And.intro e1 (And.intro e2 nz))
 have C8:=hid c8
 have Z8:=hid (Z1.out.on o8)
 have O8:=hid (O1.out.trans o8)
 have L8:Hid (g+1+1<w1.heap.size∧w.heap.size≤w1.heap.size):=hid ⟨Z1.out.lies.lt,O1.out.size⟩
 clear e1 e2 nz c8 o8
 dsimp only
 go_wp2_with (first
  |(refine wpList_plain rfl fun K' hK'=>st_told (t':=⟨true,false,false,true,z⟩) _ _ rfl rfl rfl Z8.out.lies rfl (fun w9 z1 z2=>hK' _ _ ?_))
  |fail)
 exact bodyPost_ret (told_told (t:=⟨true,false,false,true,z⟩) rfl rfl z1) rfl ⟨z,R8,rfl,N8.out.1,N8.out.2.1,(N8.out.2.2.far z2 L8.out.1).less L8.out.2,C8.out.aside z2 Z8.out.out (by have:=LO.out;have:=HG.out;omega) (old_ended OLD.out (fun a ha=>by cases ha)) (by have:=HG.out;omega),Cn.On.aside F0.out O8.out z2 (by have:=HG.out;omega),fun n h=>old_ended h (fun a ha=>by cases ha)⟩
end
end Cn
end Go.Proofs.YtfjlnniahfbdfaaGreat
