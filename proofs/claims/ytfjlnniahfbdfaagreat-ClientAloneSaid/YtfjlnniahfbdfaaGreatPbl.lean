/- A part of the proof. -/
import Derived.Test.YtfjlnniahfbdfaaGreatPbi
set_option linter.unusedVariables false
set_option maxHeartbeats 4000000
namespace Go.Proofs.YtfjlnniahfbdfaaGreat
open Lib (hid)
open Go.ChangeShapes Go.WideShapes Go.ChangeAt Go.RowKit
set_option maxRecDepth 100000
namespace Cn
open Small Foot Fm Ca
abbrev St.hold(s:St)(E:Ev):St:={s with hk:=E.num,hd:=true,g:={s.g with held:=some E.gc}}
section
variable {w0 w w':World} {E:Ev} {s s':St} {R R':Nat→Nat→Prop}
theorem start_closed{t:Td}{y:Cl}(H:Hid (CM w0 E s R w))(hr:s.rs.length≤1000)(hf:Hid (s.hd=false))(hs:Hid (s.sd=true)):Calls Tryz.prog 53 #[gp E.x,E.v,y.val,t.v] w (Went w0 E R w s ((s.hold E).ended (rc 3)) ⟨true,t.bg,true,true,rc 3⟩):=by
 obtain⟨W,hW,e0,y0,t0,z0,k0⟩:=alloc4 w 32 46 51 51 E.cl y.cl t.cl [.bool false,.bool false,.bool false,.bool false,.int .i64 0,.slice none 0 0]
 obtain⟨g,hg⟩:∃ g,w.heap.size=g:=⟨_,rfl⟩
 have E0:=hid (Bo.new H.out.fam e0 (Nat.le_refl _))
 have Y0:=hid (Bo.new H.out.fam y0 (by omega))
 have T0:=hid (Bo.new H.out.fam t0 (by omega))
 have Z0:=hid (Bo.new H.out.fam z0 (by omega))
 have F0:=hid H.out.fam
 have H0:=hid (H.out.next k0)
 have O0:Hid (On TT R w R W):=hid (On.below H.out.fam k0)
 have OLD:=hid H.out.old
 have LO:Hid (w0.heap.size≤w.heap.size):=hid H.out.fam.below.size
 have HG:=hid hg
 rw[hg] at E0 Y0 T0 Z0
 go_enter Tryz.func53,Tryz.ntmps53
 go_upto_region 1 with fail
 clear hg hW e0 y0 t0 z0 k0 H
 obtain⟨cv,rv,q0,-⟩:=H0.out.client
 have c0:=Later.cell (q0.lies.cell (i:=0) rfl)
 clear q0
 have l0:=Later.cell (E0.out.lies.cell (i:=0) rfl)
 have l1:=Later.cell (E0.out.lies.cell (i:=1) rfl)
 have l2:=Later.cell (E0.out.lies.cell (i:=2) rfl)
 have l3:=Later.cell (E0.out.lies.cell (i:=3) rfl)
 have l4:=Later.cell (E0.out.lies.cell (i:=4) rfl)
 have l5:=Later.cell (E0.out.lies.cell (i:=5) rfl)
 have l6:=Later.cell (E0.out.lies.cell (i:=6) rfl)
 have l7:=Later.cell (E0.out.lies.cell (i:=7) rfl)
 have l8:=Later.cell (E0.out.lies.cell (i:=8) rfl)
 have l9:=Later.cell (E0.out.lies.cell (i:=9) rfl)
 have l10:=Later.cell (E0.out.lies.cell (i:=10) rfl)
 refine wp_region_later_tail 5 (by kernel_rfl) (by kernel_rfl) ?_
 simp only[List.take_succ_cons,List.take_zero,List.drop_succ_cons,List.drop_zero]
 repeat (go_big_quiet_step (fail))
 refine wpQuiet_nil ?_
 rintro _ ⟨u,rfl⟩
 have k1:=u.below
 have E1:=hid (E0.out.next k1)
 have Y1:=hid (Y0.out.next k1)
 have T1:=hid (T0.out.next k1)
 have Z1:=hid (Z0.out.next k1)
 have O1:=hid (O0.out.trans (On.below H0.out.fam k1))
 have H1:=hid (H0.out.next k1)
 clear k1 l0 l1 l2 l3 l4 l5 l6 l7 l8 l9 l10 c0 E0 Y0 T0 Z0 O0 H0
 generalize u.w=w1 at E1 Y1 T1 Z1 O1 H1 ⊢
 go_wp2_with fail
 have CT:=hid H1.out.ctl
 rw[hf.out] at CT
 refine (hold_free E.num CT).mono ?_
 rintro r w2 ⟨rfl,i2,v2⟩
 obtain⟨R2,h2,o2⟩:=H1.out.on17 i2 v2
 have H2:=hid h2
 have E2:=hid (E1.out.on o2)
 have Y2:=hid (Y1.out.on o2)
 have T2:=hid (T1.out.on o2)
 have Z2:=hid (Z1.out.on o2)
 have O2:=hid (O1.out.trans o2)
 clear i2 v2 h2 o2 CT H1 E1 Y1 T1 Z1 O1
 have l8:=E2.out.lies.cell (i:=8) rfl
 obtain⟨cv,rv,q2,-⟩:=H2.out.client
 have c7:=q2.lies.cell (i:=7) rfl
 have p7:=q2.lies.open_ 7
 clear q2
 dsimp only
 go_upto_region 4 with fail
 obtain⟨R3,h3,o3⟩:=H2.out.cell (j:=7) (v:=gp E.gc) (g':={s.g with held:=some E.gc}) (fun _ _=>rfl) rfl (.inr rfl)
 have H3:=hid h3
 have E3:=hid (E2.out.on o3)
 have Y3:=hid (Y2.out.on o3)
 have T3:=hid (T2.out.on o3)
 have Z3:=hid (Z2.out.on o3)
 have O3:=hid (O2.out.trans o3)
 clear h3 o3 l8 c7 p7 H2 E2 Y2 T2 Z2 O2
 generalize w2.setCell ⟨E.x,7,none⟩ (gp E.gc)=w3 at H3 E3 Y3 T3 Z3 O3 ⊢
 go_wp2_with (first
  |(refine wpList_plain rfl fun K' hK'=>ld_env (E:=E) _ rfl rfl E3.out.lies (hK' _ _ ?_))
  |fail)
 refine (closed_ok (hid H3.out.ctl)).mono ?_
 rintro r w4 ⟨rfl,k4⟩
 have H4:=hid (H3.out.next k4)
 have T4:=hid (T3.out.next k4)
 have E4:=hid (E3.out.next k4)
 have Y4:=hid (Y3.out.next k4)
 have Z4:=hid (Z3.out.next k4)
 have O4:=hid (O3.out.trans (On.below H3.out.fam k4))
 clear k4 H3 T3 E3 Y3 Z3 O3
 dsimp only
 rw[hs.out]
 go_wp2_with (first
  |(refine wpList_plain rfl fun K' hK'=>ld_told (t:=t) _ rfl rfl T4.out.lies (hK' _ _ ?_))
  |fail)
 refine (refuse_ok t 3 H4 (hid (.inr ⟨rfl,rfl,rfl⟩)) hr).mono ?_
 rintro r w8 ⟨z,R8,rfl,e1,e2,nz,c8,o8,ol⟩
 have N8:=hid (And.intro e1 (And.intro e2 nz))
 have C8:=hid c8
 have Z8:=hid (Z4.out.on o8)
 have O8:=hid (O4.out.trans o8)
 have L8:Hid (g+1+1+1<w4.heap.size∧w.heap.size≤w4.heap.size):=hid ⟨Z4.out.lies.lt,O4.out.size⟩
 have OL:Hid (∀ n,Old n s→Old n _):=hid fun n h=>ol n h
 clear e1 e2 nz c8 o8 ol
 dsimp only
 go_wp2_with (first
  |(refine wpList_plain rfl fun K' hK'=>st_told (t':=⟨true,t.bg,true,true,z⟩) _ _ rfl rfl rfl Z8.out.lies rfl (fun w9 z1 z2=>hK' _ _ ?_))
  |fail)
 exact bodyPost_ret (told_told (t:=⟨true,t.bg,true,true,z⟩) rfl rfl z1) rfl ⟨z,R8,rfl,N8.out.1,N8.out.2.1,(N8.out.2.2.far z2 L8.out.1).less L8.out.2,C8.out.aside z2 Z8.out.out (by have:=LO.out;have:=HG.out;omega) (OL.out _ OLD.out) (by have:=HG.out;omega),Cn.On.aside F0.out O8.out z2 (by have:=HG.out;omega),fun n h=>OL.out n h⟩
end
end Cn
end Go.Proofs.YtfjlnniahfbdfaaGreat
