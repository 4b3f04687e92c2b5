/- A part of the proof. -/
import Derived.Test.YtfjlnniahfbdfaaGreatPbg
set_option linter.unusedVariables false
set_option maxHeartbeats 4000000
namespace Go.Proofs.YtfjlnniahfbdfaaGreat
open Lib (hid)
open Go.ChangeShapes Go.WideShapes Go.ChangeAt Go.RowKit
set_option maxRecDepth 100000
namespace Cn
open Small Foot Fm Ca
section
variable {w0 w w':World} {E:Ev} {s s':St} {R R':Nat→Nat→Prop}
theorem bm_ask(w:World)(n:Int)(y:Cl):(Instr.build 55 #[(0,.int .i64 1),(1,.int .i64 n),(2,y.val)]).run Tryz.prog w=.ok (Ms.val ⟨1,n,y,0,none⟩) w:=by kernel_rfl
inductive Po(s:St)(j:Nat)(m:Ms.M)(E:Ev):Value→St→Prop
 |ok (h1:s.sb j=false) (h2:(s.L j).length<E.cf.c):Po s j m E .nilIface (s.msg j m)
 |full (h1:s.sb j=false) (h2:E.cf.c≤(s.L j).length):Po s j m E (.iface 134 (.int .i64 4)) s
 |shut (h1:s.sb j=true):Po s j m E (.iface 134 (.int .i64 5)) s
theorem eput_po{j g:Nat}{m:Ms.M}{err:Value}{s1:St}(H:Hid (CM w0 E s R w))(e:E.bs[j]?=some g)(po:Po s j m E err s1)(hc:E.cf.c≤16):
  Calls Tryz.prog 123 #[E.v,.int .i64 j,Ms.val m] w fun r w'=>r=.returned err∧∃ R',CM w0 E s1 R' w'∧On TT R w R' w':=by
 cases po with
 |ok h1 h2=>exact eput_ok H e m h1 h2 hc
 |full h1 h2=>
  refine (eput_full H e m h1 h2).mono ?_
  rintro r w1 ⟨rfl,k⟩;exact⟨rfl,R,H.out.next k,On.below H.out.fam k⟩
 |shut h1=>
  refine (eput_shut H e m h1).mono ?_
  rintro r w1 ⟨rfl,k⟩;exact⟨rfl,R,H.out.next k,On.below H.out.fam k⟩
inductive Way(E:Ev)(s:St)(y:Cl)(t:Td):St→Td→Prop
 |closed (h:s.sd=true):Way E s y t (s.ended (rc 3)) ⟨true,t.bg,true,true,rc 3⟩
 |moving {i:Nat} {o:Ow.O} (h:s.sd=false) (hi:grpOf E.cf.r y=i) (ho:s.M[i]?=some o) (hm:o.m=true):Way E s y t s t
 |put {i j g:Nat} {o:Ow.O} (h:s.sd=false) (hi:grpOf E.cf.r y=i) (ho:s.M[i]?=some o) (hm:o.m=false) (hj:o.s=j) (hg:E.bs[j]?=some g) (h1:s.sb j=false) (h2:(s.L j).length<E.cf.c):Way E s y t {s.msg j ⟨1,E.num,y,0,none⟩ with g:={s.g with ask:=1}} {t with mv:=true}
 |full {i j g:Nat} {o:Ow.O} (h:s.sd=false) (hi:grpOf E.cf.r y=i) (ho:s.M[i]?=some o) (hm:o.m=false) (hj:o.s=j) (hg:E.bs[j]?=some g) (h1:s.sb j=false) (h2:E.cf.c≤(s.L j).length) (h3:y.op≠2):Way E s y t s t
 |fullTry {i j g:Nat} {o:Ow.O} (h:s.sd=false) (hi:grpOf E.cf.r y=i) (ho:s.M[i]?=some o) (hm:o.m=false) (hj:o.s=j) (hg:E.bs[j]?=some g) (h1:s.sb j=false) (h2:E.cf.c≤(s.L j).length) (h3:y.op=2):Way E s y t (s.ended (rc 2)) ⟨true,t.bg,true,true,rc 2⟩
 |shut {i j g:Nat} {o:Ow.O} (h:s.sd=false) (hi:grpOf E.cf.r y=i) (ho:s.M[i]?=some o) (hm:o.m=false) (hj:o.s=j) (hg:E.bs[j]?=some g) (h1:s.sb j=true):Way E s y t (s.ended (rc 3)) ⟨true,t.bg,true,true,rc 3⟩
theorem send_ok{t t':Td}{y:Cl}(H:Hid (CM w0 E s R w))(hh:Hid (Held E s))(hr:s.rs.length≤1000)(hc:E.cf.c≤16)(fc:Hid E.cf.Fit)(fy:Hid y.Fit)(ht:Hid (t.r=r0))(wy:Way E s y t s' t'):
  Calls Tryz.prog 88 #[gp E.x,E.v,y.val,t.v] w (Went w0 E R w s s' t'):=by
 obtain⟨W,hW,e0,y0,t0,z0,k0⟩:=alloc4 w 32 46 51 51 E.cl y.cl t.cl [.bool false,.bool false,.bool false,.bool false,.int .i64 0,.slice none 0 0]
 obtain⟨g,hg⟩:∃ g,w.heap.size=g:=⟨_,rfl⟩
 have E0:=hid (Bo.new H.out.fam e0 (Nat.le_refl _))
 have Y0:=hid (Bo.new H.out.fam y0 (by omega))
 have T0:=hid (Bo.new H.out.fam t0 (by omega))
 have Z0:=hid (Bo.new H.out.fam z0 (by omega))
 have F0:=hid H.out.fam
 have H0:=hid (H.out.next k0)
 have O0:Hid (On TT R w R W):=hid (On.below H.out.fam k0)
 have OLD:=hid H.out.old
 have LO:Hid (w0.heap.size≤w.heap.size):=hid H.out.fam.below.size
 have HG:=hid hg
 rw[hg] at E0 Y0 T0 Z0
 go_enter Tryz.func88,Tryz.ntmps88
 go_upto_region 1 with fail
 clear hg hW e0 y0 t0 z0 k0 H
 go_wp2_with (first
  |(refine wpList_plain rfl fun K' hK'=>ld_env (E:=E) _ rfl rfl E0.out.lies (hK' _ _ ?_))
  |fail)
 refine (closed_ok (hid H0.out.ctl)).mono ?_
 rintro r w1 ⟨rfl,k1⟩
 have E1:=hid (E0.out.next k1)
 have Y1:=hid (Y0.out.next k1)
 have T1:=hid (T0.out.next k1)
 have Z1:=hid (Z0.out.next k1)
 have O1:=hid (O0.out.trans (On.below H0.out.fam k1))
 have H1:=hid (H0.out.next k1)
 clear k1 E0 Y0 T0 Z0 O0 H0
 have S1:Hid (w.heap.size≤w1.heap.size):=hid O1.out.size
 have L1:Hid (g+1+1+1<w1.heap.size):=hid Z1.out.lies.lt
 by_cases hsd:s.sd=true
 ·have e:s'=s.ended (rc 3)∧t'=⟨true,t.bg,true,true,rc 3⟩:=by
   cases wy with
   |closed h=>exact⟨rfl,rfl⟩
   |moving h hi ho hm=>rw[hsd] at h;cases h
   |put h hi ho hm hj hg h1 h2=>rw[hsd] at h;cases h
   |full h hi ho hm hj hg h1 h2 h3=>rw[hsd] at h;cases h
   |fullTry h hi ho hm hj hg h1 h2 h3=>rw[hsd] at h;cases h
   |shut h hi ho hm hj hg h1=>rw[hsd] at h;cases h
  obtain⟨rfl,rfl⟩:=e;clear wy;rw[hsd];dsimp only
  go_wp2_with (first
   |(refine wpList_plain rfl fun K' hK'=>ld_told (t:=t) _ rfl rfl T1.out.lies (hK' _ _ ?_))
   |fail)
  refine (refuse_ok t 3 H1 hh hr).mono ?_
  rintro r w2 ⟨z,R2,rfl,e1,e2,nz,c2,o2,ol⟩;have N2:=hid (And.intro e1 (And.intro e2 nz));have C2:=hid c2;have Z2:=hid (Z1.out.on o2);have O2:=hid (O1.out.trans o2);clear e1 e2 nz c2 o2 ol;dsimp only
  go_wp2_with (first
   |(refine wpList_plain rfl fun K' hK'=>st_told (t':=⟨true,t.bg,true,true,z⟩) _ _ rfl rfl rfl Z2.out.lies rfl (fun w7 z1 z2=>hK' _ _ ?_))
   |fail)
  have ol:=old_ended (y:=rc 3) OLD.out (fun a ha=>by cases ha)
  exact bodyPost_ret (told_told (t:=⟨true,t.bg,true,true,z⟩) rfl rfl z1) rfl ⟨z,R2,rfl,N2.out.1,N2.out.2.1,(N2.out.2.2.far z2 L1.out).less S1.out,C2.out.aside z2 Z2.out.out (by have:=LO.out;have:=HG.out;omega) ol (by have:=HG.out;omega),Cn.On.aside F0.out O2.out z2 (by have:=HG.out;omega),fun n h=>old_ended h (fun a ha=>by cases ha)⟩
 ·have hsf:s.sd=false:=by simpa using hsd
  clear hsd;have hsd:=hsf;clear hsf;rw[hsd];dsimp only
  obtain⟨i,o,hi,ho⟩:∃ (i:Nat) (o:Ow.O),grpOf E.cf.r y=i∧s.M[i]?=some o:=by
   cases wy with
   |closed h=>rw[hsd] at h;cases h
   |moving h hi ho hm=>exact⟨_,_,hi,ho⟩
   |put h hi ho hm hj hg h1 h2=>exact⟨_,_,hi,ho⟩
   |full h hi ho hm hj hg h1 h2 h3=>exact⟨_,_,hi,ho⟩
   |fullTry h hi ho hm hj hg h1 h2 h3=>exact⟨_,_,hi,ho⟩
   |shut h hi ho hm hj hg h1=>exact⟨_,_,hi,ho⟩
  have GR:Hid (∀ w,Calls Tryz.prog 99 #[E.cf.val,y.val] w fun r w'=>r=.returned (.int .i64 i)∧Below w.heap.size w w'):=hid fun w=>hi▸Ca.group_ok E.cf y w fc.out fy.out
  have HM:Hid (∀ u:Later w1,Calls Tryz.prog 122 #[E.v,.int .i64 i] u.w fun r w'=>r=.returned (.tuple #[.int .i64 o.s,.bool (!o.m)])∧Below u.w.heap.size u.w w'):=hid fun u=>home_ok (hid (H1.out.table.next u.below)) ho
  go_upto_region 3 with fail
  have l0:=Later.cell (E1.out.lies.cell (i:=0) rfl);have l1:=Later.cell (E1.out.lies.cell (i:=1) rfl);have l2:=Later.cell (E1.out.lies.cell (i:=2) rfl);have l3:=Later.cell (E1.out.lies.cell (i:=3) rfl);have l4:=Later.cell (E1.out.lies.cell (i:=4) rfl);have l5:=Later.cell (E1.out.lies.cell (i:=5) rfl);have l6:=Later.cell (E1.out.lies.cell (i:=6) rfl);have l7:=Later.cell (E1.out.lies.cell (i:=7) rfl);have l8:=Later.cell (E1.out.lies.cell (i:=8) rfl);have l9:=Later.cell (E1.out.lies.cell (i:=9) rfl);have l10:=Later.cell (E1.out.lies.cell (i:=10) rfl);have d0:=Later.cell (Y1.out.lies.cell (i:=0) rfl);have d1:=Later.cell (Y1.out.lies.cell (i:=1) rfl);have d2:=Later.cell (Y1.out.lies.cell (i:=2) rfl);have d3:=Later.cell (Y1.out.lies.cell (i:=3) rfl);have d4:=Later.cell (Y1.out.lies.cell (i:=4) rfl);have d5:=Later.cell (Y1.out.lies.cell (i:=5) rfl);have d6:=Later.cell (Y1.out.lies.cell (i:=6) rfl);have HO:=hid (And.intro hi ho);have HS:=hid hsd;clear hi ho hsd;refine wp_region_later (by kernel_rfl) (by kernel_rfl) ?_
  repeat (go_big_quiet_step (first
   |(go_at_call 99;with_reducible exact Later.call _ (GR.out _))
   |(go_at_call 122;with_reducible exact Later.call _ (HM.out _))))
  refine wpQuiet_nil ?_
  rintro _ ⟨u,rfl⟩;have k2:=u.below;have E2:=hid (E1.out.next k2);have Y2:=hid (Y1.out.next k2);have T2:=hid (T1.out.next k2);have Z2:=hid (Z1.out.next k2);have O2:=hid (O1.out.trans (On.below H1.out.fam k2));have H2:=hid (H1.out.next k2);have S2:Hid (w.heap.size≤u.w.heap.size):=hid O2.out.size;have L2:Hid (g+1+1+1<u.w.heap.size):=hid Z2.out.lies.lt;clear k2 E1 Y1 T1 Z1 O1 H1 l0 l1 l2 l3 l4 l5 l6 l7 l8 l9 l10 d0 d1 d2 d3 d4 d5 d6 HM GR S1 L1;generalize u.w=w2 at E2 Y2 T2 Z2 O2 H2 S2 L2 ⊢;cases wy with
  |closed h=>rw[HS.out] at h;cases h
  |@moving i' o' h hi ho hm=>
   have ee:o'=o:=by have:=HO.out.2;rw[show i'=i from Int.ofNat.inj (hi.symm.trans HO.out.1)] at ho;rw[ho] at this;exact Option.some.inj this
   subst ee;rw[hm];clear h hi ho hm HO HS
   go_wp2_with (first
    |(refine wpList_plain rfl fun K' hK'=>ld_told (t:=t) _ rfl rfl T2.out.lies (hK' _ _ ?_))
    |(refine wpList_plain rfl fun K' hK'=>st_told (t':=t) _ _ rfl rfl rfl Z2.out.lies rfl (fun w7 z1 z2=>hK' _ _ ?_))
    |fail)
   exact bodyPost_ret (told_told (t:=t) rfl rfl z1) rfl ⟨t.r,R,rfl,rfl,rfl,by rw[ht.out];exact Nw.zero,H2.out.aside z2 Z2.out.out (by have:=LO.out;have:=HG.out;omega) OLD.out (by have:=HG.out;omega),Cn.On.aside F0.out O2.out z2 (by have:=HG.out;omega),fun n h=>h⟩
  |@put i' j gb o' h hi ho hm hj hg h1 h2=>
   obtain rfl:i'=i:=Int.ofNat.inj (hi.symm.trans HO.out.1);have ee:o'=o:=by have:=HO.out.2;rw[ho] at this;exact Option.some.inj this
   subst ee;rw[hm,hj];have PO:=hid (Po.ok (m:=⟨1,E.num,y,0,none⟩) (E:=E) h1 h2);clear h hi ho hm hj h1 h2 HO HS;have q2:=H2.out.client;obtain⟨cv,rv,q2,-⟩:=q2;have c0:=Later.cell (q2.lies.cell (i:=0) rfl);clear q2;go_upto_region 6 with fail
   have bm:=fun w=>bm_ask w E.num y
   have l0:=Later.cell (E2.out.lies.cell (i:=0) rfl);have l1:=Later.cell (E2.out.lies.cell (i:=1) rfl);have l2:=Later.cell (E2.out.lies.cell (i:=2) rfl);have l3:=Later.cell (E2.out.lies.cell (i:=3) rfl);have l4:=Later.cell (E2.out.lies.cell (i:=4) rfl);have l5:=Later.cell (E2.out.lies.cell (i:=5) rfl);have l6:=Later.cell (E2.out.lies.cell (i:=6) rfl);have l7:=Later.cell (E2.out.lies.cell (i:=7) rfl);have l8:=Later.cell (E2.out.lies.cell (i:=8) rfl);have l9:=Later.cell (E2.out.lies.cell (i:=9) rfl);have l10:=Later.cell (E2.out.lies.cell (i:=10) rfl);have d0:=Later.cell (Y2.out.lies.cell (i:=0) rfl);have d1:=Later.cell (Y2.out.lies.cell (i:=1) rfl);have d2:=Later.cell (Y2.out.lies.cell (i:=2) rfl);have d3:=Later.cell (Y2.out.lies.cell (i:=3) rfl);have d4:=Later.cell (Y2.out.lies.cell (i:=4) rfl);have d5:=Later.cell (Y2.out.lies.cell (i:=5) rfl);have d6:=Later.cell (Y2.out.lies.cell (i:=6) rfl);refine wp_region_later_tail 8 (by kernel_rfl) (by kernel_rfl) ?_
   simp only[List.take_succ_cons,List.take_zero,List.drop_succ_cons,List.drop_zero]
   repeat (go_big_quiet_step (fail))
   refine wpQuiet_nil ?_
   rintro _ ⟨u,rfl⟩;have k3:=u.below;have Y3:=hid (Y2.out.next k3);have T3:=hid (T2.out.next k3);have Z3:=hid (Z2.out.next k3);have O3:=hid (O2.out.trans (On.below H2.out.fam k3));have H3:=hid (H2.out.next k3);clear k3 E2 Y2 T2 Z2 O2 H2 l0 l1 l2 l3 l4 l5 l6 l7 l8 l9 l10 d0 d1 d2 d3 d4 d5 d6 S2 L2 c0 bm;generalize u.w=w3 at Y3 T3 Z3 O3 H3 ⊢;go_wp2_with fail
   refine (eput_po H3 hg PO.out hc).mono ?_
   rintro r w4 ⟨rfl,R4,c4,o4⟩;have Y4:=hid (Y3.out.on o4);have T4:=hid (T3.out.on o4);have Z4:=hid (Z3.out.on o4);have O4:=hid (O3.out.trans o4);have H4:=hid c4;clear c4 o4 Y3 T3 Z3 O3 H3;dsimp only;obtain⟨cv,rv,q4,hr4⟩:=H4.out.client;have c4:=q4.lies.cell (i:=4) rfl;have f4:=q4.lies.open_ 4;have Q4:=hid q4;have HR4:=hid hr4;clear q4 hr4;go_upto_region 9 with fail
   obtain⟨q5,m5⟩:=Q4.out.put (g':={s.g with ask:=1}) 4 (.int .i64 1) rfl
   have m5':Moves (R4 18) (CF E.x cv rv) w4 (w4.setCell ⟨E.x,4,none⟩ (.int .i64 1)):=by rw[HR4.out];exact m5
   obtain⟨R5,c5,o5⟩:=H4.out.on18 q5 m5' (fun r hr=>.inl hr) (.inl rfl) (.inr rfl)
   have H5:=hid c5;have T5:=hid (T4.out.on o5);have Z5:=hid (Z4.out.on o5);have O5:=hid (O4.out.trans o5);clear q5 m5 m5' c5 o5 c4 f4 Q4 HR4 H4 T4 Z4 O4 Y4;generalize w4.setCell ⟨E.x,4,none⟩ (.int .i64 1)=w5 at H5 T5 Z5 O5 ⊢;have t0:=T5.out.lies.cell (i:=0) rfl;have f0:=T5.out.lies.open_ 0;go_upto_region 14 with fail
   have g6:=grown_set w5 (g+1+1) 0 (.bool true);have H6:=hid (H5.out.aside g6 T5.out.out (by have:=LO.out;have:=HG.out;omega) OLD.out (by have:=HG.out;omega))
   have T6:Hid (Bo R5 (w5.setCell ⟨g+1+1,0,none⟩ (.bool true)) (g+1+1) 51 (Td.cl {t with mv:=true})):=hid ⟨T5.out.lies.put 0 (.bool true),T5.out.out⟩
   have Z6:=hid (Z5.out.far g6 (by omega))
   have O6:=hid (Cn.On.aside F0.out O5.out g6 (by have:=HG.out;omega))
   clear g6 H5 T5 Z5 O5 t0 f0;generalize w5.setCell ⟨g+1+1,0,none⟩ (.bool true)=w6 at H6 T6 Z6 O6 ⊢
   go_wp2_with (first
    |(refine wpList_plain rfl fun K' hK'=>ld_told (t:={t with mv:=true}) _ rfl rfl T6.out.lies (hK' _ _ ?_))
    |(refine wpList_plain rfl fun K' hK'=>st_told (t':={t with mv:=true}) _ _ rfl rfl rfl Z6.out.lies rfl (fun w7 z1 z2=>hK' _ _ ?_))
    |fail)
   exact bodyPost_ret (told_told (t:={t with mv:=true}) rfl rfl z1) rfl ⟨t.r,R5,rfl,rfl,rfl,by rw[ht.out];exact Nw.zero,H6.out.aside z2 Z6.out.out (by have:=LO.out;have:=HG.out;omega) OLD.out (by have:=HG.out;omega),Cn.On.aside F0.out O6.out z2 (by have:=HG.out;omega),fun n h=>h⟩
  |@full i' j gb o' h hi ho hm hj hg h1 h2 h3=>
   obtain rfl:i'=i:=Int.ofNat.inj (hi.symm.trans HO.out.1);have ee:o'=o:=by have:=HO.out.2;rw[ho] at this;exact Option.some.inj this
   subst ee;rw[hm,hj];have q3:(y.op == 2)=false:=by simpa using h3
   have PO:=hid (Po.full (m:=⟨1,E.num,y,0,none⟩) (E:=E) h1 h2);clear h3 h hi ho hm hj h1 h2 HO HS;have q2:=H2.out.client;obtain⟨cv,rv,q2,-⟩:=q2;have c0:=Later.cell (q2.lies.cell (i:=0) rfl);clear q2;go_upto_region 6 with fail
   have bm:=fun w=>bm_ask w E.num y
   have l0:=Later.cell (E2.out.lies.cell (i:=0) rfl);have l1:=Later.cell (E2.out.lies.cell (i:=1) rfl);have l2:=Later.cell (E2.out.lies.cell (i:=2) rfl);have l3:=Later.cell (E2.out.lies.cell (i:=3) rfl);have l4:=Later.cell (E2.out.lies.cell (i:=4) rfl);have l5:=Later.cell (E2.out.lies.cell (i:=5) rfl);have l6:=Later.cell (E2.out.lies.cell (i:=6) rfl);have l7:=Later.cell (E2.out.lies.cell (i:=7) rfl);have l8:=Later.cell (E2.out.lies.cell (i:=8) rfl);have l9:=Later.cell (E2.out.lies.cell (i:=9) rfl);have l10:=Later.cell (E2.out.lies.cell (i:=10) rfl);have d0:=Later.cell (Y2.out.lies.cell (i:=0) rfl);have d1:=Later.cell (Y2.out.lies.cell (i:=1) rfl);have d2:=Later.cell (Y2.out.lies.cell (i:=2) rfl);have d3:=Later.cell (Y2.out.lies.cell (i:=3) rfl);have d4:=Later.cell (Y2.out.lies.cell (i:=4) rfl);have d5:=Later.cell (Y2.out.lies.cell (i:=5) rfl);have d6:=Later.cell (Y2.out.lies.cell (i:=6) rfl);refine wp_region_later_tail 8 (by kernel_rfl) (by kernel_rfl) ?_
   simp only[List.take_succ_cons,List.take_zero,List.drop_succ_cons,List.drop_zero]
   repeat (go_big_quiet_step (fail))
   refine wpQuiet_nil ?_
   rintro _ ⟨u,rfl⟩;have k3:=u.below;have Y3:=hid (Y2.out.next k3);have T3:=hid (T2.out.next k3);have Z3:=hid (Z2.out.next k3);have O3:=hid (O2.out.trans (On.below H2.out.fam k3));have H3:=hid (H2.out.next k3);clear k3 E2 Y2 T2 Z2 O2 H2 l0 l1 l2 l3 l4 l5 l6 l7 l8 l9 l10 d0 d1 d2 d3 d4 d5 d6 S2 L2 c0 bm;generalize u.w=w3 at Y3 T3 Z3 O3 H3 ⊢;go_wp2_with fail
   refine (eput_po H3 hg PO.out hc).mono ?_
   rintro r w4 ⟨rfl,R4,c4,o4⟩;have Y4:=hid (Y3.out.on o4);have T4:=hid (T3.out.on o4);have Z4:=hid (Z3.out.on o4);have O4:=hid (O3.out.trans o4);have H4:=hid c4;clear c4 o4 Y3 T3 Z3 O3 H3;dsimp only;have d0:=Y4.out.lies.cell (i:=0) rfl;have e0:=fun w=>Errs.eql_code w 4 5
   go_wp2_with fail
   refine (is_other 4 5 rfl w4).mono ?_
   rintro r w5 ⟨rfl,rfl⟩;dsimp only;go_wp2_with fail
   refine (is_same 4 w4).mono ?_
   rintro r w5 ⟨rfl,rfl⟩;dsimp only
   go_wp2_with (first
    |(refine wpList_plain rfl fun K' hK'=>ld_told (t:=t) _ rfl rfl T4.out.lies (hK' _ _ ?_))
    |(refine wpList_plain rfl fun K' hK'=>st_told (t':=t) _ _ rfl rfl rfl Z4.out.lies rfl (fun w7 z1 z2=>hK' _ _ ?_))
    |fail)
   exact bodyPost_ret (told_told (t:=t) rfl rfl z1) rfl ⟨t.r,R4,rfl,rfl,rfl,by rw[ht.out];exact Nw.zero,H4.out.aside z2 Z4.out.out (by have:=LO.out;have:=HG.out;omega) OLD.out (by have:=HG.out;omega),Cn.On.aside F0.out O4.out z2 (by have:=HG.out;omega),fun n h=>h⟩
  |@fullTry i' j gb o' h hi ho hm hj hg h1 h2 h3=>
   obtain rfl:i'=i:=Int.ofNat.inj (hi.symm.trans HO.out.1);have ee:o'=o:=by have:=HO.out.2;rw[ho] at this;exact Option.some.inj this
   subst ee;rw[hm,hj];have q3:(y.op == 2)=true:=by simp[h3]
   have PO:=hid (Po.full (m:=⟨1,E.num,y,0,none⟩) (E:=E) h1 h2);clear h3 h hi ho hm hj h1 h2 HO HS;have q2:=H2.out.client;obtain⟨cv,rv,q2,-⟩:=q2;have c0:=Later.cell (q2.lies.cell (i:=0) rfl);clear q2;go_upto_region 6 with fail
   have bm:=fun w=>bm_ask w E.num y
   have l0:=Later.cell (E2.out.lies.cell (i:=0) rfl);have l1:=Later.cell (E2.out.lies.cell (i:=1) rfl);have l2:=Later.cell (E2.out.lies.cell (i:=2) rfl);have l3:=Later.cell (E2.out.lies.cell (i:=3) rfl);have l4:=Later.cell (E2.out.lies.cell (i:=4) rfl);have l5:=Later.cell (E2.out.lies.cell (i:=5) rfl);have l6:=Later.cell (E2.out.lies.cell (i:=6) rfl);have l7:=Later.cell (E2.out.lies.cell (i:=7) rfl);have l8:=Later.cell (E2.out.lies.cell (i:=8) rfl);have l9:=Later.cell (E2.out.lies.cell (i:=9) rfl);have l10:=Later.cell (E2.out.lies.cell (i:=10) rfl);have d0:=Later.cell (Y2.out.lies.cell (i:=0) rfl);have d1:=Later.cell (Y2.out.lies.cell (i:=1) rfl);have d2:=Later.cell (Y2.out.lies.cell (i:=2) rfl);have d3:=Later.cell (Y2.out.lies.cell (i:=3) rfl);have d4:=Later.cell (Y2.out.lies.cell (i:=4) rfl);have d5:=Later.cell (Y2.out.lies.cell (i:=5) rfl);have d6:=Later.cell (Y2.out.lies.cell (i:=6) rfl);refine wp_region_later_tail 8 (by kernel_rfl) (by kernel_rfl) ?_
   simp only[List.take_succ_cons,List.take_zero,List.drop_succ_cons,List.drop_zero]
   repeat (go_big_quiet_step (fail))
   refine wpQuiet_nil ?_
   rintro _ ⟨u,rfl⟩;have k3:=u.below;have Y3:=hid (Y2.out.next k3);have T3:=hid (T2.out.next k3);have Z3:=hid (Z2.out.next k3);have O3:=hid (O2.out.trans (On.below H2.out.fam k3));have H3:=hid (H2.out.next k3);clear k3 E2 Y2 T2 Z2 O2 H2 l0 l1 l2 l3 l4 l5 l6 l7 l8 l9 l10 d0 d1 d2 d3 d4 d5 d6 S2 L2 c0 bm;generalize u.w=w3 at Y3 T3 Z3 O3 H3 ⊢;go_wp2_with fail
   refine (eput_po H3 hg PO.out hc).mono ?_
   rintro r w4 ⟨rfl,R4,c4,o4⟩;have Y4:=hid (Y3.out.on o4);have T4:=hid (T3.out.on o4);have Z4:=hid (Z3.out.on o4);have O4:=hid (O3.out.trans o4);have H4:=hid c4;clear c4 o4 Y3 T3 Z3 O3 H3;dsimp only;have d0:=Y4.out.lies.cell (i:=0) rfl;have e0:=fun w=>Errs.eql_code w 4 5
   go_wp2_with fail
   refine (is_other 4 5 rfl w4).mono ?_
   rintro r w5 ⟨rfl,rfl⟩;dsimp only;go_wp2_with fail
   refine (is_same 4 w4).mono ?_
   rintro r w5 ⟨rfl,rfl⟩;dsimp only
   go_wp2_with (first
    |(refine wpList_plain rfl fun K' hK'=>ld_told (t:=t) _ rfl rfl T4.out.lies (hK' _ _ ?_))
    |fail)
   refine (refuse_ok t 2 H4 hh hr).mono ?_
   rintro r w6 ⟨z,R6,rfl,e1,e2,nz,c6,o6,ol⟩;have N6:=hid (And.intro e1 (And.intro e2 nz));have C6:=hid c6;have Z6:=hid (Z4.out.on o6);have O6:=hid (O4.out.trans o6);have L6:Hid (g+1+1+1<w4.heap.size∧w.heap.size≤w4.heap.size):=hid ⟨Z4.out.lies.lt,O4.out.size⟩;clear e1 e2 nz c6 o6 ol;dsimp only
   go_wp2_with (first
    |(refine wpList_plain rfl fun K' hK'=>st_told (t':=⟨true,t.bg,true,true,z⟩) _ _ rfl rfl rfl Z6.out.lies rfl (fun w7 z1 z2=>hK' _ _ ?_))
    |fail)
   have ol:=old_ended (y:=rc 2) OLD.out (fun a ha=>by cases ha)
   exact bodyPost_ret (told_told (t:=⟨true,t.bg,true,true,z⟩) rfl rfl z1) rfl ⟨z,R6,rfl,N6.out.1,N6.out.2.1,(N6.out.2.2.far z2 L6.out.1).less L6.out.2,C6.out.aside z2 Z6.out.out (by have:=LO.out;have:=HG.out;omega) ol (by have:=HG.out;omega),Cn.On.aside F0.out O6.out z2 (by have:=HG.out;omega),fun n h=>old_ended h (fun a ha=>by cases ha)⟩
  |@shut i' j gb o' h hi ho hm hj hg h1=>
   obtain rfl:i'=i:=Int.ofNat.inj (hi.symm.trans HO.out.1);have ee:o'=o:=by have:=HO.out.2;rw[ho] at this;exact Option.some.inj this
   subst ee;rw[hm,hj];have PO:=hid (Po.shut (m:=⟨1,E.num,y,0,none⟩) (E:=E) h1);clear h hi ho hm hj h1 HO HS;have q2:=H2.out.client;obtain⟨cv,rv,q2,-⟩:=q2;have c0:=Later.cell (q2.lies.cell (i:=0) rfl);clear q2;go_upto_region 6 with fail
   have bm:=fun w=>bm_ask w E.num y
   have l0:=Later.cell (E2.out.lies.cell (i:=0) rfl);have l1:=Later.cell (E2.out.lies.cell (i:=1) rfl);have l2:=Later.cell (E2.out.lies.cell (i:=2) rfl);have l3:=Later.cell (E2.out.lies.cell (i:=3) rfl);have l4:=Later.cell (E2.out.lies.cell (i:=4) rfl);have l5:=Later.cell (E2.out.lies.cell (i:=5) rfl);have l6:=Later.cell (E2.out.lies.cell (i:=6) rfl);have l7:=Later.cell (E2.out.lies.cell (i:=7) rfl);have l8:=Later.cell (E2.out.lies.cell (i:=8) rfl);have l9:=Later.cell (E2.out.lies.cell (i:=9) rfl);have l10:=Later.cell (E2.out.lies.cell (i:=10) rfl);have d0:=Later.cell (Y2.out.lies.cell (i:=0) rfl);have d1:=Later.cell (Y2.out.lies.cell (i:=1) rfl);have d2:=Later.cell (Y2.out.lies.cell (i:=2) rfl);have d3:=Later.cell (Y2.out.lies.cell (i:=3) rfl);have d4:=Later.cell (Y2.out.lies.cell (i:=4) rfl);have d5:=Later.cell (Y2.out.lies.cell (i:=5) rfl);have d6:=Later.cell (Y2.out.lies.cell (i:=6) rfl);refine wp_region_later_tail 8 (by kernel_rfl) (by kernel_rfl) ?_
   simp only[List.take_succ_cons,List.take_zero,List.drop_succ_cons,List.drop_zero]
   repeat (go_big_quiet_step (fail))
   refine wpQuiet_nil ?_
   rintro _ ⟨u,rfl⟩;have k3:=u.below;have Y3:=hid (Y2.out.next k3);have T3:=hid (T2.out.next k3);have Z3:=hid (Z2.out.next k3);have O3:=hid (O2.out.trans (On.below H2.out.fam k3));have H3:=hid (H2.out.next k3);clear k3 E2 Y2 T2 Z2 O2 H2 l0 l1 l2 l3 l4 l5 l6 l7 l8 l9 l10 d0 d1 d2 d3 d4 d5 d6 S2 L2 c0 bm;generalize u.w=w3 at Y3 T3 Z3 O3 H3 ⊢;go_wp2_with fail
   refine (eput_po H3 hg PO.out hc).mono ?_
   rintro r w4 ⟨rfl,R4,c4,o4⟩;have Y4:=hid (Y3.out.on o4);have T4:=hid (T3.out.on o4);have Z4:=hid (Z3.out.on o4);have O4:=hid (O3.out.trans o4);have H4:=hid c4;clear c4 o4 Y3 T3 Z3 O3 H3;dsimp only;go_wp2_with fail
   refine (is_same 5 w4).mono ?_
   rintro r w5 ⟨rfl,rfl⟩;dsimp only
   go_wp2_with (first
    |(refine wpList_plain rfl fun K' hK'=>ld_told (t:=t) _ rfl rfl T4.out.lies (hK' _ _ ?_))
    |fail)
   refine (refuse_ok t 3 H4 hh hr).mono ?_
   rintro r w6 ⟨z,R6,rfl,e1,e2,nz,c6,o6,ol⟩;have N6:=hid (And.intro e1 (And.intro e2 nz));have C6:=hid c6;have Z6:=hid (Z4.out.on o6);have O6:=hid (O4.out.trans o6);have L6:Hid (g+1+1+1<w4.heap.size∧w.heap.size≤w4.heap.size):=hid ⟨Z4.out.lies.lt,O4.out.size⟩;clear e1 e2 nz c6 o6 ol;dsimp only
   go_wp2_with (first
    |(refine wpList_plain rfl fun K' hK'=>st_told (t':=⟨true,t.bg,true,true,z⟩) _ _ rfl rfl rfl Z6.out.lies rfl (fun w7 z1 z2=>hK' _ _ ?_))
    |fail)
   have ol:=old_ended (y:=rc 3) OLD.out (fun a ha=>by cases ha)
   exact bodyPost_ret (told_told (t:=⟨true,t.bg,true,true,z⟩) rfl rfl z1) rfl ⟨z,R6,rfl,N6.out.1,N6.out.2.1,(N6.out.2.2.far z2 L6.out.1).less L6.out.2,C6.out.aside z2 Z6.out.out (by have:=LO.out;have:=HG.out;omega) ol (by have:=HG.out;omega),Cn.On.aside F0.out O6.out z2 (by have:=HG.out;omega),fun n h=>old_ended h (fun a ha=>by cases ha)⟩
end
end Cn
end Go.Proofs.YtfjlnniahfbdfaaGreat
