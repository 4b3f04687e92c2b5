/- A part of the proof. -/
import Derived.Test.YtfjlnniahfbdfaaGreatPbl
set_option linter.unusedVariables false
set_option maxHeartbeats 4000000
namespace Go.Proofs.YtfjlnniahfbdfaaGreat
open Lib (hid)
open Go.ChangeShapes Go.WideShapes Go.ChangeAt Go.RowKit
set_option maxRecDepth 100000
namespace Cn
open Small Foot Fm Ca
section
variable {w0 w w':World} {E:Ev} {s s':St} {R R':Nat→Nat→Prop}
theorem stv_some(g:Nat):stv (some g)=gp g:=rfl
theorem blt(h:CM w0 E s R w){i g:Nat}(e:E.bs[i]?=some g):i<8:=by have:=(List.getElem?_eq_some_iff.1 e).1;have:=h.few;omega
theorem CM.onNew{M':List Ow.O}{hh:Nat}(h:CM w0 E s R w)(hn:s.g.hand=none)(q:Ow.Is w' E.b E.cf.h M')(k:Moves (Ow.Fp E.b) (Or2 (Ow.Fp E.b) (Hd.At hh)) w w')(lo:w.heap.size≤hh):
  ∃ R',CM w0 E {s with M:=M'} R' w'∧On TT R w R' w'∧R' 19=Hd.At hh:=by
 have k2:Moves (Or2 (R 16) (R 19)) (Or2 (Ow.Fp E.b) (Hd.At hh)) w w':=by
  rw[h.r16];exact⟨k.os,k.tape,k.output,k.size,fun j hj hn=>k.block j hj fun f=>hn (.inl f),fun j hj=>⟨(k.new j hj).1.imp .inl id,(k.new j hj).2⟩⟩
 have ap:Apart (Ow.Fp E.b) (Hd.At hh):=fun j h1 h2=>by have:=h.table.in j h1;have:j=hh:=h2;omega
 have o:On TT R w (rset (rset R 16 (Ow.Fp E.b)) 19 (Hd.At hh)) w':=On.two h.fam k2 (.inr (by decide)) (.inr (by decide))
 have K:=two_kp h.fam k2
 exact⟨_,⟨h.fam.two (by decide) k2 ap,h.few,fun i g e=>h.kbox (K i (by have:=blt h e;omega) (by have:=blt h e;omega)) g e,q,by rw[rset_ne _ _ (by decide),rset_same],(h.kctl (K 17 (by decide) (by decide))).1,(h.kctl (K 17 (by decide) (by decide))).2,h.kclient (K 18 (by decide) (by decide)),(h.kreps o).1,(h.kreps o).2,fun hh' e=>(by rw[show ({s with M:=M'}:St).g.hand=s.g.hand from rfl,hn] at e;cases e),(h.klist (K 21 (by decide) (by decide))).1,(h.klist (K 21 (by decide) (by decide))).2⟩,o,rset_same _ _ _⟩
theorem CM.handed{hh:Nat}{tg tt kd:Int}{sn:Bool}{st:Option Nat}(h:CM w0 E s R w)(l:Hd.Is w hh E.b tg tt kd sn st)(r:R 19=Hd.At hh):
  ∃ R',CM w0 E {s with hg:=tg,ht:=tt,hkd:=kd,hs:=sn,hst:=st,g:={s.g with hand:=some hh}} R' (w.setCell ⟨E.x,10,none⟩ (gp hh))∧On TT R w R' (w.setCell ⟨E.x,10,none⟩ (gp hh)):=by
 obtain⟨cv,rv,q,hr⟩:=h.client
 obtain⟨q5,m5⟩:=q.put (g':={s.g with hand:=some hh}) 10 (gp hh) rfl
 have m5':Moves (R 18) (CF E.x cv rv) w (w.setCell ⟨E.x,10,none⟩ (gp hh)):=by rw[hr];exact m5
 have o:On TT R w (rset R 18 (CF E.x cv rv)) (w.setCell ⟨E.x,10,none⟩ (gp hh)):=On.one h.fam m5' (.inr (by decide))
 have K:=one_kp h.fam m5'
 exact⟨_,⟨h.fam.one m5',h.few,fun i g e=>h.kbox (K i (by have:=blt h e;omega)) g e,(h.ktable (K 16 (by decide))).1,(h.ktable (K 16 (by decide))).2,(h.kctl (K 17 (by decide))).1,(h.kctl (K 17 (by decide))).2,⟨cv,rv,q5,rset_same _ _ _⟩,fun y hy=>(h.reps y hy).on o,h.now.on o,fun h' e=>by
  obtain rfl:=Option.some.inj e;exact⟨((K 19 (by decide)).2 hh (by rw[r])).trans l,(K 19 (by decide)).1.trans r⟩,(h.klist (K 21 (by decide))).1,(h.klist (K 21 (by decide))).2⟩,o⟩
namespace Bq
theorem len_ok(g:Nat)(room:Int)(cl:Bool)(v:Value)(L:List Ms.M)(w:World)(H:Hid (Ms.Box w g room cl v L)):
  Calls Tryz.prog 74 #[gp g] w fun r w'=>r=.returned (.int .i64 L.length)∧w=w':=by
 obtain⟨A0,cp,hv⟩:=H.out.val
 subst hv
 have c1:=H.out.lies.cell (i:=1) rfl
 go_enter Tryz.func74,Tryz.ntmps74
 go_wp2
 go_ret
 exact⟨rfl,rfl⟩
theorem close_ok(g:Nat)(room:Int)(cl:Bool)(v:Value)(L:List Ms.M)(w:World)(H:Hid (Ms.Box w g room cl v L)):
  Calls Tryz.prog 130 #[gp g] w fun r w'=>r=.returned (.bool (!cl))∧Ms.Box w' g room true v L∧Moves (Bx.Fp g v) (Bx.Fp g v) w w':=by
 have c2:=H.out.lies.cell (i:=2) rfl
 have fz:=H.out.lies.open_ 2
 go_enter Tryz.func130,Tryz.ntmps130
 go_wp2
 go_ret
 exact⟨rfl,H.out.shut true⟩
end Bq
abbrev St.shutK(s:St)(k:Nat):St:={s with sd:=true,sb:=fun j=>if j<k then true else s.sb j}
abbrev St.shut(s:St):St:={s with sd:=true,sb:=fun _=>true}
theorem eshut_ok(H:Hid (CM w0 E s R w)):Calls Tryz.prog 94 #[E.v] w fun r w'=>r=.returned (.tuple #[])∧∃ R',CM w0 E s.shut R' w'∧On TT R w R' w':=by
 obtain⟨W,hW,e0,k0⟩:=alloc1 w 32 E.cl
 obtain⟨g,hg⟩:∃ g,w.heap.size=g:=⟨_,rfl⟩
 have E0:=hid (Bo.new H.out.fam e0 (Nat.le_refl _))
 have H0:=hid (H.out.next k0)
 have O0:Hid (On TT R w R W):=hid (On.below H.out.fam k0)
 rw[hg] at E0
 go_enter Tryz.func94,Tryz.ntmps94
 go_upto_region 1 with fail
 clear hW k0 e0 hg H
 have e8:=E0.out.lies.cell (i:=8) rfl
 go_wp2_with fail
 refine (Ct.shut_ok (hid H0.out.ctl)).mono ?_
 rintro r w1 ⟨rfl,i1,v1⟩
 obtain⟨R1,h1,o1⟩:=H0.out.on17 i1 v1
 have H1:Hid (CM w0 E (s.shutK 0) R1 w1):=hid (by
  have:(fun j=>if j<0 then true else s.sb j)=s.sb:=funext fun j=>if_neg (Nat.not_lt_zero j)
  unfold St.shutK;rw[this];exact h1)
 have E1:=hid (E0.out.on o1)
 have O1:=hid (O0.out.trans o1)
 clear i1 v1 h1 o1 e8 H0 E0 O0
 have e10:=E1.out.lies.cell (i:=10) rfl
 obtain⟨A,cp,hA⟩:∃ A cp,(Value.slice E.ba E.bn E.bc)=.slice A E.bs.length cp:=by
  obtain⟨_,_,q⟩:=H1.out.list.is;exact q.len
 simp only[Value.slice.injEq] at hA
 obtain⟨hA1,hA2,hA3⟩:=hA
 rw[hA2] at e10
 have BN:=hid hA2
 clear hA1 hA2 hA3
 dsimp only
 go_wp2_with fail
 clear e10
 go_loopw [10] (fun si wr=>∃ (k:Nat) (Rr:Nat→Nat→Prop),k≤E.bs.length∧si=.int .i64 k∧Hid (CM w0 E (s.shutK k) Rr wr)∧Hid (On TT R w Rr wr)) (fun si _=>E.bs.length-(intOf si).toNat)
 case atStart=>exact⟨0,R1,Nat.zero_le _,rfl,H1,O1⟩
 case round=>
  obtain⟨k,Rr,hk,rfl,HR,OR⟩:=hrel;clear H1 E1 O1;have h8:=HR.out.few;by_cases hlt:k<E.bs.length
  ·obtain⟨gb,hgb⟩:∃ gb,E.bs[k]?=some gb:=⟨_,List.getElem?_eq_getElem hlt⟩
   obtain⟨-,-,bl,off,hba0,hcell⟩:=HR.out.lst hgb;rw[hba0];obtain⟨bv,hb,hrb⟩:=HR.out.box k gb hgb;have HB:=hid hb;have HRB:=hid hrb;have HGB:=hid hgb;have i0:¬((k:Int)<0):=by omega
   have i1:¬((E.bs.length:Int)≤(k:Int)):=by omega
   have i2:(0:Int)≤(k:Int):=by omega
   have i3:(k:Int)<(E.bs.length:Int):=by omega
   clear hb hrb hgb;go_wp2_with fail
   refine (Bq.close_ok gb E.cf.c _ bv _ wr HB).mono ?_
   rintro r w2 ⟨rfl,b2,m2⟩;obtain⟨R2,h2,o2,-⟩:=HR.out.onBox HGB.out HRB.out b2 m2
   have H2:Hid (CM w0 E (s.shutK (k+1)) R2 w2):=hid (by
    have e1:(fun j=>if j=k then (s.shutK k).L k else (s.shutK k).L j)=s.L:=funext fun j=>by
     by_cases e:j=k
     ·rw[if_pos e,e]
     ·rw[if_neg e]
    have e2:(fun j=>if j=k then true else (s.shutK k).sb j)=fun j=>if j<k+1 then true else s.sb j:=funext fun j=>by
     show (if j=k then true else if j<k then true else s.sb j)=_
     by_cases e:j=k
     ·rw[if_pos e,if_pos (by omega)]
     ·by_cases e3:j<k
      ·rw[if_neg e,if_pos e3,if_pos (by omega)]
      ·rw[if_neg e,if_neg e3,if_neg (by omega)]
    rw[e1,e2] at h2;exact h2)
   have O2:=hid (OR.out.trans o2);clear h2 o2 b2 m2 hcell HB HRB HR OR;dsimp only;have f1:(k:Int)+1≤9223372036854775807:=by omega
   have f2:-9223372036854775808≤(k:Int)+1:=by omega
   go_wp2_with fail
   exact⟨⟨k+1,R2,hlt,by go_num,H2,O2⟩,by simp[intOf];omega⟩
  ·have e:k=E.bs.length:=by omega
   have i3:¬((k:Int)<(E.bs.length:Int)):=by omega
   go_wp2;go_end0;refine⟨rfl,Rr,?_,OR.out⟩
   have h:=HR.out;rw[e] at h
   exact⟨h.fam,h.few,fun i g q=>by
    have:=h.box i g q;rw[show (s.shutK E.bs.length).sb i=true from if_pos (List.getElem?_eq_some_iff.1 q).1] at this
    exact this,h.table,h.r16,h.ctl,h.r17,h.client,h.reps,h.now,h.hand,h.list,h.r21⟩
theorem start_stale{t:Td}{y:Cl}(H:Hid (CM w0 E s R w))(hr:s.rs.length≤1000)(hf:Hid (s.hd=false))(hs:Hid (s.sd=false))(ho:Hid (y.op=3))(ht:Hid (t.r=r0))(hw:y.t≤s.wm):Calls Tryz.prog 53 #[gp E.x,E.v,y.val,t.v] w (Went w0 E R w s ((s.hold E).ended (rc 5)) ⟨true,t.bg,true,true,rc 5⟩):=by
 obtain⟨W,hW,e0,y0,t0,z0,k0⟩:=alloc4 w 32 46 51 51 E.cl y.cl t.cl [.bool false,.bool false,.bool false,.bool false,.int .i64 0,.slice none 0 0]
 obtain⟨g,hg⟩:∃ g,w.heap.size=g:=⟨_,rfl⟩
 have E0:=hid (Bo.new H.out.fam e0 (Nat.le_refl _))
 have Y0:=hid (Bo.new H.out.fam y0 (by omega))
 have T0:=hid (Bo.new H.out.fam t0 (by omega))
 have Z0:=hid (Bo.new H.out.fam z0 (by omega))
 have F0:=hid H.out.fam
 have H0:=hid (H.out.next k0)
 have O0:Hid (On TT R w R W):=hid (On.below H.out.fam k0)
 have OLD:=hid H.out.old
 have LO:Hid (w0.heap.size≤w.heap.size):=hid H.out.fam.below.size
 have HG:=hid hg
 rw[hg] at E0 Y0 T0 Z0
 go_enter Tryz.func53,Tryz.ntmps53
 go_upto_region 1 with fail
 clear hg hW e0 y0 t0 z0 k0 H
 obtain⟨cv,rv,q0,-⟩:=H0.out.client
 have c0:=Later.cell (q0.lies.cell (i:=0) rfl)
 clear q0
 have l0:=Later.cell (E0.out.lies.cell (i:=0) rfl)
 have l1:=Later.cell (E0.out.lies.cell (i:=1) rfl)
 have l2:=Later.cell (E0.out.lies.cell (i:=2) rfl)
 have l3:=Later.cell (E0.out.lies.cell (i:=3) rfl)
 have l4:=Later.cell (E0.out.lies.cell (i:=4) rfl)
 have l5:=Later.cell (E0.out.lies.cell (i:=5) rfl)
 have l6:=Later.cell (E0.out.lies.cell (i:=6) rfl)
 have l7:=Later.cell (E0.out.lies.cell (i:=7) rfl)
 have l8:=Later.cell (E0.out.lies.cell (i:=8) rfl)
 have l9:=Later.cell (E0.out.lies.cell (i:=9) rfl)
 have l10:=Later.cell (E0.out.lies.cell (i:=10) rfl)
 refine wp_region_later_tail 5 (by kernel_rfl) (by kernel_rfl) ?_
 simp only[List.take_succ_cons,List.take_zero,List.drop_succ_cons,List.drop_zero]
 repeat (go_big_quiet_step (fail))
 refine wpQuiet_nil ?_
 rintro _ ⟨u,rfl⟩
 have k1:=u.below
 have E1:=hid (E0.out.next k1)
 have Y1:=hid (Y0.out.next k1)
 have T1:=hid (T0.out.next k1)
 have Z1:=hid (Z0.out.next k1)
 have O1:=hid (O0.out.trans (On.below H0.out.fam k1))
 have H1:=hid (H0.out.next k1)
 clear k1 l0 l1 l2 l3 l4 l5 l6 l7 l8 l9 l10 c0 E0 Y0 T0 Z0 O0 H0
 generalize u.w=w1 at E1 Y1 T1 Z1 O1 H1 ⊢
 go_wp2_with fail
 have CT:=hid H1.out.ctl
 rw[hf.out] at CT
 refine (hold_free E.num CT).mono ?_
 rintro r w2 ⟨rfl,i2,v2⟩
 obtain⟨R2,h2,o2⟩:=H1.out.on17 i2 v2
 have H2:=hid h2
 have E2:=hid (E1.out.on o2)
 have Y2:=hid (Y1.out.on o2)
 have T2:=hid (T1.out.on o2)
 have Z2:=hid (Z1.out.on o2)
 have O2:=hid (O1.out.trans o2)
 clear i2 v2 h2 o2 CT H1 E1 Y1 T1 Z1 O1
 have l8:=E2.out.lies.cell (i:=8) rfl
 obtain⟨cv,rv,q2,-⟩:=H2.out.client
 have c7:=q2.lies.cell (i:=7) rfl
 have p7:=q2.lies.open_ 7
 clear q2
 dsimp only
 go_upto_region 4 with fail
 obtain⟨R3,h3,o3⟩:=H2.out.cell (j:=7) (v:=gp E.gc) (g':={s.g with held:=some E.gc}) (fun _ _=>rfl) rfl (.inr rfl)
 have H3:=hid h3
 have E3:=hid (E2.out.on o3)
 have Y3:=hid (Y2.out.on o3)
 have T3:=hid (T2.out.on o3)
 have Z3:=hid (Z2.out.on o3)
 have O3:=hid (O2.out.trans o3)
 clear h3 o3 l8 c7 p7 H2 E2 Y2 T2 Z2 O2
 generalize w2.setCell ⟨E.x,7,none⟩ (gp E.gc)=w3 at H3 E3 Y3 T3 Z3 O3 ⊢
 go_wp2_with (first
  |(refine wpList_plain rfl fun K' hK'=>ld_env (E:=E) _ rfl rfl E3.out.lies (hK' _ _ ?_))
  |fail)
 refine (closed_ok (hid H3.out.ctl)).mono ?_
 rintro r w4 ⟨rfl,k4⟩
 have H4:=hid (H3.out.next k4)
 have T4:=hid (T3.out.next k4)
 have E4:=hid (E3.out.next k4)
 have Y4:=hid (Y3.out.next k4)
 have Z4:=hid (Z3.out.next k4)
 have O4:=hid (O3.out.trans (On.below H3.out.fam k4))
 clear k4 H3 T3 E3 Y3 Z3 O3
 dsimp only
 rw[hs.out]
 have y0:=Y4.out.lies.cell (i:=0) rfl
 rw[ho.out] at y0
 have e8:=E4.out.lies.cell (i:=8) rfl
 have OLD2:=OLD
 have y2:=Y4.out.lies.cell (i:=2) rfl
 go_wp2_with fail
 refine (Ct.raise_no (hid H4.out.ctl) hw).mono ?_
 rintro r w5 ⟨rfl,rfl⟩
 clear y0 y2 e8
 dsimp only
 go_wp2_with (first
  |(refine wpList_plain rfl fun K' hK'=>ld_told (t:=t) _ rfl rfl T4.out.lies (hK' _ _ ?_))
  |fail)
 refine (refuse_ok t 5 H4 (hid (.inr ⟨rfl,rfl,rfl⟩)) hr).mono ?_
 rintro r w8 ⟨z,R8,rfl,e1,e2,nz,c8,o8,ol⟩
 have N8:=hid (And.intro e1 (And.intro e2 nz))
 have C8:=hid c8
 have Z8:=hid (Z4.out.on o8)
 have O8:=hid (O4.out.trans o8)
 have L8:Hid (g+1+1+1<w4.heap.size∧w.heap.size≤w4.heap.size):=hid ⟨Z4.out.lies.lt,O4.out.size⟩
 have OL:Hid (∀ n,Old n s→Old n _):=hid fun n h=>ol n h
 clear e1 e2 nz c8 o8 ol
 dsimp only
 go_wp2_with (first
  |(refine wpList_plain rfl fun K' hK'=>st_told (t':=⟨true,t.bg,true,true,z⟩) _ _ rfl rfl rfl Z8.out.lies rfl (fun w9 z1 z2=>hK' _ _ ?_))
  |fail)
 exact bodyPost_ret (told_told (t:=⟨true,t.bg,true,true,z⟩) rfl rfl z1) rfl ⟨z,R8,rfl,N8.out.1,N8.out.2.1,(N8.out.2.2.far z2 L8.out.1).less L8.out.2,C8.out.aside z2 Z8.out.out (by have:=LO.out;have:=HG.out;omega) (OL.out _ OLD.out) (by have:=HG.out;omega),Cn.On.aside F0.out O8.out z2 (by have:=HG.out;omega),fun n h=>OL.out n h⟩
theorem start_raise{t:Td}{y:Cl}(H:Hid (CM w0 E s R w))(hr:s.rs.length≤1000)(hf:Hid (s.hd=false))(hs:Hid (s.sd=false))(ho:Hid (y.op=3))(ht:Hid (t.r=r0))(hw:s.wm<y.t):Calls Tryz.prog 53 #[gp E.x,E.v,y.val,t.v] w (Went w0 E R w s {s.hold E with wm:=y.t} ⟨true,t.bg,true,t.dn,t.r⟩):=by
 obtain⟨W,hW,e0,y0,t0,z0,k0⟩:=alloc4 w 32 46 51 51 E.cl y.cl t.cl [.bool false,.bool false,.bool false,.bool false,.int .i64 0,.slice none 0 0]
 obtain⟨g,hg⟩:∃ g,w.heap.size=g:=⟨_,rfl⟩
 have E0:=hid (Bo.new H.out.fam e0 (Nat.le_refl _))
 have Y0:=hid (Bo.new H.out.fam y0 (by omega))
 have T0:=hid (Bo.new H.out.fam t0 (by omega))
 have Z0:=hid (Bo.new H.out.fam z0 (by omega))
 have F0:=hid H.out.fam
 have H0:=hid (H.out.next k0)
 have O0:Hid (On TT R w R W):=hid (On.below H.out.fam k0)
 have OLD:=hid H.out.old
 have LO:Hid (w0.heap.size≤w.heap.size):=hid H.out.fam.below.size
 have HG:=hid hg
 rw[hg] at E0 Y0 T0 Z0
 go_enter Tryz.func53,Tryz.ntmps53
 go_upto_region 1 with fail
 clear hg hW e0 y0 t0 z0 k0 H
 obtain⟨cv,rv,q0,-⟩:=H0.out.client
 have c0:=Later.cell (q0.lies.cell (i:=0) rfl)
 clear q0
 have l0:=Later.cell (E0.out.lies.cell (i:=0) rfl)
 have l1:=Later.cell (E0.out.lies.cell (i:=1) rfl)
 have l2:=Later.cell (E0.out.lies.cell (i:=2) rfl)
 have l3:=Later.cell (E0.out.lies.cell (i:=3) rfl)
 have l4:=Later.cell (E0.out.lies.cell (i:=4) rfl)
 have l5:=Later.cell (E0.out.lies.cell (i:=5) rfl)
 have l6:=Later.cell (E0.out.lies.cell (i:=6) rfl)
 have l7:=Later.cell (E0.out.lies.cell (i:=7) rfl)
 have l8:=Later.cell (E0.out.lies.cell (i:=8) rfl)
 have l9:=Later.cell (E0.out.lies.cell (i:=9) rfl)
 have l10:=Later.cell (E0.out.lies.cell (i:=10) rfl)
 refine wp_region_later_tail 5 (by kernel_rfl) (by kernel_rfl) ?_
 simp only[List.take_succ_cons,List.take_zero,List.drop_succ_cons,List.drop_zero]
 repeat (go_big_quiet_step (fail))
 refine wpQuiet_nil ?_
 rintro _ ⟨u,rfl⟩
 have k1:=u.below
 have E1:=hid (E0.out.next k1)
 have Y1:=hid (Y0.out.next k1)
 have T1:=hid (T0.out.next k1)
 have Z1:=hid (Z0.out.next k1)
 have O1:=hid (O0.out.trans (On.below H0.out.fam k1))
 have H1:=hid (H0.out.next k1)
 clear k1 l0 l1 l2 l3 l4 l5 l6 l7 l8 l9 l10 c0 E0 Y0 T0 Z0 O0 H0
 generalize u.w=w1 at E1 Y1 T1 Z1 O1 H1 ⊢
 go_wp2_with fail
 have CT:=hid H1.out.ctl
 rw[hf.out] at CT
 refine (hold_free E.num CT).mono ?_
 rintro r w2 ⟨rfl,i2,v2⟩
 obtain⟨R2,h2,o2⟩:=H1.out.on17 i2 v2
 have H2:=hid h2
 have E2:=hid (E1.out.on o2)
 have Y2:=hid (Y1.out.on o2)
 have T2:=hid (T1.out.on o2)
 have Z2:=hid (Z1.out.on o2)
 have O2:=hid (O1.out.trans o2)
 clear i2 v2 h2 o2 CT H1 E1 Y1 T1 Z1 O1
 have l8:=E2.out.lies.cell (i:=8) rfl
 obtain⟨cv,rv,q2,-⟩:=H2.out.client
 have c7:=q2.lies.cell (i:=7) rfl
 have p7:=q2.lies.open_ 7
 clear q2
 dsimp only
 go_upto_region 4 with fail
 obtain⟨R3,h3,o3⟩:=H2.out.cell (j:=7) (v:=gp E.gc) (g':={s.g with held:=some E.gc}) (fun _ _=>rfl) rfl (.inr rfl)
 have H3:=hid h3
 have E3:=hid (E2.out.on o3)
 have Y3:=hid (Y2.out.on o3)
 have T3:=hid (T2.out.on o3)
 have Z3:=hid (Z2.out.on o3)
 have O3:=hid (O2.out.trans o3)
 clear h3 o3 l8 c7 p7 H2 E2 Y2 T2 Z2 O2
 generalize w2.setCell ⟨E.x,7,none⟩ (gp E.gc)=w3 at H3 E3 Y3 T3 Z3 O3 ⊢
 go_wp2_with (first
  |(refine wpList_plain rfl fun K' hK'=>ld_env (E:=E) _ rfl rfl E3.out.lies (hK' _ _ ?_))
  |fail)
 refine (closed_ok (hid H3.out.ctl)).mono ?_
 rintro r w4 ⟨rfl,k4⟩
 have H4:=hid (H3.out.next k4)
 have T4:=hid (T3.out.next k4)
 have E4:=hid (E3.out.next k4)
 have Y4:=hid (Y3.out.next k4)
 have Z4:=hid (Z3.out.next k4)
 have O4:=hid (O3.out.trans (On.below H3.out.fam k4))
 clear k4 H3 T3 E3 Y3 Z3 O3
 dsimp only
 rw[hs.out]
 have y0:=Y4.out.lies.cell (i:=0) rfl
 rw[ho.out] at y0
 have e8:=E4.out.lies.cell (i:=8) rfl
 have OLD2:=OLD
 have y2:=Y4.out.lies.cell (i:=2) rfl
 go_wp2_with fail
 refine (Ct.raise_ok (hid H4.out.ctl) hw).mono ?_
 rintro r w5 ⟨rfl,i5,v5⟩
 obtain⟨R5,h5,o5⟩:=H4.out.on17 i5 v5
 have H5:=hid h5
 have T5:=hid (T4.out.on o5)
 have Z5:=hid (Z4.out.on o5)
 have O5:=hid (O4.out.trans o5)
 clear i5 v5 h5 o5 y0 y2 e8 H4 E4 Y4 T4 Z4 O4
 dsimp only
 have f0:=T5.out.lies.cell (i:=0) rfl
 have f1:=T5.out.lies.open_ 0
 have f2:=T5.out.lies.cell (i:=2) rfl
 have f3:=T5.out.lies.open_ 2
 go_upto_region 18 with fail
 have g6:=grown_trans (grown_set w5 (g+1+1) 0 (.bool true)) (grown_set _ (g+1+1) 2 (.bool true))
 have H6:=hid (H5.out.aside g6 T5.out.out (by have:=LO.out;have:=HG.out;omega) OLD2.out (by have:=HG.out;omega))
 have T6:Hid (Bo _ ((w5.setCell ⟨g+1+1,0,none⟩ (.bool true)).setCell ⟨g+1+1,2,none⟩ (.bool true)) (g+1+1) 51 (Td.cl ⟨true,t.bg,true,t.dn,t.r⟩)):=hid ⟨(T5.out.lies.put 0 (.bool true)).put 2 (.bool true),T5.out.out⟩
 have Z6:=hid (Z5.out.far g6 (by omega))
 have O6:=hid (Cn.On.aside F0.out O5.out g6 (by have:=HG.out;omega))
 clear f0 f1 f2 f3 g6 T5 Z5 H5 O5
 generalize (w5.setCell ⟨g+1+1,0,none⟩ (.bool true)).setCell ⟨g+1+1,2,none⟩ (.bool true)=w6 at H6 T6 Z6 O6 ⊢
 go_wp2_with (first
  |(refine wpList_plain rfl fun K' hK'=>ld_told (t:=⟨true,t.bg,true,t.dn,t.r⟩) _ rfl rfl T6.out.lies (hK' _ _ ?_))
  |(refine wpList_plain rfl fun K' hK'=>st_told (t':=⟨true,t.bg,true,t.dn,t.r⟩) _ _ rfl rfl rfl Z6.out.lies rfl (fun w7 z1 z2=>hK' _ _ ?_))
  |fail)
 exact bodyPost_ret (told_told (t:=⟨true,t.bg,true,t.dn,t.r⟩) rfl rfl z1) rfl ⟨t.r,_,rfl,rfl,rfl,by rw[ht.out];exact Nw.zero,H6.out.aside z2 Z6.out.out (by have:=LO.out;have:=HG.out;omega) OLD2.out (by have:=HG.out;omega),Cn.On.aside F0.out O6.out z2 (by have:=HG.out;omega),fun n h=>h⟩
theorem start_move{t:Td}{y:Cl}(H:Hid (CM w0 E s R w))(hr:s.rs.length≤1000)(hf:Hid (s.hd=false))(hs:Hid (s.sd=false))(ho:Hid (y.op=6))(ht:Hid (t.r=r0)){i:Nat}{o:Ow.O}(hu:Hid (y.u=i))(hx:Hid (s.M[i]?=some o))(hm:o.m=false)(y0:0≤y.s)(y1:y.s<E.cf.h)(hn:Hid (s.g.hand=none)):Calls Tryz.prog 53 #[gp E.x,E.v,y.val,t.v] w (fun r w'=>∃ hh,Went w0 E R w s {s.hold E with M:=s.M.set i ⟨o.s,o.v,true⟩,hg:=i,ht:=y.s,hkd:=3,hs:=false,hst:=none,g:={s.g with held:=some E.gc,hand:=some hh}} ⟨true,t.bg,true,t.dn,t.r⟩ r w'):=by
 have YS:=hid (And.intro hm (And.intro y0 y1))
 clear hm y0 y1
 obtain⟨W,hW,e0,y0,t0,z0,k0⟩:=alloc4 w 32 46 51 51 E.cl y.cl t.cl [.bool false,.bool false,.bool false,.bool false,.int .i64 0,.slice none 0 0]
 obtain⟨g,hg⟩:∃ g,w.heap.size=g:=⟨_,rfl⟩
 have E0:=hid (Bo.new H.out.fam e0 (Nat.le_refl _))
 have Y0:=hid (Bo.new H.out.fam y0 (by omega))
 have T0:=hid (Bo.new H.out.fam t0 (by omega))
 have Z0:=hid (Bo.new H.out.fam z0 (by omega))
 have F0:=hid H.out.fam
 have H0:=hid (H.out.next k0)
 have O0:Hid (On TT R w R W):=hid (On.below H.out.fam k0)
 have OLD:=hid H.out.old
 have LO:Hid (w0.heap.size≤w.heap.size):=hid H.out.fam.below.size
 have HG:=hid hg
 rw[hg] at E0 Y0 T0 Z0
 go_enter Tryz.func53,Tryz.ntmps53
 go_upto_region 1 with fail
 clear hg hW e0 y0 t0 z0 k0 H
 obtain⟨cv,rv,q0,-⟩:=H0.out.client
 have c0:=Later.cell (q0.lies.cell (i:=0) rfl)
 clear q0
 have l0:=Later.cell (E0.out.lies.cell (i:=0) rfl)
 have l1:=Later.cell (E0.out.lies.cell (i:=1) rfl)
 have l2:=Later.cell (E0.out.lies.cell (i:=2) rfl)
 have l3:=Later.cell (E0.out.lies.cell (i:=3) rfl)
 have l4:=Later.cell (E0.out.lies.cell (i:=4) rfl)
 have l5:=Later.cell (E0.out.lies.cell (i:=5) rfl)
 have l6:=Later.cell (E0.out.lies.cell (i:=6) rfl)
 have l7:=Later.cell (E0.out.lies.cell (i:=7) rfl)
 have l8:=Later.cell (E0.out.lies.cell (i:=8) rfl)
 have l9:=Later.cell (E0.out.lies.cell (i:=9) rfl)
 have l10:=Later.cell (E0.out.lies.cell (i:=10) rfl)
 refine wp_region_later_tail 5 (by kernel_rfl) (by kernel_rfl) ?_
 simp only[List.take_succ_cons,List.take_zero,List.drop_succ_cons,List.drop_zero]
 repeat (go_big_quiet_step (fail))
 refine wpQuiet_nil ?_
 rintro _ ⟨u,rfl⟩
 have k1:=u.below
 have E1:=hid (E0.out.next k1)
 have Y1:=hid (Y0.out.next k1)
 have T1:=hid (T0.out.next k1)
 have Z1:=hid (Z0.out.next k1)
 have O1:=hid (O0.out.trans (On.below H0.out.fam k1))
 have H1:=hid (H0.out.next k1)
 clear k1 l0 l1 l2 l3 l4 l5 l6 l7 l8 l9 l10 c0 E0 Y0 T0 Z0 O0 H0
 generalize u.w=w1 at E1 Y1 T1 Z1 O1 H1 ⊢
 go_wp2_with fail
 have CT:=hid H1.out.ctl
 rw[hf.out] at CT
 refine (hold_free E.num CT).mono ?_
 rintro r w2 ⟨rfl,i2,v2⟩
 obtain⟨R2,h2,o2⟩:=H1.out.on17 i2 v2
 have H2:=hid h2
 have E2:=hid (E1.out.on o2)
 have Y2:=hid (Y1.out.on o2)
 have T2:=hid (T1.out.on o2)
 have Z2:=hid (Z1.out.on o2)
 have O2:=hid (O1.out.trans o2)
 clear i2 v2 h2 o2 CT H1 E1 Y1 T1 Z1 O1
 have l8:=E2.out.lies.cell (i:=8) rfl
 obtain⟨cv,rv,q2,-⟩:=H2.out.client
 have c7:=q2.lies.cell (i:=7) rfl
 have p7:=q2.lies.open_ 7
 clear q2
 dsimp only
 go_upto_region 4 with fail
 obtain⟨R3,h3,o3⟩:=H2.out.cell (j:=7) (v:=gp E.gc) (g':={s.g with held:=some E.gc}) (fun _ _=>rfl) rfl (.inr rfl)
 have H3:=hid h3
 have E3:=hid (E2.out.on o3)
 have Y3:=hid (Y2.out.on o3)
 have T3:=hid (T2.out.on o3)
 have Z3:=hid (Z2.out.on o3)
 have O3:=hid (O2.out.trans o3)
 clear h3 o3 l8 c7 p7 H2 E2 Y2 T2 Z2 O2
 generalize w2.setCell ⟨E.x,7,none⟩ (gp E.gc)=w3 at H3 E3 Y3 T3 Z3 O3 ⊢
 go_wp2_with (first
  |(refine wpList_plain rfl fun K' hK'=>ld_env (E:=E) _ rfl rfl E3.out.lies (hK' _ _ ?_))
  |fail)
 refine (closed_ok (hid H3.out.ctl)).mono ?_
 rintro r w4 ⟨rfl,k4⟩
 have H4:=hid (H3.out.next k4)
 have T4:=hid (T3.out.next k4)
 have E4:=hid (E3.out.next k4)
 have Y4:=hid (Y3.out.next k4)
 have Z4:=hid (Z3.out.next k4)
 have O4:=hid (O3.out.trans (On.below H3.out.fam k4))
 clear k4 H3 T3 E3 Y3 Z3 O3
 dsimp only
 rw[hs.out]
 have y0:=Y4.out.lies.cell (i:=0) rfl
 rw[ho.out] at y0
 have e8:=E4.out.lies.cell (i:=8) rfl
 have OLD2:=OLD
 have y5:=Y4.out.lies.cell (i:=5) rfl
 have y6:=Y4.out.lies.cell (i:=6) rfl
 have e9:=E4.out.lies.cell (i:=9) rfl
 rw[hu.out] at y5
 go_wp2_with fail
 refine (Hd.new_ok (hid H4.out.table) hx.out YS.out.1 YS.out.2.1 YS.out.2.2).mono ?_
 rintro r w5 ⟨hh,rfl,lo,l5,i5,v5⟩
 obtain⟨R5,h5,o5,r5⟩:=H4.out.onNew hn.out i5 v5 lo
 have L5:=hid l5
 have R19:=hid r5
 have H5:=hid h5
 have T5:=hid (T4.out.on o5)
 have Z5:=hid (Z4.out.on o5)
 have O5:=hid (O4.out.trans o5)
 clear l5 i5 v5 h5 o5 r5 lo y0 y5 y6 e8 e9 H4 E4 Y4 T4 Z4 O4
 obtain⟨cv,rv,q5,-⟩:=H5.out.client
 have c10:=q5.lies.cell (i:=10) rfl
 have p10:=q5.lies.open_ 10
 clear q5
 dsimp only
 go_upto_region 17 with fail
 obtain⟨R7,h7,o7⟩:=H5.out.handed L5.out R19.out
 have H7:=hid h7
 have T7:=hid (T5.out.on o7)
 have Z7:=hid (Z5.out.on o7)
 have O7:=hid (O5.out.trans o7)
 clear h7 o7 c10 p10 L5 R19 H5 T5 Z5 O5
 generalize w5.setCell ⟨E.x,10,none⟩ (gp hh)=w7 at H7 T7 Z7 O7 ⊢
 have f0:=T7.out.lies.cell (i:=0) rfl
 have f1:=T7.out.lies.open_ 0
 have f2:=T7.out.lies.cell (i:=2) rfl
 have f3:=T7.out.lies.open_ 2
 go_upto_region 18 with fail
 have g6:=grown_trans (grown_set w7 (g+1+1) 0 (.bool true)) (grown_set _ (g+1+1) 2 (.bool true))
 have H6:=hid (H7.out.aside g6 T7.out.out (by have:=LO.out;have:=HG.out;omega) OLD2.out (by have:=HG.out;omega))
 have T6:Hid (Bo _ ((w7.setCell ⟨g+1+1,0,none⟩ (.bool true)).setCell ⟨g+1+1,2,none⟩ (.bool true)) (g+1+1) 51 (Td.cl ⟨true,t.bg,true,t.dn,t.r⟩)):=hid ⟨(T7.out.lies.put 0 (.bool true)).put 2 (.bool true),T7.out.out⟩
 have Z6:=hid (Z7.out.far g6 (by omega))
 have O6:=hid (Cn.On.aside F0.out O7.out g6 (by have:=HG.out;omega))
 clear f0 f1 f2 f3 g6 T7 Z7 H7 O7
 generalize (w7.setCell ⟨g+1+1,0,none⟩ (.bool true)).setCell ⟨g+1+1,2,none⟩ (.bool true)=w6 at H6 T6 Z6 O6 ⊢
 go_wp2_with (first
  |(refine wpList_plain rfl fun K' hK'=>ld_told (t:=⟨true,t.bg,true,t.dn,t.r⟩) _ rfl rfl T6.out.lies (hK' _ _ ?_))
  |(refine wpList_plain rfl fun K' hK'=>st_told (t':=⟨true,t.bg,true,t.dn,t.r⟩) _ _ rfl rfl rfl Z6.out.lies rfl (fun w7 z1 z2=>hK' _ _ ?_))
  |fail)
 exact bodyPost_ret (told_told (t:=⟨true,t.bg,true,t.dn,t.r⟩) rfl rfl z1) rfl ⟨hh,t.r,_,rfl,rfl,rfl,by rw[ht.out];exact Nw.zero,H6.out.aside z2 Z6.out.out (by have:=LO.out;have:=HG.out;omega) OLD2.out (by have:=HG.out;omega),Cn.On.aside F0.out O6.out z2 (by have:=HG.out;omega),fun n h=>h⟩
theorem start_shut{t:Td}{y:Cl}(H:Hid (CM w0 E s R w))(hr:s.rs.length≤1000)(hf:Hid (s.hd=false))(hs:Hid (s.sd=false))(ho:Hid (y.op=7))(ht:Hid (t.r=r0)):Calls Tryz.prog 53 #[gp E.x,E.v,y.val,t.v] w (Went w0 E R w s (s.hold E).shut ⟨true,t.bg,true,t.dn,t.r⟩):=by
 obtain⟨W,hW,e0,y0,t0,z0,k0⟩:=alloc4 w 32 46 51 51 E.cl y.cl t.cl [.bool false,.bool false,.bool false,.bool false,.int .i64 0,.slice none 0 0]
 obtain⟨g,hg⟩:∃ g,w.heap.size=g:=⟨_,rfl⟩
 have E0:=hid (Bo.new H.out.fam e0 (Nat.le_refl _))
 have Y0:=hid (Bo.new H.out.fam y0 (by omega))
 have T0:=hid (Bo.new H.out.fam t0 (by omega))
 have Z0:=hid (Bo.new H.out.fam z0 (by omega))
 have F0:=hid H.out.fam
 have H0:=hid (H.out.next k0)
 have O0:Hid (On TT R w R W):=hid (On.below H.out.fam k0)
 have OLD:=hid H.out.old
 have LO:Hid (w0.heap.size≤w.heap.size):=hid H.out.fam.below.size
 have HG:=hid hg
 rw[hg] at E0 Y0 T0 Z0
 go_enter Tryz.func53,Tryz.ntmps53
 go_upto_region 1 with fail
 clear hg hW e0 y0 t0 z0 k0 H
 obtain⟨cv,rv,q0,-⟩:=H0.out.client
 have c0:=Later.cell (q0.lies.cell (i:=0) rfl)
 clear q0
 have l0:=Later.cell (E0.out.lies.cell (i:=0) rfl)
 have l1:=Later.cell (E0.out.lies.cell (i:=1) rfl)
 have l2:=Later.cell (E0.out.lies.cell (i:=2) rfl)
 have l3:=Later.cell (E0.out.lies.cell (i:=3) rfl)
 have l4:=Later.cell (E0.out.lies.cell (i:=4) rfl)
 have l5:=Later.cell (E0.out.lies.cell (i:=5) rfl)
 have l6:=Later.cell (E0.out.lies.cell (i:=6) rfl)
 have l7:=Later.cell (E0.out.lies.cell (i:=7) rfl)
 have l8:=Later.cell (E0.out.lies.cell (i:=8) rfl)
 have l9:=Later.cell (E0.out.lies.cell (i:=9) rfl)
 have l10:=Later.cell (E0.out.lies.cell (i:=10) rfl)
 refine wp_region_later_tail 5 (by kernel_rfl) (by kernel_rfl) ?_
 simp only[List.take_succ_cons,List.take_zero,List.drop_succ_cons,List.drop_zero]
 repeat (go_big_quiet_step (fail))
 refine wpQuiet_nil ?_
 rintro _ ⟨u,rfl⟩
 have k1:=u.below
 have E1:=hid (E0.out.next k1)
 have Y1:=hid (Y0.out.next k1)
 have T1:=hid (T0.out.next k1)
 have Z1:=hid (Z0.out.next k1)
 have O1:=hid (O0.out.trans (On.below H0.out.fam k1))
 have H1:=hid (H0.out.next k1)
 clear k1 l0 l1 l2 l3 l4 l5 l6 l7 l8 l9 l10 c0 E0 Y0 T0 Z0 O0 H0
 generalize u.w=w1 at E1 Y1 T1 Z1 O1 H1 ⊢
 go_wp2_with fail
 have CT:=hid H1.out.ctl
 rw[hf.out] at CT
 refine (hold_free E.num CT).mono ?_
 rintro r w2 ⟨rfl,i2,v2⟩
 obtain⟨R2,h2,o2⟩:=H1.out.on17 i2 v2
 have H2:=hid h2
 have E2:=hid (E1.out.on o2)
 have Y2:=hid (Y1.out.on o2)
 have T2:=hid (T1.out.on o2)
 have Z2:=hid (Z1.out.on o2)
 have O2:=hid (O1.out.trans o2)
 clear i2 v2 h2 o2 CT H1 E1 Y1 T1 Z1 O1
 have l8:=E2.out.lies.cell (i:=8) rfl
 obtain⟨cv,rv,q2,-⟩:=H2.out.client
 have c7:=q2.lies.cell (i:=7) rfl
 have p7:=q2.lies.open_ 7
 clear q2
 dsimp only
 go_upto_region 4 with fail
 obtain⟨R3,h3,o3⟩:=H2.out.cell (j:=7) (v:=gp E.gc) (g':={s.g with held:=some E.gc}) (fun _ _=>rfl) rfl (.inr rfl)
 have H3:=hid h3
 have E3:=hid (E2.out.on o3)
 have Y3:=hid (Y2.out.on o3)
 have T3:=hid (T2.out.on o3)
 have Z3:=hid (Z2.out.on o3)
 have O3:=hid (O2.out.trans o3)
 clear h3 o3 l8 c7 p7 H2 E2 Y2 T2 Z2 O2
 generalize w2.setCell ⟨E.x,7,none⟩ (gp E.gc)=w3 at H3 E3 Y3 T3 Z3 O3 ⊢
 go_wp2_with (first
  |(refine wpList_plain rfl fun K' hK'=>ld_env (E:=E) _ rfl rfl E3.out.lies (hK' _ _ ?_))
  |fail)
 refine (closed_ok (hid H3.out.ctl)).mono ?_
 rintro r w4 ⟨rfl,k4⟩
 have H4:=hid (H3.out.next k4)
 have T4:=hid (T3.out.next k4)
 have E4:=hid (E3.out.next k4)
 have Y4:=hid (Y3.out.next k4)
 have Z4:=hid (Z3.out.next k4)
 have O4:=hid (O3.out.trans (On.below H3.out.fam k4))
 clear k4 H3 T3 E3 Y3 Z3 O3
 dsimp only
 rw[hs.out]
 have y0:=Y4.out.lies.cell (i:=0) rfl
 rw[ho.out] at y0
 have e8:=E4.out.lies.cell (i:=8) rfl
 have OLD2:=OLD
 go_wp2_with (first
  |(refine wpList_plain rfl fun K' hK'=>ld_env (E:=E) _ rfl rfl E4.out.lies (hK' _ _ ?_))
  |fail)
 refine (eshut_ok H4).mono ?_
 rintro r w5 ⟨rfl,R5,h5,o5⟩
 have H5:=hid h5
 have T5:=hid (T4.out.on o5)
 have Z5:=hid (Z4.out.on o5)
 have O5:=hid (O4.out.trans o5)
 clear h5 o5 y0 e8 H4 E4 Y4 T4 Z4 O4
 dsimp only
 have f0:=T5.out.lies.cell (i:=0) rfl
 have f1:=T5.out.lies.open_ 0
 have f2:=T5.out.lies.cell (i:=2) rfl
 have f3:=T5.out.lies.open_ 2
 go_upto_region 18 with fail
 have g6:=grown_trans (grown_set w5 (g+1+1) 0 (.bool true)) (grown_set _ (g+1+1) 2 (.bool true))
 have H6:=hid (H5.out.aside g6 T5.out.out (by have:=LO.out;have:=HG.out;omega) OLD2.out (by have:=HG.out;omega))
 have T6:Hid (Bo _ ((w5.setCell ⟨g+1+1,0,none⟩ (.bool true)).setCell ⟨g+1+1,2,none⟩ (.bool true)) (g+1+1) 51 (Td.cl ⟨true,t.bg,true,t.dn,t.r⟩)):=hid ⟨(T5.out.lies.put 0 (.bool true)).put 2 (.bool true),T5.out.out⟩
 have Z6:=hid (Z5.out.far g6 (by omega))
 have O6:=hid (Cn.On.aside F0.out O5.out g6 (by have:=HG.out;omega))
 clear f0 f1 f2 f3 g6 T5 Z5 H5 O5
 generalize (w5.setCell ⟨g+1+1,0,none⟩ (.bool true)).setCell ⟨g+1+1,2,none⟩ (.bool true)=w6 at H6 T6 Z6 O6 ⊢
 go_wp2_with (first
  |(refine wpList_plain rfl fun K' hK'=>ld_told (t:=⟨true,t.bg,true,t.dn,t.r⟩) _ rfl rfl T6.out.lies (hK' _ _ ?_))
  |(refine wpList_plain rfl fun K' hK'=>st_told (t':=⟨true,t.bg,true,t.dn,t.r⟩) _ _ rfl rfl rfl Z6.out.lies rfl (fun w7 z1 z2=>hK' _ _ ?_))
  |fail)
 exact bodyPost_ret (told_told (t:=⟨true,t.bg,true,t.dn,t.r⟩) rfl rfl z1) rfl ⟨t.r,_,rfl,rfl,rfl,by rw[ht.out];exact Nw.zero,H6.out.aside z2 Z6.out.out (by have:=LO.out;have:=HG.out;omega) OLD2.out (by have:=HG.out;omega),Cn.On.aside F0.out O6.out z2 (by have:=HG.out;omega),fun n h=>h⟩
end
end Cn
end Go.Proofs.YtfjlnniahfbdfaaGreat
