/-
  ClientAlone holds: for any config and calls the law answers true (no conditions).
-/
import Derived.Test.YtfjlnniahfbdfaaGreatPcb
import Derived.Deep.CutBlock
import Derived.Deep.DeepCutAuto
import Derived.Deep.RegionHeld3
import Derived.StillTailTactics
set_option linter.unusedVariables false
set_option maxHeartbeats 4000000
namespace Go.Proofs.YtfjlnniahfbdfaaGreat
open Lib (hid)
open Go.ChangeShapes Go.WideShapes Go.ChangeAt Go.RowKit
set_option maxRecDepth 100000
namespace Cn
open Small Foot Fm Ca
theorem BG.next{w0 w w':World}{cf:Cf}{c8:C8}{gc b:Nat}{wv bv:Value}{ws bs:List Nat}{p:Nat→Int→Option Nat}{q:Int→Option Nat}{R:Nat→Nat→Prop}(h:BG w0 cf c8 gc b wv bv ws bs p q R w)(k:Below w.heap.size w w'):BG w0 cf c8 gc b wv bv ws bs p q R w':=
 ⟨h.fam.next k,fun i g e=>by
  obtain⟨v,b,r⟩:=h.box i g e;exact⟨v,b.next k,r⟩,h.own,h.had,h.wm.next h.few h.fam k,h.same,h.few,h.table.next k,h.r16,Lies.next h.ctl k,h.r17,h.r18,h.r19,h.wl.next k,h.r20,h.bl.next k,h.r21⟩
theorem rmnew{c:Cf}{c8:C8}(h:c=Md.cfOf c8)(w:World):Calls Tryz.prog 11 #[c.val] w fun r w'=>∃ rm F,r=.returned (gp rm)∧Rm.Is w' rm F c8 [] (-9223372036854775808) [] false∧From w.heap.size F∧Below w.heap.size w w':=by
 subst h
 exact Rm.new_ok c8 w
theorem LW.begin{w6 w7:World}{c8:C8}{cs:List Cl}{rm:Nat}{G:Nat→Prop}(h:Rm.Is w7 rm G c8 [] (-9223372036854775808) [] false)(f:From w6.heap.size G)(b:Below w6.heap.size w6 w7):
  LW w6 c8 cs rm 0 (fun _=>⟨[],-9223372036854775808,[],false⟩) (fun _=>(0,[])) (fun _=>none) [] (.slice none 0 0) G w7:=
 ⟨h,f,Sl.Own.nil _ _ _,rfl,fun i z e=>(by simp at e),fun a e=>(by cases e),fun z hz=>(by simp at hz),Rm.ri_start,by decide,b,rfl,fun i y hi=>absurd hi (Nat.not_lt_zero i),fun i y hi=>absurd hi (Nat.not_lt_zero i),fun i hi=>absurd hi (Nat.not_lt_zero i)⟩
def Rd2(c8:C8)(E:Ev)(q:Int→Option Nat)(T:Nat→MS)(Wf:Nat→Int×List Pn)(ws:List Nat)(w3 w6 wL:World)(ge:Nat)(wv:Value)(i:Nat)(sb sp se:Value)(wr:World):Prop:=
 ∃ (k n:Nat) (b pt:Bool) (s:St) (p:Nat→Int→Option Nat) (S:Int→Grp.Lists) (N:Nat) (n1:Int→Nat) (R:Nat→Nat→Prop),sb=.int .i64 ((k+c01 b:Nat):Int)∧sp=.int .i64 ((k+c01 pt:Nat):Int)∧se=.int .i64 (k:Int)∧Al c8 E q T Wf ws w3 w6 wL ge wv s p S N n1 R wr∧Top c8 E q T Wf k n b pt s p S N∧Rs Wf k s∧(∀ i,s.L i=[])∧k≤E.cs.length∧i≤k*(c8.h.toNat+4)+n
theorem Top.few{c8:C8}{E:Ev}{q:Int→Option Nat}{T:Nat→MS}{Wf:Nat→Int×List Pn}{k n:Nat}{bb pt:Bool}{s:St}{p:Nat→Int→Option Nat}{S:Int→Grp.Lists}{N:Nat}(h:Top c8 E q T Wf k n bb pt s p S N):(n:Int)≤c8.h+3∨n≤3:=by
 cases h with
 |adv _ _ _ hj=>left;omega
 |idle|ans|mv0|mv1|mv2|shut=>right;omega
theorem pot_lt{c8:C8}{E:Ev}{z:Nat→Option (Nat×Int×Int×Int)}{q:Int→Option Nat}{T:Nat→MS}{Wf:Nat→Int×List Pn}{k kk n i:Nat}{st:Int}{c:Cf}{bb pt:Bool}{s:St}{p:Nat→Int→Option Nat}{S:Int→Grp.Lists}{N:Nat}(fx:Fx c8 E z T Wf)(hc:E.cf=c)(h8:1≤c.h)(h:Top c8 E q T Wf kk n bb pt s p S N)(hk:kk<k)(hp:i≤kk*(c8.h.toNat+4)+n)(hs:st=((k:Int)+1)*(4*c.h+4*k+12)):(i:Int)<st:=by
 have e:c.h=c8.h:=by rw[←hc,fx.hc]
 obtain⟨H,hH⟩:∃ H:Nat,c8.h=(H:Int):=⟨c8.h.toNat,by omega⟩
 have hn:n≤H+3:=by have:=h.few;omega
 rw[e,hH] at hs
 rw[hH,Int.toNat_natCast] at hp
 have h1:kk*(H+4)≤k*(H+4):=Nat.mul_le_mul_right _ (by omega)
 have h2:i<(k+1)*(H+4):=by rw[Nat.add_mul];omega
 have h3:(k+1)*(H+4)≤(k+1)*(4*H+4*k+12):=Nat.mul_le_mul_left _ (by omega)
 have h4:((k+1)*(4*H+4*k+12):Nat)=((k:Int)+1)*(4*(H:Int)+4*k+12):=by push_cast;rfl
 omega
def Pr(y:Cl)(lv:Value)(xp bl off kk:Nat)(i:Nat)(u:Value)(w:World):Prop:=match i with
 |0=>u=.bool true
 |1=>u=.bool false
 |2=>u=.bool false
 |3=>u=y.val
 |4=>u=lv
 |5=>u=gp xp
 |6=>∃ A cc,u=.slice A kk cc
 |7=>u=.int .i64 (kk:Int)
 |8=>u=.pointer (some ⟨bl,off+kk*7,none⟩)
 |9=>u=y.val
 |10=>u=.bool false
 |_=>True
theorem Pr.mono(y:Cl)(lv:Value)(xp bl off kk:Nat):∀ i u w w',Pr y lv xp bl off kk i u w→Below w.heap.size w w'→Pr y lv xp bl off kk i u w'
 |0,u,w,w',h,k=>h
 |1,u,w,w',h,k=>h
 |2,u,w,w',h,k=>h
 |3,u,w,w',h,k=>h
 |4,u,w,w',h,k=>h
 |5,u,w,w',h,k=>h
 |6,u,w,w',h,k=>h
 |7,u,w,w',h,k=>h
 |8,u,w,w',h,k=>h
 |9,u,w,w',h,k=>h
 |10,u,w,w',h,k=>h
 |i+11,u,w,w',h,k=>trivial
end Cn
namespace clientAlone
open Small Foot Fm Ca Cn Rel RelG
open Md (cfOf)
theorem walk_on(c:Cf)(c8:C8)(HCF:Hid (c=cfOf c8))(FC:Hid c.Fit)(HM:Hid c.may)(A:Option Addr)(n cp:Nat)(cs:List Cl)(w:World)(IS:Hid (CameC w (.slice A n cp,cs)))(hn:cs.length=n)(HK:Hid (Md.Fw n (fun i=>cs[i]!) 20))(HF:Hid (∀ y∈cs,y.Fit))(RW:Hid (Md.Row A n (fun i=>cs[i]!) w)):
  Calls Tryz.prog 3 #[c.val,.slice A n cp] w fun r w'=>r=.returned (.bool true)∧Below w.heap.size w w':=by
 have n20:=HK.out.1
 have HB:Hid ((1≤c8.h∧c8.h≤8)∧(1≤c8.r∧c8.r≤16)∧1≤c8.c∧c8.c≤16):=hid (by have q:=HM.out;rw[HCF.out] at q;have q:Asg.may c8.k c8.s c8.l c8.g c8.z c8.h c8.r c8.c:=q;unfold Asg.may at q;omega)
 have MM:Hid (Asg.may c8.k c8.s c8.l c8.g c8.z c8.h c8.r c8.c):=hid (by have q:=HM.out;rw[HCF.out] at q;exact q)
 have F8:Hid (cfOf c8).Fit:=hid (HCF.out▸FC.out)
 obtain⟨W,hW,c0,k0⟩:=alloc1 w 23 (Sh.fcl c)
 obtain⟨g,hg⟩:∃ g,w.heap.size=g:=⟨_,rfl⟩
 have C0:=hid c0
 have K0:=hid k0
 have HG:=hid hg
 rw[hg] at C0
 go_enter Tryz.func3,Tryz.ntmps3
 go_upto_region 1 with fail
 clear hg hW c0 k0
 go_wp2_with fail
 refine (up_ok W).mono ?_
 rintro r w1 ⟨rfl,k1⟩
 have C1:=hid (C0.out.next k1)
 have K1:=hid (after K0.out k1)
 clear k1 C0 K0
 dsimp only
 go_wp2_with (first
  |(refine wpList_plain rfl fun K' hK'=>Wh.wp_load Tryz.isAgg23 Tryz.sizeOf23 _ rfl rfl C1.out (Nat.le_refl _) (Sh.fcl c) rfl (hK' _ _ ?_))
  |fail)
 refine (Asg.refMay_ok c.k c.s c.l c.g c.z c.h c.r c.c w1 true (hid (by simp;exact HM.out)) (Num.fit FC.out.2.1).2).mono ?_
 rintro r w2 ⟨rfl,k2⟩
 have C2:=hid (C1.out.next k2)
 have K2:=hid (after K1.out k2)
 have RW2:=hid (RW.out.next K2.out)
 clear k2 C1 K1
 dsimp only
 go_wp2_with fail
 refine (Md.few_ok A n cp (fun i=>cs[i]!) 20 true w2 (hid (by simpa using HK.out)) (by omega) (by unfold maxLen;omega) RW2).mono ?_
 rintro r w3 ⟨rfl,k3⟩
 have C3:=hid (C2.out.next k3)
 have K3:=hid (after K2.out k3)
 clear k3 C2 K2 RW2
 dsimp only
 go_wp2_with (first
  |(refine wpList_plain rfl fun K' hK'=>Wh.wp_load Tryz.isAgg23 Tryz.sizeOf23 _ rfl rfl C3.out (Nat.le_refl _) (Sh.fcl c) rfl (hK' _ _ ?_))
  |fail)
 refine (begunw_ok c c8 w3 HCF HM FC (Num.fit FC.out.2.1).2).mono ?_
 rintro r w4 ⟨gc,b,wA,wn,wc,ba,bn,bc,bs,ws,p,q,R,rfl,h4,hl,hw⟩
 have H4:=hid h4
 have HL:=hid (And.intro hl hw)
 clear h4 hl hw
 dsimp only
 go_upto_region 6 with fail
 have k5:=below1 w4 (Obj.cells (ecl c gc b (.slice ba bn bc)).toArray 32)
 have E5:=hid (Bo.new H4.out.fam (Lies.new w4 32 (ecl c gc b (.slice ba bn bc))) (Nat.le_refl _))
 have H5:=hid (H4.out.next k5)
 clear k5 H4
 generalize w4.heap.size=ge at E5 ⊢
 generalize hw5:w4.alloc _=w5 at E5 H5 ⊢
 clear hw5
 have I5:Hid (CameC w5 (.slice A n cp,cs)):=hid (IS.out.next (after K3.out H5.out.fam.below))
 go_wp2_with fail
 refine (cnew_came 0 A n cp cs _ I5 (by omega)).mono ?_
 rintro r w6 ⟨xp,cv,rfl,q6,f6,k6⟩
 obtain⟨R6,h6,v6,n6⟩:=H5.out.client q6 f6 k6
 have CO:Hid (Co c8 q ⟨[],-9223372036854775808,[],false⟩ 0 none (st0 c) p (fun _ _=>[]) 0):=hid (co_start H5.out HCF.out HL.out.1 (by have:=HB.out;omega))
 have H6:Hid (CM w3 ⟨c,gc,b,ba,bn,bc,bs,xp,0,cs⟩ (st0 c) R6 w6):=hid h6
 have V6:=hid v6
 have E6:Hid (Bo R6 w6 ge 32 (Ev.cl ⟨c,gc,b,ba,bn,bc,bs,xp,0,cs⟩)):=hid (E5.out.on n6)
 have WL6:Hid (Sl.Own Wk w3.heap.size w6 (.slice wA wn wc) ws∧R6 20=fun j=>(Value.slice wA wn wc).ownBlock=some j):=hid ⟨H5.out.wl.move fun a ha=>(n6.kp 20 (by decide)).2 a (by rw[H5.out.r20];exact ha),(n6.kp 20 (by decide)).1.trans H5.out.r20⟩
 clear q6 f6 k6 n6 h6 v6 I5 E5 H5
 have C6:Hid (Lies w6 g 23 (Sh.fcl c)):=hid ((H6.out.fam.below.block _ C3.out.lt).trans C3.out)
 dsimp only
 go_wp2_with (first
  |(refine wpList_plain rfl fun K' hK'=>Wh.wp_load Tryz.isAgg23 Tryz.sizeOf23 _ rfl rfl C6.out (Nat.le_refl _) (Sh.fcl c) rfl (hK' _ _ ?_))
  |fail)
 refine (rmnew HCF.out w6).mono ?_
 rintro r w7 ⟨rm,G,rfl,r7,f7,k7⟩
 have B7:=hid (LW.begin (cs:=cs) r7 f7 k7)
 clear r7 f7 k7
 dsimp only
 go_wp2_with fail
 go_loopw [12,13] (fun sv si wr=>∃ (k:Nat) (T:Nat→MS) (Wf:Nat→Int×List Pn) (zz:Nat→Option (Nat×Int×Int×Int)) (zs:List Rp) (G:Nat→Prop) (As:Option Addr) (Ac:Nat),k≤n∧si=.int .i64 k∧sv=.slice As k Ac∧Hid (LW w6 c8 cs rm k T Wf zz zs (.slice As k Ac) G wr)) (fun _ si _=>n-(intOf si).toNat)
 case atStart=>exact⟨0,_,_,_,_,_,none,0,Nat.zero_le _,rfl,rfl,B7⟩
 case round=>
  obtain⟨k,T,Wf,zz,zs,G,As,Ac,hk,rfl,rfl,B⟩:=hrel;clear B7;by_cases hlt:k<n
  ·obtain⟨y,hy⟩:∃ y,cs[k]?=some y:=⟨_,List.getElem?_eq_getElem (by omega)⟩
   obtain⟨bl,off,rfl,hrw⟩:=RW.out (by omega)
   have hrow:∀ i y,cs[i]?=some y→∀ j v,y.cl[j]?=some v→w.cell? ⟨bl,off+(i*7+j),none⟩=some v:=fun i y hy j v hv=>hrw i (by have:=(List.getElem?_eq_some_iff.1 hy).1;omega) j v (by show (cs[i]!).cl[j]?=some v;rw[List.getElem!_eq_getElem?_getD,hy];exact hv)
   have kw:Below w.heap.size w wr:=after K3.out (after H6.out.fam.below B.out.bl)
   have ck:∀ j v,y.cl[j]?=some v→wr.cell? ⟨bl,off+k*7+j,none⟩=some v:=fun j v hv=>by
    have:=cell_keep kw (hrow k y hy j v hv)
    rwa [←Nat.add_assoc] at this
   have c0:=ck 0 _ rfl;have c1:=ck 1 _ rfl;have c2:=ck 2 _ rfl;have c3:=ck 3 _ rfl;have c4:=ck 4 _ rfl;have c5:=ck 5 _ rfl;have c6:=ck 6 _ rfl;rw[Nat.add_zero] at c0;have HY:=hid hy;have fy:Hid y.Fit:=hid (HF.out y (List.mem_of_getElem? hy));have i0:¬((k:Int)<0):=by omega
   have i1:(k:Int)<(n:Int):=by omega
   have i2:(0:Int)≤(k:Int):=by omega
   obtain⟨z,TL⟩:=Asg.tells c8.k c8.s c8.l c8.g c8.z c8.h c8.r c8.c y.t (Num.fit fy.out.2.2.1).1 (Num.fit fy.out.2.2.1).2 MM.out;have TL:=hid TL;have ri:=B.out.ri.len;clear ck kw hy hrw hrow;go_wp2_with fail
   refine (Rm.do_ok y z wr (hid B.out.md) (by omega) (by omega) MM F8 fy (hid B.out.wf) (hid fun p hp=>(B.out.ri.ends p hp).1) (hid (B.out.ri.ap y.key)) TL).mono ?_
   rintro r w8 ⟨rv,code,P,R',mt',L',cl',G',rfl,hd,h8,v8,o8,a8⟩;obtain⟨A8,n8,c8',rfl⟩:=own_lit o8;obtain⟨x,hx⟩:∃ x:Rp,x=⟨code,A8,n8,c8',P⟩:=⟨_,rfl⟩;have XV:Hid (Ca.rep code (.slice A8 n8 c8')=x.v):=hid (by rw[hx])
   have D8:=hid (by rw[hx];exact hd:Rm.RDid c8 (T k).R (T k).mt (T k).L (T k).cl y z x.code x.P R' mt' L' cl')
   have I8:=hid (And.intro h8 v8);have O8:Hid (Sl.Own Pn.k wr.heap.size w8 x.pv x.P∧∀ a,x.pv.ownBlock=some a→¬G' a):=hid (by rw[hx];exact⟨o8,a8⟩)
   have S8:Hid (Sl.Own Rk w6.heap.size w8 (.slice As k Ac) zs):=hid (B.out.own.move fun a ha=>v8.block a (B.out.own.lt a ha).2 (B.out.ap1 a ha))
   rw[XV.out];clear hx hd h8 v8 o8 a8 XV c0 c1 c2 c3 c4 c5 c6;dsimp only;have L9:Hid (Lies (w8.alloc (Obj.cells #[.int .i64 x.code,.slice x.a x.n x.c] 43)) w8.heap.size 43 x.cl):=hid (Lies.new _ _ _);have b9:Hid (Below w8.heap.size w8 (w8.alloc (Obj.cells #[.int .i64 x.code,.slice x.a x.n x.c] 43))):=hid (below1 _ _);have S9:=hid (S8.out.next b9.out);have e1:Hid (zs.length+[x].length≤1048576):=hid (by rw[B.out.len];simp;omega)
   have e2:Hid (w6.heap.size≤(w8.alloc (Obj.cells #[.int .i64 x.code,.slice x.a x.n x.c] 43)).heap.size):=hid (by have:=B.out.bl.size;have:=I8.out.2.size;have:=b9.out.size;omega)
   have e4:Hid (Sl.Is Rk (w8.alloc (Obj.cells #[.int .i64 x.code,.slice x.a x.n x.c] 43)) (.slice (some ⟨w8.heap.size,0,none⟩) 1 1) [x] w8.heap.size):=hid (Sl.Is.one rok (x:=x) L9.out);go_wp2_with (at_builtin;refine wpList_plain rfl fun K' hK'=>Sl.wp_append rok (.tmp 63) (.tmp 70) rfl (base:=w6.heap.size) (l:=zs) (l2:=[x]) (b2:=w8.heap.size) S9.out e4.out e1.out e2.out (fun u w10 z1 z2 z3=>hK' _ _ ?_))
   obtain⟨bu,-,iu⟩:=z1.is;obtain⟨Au,cu,rfl⟩:=iu.len;have lu:(zs++[x]).length=k+1:=by rw[List.length_append,B.out.len];rfl
   rw[lu] at z1 z3 ⊢;obtain⟨T',W',zz',b10⟩:=B.out.push HY.out (by omega) MM.out fy.out (Num.fit F8.out.2.1).2 (Num.fit F8.out.2.2.2.1).2 TL.out D8.out I8.out.1 I8.out.2 O8.out.1 O8.out.2 b9.out z1 z2 z3
   have B10:=hid b10;clear b10 z1 z2 z3 iu lu L9 b9 S9 S8 e1 e2 e4 I8 O8 D8 B;have f1:(k:Int)+1≤9223372036854775807:=by omega
   have f2:-9223372036854775808≤(k:Int)+1:=by omega
   go_wp2_with fail
   exact⟨⟨k+1,T',W',zz',_,G',Au,cu,hlt,by go_num,rfl,B10⟩,by simp[intOf];omega⟩
  ·obtain rfl:k=n:=by omega
   obtain⟨wL,rfl⟩:∃ wL,wL=wr:=⟨wr,rfl⟩;have i1:¬((k:Int)<(k:Int)):=by omega
   have FX:Hid (Fx c8 ⟨c,gc,b,ba,bn,bc,bs,xp,0,cs⟩ zz T Wf):=hid ⟨HCF.out,MM.out,F8.out,fun i y e=>HF.out y (List.mem_of_getElem? e),HL.out.1.trans (by rw[HCF.out]),by show cs.length≤20;omega,⟨B.out.start,fun i y e=>B.out.told i y (by have:=(List.getElem?_eq_some_iff.1 (show cs[i]?=some y from e)).1;omega) e,fun i y e=>B.out.did i y (by have:=(List.getElem?_eq_some_iff.1 (show cs[i]?=some y from e)).1;omega) e,fun i y e=>B.out.plen i (by have:=(List.getElem?_eq_some_iff.1 (show cs[i]?=some y from e)).1;omega)⟩⟩
   have A0:Hid (Al c8 ⟨c,gc,b,ba,bn,bc,bs,xp,0,cs⟩ q T Wf ws w3 w6 wL ge (.slice wA wn wc) (st0 c) p (fun _ _=>[]) 0 (fun _=>0) R6 wL):=hid ⟨H6.out.next B.out.bl,V6.out.next H6.out.few H6.out.fam B.out.bl,E6.out.next B.out.bl,WL6.out.1.next B.out.bl,WL6.out.2,fun a a1 a2=>⟨rfl,fun i hi=>by have:=H6.out.fam.in_ i a hi;omega⟩,Nat.le_refl _⟩
   have TP:Hid (Top c8 ⟨c,gc,b,ba,bn,bc,bs,xp,0,cs⟩ q T Wf 0 0 false false (st0 c) p (fun _ _=>[]) 0):=hid (.idle rfl rfl (by rw[B.out.start];exact CO.out))
   have C7:Hid (Lies wL g 23 (Sh.fcl c)):=hid (C6.out.next B.out.bl);have c5:=C7.out.cell (i:=5) rfl;have hh8:(1≤c.h∧c.h≤8):=by have:=HB.out;rw[HCF.out];exact this.1
   have q1:0≤((k:Int)+1)*(4*c.h+4*k+12):=Int.mul_nonneg (by omega) (by omega)
   have q2:((k:Int)+1)*(4*c.h+4*k+12)≤21*124:=Int.le_trans (Int.mul_le_mul_of_nonneg_right (show (k:Int)+1≤21 by omega) (by omega)) (Int.mul_le_mul_of_nonneg_left (by omega) (by omega))
   have q3:((k:Int)+1)*(4*c.h+4*k+12)≤9223372036854775807:=by omega
   have q4:-9223372036854775808≤((k:Int)+1)*(4*c.h+4*k+12):=by omega
   obtain⟨st,hst⟩:∃ st,st=((k:Int)+1)*(4*c.h+4*k+12):=⟨_,rfl⟩;have HST:=hid hst;have STB:Hid (st≤2604):=hid (by rw[hst];exact Int.le_trans q2 (by decide))
   clear i1 H6 V6 E6 WL6 CO C6;go_upto_region 20 with fail
   rw[←hst];clear q1 q2 q3 q4 c5 hst;go_loopw [14,15,16,18] (fun sb sp se si w2=>∃ i:Nat,si=.int .i64 i∧Hid (Rd2 c8 ⟨c,gc,b,ba,bn,bc,bs,xp,0,cs⟩ q T Wf ws w3 w6 wL ge (.slice wA wn wc) i sb sp se w2)) (fun _ _ _ si _=>st.toNat-(intOf si).toNat)
   case atStart=>exact⟨0,rfl,hid ⟨0,0,false,false,_,_,_,_,_,_,rfl,rfl,rfl,A0.out,TP.out,⟨rfl,fun i r e=>by simp at e⟩,fun _=>rfl,Nat.zero_le _,Nat.zero_le _⟩⟩
   case round=>
    obtain⟨i,rfl,RR⟩:=hrel;obtain⟨kk,nn,b1,pt,s,p2,S,N,n1,R,rfl,rfl,rfl,al,tp,rs,emp,kl,pot⟩:=RR.out;have AL:=hid al;have TP2:=hid tp;have RS:=hid rs;have EM:=hid emp;have PT:=hid pot;have kl:kk≤k:=by have:kk≤cs.length:=kl;omega
    clear RR A0 TP tp rs emp pot;obtain⟨cv,rv,q0,-⟩:=al.cm.client;have Q0:=hid q0;clear q0 al;by_cases hlt:(i:Int)<st
    ·by_cases hkk:kk=k
     ·obtain rfl:kk=k:=hkk
      obtain⟨rfl,rfl,hd,co⟩:=TP2.out.over (show cs.length≤kk by omega)
      have HDD:=hid hd;have COO:=hid co;clear hd co;have PLN:Hid (∀ i,i<kk→(Wf i).2.length≤9000):=hid fun i hi=>by exact B.out.plen i hi
      go_wp2_with fail
      refine (over_ok Q0).mono ?_
      rintro r w4 ⟨rfl,k4⟩;have ov:decide ((⟨c,gc,b,ba,bn,bc,bs,xp,0,cs⟩:Ev).cs.length≤s.rs.length)=true:=decide_eq_true (by rw[RS.out.len];show cs.length≤kk;omega)
      rw[ov];have AL4:=hid (AL.out.next k4);clear k4 AL Q0 ov;dsimp only;go_upto_region 43 with fail
      exact fin (nn:=0) (zy:=zz) (by assumption) hn (by omega) K3 AL4 HDD COO RS PLN B
     ·have hk1:kk<k:=by omega
      obtain⟨y,hy⟩:∃ y,cs[kk]?=some y:=⟨_,List.getElem?_eq_getElem (by omega)⟩
      obtain⟨bl,off,rfl,hrw⟩:=RW.out (by omega)
      have hrow:∀ i y,cs[i]?=some y→∀ j v,y.cl[j]?=some v→w.cell? ⟨bl,off+(i*7+j),none⟩=some v:=fun i y hy j v hv=>hrw i (by have:=(List.getElem?_eq_some_iff.1 hy).1;omega) j v (by show (cs[i]!).cl[j]?=some v;rw[List.getElem!_eq_getElem?_getD,hy];exact hv)
      have ROW:=hid hrow;clear hrw hrow;have HY:=hid hy;clear hy;go_wp2_with fail
      refine (over_ok Q0).mono ?_
      rintro r w4 ⟨rfl,k4⟩;have ov:decide ((⟨c,gc,b,ba,bn,bc,bs,xp,0,cs⟩:Ev).cs.length≤s.rs.length)=false:=decide_eq_false (by rw[RS.out.len];show ¬cs.length≤kk;omega)
      rw[ov];have AL4:=hid (AL.out.next k4);have Q4:=hid (Q0.out.next k4);clear k4 AL Q0 ov;dsimp only;go_wp2_with fail
      refine (next_some (y:=y) Q4 (by rw[RS.out.len];exact HY.out)).mono ?_
      rintro r w5 ⟨rfl,k5⟩;have AL5:=hid (AL4.out.next k5);have Q5:=hid (Q4.out.next k5);clear k5 AL4 Q4;dsimp only;go_upto_region 23 with fail
      obtain⟨w7,hw7,y7,k7⟩:=alloc1 w5 46 y.cl;rw[show w5.alloc (Obj.cells #[.int .i64 y.op,.string y.key,.int .i64 y.t,.int .i64 y.v,.int .i64 y.e,.int .i64 y.u,.int .i64 y.s] 46)=w7 from hw7]
      have AL7:=hid (AL5.out.next k7);have Y7:=hid y7;clear hw7 k7 y7 AL5 Q5;generalize w5.heap.size=gy at Y7 ⊢
      have HP9:Hid (∀ r∈s.rs,r.P.length≤9000):=hid fun r hr=>by
       obtain⟨i9,hi9⟩:=List.mem_iff_getElem?.1 hr;have l9:=(List.getElem?_eq_some_iff.1 hi9).1
       have l8:=RS.out.len;rw[(RS.out.reps i9 r hi9).2];exact FX.out.tr.len i9 cs[i9]! (by show cs[i9]?=some cs[i9]!;rw[List.getElem!_eq_getElem?_getD,List.getElem?_eq_getElem (by omega)];rfl)
      have CY:Hid (∀ w',Below w7.heap.size w7 w'→w'.cell? ⟨bl,off+kk*7,none⟩=some (.int .i64 y.op)∧w'.cell? ⟨bl,off+kk*7+1,none⟩=some (.string y.key)∧w'.cell? ⟨bl,off+kk*7+2,none⟩=some (.int .i64 y.t)∧w'.cell? ⟨bl,off+kk*7+3,none⟩=some (.int .i64 y.v)∧w'.cell? ⟨bl,off+kk*7+4,none⟩=some (.int .i64 y.e)∧w'.cell? ⟨bl,off+kk*7+5,none⟩=some (.int .i64 y.u)∧w'.cell? ⟨bl,off+kk*7+6,none⟩=some (.int .i64 y.s)):=hid fun w' hB=>by
       have kw:Below w.heap.size w w':=after K3.out (after AL7.out.cm.fam.below hB)
       have ck:∀ j v,y.cl[j]?=some v→w'.cell? ⟨bl,off+kk*7+j,none⟩=some v:=fun j v hv=>by
        have:=cell_keep kw (ROW.out kk y HY.out j v hv)
        rwa [←Nat.add_assoc] at this
       exact⟨ck 0 _ rfl,ck 1 _ rfl,ck 2 _ rfl,ck 3 _ rfl,ck 4 _ rfl,ck 5 _ rfl,ck 6 _ rfl⟩
      refine wp_region_when Goes.below 11 277 (Pr y (.slice (some ⟨bl,off,none⟩) k cp) xp bl off kk) (by show _=_;kernel_rfl) (by show _=_;kernel_rfl) (by show _=_;kernel_rfl) (Pr.mono y (.slice (some ⟨bl,off,none⟩) k cp) xp bl off kk) ?_ ?_ ?_
      ·intro k j b hk hg v w' hv
       obtain⟨hj,rfl⟩:=RelW.guards_of (js:=[2]) (b:=false) (by show _=_;kernel_rfl) hk hg
       simp only[List.mem_cons,List.not_mem_nil,or_false] at hj;rcases hj with rfl|rfl|rfl<;>exact hv
      ·intro i hi o ho a' w' Kc hd hout hdep hB hK
       match i,hi,ho with
       |0,_,ho=>exact Sl.wp_move _ (Reg.Has.op (p:=Op.move (.tmp 20)) (t:=99) (by show _=_;kernel_rfl) ho).1 (hK _ _ (hout 20 (Reg.Free.out (by show _=_;kernel_rfl))) (Below.refl _ _))
       |1,_,ho=>
        refine wp_val (V:=.bool false) (w':=w') ?_ (hK _ _ rfl (Below.refl _ _))
        have hop:=(Reg.Has.op (p:=Op.unOp UnOp.not 4 (.tmp 99)) (t:=100) (by show _=_;kernel_rfl) ho).1
        have q0:a'.eval (.tmp 99)=.bool true:=(hdep 0 (mem_of (by show _=_;kernel_rfl)) 99 (by show _=_;kernel_rfl))
        generalize a'.eval=ev at q0;simp[execOp,hop,go_sem,q0]
       |2,_,ho=>exact Sl.wp_move _ (Reg.Has.op (p:=Op.move (.tmp 100)) (t:=101) (by show _=_;kernel_rfl) ho).1 (hK _ _ (hdep 1 (mem_of (by show _=_;kernel_rfl)) 100 (by show _=_;kernel_rfl)) (Below.refl _ _))
       |3,_,ho=>exact ld_call (y:=y) (.tmp 19) (Reg.Has.op (p:=Op.load 46 (.tmp 19)) (t:=102) (by show _=_;kernel_rfl) ho).1 (hout 19 (Reg.Free.out (by show _=_;kernel_rfl))) (Y7.out.next hB) (hK _ _ rfl (Below.refl _ _))
       |4,_,ho=>exact Sl.wp_move _ (Reg.Has.op (p:=Op.move (.tmp 1)) (t:=103) (by show _=_;kernel_rfl) ho).1 (hK _ _ (hout 1 (Reg.Free.out (by show _=_;kernel_rfl))) (Below.refl _ _))
       |5,_,ho=>exact Sl.wp_move _ (Reg.Has.op (p:=Op.move (.tmp 10)) (t:=104) (by show _=_;kernel_rfl) ho).1 (hK _ _ (hout 10 (Reg.Free.out (by show _=_;kernel_rfl))) (Below.refl _ _))
       |6,_,ho=>
        have q0:a'.eval (.tmp 104)=gp xp:=(hdep 5 (mem_of (by show _=_;kernel_rfl)) 104 (by show _=_;kernel_rfl))
        refine wp_call (S:=fun u w2=>(∃ A cc,u=.slice A kk cc)∧Below w'.heap.size w' w2) (Reg.Has.op (p:=Op.call {callee:=Callee.value (.func 15),args:=#[.tmp 104],argTypes:=#[36]}) (t:=105) (by show _=_;kernel_rfl) ho).1 #[gp xp] (by simp[q0]) (fun _ _=>enters Tryz.func15 (by kernel_rfl) rfl _ _) ((replies_ok (hid (AL7.out.next hB).cm) (by rw[RS.out.len];omega) HP9).mono fun e w2 ⟨A,cc,zs,h1,h2⟩=>⟨_,h1,⟨A,cc,by rw[RS.out.len]⟩,h2.below⟩) ?_
        rintro u w2 ⟨h1,h2⟩;exact hK _ _ h1 h2
       |7,_,ho=>
        obtain⟨A,cc,qq⟩:=(hdep 6 (mem_of (by show _=_;kernel_rfl)) 105 (by show _=_;kernel_rfl))
        refine wp_val (V:=.int .i64 (kk:Int)) (w':=w') ?_ (hK _ _ rfl (Below.refl _ _))
        have hop:=(Reg.Has.op (p:=Op.call {callee:=Callee.builtin Builtin.len,args:=#[.tmp 105],argTypes:=#[40]}) (t:=106) (by show _=_;kernel_rfl) ho).1
        have q0:a'.eval (.tmp 105)=.slice A kk cc:=qq;generalize a'.eval=ev at q0;simp[execOp,hop,go_sem,q0]
       |8,_,ho=>
        refine wp_val (V:=.pointer (some ⟨bl,off+kk*7,none⟩)) (w':=w') ?_ (hK _ _ rfl (Below.refl _ _))
        have hop:=(Reg.Has.op (p:=Op.indexAddr 24 (.tmp 103) (.tmp 106)) (t:=107) (by show _=_;kernel_rfl) ho).1
        have q0:a'.eval (.tmp 103)=.slice (some ⟨bl,off,none⟩) k cp:=(hdep 4 (mem_of (by show _=_;kernel_rfl)) 103 (by show _=_;kernel_rfl))
        have q1:a'.eval (.tmp 106)=.int .i64 (kk:Int):=(hdep 7 (mem_of (by show _=_;kernel_rfl)) 106 (by show _=_;kernel_rfl))
        have q2:(kk:Int)<(k:Int):=by omega
        have q3:(0:Int)≤(kk:Int):=by omega
        generalize a'.eval=ev at q0 q1;simp[execOp,hop,go_sem,q0,q1,q2,q3]
       |9,_,ho=>
        obtain⟨g0,g1,g2,g3,g4,g5,g6⟩:=CY.out _ hB;refine wp_val (V:=y.val) (w':=w') ?_ (hK _ _ rfl (Below.refl _ _))
        have hop:=(Reg.Has.op (p:=Op.load 46 (.tmp 107)) (t:=108) (by show _=_;kernel_rfl) ho).1
        have q0:a'.eval (.tmp 107)=.pointer (some ⟨bl,off+kk*7,none⟩):=(hdep 8 (mem_of (by show _=_;kernel_rfl)) 107 (by show _=_;kernel_rfl))
        generalize a'.eval=ev at q0;simp[execOp,hop,go_sem,q0,g0,g1,g2,g3,g4,g5,g6]
       |10,_,ho=>
        refine wp_val (V:=.bool false) (w':=w') ?_ (hK _ _ rfl (Below.refl _ _))
        have hop:=(Reg.Has.op (p:=Op.binOp BinOp.neq 46 (.tmp 102) (.tmp 108) 46) (t:=109) (by show _=_;kernel_rfl) ho).1
        have q0:a'.eval (.tmp 102)=y.val:=(hdep 3 (mem_of (by show _=_;kernel_rfl)) 102 (by show _=_;kernel_rfl))
        have q1:a'.eval (.tmp 108)=y.val:=(hdep 9 (mem_of (by show _=_;kernel_rfl)) 108 (by show _=_;kernel_rfl))
        generalize a'.eval=ev at q0 q1;simp[execOp,hop,go_sem,q0,q1,neq_call]
       |i+11,hi,_=>exact absurd hi (by omega)
      ·intro f w8 hv hB hev
       have e2:f 2=.bool false:=hv 2 (by omega)
       have e10:f 10=.bool false:=hv 10 (by omega)
       change wpList _ _ _ [_] (Act.put (Act.put (Act.put (Act.put (Act.put (Act.put (Act.put (Act.put (Act.put (Act.put (Act.put _ (some 99) (f 0)) (some 100) (f 1)) (some 101) (f 2)) (some 102) (f 3)) (some 103) (f 4)) (some 104) (f 5)) (some 105) (f 6)) (some 106) (f 7)) (some 107) (f 8)) (some 108) (f 9)) (some 109) (f 10)) _
       rw[Rel.puts_zero];rw[e2,e10];have AL8:=hid (AL7.out.next hB);clear hv hev hB e2 e10 AL7 Y7 HP9 CY;generalize f 0=v0;generalize f 1=v1;generalize f 3=v3;generalize f 4=v4;generalize f 5=v5;generalize f 6=v6;generalize f 7=v7;generalize f 8=v8;generalize f 9=v9;clear f;simp only[Act.put,List.setIfInBounds_toArray,List.set_cons_zero,List.set_cons_succ]
       go_wp2_with (first
        |(refine wpList_plain rfl fun K' hK'=>ld_env (E:=⟨c,gc,b,ba,bn,bc,bs,xp,0,cs⟩) _ rfl rfl AL8.out.env.lies (hK' _ _ ?_))
        |fail)
       obtain⟨⟨tmv,bg,tpt,dn,tr⟩,mv,hstep⟩:=step_any FX.out (hid AL8.out.cm) TP2.out RS.out EM.out (show kk<cs.length by omega)
       refine hstep.mono ?_
       rintro r w9 ⟨s',⟨zr,R9,rfl,-,-,-,c9,o9,-⟩,nx⟩;have AL9:=hid (AL8.out.client c9 o9);have NX:=hid nx;obtain rfl:tmv=true:=mv;clear hstep c9 o9 nx AL8 TP2 RS EM;dsimp only;go_upto_region 26 with fail
       obtain⟨w10,hw10,t10,k10⟩:=alloc1 w9 51 (Td.cl ⟨true,bg,tpt,dn,zr⟩);rw[show w9.alloc (Obj.cells #[.bool true,.bool bg,.bool tpt,.bool dn,.int .i64 zr.code,.slice zr.a zr.n zr.c] 51)=w10 from hw10]
       have AL10:=hid (AL9.out.next k10);have T10:=hid t10;clear hw10 k10 t10 AL9;generalize w9.heap.size=gt at T10 ⊢;have b01:(c01 b1:Int)≤1:=by unfold c01;split<;>decide
       have p01:(c01 pt:Int)≤1:=by unfold c01;split<;>decide
       have kI:(kk:Int)≤20:=by omega
       have t1:=T10.out.cell (i:=1) rfl;go_upto_if 115 with fail
       go_cut [14] (fun s wx=>s=.int .i64 ((kk+c01 b1+c01 bg:Nat):Int)∧w10=wx)
       case first=>
        have g1:((kk+c01 b1:Nat):Int)+1≤9223372036854775807:=by omega
        have g2:-9223372036854775808≤((kk+c01 b1:Nat):Int)+1:=by omega
        cases bg
        ·go_wp2_with fail
         go_meet;exact⟨by congr 1,rfl⟩
        ·go_wp2_with fail
         go_meet;exact⟨congrArg (Value.int .i64) (by have:c01 true=1:=rfl;rw[this];omega),rfl⟩
       obtain⟨rfl,rfl⟩:=hcut;clear t1;have t2:=T10.out.cell (i:=2) rfl;go_upto_if 119 with fail
       go_cut [15] (fun s wx=>s=.int .i64 ((kk+c01 pt+c01 tpt:Nat):Int)∧w10=wx)
       case first=>
        have g1:((kk+c01 pt:Nat):Int)+1≤9223372036854775807:=by omega
        have g2:-9223372036854775808≤((kk+c01 pt:Nat):Int)+1:=by omega
        cases tpt
        ·go_wp2_with fail
         go_meet;exact⟨by congr 1,rfl⟩
        ·go_wp2_with fail
         go_meet;exact⟨congrArg (Value.int .i64) (by have:c01 true=1:=rfl;rw[this];omega),rfl⟩
       obtain⟨rfl,rfl⟩:=hcut;clear t2;have t3:=T10.out.cell (i:=3) rfl;go_upto_if 123 with fail
       go_cut [16] (fun s wx=>s=.int .i64 ((kk+c01 dn:Nat):Int)∧w10=wx)
       case first=>
        have g1:((kk:Nat):Int)+1≤9223372036854775807:=by omega
        have g2:-9223372036854775808≤((kk:Nat):Int)+1:=by omega
        cases dn
        ·go_wp2_with fail
         go_meet;exact⟨by congr 1,rfl⟩
        ·go_wp2_with fail
         go_meet;exact⟨congrArg (Value.int .i64) (by have:c01 true=1:=rfl;rw[this];omega),rfl⟩
       obtain⟨rfl,rfl⟩:=hcut;clear t3;go_upto_region 32 with fail
       go_cut [140] (fun sx wx=>sx=.bool false∧w10=wx)
       case first=>
        have t0:=T10.out.cell (i:=0) rfl;have t1:=T10.out.cell (i:=1) rfl;have t2:=T10.out.cell (i:=2) rfl;have t3:=T10.out.cell (i:=3) rfl;cases bg<;>cases tpt<;>cases dn<;>(go_wp2_with fail;go_meet;exact⟨rfl,rfl⟩)
       obtain⟨rfl,rfl⟩:=hcut;obtain⟨k3,n3,b3,pt3,i3,e1,e2,e3,e4,e5⟩:=NX.out.in3 AL10.out;rw[show kk+c01 b1+c01 bg=k3+c01 b3 from e1.symm,show kk+c01 pt+c01 tpt=k3+c01 pt3 from e2.symm,show kk+c01 dn=k3 from e3.symm]
       have I3:=hid i3;have EQ:=hid (And.intro e4 e5);have wl:=hid AL10.out.len;have k3l:k3≤20:=by have:k3≤cs.length:=e4;omega
       have p3l:(c01 pt3:Int)≤1:=by unfold c01;split<;>decide
       have n8:wn≤8:=by rw[wl.out,AL10.out.wm.len];exact AL10.out.cm.few
       clear i3 e1 e2 e3 e4 e5 NX b01 p01;go_upto_block 4 with fail
       refine loop3 FX k3l n8 I3 ?_
       intro t4 t22 t23 t24 t141 t142 t143 t144 t145 t146 t147 t148 t149 t150 t151 t152 t153 t154 t155 t156 t157 t158 t159 t160 t161 t162 t163 t164 t165 t166 t167 t168 t169 t170 t171 t172 t173 t174 t175 t176 pt4 s4 p4 S4 N4 m4 R4 w12 I4;have IL:=hid (I4.out.last (by rw[←AL10.out.wm.len,←wl.out];exact Nat.le_refl _))
       have hg1:(i:Int)+1≤9223372036854775807:=by have:=STB.out;omega
       have hg2:-9223372036854775808≤(i:Int)+1:=by omega
       have R2:Hid (Rd2 c8 ⟨c,gc,b,ba,bn,bc,bs,xp,0,cs⟩ q T Wf ws w3 w6 wL ge (.slice wA wn wc) (i+1) (.int .i64 ((k3+c01 b3:Nat):Int)) (.int .i64 ((k3+c01 pt4:Nat):Int)) (.int .i64 (k3:Int)) w12):=hid ⟨k3,n3,b3,pt4,s4,p4,S4,N4,m4,R4,rfl,rfl,rfl,I4.out.al,IL.out.1,I4.out.rs,IL.out.2,EQ.out.1,by have h1:=EQ.out.2;have h2:=PT.out;omega⟩
       clear IL I4 I3 EQ wl k3l n8 AL10 T10 PT;simp only[Exit.inBlock,Exit.then]
       go_wp2_with fail
       exact⟨⟨i+1,by go_num,R2⟩,by simp[intOf];omega⟩
    ·obtain rfl:kk=k:=Classical.byContradiction fun h=>hlt (pot_lt FX.out rfl hh8.1 TP2.out (by omega) PT.out HST.out)
     obtain⟨rfl,rfl,hd,co⟩:=TP2.out.over (show cs.length≤kk by omega)
     have HDD:=hid hd;have COO:=hid co;clear hd co;have PLN:Hid (∀ i,i<kk→(Wf i).2.length≤9000):=hid fun i hi=>by exact B.out.plen i hi
     go_upto_region 43 with fail
     exact fin (nn:=0) (zy:=zz) (by assumption) hn (by omega) K3 AL HDD COO RS PLN B
theorem walk_no(c:Cf)(FC:Hid c.Fit)(HM:Hid (¬c.may))(A:Option Addr)(n cp:Nat)(w:World):
  Calls Tryz.prog 3 #[c.val,.slice A n cp] w fun r w'=>r=.returned (.bool true)∧Below w.heap.size w w':=by
 obtain⟨W,hW,c0,k0⟩:=alloc1 w 23 (Sh.fcl c)
 obtain⟨g,hg⟩:∃ g,w.heap.size=g:=⟨_,rfl⟩
 have C0:=hid c0
 have K0:=hid k0
 rw[hg] at C0
 have HG:=hid hg
 go_enter Tryz.func3,Tryz.ntmps3
 go_upto_region 1 with fail
 clear hg hW c0 k0
 go_wp2_with fail
 refine (up_ok W).mono ?_
 rintro r w1 ⟨rfl,k1⟩
 have C1:=hid (C0.out.next k1)
 have K1:=hid (after K0.out k1)
 clear k1 C0 K0
 dsimp only
 go_wp2_with (first
  |(refine wpList_plain rfl fun K' hK'=>Wh.wp_load Tryz.isAgg23 Tryz.sizeOf23 _ rfl rfl C1.out (Nat.le_refl _) (Sh.fcl c) rfl (hK' _ _ ?_))
  |fail)
 refine (Asg.refMay_ok c.k c.s c.l c.g c.z c.h c.r c.c w1 false (hid (by simp;exact HM.out)) (Num.fit FC.out.2.1).2).mono ?_
 rintro r w2 ⟨rfl,k2⟩
 have K2:=hid (after K1.out k2)
 clear k2 C1 K1
 dsimp only
 go_wp2_with fail
 go_ret
 exact⟨rfl,K2.out⟩
theorem walk_far(c:Cf)(FC:Hid c.Fit)(HM:Hid c.may)(A:Option Addr)(n cp:Nat)(cs:List Cl)(w:World)(nm:n≤maxLen)(HK:Hid (¬Md.Fw n (fun i=>cs[i]!) 20))(RW:Hid (Md.Row A n (fun i=>cs[i]!) w)):
  Calls Tryz.prog 3 #[c.val,.slice A n cp] w fun r w'=>r=.returned (.bool true)∧Below w.heap.size w w':=by
 obtain⟨W,hW,c0,k0⟩:=alloc1 w 23 (Sh.fcl c)
 obtain⟨g,hg⟩:∃ g,w.heap.size=g:=⟨_,rfl⟩
 have C0:=hid c0
 have K0:=hid k0
 rw[hg] at C0
 have HG:=hid hg
 go_enter Tryz.func3,Tryz.ntmps3
 go_upto_region 1 with fail
 clear hg hW c0 k0
 go_wp2_with fail
 refine (up_ok W).mono ?_
 rintro r w1 ⟨rfl,k1⟩
 have C1:=hid (C0.out.next k1)
 have K1:=hid (after K0.out k1)
 clear k1 C0 K0
 dsimp only
 go_wp2_with (first
  |(refine wpList_plain rfl fun K' hK'=>Wh.wp_load Tryz.isAgg23 Tryz.sizeOf23 _ rfl rfl C1.out (Nat.le_refl _) (Sh.fcl c) rfl (hK' _ _ ?_))
  |fail)
 refine (Asg.refMay_ok c.k c.s c.l c.g c.z c.h c.r c.c w1 true (hid (by simp;exact HM.out)) (Num.fit FC.out.2.1).2).mono ?_
 rintro r w2 ⟨rfl,k2⟩
 have K2:=hid (after K1.out k2)
 have RW2:=hid (RW.out.next K2.out)
 clear k2 C1 K1
 dsimp only
 go_wp2_with fail
 refine (Md.few_ok A n cp (fun i=>cs[i]!) 20 false w2 (hid (by simpa using HK.out)) (by omega) nm RW2).mono ?_
 rintro r w3 ⟨rfl,k3⟩
 have K3:=hid (after K2.out k3)
 clear k3 K2 RW2
 dsimp only
 go_wp2_with fail
 go_ret
 exact⟨rfl,K3.out⟩
theorem walk(c:Cf)(fc:c.Fit)(x:Value×List Cl)(w:World)(cc:CameC w x):
  Calls Tryz.prog 3 #[c.val,x.1] w fun r w'=>r=.returned (.bool true)∧Below w.heap.size w w':=by
 obtain⟨v,cs⟩:=x
 obtain⟨A,cp,rfl⟩:∃ A cp,v=.slice A cs.length cp:=by
  rcases cc.rd with ⟨b,h⟩|⟨e,a,cp,h⟩
  ·exact h.len
  ·simp only at e h
   subst e;exact⟨some a,cp,h⟩
 have RW:Md.Row A cs.length (fun i=>cs[i]!) w:=fun h0=>by
  rcases cc.rd with ⟨b,h⟩|⟨e,_⟩
  ·obtain⟨off,cap,e,-,-,-,hc⟩:=h.some_ cok (by exact h0)
   simp only[Value.slice.injEq] at e;refine⟨b,off,e.1,fun i hi j v hv=>hc i (cs[i]!) (by rw[List.getElem!_eq_getElem?_getD,List.getElem?_eq_getElem hi];rfl) j v hv⟩
  ·simp only at e
   rw[e] at h0;simp at h0
 by_cases hm:c.may
 ·by_cases hf:Md.Fw cs.length (fun i=>cs[i]!) 20
  ·exact walk_on c ⟨c.k,c.s,c.l,c.g,c.z,c.h,c.r,c.c⟩ (hid rfl) (hid fc) (hid hm) A cs.length cp cs w (hid cc) rfl (hid hf) (hid cc.fit) (hid RW)
  ·exact walk_far c (hid fc) (hid hm) A cs.length cp cs w cc.len (hid hf) (hid RW)
 ·exact walk_no c (hid fc) (hid hm) A cs.length cp w
theorem own:ownKnob Tryz.prog.godebug=none:=by kernel_rfl
set_option maxRecDepth 100000 in
theorem lifted(os:Os)(started:os.Started)(H:Type)(enc:TypeId×Value→H):
  ReturnsInHanded {} Tryz.checked os 3 .any (Rows.clientAloneSpec.pre6 enc Tryz.prog Tryz.f3 Rows.clientAloneRow.domain false) (Rows.clientAloneSpec.post enc Tryz.prog Tryz.f3 false true false false):=by
 refine returnsInHanded_of_change (C:=Tryz.checked) own started (by kernel_rfl) Tryz.func3
  (ChangeSpec.witness6 (enc:=enc) (C:=Tryz.checked) false ⟨#[],#[.agg #[.int .i64 0,.int .i64 0,.int .i64 0,.int .i64 0,.int .i64 0,.int .i64 0,.int .i64 0,.int .i64 0],.slice none 0 0],[]⟩ 8 (by kernel_rfl) (by kernel_rfl) (by kernel_rfl) (by kernel_rfl)) ?_
 intro W base args ds gs before hval0 hW hcnd _
 have hval:∀ (j:Nat) t v,Tryz.f3.params[j]?=some t→args[j]?=some v→Value.okWide Tryz.prog W .any base t v:=hval0
 have hW':=hW
 obtain⟨p,q,hA0,hV,rfl,hfz,hnd⟩:=hW
 have hA:DataW.TrodAll enc Tryz.prog W 0 (fun _=>true) true Tryz.f3.params.toList args.toList ds p:=hA0
 rw[Tryz.params3] at hA hval
 obtain⟨v0,vs0,d0,ds0,p0,q0,hargs,rfl,rfl,h0,r0⟩:=trodAll_cons hA
 obtain⟨v1,vs1,d1,ds1,p1,q1,rfl,rfl,rfl,h1,r1⟩:=trodAll_cons r0
 obtain⟨rfl,rfl,rfl⟩:=trodAll_nil r1
 obtain rfl:args=#[v0,v1]:=by cases args;simp_all
 obtain⟨rfl,rfl⟩:=trodVars_none hV
 obtain⟨a0,rfl,w0⟩:=Opens.open_config (hval 0 23 v0 rfl rfl) h0
 obtain⟨a1,rfl,w1⟩:=Opens.open_clist (hval 1 24 v1 rfl rfl) h1
 clear hA0 hval0
 refine (walk a0 w0 a1 W w1).mono fun e W' ⟨he,hg⟩=>?_
 subst he
 exact⟨_,rfl,Laid.post Laid.laidOut (by kernel_rfl) rfl (by kernel_rfl) Tryz.underlying4 hW' ⟨rfl,rfl,rfl⟩ hg⟩
theorem over:Rows.clientAloneRow.holds Tryz.pinned (OpenSpec.ofChange Rows.clientAloneSpec):=
 OpenClaim.holds_of_wide 3 Tryz.f3 rfl rfl rfl rfl rfl rfl rfl ⟨rfl,rfl,rfl,rfl,rfl⟩ rfl rfl rfl rfl rfl (by kernel_rfl) Tryz.func3 (by kernel_rfl)
  (of_decide_eq_true (by kernel_rfl)) (by unfold Func.isWrapper;first|(rw[if_pos (by decide +kernel)];kernel_rfl)|(rw[if_neg (by decide +kernel)];exact⟨rfl,rfl⟩))
  (fun os started H enc _=>lifted os started H enc)
theorem proved:Rows.ClientAloneSaid:=
 over
#print axioms proved
end clientAlone
end Go.Proofs.YtfjlnniahfbdfaaGreat
