/- A part of the proof. -/
import Derived.Test.YtfjlnniahfbdfaaGreatPbk
import Derived.Test.YtfjlnniahfbdfaaGreatPbu
import Derived.Test.YtfjlnniahfbdfaaGreatPbv
import Derived.Test.YtfjlnniahfbdfaaGreatPbm
set_option linter.unusedVariables false
set_option maxHeartbeats 4000000
namespace Go.Proofs.YtfjlnniahfbdfaaGreat
open Lib (hid)
open Go.ChangeShapes Go.WideShapes Go.ChangeAt Go.RowKit
set_option maxRecDepth 100000
namespace Cn
open Small Foot Fm Ca
abbrev st0(cf:Cf):St:=⟨M0 cf,-9223372036854775808,0,false,false,fun _=>[],fun _=>false,[],g0,0,0,0,false,none⟩
theorem BF.next{w0 w w':World}{cf:Cf}{gc b:Nat}{wv bv:Value}{ws bs:List Nat}{R:Nat→Nat→Prop}(h:BF w0 cf gc b wv bv ws bs R w)(k:Below w.heap.size w w'):BF w0 cf gc b wv bv ws bs R w':=
 ⟨h.fam.next k,fun i g e=>⟨(h.box i g e).1.next k,(h.box i g e).2⟩,h.same,h.few,h.table.next k,h.r16,Lies.next h.ctl k,h.r17,h.r18,h.r19,h.wl.next k,h.r20,h.bl.next k,h.r21⟩
theorem BF.client{w0 w w':World}{cf:Cf}{gc b x bn bc:Nat}{ba:Option Addr}{num:Int}{wv cv:Value}{ws bs:List Nat}{cs:List Cl}{R:Nat→Nat→Prop}(h:BF w0 cf gc b wv (.slice ba bn bc) ws bs R w)(q:Q w' x num cv cs (.slice none 0 0) [] g0)(f:From w.heap.size (CF x cv (.slice none 0 0)))(k:Below w.heap.size w w'):
  ∃ R',CM w0 ⟨cf,gc,b,ba,bn,bc,bs,x,num,cs⟩ (st0 cf) R' w'∧On (fun j=>j=18) R w R' w':=by
 have V:Moves (R 18) (CF x cv (.slice none 0 0)) w w':=made_moves h.r18 k f q.in
 have ff:=h.fam.one V
 have K:=one_kp h.fam V
 refine⟨_,⟨ff,h.few,fun i g e=>?_,⟨((K 16 (by decide)).2 _ (by rw[h.r16];exact .inr rfl)).trans h.table.lies,((K 16 (by decide)).2 _ (by rw[h.r16];exact .inl rfl)).trans h.table.rows⟩,(K 16 (by decide)).1.trans h.r16,((K 17 (by decide)).2 _ (by rw[h.r17])).trans h.ctl,(K 17 (by decide)).1.trans h.r17,⟨cv,_,q,rset_same _ _ _⟩,(fun r hr=>by cases hr),VB.nil,(fun hh e=>by cases e),h.bl.move fun a ha=>(K 21 (by decide)).2 a (by rw[h.r21];exact ha),(K 21 (by decide)).1.trans h.r21⟩,On.one h.fam V rfl⟩
 obtain⟨bb,rr⟩:=h.box i g e
 have hi:=(List.getElem?_eq_some_iff.1 e).1
 have hf:bs.length≤8:=h.few
 have kk:=K i (by have:i<bs.length:=hi;omega)
 exact⟨_,⟨(kk.2 g (by rw[rr];exact .inl rfl)).trans bb.lies,Sl.Own.nil _ _ _⟩,kk.1.trans rr⟩
section
variable {w0 w w':World} {E:Ev} {s s':St} {R R':Nat→Nat→Prop}
theorem bput_ok{i g:Nat}(H:Hid (CM w0 E s R w))(e:E.bs[i]?=some g)(m:Ms.M)(hs:s.sb i=false)(hL:(s.L i).length<E.cf.c)(hc:E.cf.c≤16):
  Calls Tryz.prog 38 #[gp g,Ms.val m] w fun r w'=>r=.returned .nilIface∧∃ R',CM w0 E (s.msg i m) R' w'∧On TT R w R' w':=by
 obtain⟨bv,hb,hr⟩:=H.out.box i g e
 rw[hs] at hb
 refine (Ms.put_ok g E.cf.c bv (s.L i) m w (hid hb) (by omega) hc).mono ?_
 rintro r w2 ⟨v',rfl,b2,m2⟩
 obtain⟨R',c2,o2,-⟩:=H.out.onBox e hr b2 m2
 refine⟨rfl,R',?_,o2⟩
 have:(fun j=>if j=i then false else s.sb j)=s.sb:=funext fun j=>by
  by_cases hj:j=i
  ·subst hj;simp[hs]
  ·simp[hj]
 rw[this] at c2
 exact c2
end
abbrev c00:Cl:=⟨0,⟨#[]⟩,0,0,0,0,0⟩
theorem bm1(w:World)(k:Int):(Instr.build 55 #[(0,.int .i64 k)]).run Tryz.prog w=.ok (Ms.val ⟨k,0,c00,0,none⟩) w:=by kernel_rfl
theorem wp_bm1{o:Oper}{a:Act}{w:World}{K:Act→World→Prop}{Qq:Exit→Act→World→Prop}{k:Int}(ho:o.op=.build 55 #[(0,.const (.int .i64 k))])(hK:K (a.put o.dst (Ms.val ⟨k,0,c00,0,none⟩)) w):o.wp Tryz.prog a w K Qq:=by
 unfold Oper.wp execOp
 simp only[ho,List.map_toArray,List.map_cons,List.map_nil,show a.eval (.const (.int .i64 k))=.int .i64 k from rfl,Sem.run_bind,Sem.run_pure,Result.andThen_ok,bm1]
 exact hK
theorem two_calls{w:World}{b:Nat}{x y:Cl}(h:Lies w b 46 (x.cl++y.cl)):Sl.Is Ck w (.slice (some ⟨b,0,none⟩) 2 2) [x,y] b:=
 .inr ⟨0,2,rfl,by simp,by unfold maxLen;omega,h.lt,fun j u hj=>by rw[Nat.zero_add];exact h.cell (by simpa [Sl.flat] using hj)⟩
abbrev cf1:Cf:=⟨0,10,0,0,0,1,1,1⟩
abbrev ya:Cl:=⟨2,⟨#[97]⟩,0,0,0,0,0⟩
theorem cf1_may:cf1.may:=⟨.inl ⟨rfl,by decide⟩,by decide⟩
theorem cf1_fit:cf1.Fit:=by unfold Cf.Fit;decide
theorem ya_fit:ya.Fit:=⟨by decide,by decide,by decide,by decide,by decide,by decide,by decide⟩
theorem c00_fit:c00.Fit:=⟨by decide,by decide,by decide,by decide,by decide,by decide,by decide⟩
theorem ya_may:mayC cf1 ya:=⟨cf1_may,by decide,fun _=>⟨by decide,by decide⟩,fun h=>absurd h (by decide),fun h=>absurd h (by decide)⟩
theorem c00_may:¬mayC cf1 c00:=fun h=>absurd h.2.1.1 (by decide)
theorem ya_grp:grpOf cf1.r ya=((0:Nat):Int):=by
 unfold grpOf
 rw[if_pos (by rfl)]
 have:=Fnv.grp_in (Fnv.num ya.key.data.toList) 1
 have h2:=this.2 (by decide)
 have h1:=this.1
 show Fnv.grp (Fnv.num ya.key.data.toList) 1=0
 omega
theorem m0_at:(M0 cf1)[0]?=some ⟨0,0,false⟩:=rfl
theorem up_ok(w:World):Calls Tryz.prog 6 #[] w fun e w'=>e=.returned (.bool true)∧Below w.heap.size w w':=by
 go_enter Tryz.func6,Tryz.ntmps6
 go_upto_region 2 with fail
 have k1:=below1 w (Obj.cells #[.int .i64 0,.int .i64 10,.int .i64 0,.int .i64 0,.int .i64 0,.int .i64 1,.int .i64 1,.int .i64 1] 23)
 have C1:=hid (Lies.new w 23 (Sh.fcl cf1))
 have K1:=hid k1
 clear k1
 generalize w.heap.size=gq at C1 ⊢
 generalize hw1:w.alloc (Obj.cells #[.int .i64 0,.int .i64 10,.int .i64 0,.int .i64 0,.int .i64 0,.int .i64 1,.int .i64 1,.int .i64 1] 23)=w1 at C1 K1 ⊢
 clear hw1
 go_wp2_with (first
  |(refine wpList_plain rfl fun K' hK'=>Wh.wp_load Tryz.isAgg23 Tryz.sizeOf23 _ rfl rfl C1.out (Nat.le_refl _) (Sh.fcl cf1) rfl (hK' _ _ ?_))
  |fail)
 refine (begun_ok cf1 w1 (hid cf1_may) (hid cf1_fit) (by decide)).mono ?_
 rintro r w2 ⟨gc,b,wv,ba,bn,bc,bs,ws,R,rfl,h2,hl⟩
 have hbs:∃ g,bs=[g]:=by
  match bs,hl with
  |[g],_=>exact⟨g,rfl⟩
 obtain⟨g,rfl⟩:=hbs
 have H2:=hid h2
 clear h2 hl
 dsimp only
 go_upto_region 3 with fail
 have k3:=below1 w2 (Obj.cells #[.int .i64 0,.int .i64 10,.int .i64 0,.int .i64 0,.int .i64 0,.int .i64 1,.int .i64 1,.int .i64 1,.pointer (some ⟨gc,0,none⟩),.pointer (some ⟨b+1,0,none⟩),.slice ba bn bc] 32)
 have E3:=hid (Bo.new H2.out.fam (Lies.new w2 32 (ecl cf1 gc b (.slice ba bn bc))) (Nat.le_refl _))
 have HB3:Hid (BF w1 cf1 gc b wv (.slice ba bn bc) ws [g] R (w2.alloc (Obj.cells #[.int .i64 0,.int .i64 10,.int .i64 0,.int .i64 0,.int .i64 0,.int .i64 1,.int .i64 1,.int .i64 1,.pointer (some ⟨gc,0,none⟩),.pointer (some ⟨b+1,0,none⟩),.slice ba bn bc] 32))):=hid (H2.out.next k3)
 clear k3 H2
 generalize w2.heap.size=ge at E3 ⊢
 generalize hw3:w2.alloc (Obj.cells #[.int .i64 0,.int .i64 10,.int .i64 0,.int .i64 0,.int .i64 0,.int .i64 1,.int .i64 1,.int .i64 1,.pointer (some ⟨gc,0,none⟩),.pointer (some ⟨b+1,0,none⟩),.slice ba bn bc] 32)=w3 at E3 HB3 ⊢
 clear hw3
 have X4:=hid (two_calls (Lies.new w3 46 (ya.cl++c00.cl)))
 go_wp2_with fail
 refine (cnew_ok 0 _ [ya,c00] _ _ X4 (by decide)).mono ?_
 rintro r w5 ⟨x,cv,rfl,q5,f5,k5⟩
 have kk:=after (below1 w3 (Obj.cells (ya.cl++c00.cl).toArray 46)) k5
 obtain⟨R5,h5,K5⟩:=HB3.out.client q5 (fun i hi=>Nat.le_trans (below1 w3 (Obj.cells (ya.cl++c00.cl).toArray 46)).size (f5 i hi)) kk
 have H5:=hid h5
 have E5:Hid (Bo R5 w5 ge 32 (Ev.cl ⟨cf1,gc,b,ba,bn,bc,[g],x,0,[ya,c00]⟩)):=hid (E3.out.on K5)
 have B1:Hid (Below w.heap.size w w1):=K1
 clear q5 f5 k5 kk h5 K5 X4 E3 HB3
 dsimp only
 obtain⟨bnl0,-,bl,off,hba0,hcell⟩:=H5.out.lst (i:=0) (g:=g) rfl
 have c10:=E5.out.lies.cell (i:=10) rfl
 rw[show ba=some ⟨bl,off,none⟩ from hba0,show bn=1 from bnl0] at c10
 have hcell:w5.cell? ⟨bl,off,none⟩=some (gp g):=by simpa using hcell
 clear bnl0 hba0
 go_wp2_with (first
  |(refine wpList_plain rfl fun K' hK'=>wp_bm1 rfl (hK' _ _ ?_))
  |fail)
 refine (bput_ok (i:=0) H5 rfl ⟨2,0,c00,0,none⟩ rfl (show ((0:Nat):Int)<1 by decide) (show (1:Int)≤16 by decide)).mono ?_
 rintro r w6 ⟨rfl,R6,h6,o6⟩
 have H6:=hid h6
 have E6:=hid (E5.out.on o6)
 have LO5:Hid (Below w.heap.size w w5):=hid (B1.out.trans ((H5.out.fam.below).mono B1.out.size))
 have B6:Hid (Below w.heap.size w w6):=hid (B1.out.trans (h6.fam.below.mono B1.out.size))
 clear h6 o6 H5 E5 c10 hcell LO5
 dsimp only
 go_wp2_with (first
  |(refine wpList_plain rfl fun K' hK'=>ld_env (E:=⟨cf1,gc,b,ba,bn,bc,[g],x,0,[ya,c00]⟩) _ rfl rfl E6.out.lies (hK' _ _ ?_))
  |fail)
 refine (step_key_new (y:=ya) H6 (hid rfl) (hid (.inl rfl)) (by decide) (hid cf1_fit) (hid ya_fit) (hid rfl) (hid rfl) (hid ya_may) (hid fun w1 R1 h1=>keyed_st (t:=tb) (hid h1) (hid (.inl rfl)) (by decide) (show (1:Int)≤16 by decide) (hid cf1_fit) (hid ya_fit) (hid rfl) (.first rfl (.fullTry (i:=0) (j:=0) (g:=g) (o:=⟨0,0,false⟩) rfl ya_grp m0_at rfl rfl rfl rfl (show (1:Int)≤((1:Nat):Int) by decide) rfl)))).mono ?_
 rintro r w7 ⟨z1,R7,rfl,e1,-,-,h7,o7,-⟩
 have Q7:=hid e1
 have k7:=below1 w7 (Obj.cells (Td.cl ⟨true,true,true,true,z1⟩).toArray 51)
 have T7:=hid (Bo.new h7.fam (Lies.new w7 51 (Td.cl ⟨true,true,true,true,z1⟩)) (Nat.le_refl _))
 have H7:=hid (h7.next k7)
 have E7:=hid ((E6.out.on o7).next k7)
 clear k7 h7 o7 e1 H6 E6
 dsimp only
 go_upto_region 8 with fail
 generalize w7.heap.size=g7 at T7 ⊢
 generalize hw8:w7.alloc (Obj.cells #[.bool true,.bool true,.bool true,.bool true,.int .i64 z1.code,.slice z1.a z1.n z1.c] 51)=w8 at *
 clear hw8
 go_wp2_with (first
  |(refine wpList_plain rfl fun K' hK'=>ld_env (E:=⟨cf1,gc,b,ba,bn,bc,[g],x,0,[ya,c00]⟩) _ rfl rfl E7.out.lies (hK' _ _ ?_))
  |fail)
 refine (step_bad (y:=c00) H7 (hid rfl) (hid (.inl rfl)) (by decide) (hid cf1_fit) (hid c00_fit) (hid rfl) (hid c00_may)).mono ?_
 rintro r w9 ⟨z2,R9,rfl,e2,-,-,h9,o9,-⟩
 have Q9:=hid e2
 have k9:=below1 w9 (Obj.cells (Td.cl ⟨true,true,true,true,z2⟩).toArray 51)
 have U9:=hid (Bo.new h9.fam (Lies.new w9 51 (Td.cl ⟨true,true,true,true,z2⟩)) (Nat.le_refl _))
 have H9:=hid (h9.next k9)
 have E9:=hid ((E7.out.on o9).next k9)
 have T9:=hid ((T7.out.on o9).next k9)
 clear k9 h9 o9 e2 H7 E7 T7
 dsimp only
 go_upto_region 9 with fail
 generalize w9.heap.size=g9 at U9 ⊢
 generalize hwa:w9.alloc (Obj.cells #[.bool true,.bool true,.bool true,.bool true,.int .i64 z2.code,.slice z2.a z2.n z2.c] 51)=wa at *
 clear hwa
 go_wp2_with (first
  |(refine wpList_plain rfl fun K' hK'=>ld_env (E:=⟨cf1,gc,b,ba,bn,bc,[g],x,0,[ya,c00]⟩) _ rfl rfl E9.out.lies (hK' _ _ ?_))
  |fail)
 refine (step_over H9 (hid (show 2≤2 by decide))).mono ?_
 rintro r wb ⟨z3,Rb,rfl,e3,-,-,hb,ob,-⟩
 have kb:=below1 wb (Obj.cells (Td.cl ⟨false,false,false,false,z3⟩).toArray 51)
 have Vb:=hid (Bo.new hb.fam (Lies.new wb 51 (Td.cl ⟨false,false,false,false,z3⟩)) (Nat.le_refl _))
 have Hb:=hid (hb.next kb)
 have Ub:=hid ((U9.out.on ob).next kb)
 have Tb:=hid ((T9.out.on ob).next kb)
 clear kb hb ob e3 H9 E9 T9 U9
 dsimp only
 go_upto_region 10 with fail
 generalize wb.heap.size=gb at Vb ⊢
 generalize hwc:wb.alloc (Obj.cells #[.bool false,.bool false,.bool false,.bool false,.int .i64 z3.code,.slice z3.a z3.n z3.c] 51)=wc at *
 clear hwc
 have t1:=Tb.out.lies.cell (i:=1) rfl
 have t2:=Tb.out.lies.cell (i:=2) rfl
 have t3:=Tb.out.lies.cell (i:=3) rfl
 have t4:=Tb.out.lies.cell (i:=4) rfl
 have u3:=Ub.out.lies.cell (i:=3) rfl
 have u4:=Ub.out.lies.cell (i:=4) rfl
 have v0:=Vb.out.lies.cell (i:=0) rfl
 rw[Q7.out] at t4
 rw[Q9.out] at u4
 have Bc:Hid (Below w.heap.size w wc):=hid (B1.out.trans (Hb.out.fam.below.mono B1.out.size))
 obtain⟨cv2,rv2,qc,-⟩:=Hb.out.client
 have QC:=hid qc
 clear qc
 go_wp2_with fail
 refine (over_ok QC).mono ?_
 rintro r wd ⟨rfl,kd⟩
 have Hd':=hid (Hb.out.next kd)
 have Bd:=hid (after Bc.out kd)
 clear kd t1 t2 t3 t4 u3 u4 v0
 dsimp only
 go_wp2_with fail
 refine (replies_ok Hd' (by decide) (hid (by decide))).mono ?_
 rintro r we ⟨A,c,zs,rfl,rp⟩
 have Be:=hid (after Bd.out rp.below)
 clear rp
 dsimp only
 go_wp2
 go_ret
 exact⟨rfl,Be.out⟩
end Cn
namespace Cn
open Small Foot Fm Ca
section
variable {w0 w w':World} {E:Ev} {s s':St} {R R':Nat→Nat→Prop}
theorem step_start_any{y:Cl}{t':Td}{sf:Nat→St}(H:Hid (CM w0 E s R w))(hk:Hid (E.cs[s.rs.length]?=some y))(hh:Hid (Held E s))(hr:s.rs.length≤1000)(fc:Hid E.cf.Fit)(fy:Hid y.Fit)(hkd:Hid (kd y.op=false))(hn:Hid (s.g.held=none))(hb:Hid (s.g.b=false))(HM:Hid (mayC E.cf y))(P:Hid (∀ w1 R1,CM w0 E s.beg R1 w1→Calls Tryz.prog 53 #[gp E.x,E.v,y.val,Td.v tb] w1 (fun r w'=>∃ hx,Went w0 E R1 w1 s.beg (sf hx) t' r w'))):Calls Tryz.prog 16 #[gp E.x,E.v] w (fun r w'=>∃ hx,Went w0 E R w s (sf hx) t' r w'):=by
 obtain⟨W,hW,e0,z0,k0⟩:=alloc2 w 32 51 E.cl [.bool false,.bool false,.bool false,.bool false,.int .i64 0,.slice none 0 0]
 obtain⟨g,hg⟩:∃ g,w.heap.size=g:=⟨_,rfl⟩
 have E0:=hid (Bo.new H.out.fam e0 (Nat.le_refl _))
 have Z0:=hid (Bo.new H.out.fam z0 (by omega))
 have F0:=hid H.out.fam
 have H0:=hid (H.out.next k0)
 have O0:Hid (On TT R w R W):=hid (On.below H.out.fam k0)
 have OLD:=hid H.out.old
 have LO:Hid (w0.heap.size≤w.heap.size):=hid H.out.fam.below.size
 have HG:=hid hg
 rw[hg] at E0 Z0
 go_enter Tryz.func16,Tryz.ntmps16
 go_upto_region 1 with fail
 clear hg hW e0 z0 k0 H
 obtain⟨cv,rv,q0,-⟩:=H0.out.client
 go_wp2_with fail
 refine (next_some (hid q0) hk.out).mono ?_
 rintro r w1 ⟨rfl,k1⟩
 clear q0
 dsimp only
 go_upto_region 5 with fail
 obtain⟨W2,hW2,y2,t2,k2⟩:=alloc2 w1 46 51 y.cl [.bool false,.bool false,.bool false,.bool false,.int .i64 0,.slice none 0 0]
 obtain⟨d,hd⟩:∃ d,w1.heap.size=d:=⟨_,rfl⟩
 rw[show (w1.alloc (Obj.cells #[.int .i64 y.op,.string y.key,.int .i64 y.t,.int .i64 y.v,.int .i64 y.e,.int .i64 y.u,.int .i64 y.s] 46)).alloc (Obj.cells #[.bool false,.bool false,.bool false,.bool false,.int .i64 0,.slice none 0 0] 51)=W2 from hW2,hd]
 have E1:=hid ((E0.out.next k1).next k2)
 have Z1:=hid ((Z0.out.next k1).next k2)
 have f1:=H0.out.fam.next k1
 have Y1:=hid (Bo.new f1 y2 (Nat.le_refl _))
 have T1:=hid (Bo.new f1 t2 (by omega))
 have H1:=hid ((H0.out.next k1).next k2)
 have O1:=hid (O0.out.trans (On.below H0.out.fam (after k1 k2)))
 have D1:Hid (g+1<d∧d+1<W2.heap.size∧w.heap.size≤W2.heap.size):=hid ⟨by rw[←hd];exact (Z0.out.next k1).lies.lt,by rw[←hd];exact t2.lt,O1.out.size⟩
 rw[hd] at Y1 T1
 clear hW2 hd y2 t2 k1 k2 f1 H0 E0 Z0 O0
 obtain⟨cv,rv,q1,-⟩:=H1.out.client
 have c3:=q1.lies.cell (i:=3) rfl
 have c7:=q1.lies.cell (i:=7) rfl
 have p3:=q1.lies.open_ 3
 clear q1
 rw[hb.out] at c3
 go_upto_region 7 with fail
 obtain⟨R1,h2,o2⟩:=H1.out.cell (j:=3) (v:=.bool true) (g':={s.g with b:=true}) (fun _ _=>rfl) rfl (.inr rfl)
 have H2:=hid h2
 have E2:=hid (E1.out.on o2)
 have Y2:=hid (Y1.out.on o2)
 have T2:=hid (T1.out.on o2)
 have Z2:=hid (Z1.out.on o2)
 have O2:=hid (O1.out.trans o2)
 clear h2 o2 c3 p3 c7 H1 E1 Y1 T1 Z1 O1
 have S2:Hid (W2.heap.size≤(W2.setCell ⟨E.x,3,none⟩ (.bool true)).heap.size):=hid (by simp)
 generalize W2.setCell ⟨E.x,3,none⟩ (.bool true)=w2 at H2 E2 Y2 T2 Z2 O2 S2 ⊢
 go_upto_region 8 with (first
  |(refine wpList_plain rfl fun K' hK'=>wp_told2 rfl (hK' _ _ ?_))
  |(refine wpList_plain rfl fun K' hK'=>st_told (t':=tb) _ _ rfl rfl rfl T2.out.lies rfl (fun w3 z1 z2=>hK' _ _ ?_))
  |fail)
 have H3:=hid (H2.out.aside z2 T2.out.out (by have:=LO.out;have:=D1.out;have:=HG.out;omega) OLD.out (by have:=D1.out;have:=HG.out;omega))
 have T3:Hid (Bo R1 w3 (d+1) 51 (Td.cl tb)):=hid ⟨z1,T2.out.out⟩
 have E3:=hid (E2.out.far z2 (by have:=D1.out;omega))
 have Y3:=hid (Y2.out.far z2 (by omega))
 have Z3:=hid (Z2.out.far z2 (by have:=D1.out;omega))
 have O3:=hid (Cn.On.aside F0.out O2.out z2 (by have:=D1.out;have:=HG.out;omega))
 have S3:Hid (W2.heap.size≤w3.heap.size):=hid (Nat.le_trans S2.out z2.size)
 clear z1 z2 H2 E2 Y2 T2 Z2 O2 S2
 simp only[Act.put]
 go_wp2_with (first
  |(refine wpList_plain rfl fun K' hK'=>ld_cfg (E:=E) _ rfl rfl E3.out.lies (hK' _ _ ?_))
  |(refine wpList_plain rfl fun K' hK'=>ld_call (y:=y) _ rfl rfl Y3.out.lies (hK' _ _ ?_))
  |fail)
 refine (Ca.may_ok E.cf y _ true (hid (by simp[HM.out])) fc.out fy.out).mono ?_
 rintro r w4 ⟨rfl,k4⟩
 have H4:=hid (H3.out.next k4)
 have T4:=hid (T3.out.next k4)
 have E4:=hid (E3.out.next k4)
 have Y4:=hid (Y3.out.next k4)
 have Z4:=hid (Z3.out.next k4)
 have O4:=hid (O3.out.trans (On.below H3.out.fam k4))
 have S4:Hid (W2.heap.size≤w4.heap.size):=hid (Nat.le_trans S3.out k4.size)
 clear k4 H3 T3 E3 Y3 Z3 O3 S3
 dsimp only
 go_wp2_with (first
  |(refine wpList_plain rfl fun K' hK'=>ld_call (y:=y) _ rfl rfl Y4.out.lies (hK' _ _ ?_))
  |fail)
 refine (Ca.keyed_ok y _).mono ?_
 rintro r w5 ⟨rfl,k5⟩
 rw[hkd.out]
 have H5:=hid (H4.out.next k5)
 have T5:=hid (T4.out.next k5)
 have E5:=hid (E4.out.next k5)
 have Y5:=hid (Y4.out.next k5)
 have Z5:=hid (Z4.out.next k5)
 have O5:=hid (O4.out.trans (On.below H4.out.fam k5))
 have S5:Hid (W2.heap.size≤w5.heap.size):=hid (Nat.le_trans S4.out k5.size)
 clear k5 H4 T4 E4 Y4 Z4 O4 S4
 dsimp only
 obtain⟨cv,rv,q5,-⟩:=H5.out.client
 have c7:=q5.lies.cell (i:=7) rfl
 rw[show ({s.g with b:=true}:Pg).held=none from hn.out] at c7
 clear q5
 go_wp2_with (first
  |(refine wpList_plain rfl fun K' hK'=>ld_env (E:=E) _ rfl rfl E5.out.lies (hK' _ _ ?_))
  |(refine wpList_plain rfl fun K' hK'=>ld_call (y:=y) _ rfl rfl Y5.out.lies (hK' _ _ ?_))
  |(refine wpList_plain rfl fun K' hK'=>ld_told (t:=tb) _ rfl rfl T5.out.lies (hK' _ _ ?_))
  |fail)
 refine (P.out _ _ H5.out).mono ?_
 rintro r w8 ⟨hx,z,R8,rfl,e1,e2,nz,c8,o8,ol⟩
 have N8:=hid (And.intro e1 (And.intro e2 nz))
 have C8:=hid c8
 have Z8:=hid (Z5.out.on o8)
 have O8:=hid (O5.out.trans o8)
 have L8:Hid (g+1<w5.heap.size∧w.heap.size≤w5.heap.size):=hid ⟨Z5.out.lies.lt,O5.out.size⟩
 have OL:=hid ol
 clear e1 e2 nz c8 o8 ol
 dsimp only
 go_wp2_with (first
  |(refine wpList_plain rfl fun K' hK'=>st_told (t':=⟨t'.mv,t'.bg,t'.pt,t'.dn,z⟩) _ _ rfl rfl rfl Z8.out.lies rfl (fun w9 z1 z2=>hK' _ _ ?_))
  |fail)
 exact bodyPost_ret (told_told (t:=⟨t'.mv,t'.bg,t'.pt,t'.dn,z⟩) rfl rfl z1) rfl ⟨hx,z,R8,rfl,N8.out.1,N8.out.2.1,(N8.out.2.2.far z2 L8.out.1).less L8.out.2,C8.out.aside z2 Z8.out.out (by have:=LO.out;have:=HG.out;omega) (OL.out _ OLD.out) (by have:=HG.out;omega),Cn.On.aside F0.out O8.out z2 (by have:=HG.out;omega),fun n h=>OL.out n h⟩
end
end Cn
end Go.Proofs.YtfjlnniahfbdfaaGreat
