/- A part of the proof. -/
import Derived.Test.YtfjlnniahfbdfaaGreatPca
import Derived.Test.YtfjlnniahfbdfaaGreatPbu
import Derived.Test.YtfjlnniahfbdfaaGreatPby
import Derived.Test.YtfjlnniahfbdfaaGreatRows
import Derived.WalkKit
import Derived.ProofKit
import Derived.OpenShut
import Derived.Carry
set_option linter.unusedVariables false
set_option maxHeartbeats 4000000
namespace Go.Proofs.YtfjlnniahfbdfaaGreat
open Lib (hid)
open Go.ChangeShapes Go.WideShapes Go.ChangeAt Go.RowKit
set_option maxRecDepth 100000
namespace Cn
open Small Foot Fm Ca
theorem rep_cells{w:World}{b off n cap:Nat}{zs:List Rp}(h:Sl.Is Rk w (.slice (some ⟨b,off,none⟩) n cap) zs b){i:Nat}{z:Rp}(hz:zs[i]?=some z):
  w.cell? ⟨b,off+i*2,none⟩=some (.int .i64 z.code)∧w.cell? ⟨b,off+i*2+1,none⟩=some (.slice z.a z.n z.c):=by
 obtain⟨off',cap',e,-,-,-,hc⟩:=h.some_ rok (by have:=(List.getElem?_eq_some_iff.1 hz).1;omega)
 simp only[Value.slice.injEq,Option.some.injEq,Addr.mk.injEq,true_and,and_true] at e
 obtain⟨rfl,-,-⟩:=e
 have h0:=hc i z hz 0 _ rfl
 have h1:=hc i z hz 1 _ rfl
 simp only[←Nat.add_assoc] at h0 h1
 exact⟨h0,h1⟩
theorem Top.over{c8:C8}{E:Ev}{q:Int→Option Nat}{T:Nat→MS}{Wf:Nat→Int×List Pn}{k n:Nat}{bb pt:Bool}{s:St}{p:Nat→Int→Option Nat}{S:Int→Grp.Lists}{N:Nat}(h:Top c8 E q T Wf k n bb pt s p S N)(hk:E.cs.length≤k):bb=false∧pt=false∧s.hd=false∧Co c8 q (T k) k none s p S N:=by
 have no:∀ y,E.cs[k]?≠some y:=fun y e=>by have:=(List.getElem?_eq_some_iff.1 e).1;omega
 cases h with
 |idle g hd co=>exact⟨rfl,rfl,hd,co⟩
 |ans hy=>exact absurd hy (no _)
 |adv hy=>exact absurd hy (no _)
 |mv0 hy=>exact absurd hy (no _)
 |mv1 hy=>exact absurd hy (no _)
 |mv2 hy=>exact absurd hy (no _)
 |shut hy=>exact absurd hy (no _)
theorem lw_aside{c8:C8}{E:Ev}{q:Int→Option Nat}{T:Nat→MS}{Wf:Nat→Int×List Pn}{ws:List Nat}{w3 w6 wL w:World}{ge:Nat}{wv:Value}{s:St}{p:Nat→Int→Option Nat}{S:Int→Grp.Lists}{N:Nat}{n1:Int→Nat}{R:Nat→Nat→Prop}{cs:List Cl}{rm k:Nat}{zz:Nat→Option (Nat×Int×Int×Int)}{zs:List Rp}{sv:Value}{G:Nat→Prop}
  (a:Al c8 E q T Wf ws w3 w6 wL ge wv s p S N n1 R w) (h:LW w6 c8 cs rm k T Wf zz zs sv G wL):
  Rm.Is w rm G c8 (T k).R (T k).mt (T k).L (T k).cl∧Sl.Own Rk w6.heap.size w sv zs∧∀ i z,zs[i]?=some z→z.code=(Wf i).1∧z.P=(Wf i).2∧Sl.Own Pn.k w6.heap.size w z.pv z.P:=
 ⟨h.md.keep (fun i hi=>(a.aside i (h.fg i hi) (h.md.in i hi)).1) a.big,h.own.move fun i hi=>(a.aside i (h.own.lt i hi).1 (h.own.lt i hi).2).1,fun i z e=>⟨(h.each i z e).1,(h.each i z e).2.1,(h.each i z e).2.2.move fun j hj=>(a.aside j ((h.each i z e).2.2.lt j hj).1 ((h.each i z e).2.2.lt j hj).2).1⟩⟩
theorem rm_cells{w:World}{rm:Nat}{F:Nat→Prop}{cf:C8}{R:List Pn}{mark:Int}{L:List Pn}{cl:Bool}(h:Rm.Is w rm F cf R mark L cl):w.cell? ⟨rm,2,none⟩=some (.int .i64 mark)∧w.cell? ⟨rm,3,none⟩=some (.bool cl):=by
 obtain⟨gr,Fr,ov,q,-⟩:=h
 exact⟨q.lies.cell (i:=2) rfl,q.lies.cell (i:=3) rfl⟩
def hd1:Code→Code
 |.seq a _=>a
 |c=>c
def tl1:Code→Code
 |.seq _ b=>b
 |c=>c
noncomputable def al2a:Code:=hd1 al2
noncomputable def al2r:Code:=tl1 al2
end Cn
namespace clientAlone
open Small Foot Fm Ca Cn Rel RelG
open Md (cfOf)
theorem fin{c:Cf}{c8:C8}{gc b bn bc xp:Nat}{ba:Option Addr}{bs:List Nat}{cs:List Cl}{q:Int→Option Nat}{zz zy:Nat→Option (Nat×Int×Int×Int)}{T:Nat→MS}{Wf:Nat→Int×List Pn}{ws:List Nat}{w0 w3 w6 wL:World}{ge:Nat}{wA:Option Addr}{wn wc k nn:Nat}{s:St}{p:Nat→Int→Option Nat}{S:Int→Grp.Lists}{N:Nat}{n1:Int→Nat}{R:Nat→Nat→Prop}{w:World}{rm cp:Nat}{A1:Option Addr}{zs:List Rp}{As:Option Addr}{Ac:Nat}{G:Nat→Prop}
  {K:Act→World→Prop} (hK:∀ a w',al2r.wp Tryz.prog (bodyPost Tryz.prog Tryz.f3 fun r w'=>r=.returned (.bool true)∧Below w0.heap.size w0 w') a w'→K a w') (hcs:cs.length=k) (k20:k≤20) (K3:Hid (Below w0.heap.size w0 w3)) (AL:Hid (Al c8 ⟨c,gc,b,ba,bn,bc,bs,xp,0,cs⟩ q T Wf ws w3 w6 wL ge (.slice wA wn wc) s p S N n1 R w)) (HD:Hid (s.hd=false)) (CO:Hid (Co c8 q (T k) k none s p S N)) (RS:Hid (Rs Wf k s)) (PL:Hid (∀ i,i<k→(Wf i).2.length≤9000)) (B:Hid (LW w6 c8 cs rm k T Wf zz zs (.slice As k Ac) G wL)) {u0 u2 u3 u4 u6 u8 u9 u13 u17 u18 u19 u20 u21 u22 u23 u24 u25 u26 u27 u28 u29 u30 u31 u32 u33 u34 u35 u36 u37 u38 u39 u40 u41 u42 u43 u44 u45 u46 u47 u48 u49 u50 u51 u52 u53 u54 u55 u56 u57 u58 u59 u60 u61 u62 u63 u64 u65 u66 u67 u68 u69 u70 u71 u72 u73 u74 u75 u76 u77 u78 u79 u80 u81 u82 u83 u84 u85 u86 u87 u88 u89 u90 u91 u92 u93 u94 u95 u96 u97 u98 u99 u100 u101 u102 u103 u104 u105 u106 u107 u108 u109 u110 u111 u112 u113 u114 u115 u116 u117 u118 u119 u120 u121 u122 u123 u124 u125 u126 u127 u128 u129 u130 u131 u132 u133 u134 u135 u136 u137 u138 u139 u140 u141 u142 u143 u144 u145 u146 u147 u148 u149 u150 u151 u152 u153 u154 u155 u156 u157 u158 u159 u160 u161 u162 u163 u164 u165 u166 u167 u168 u169 u170 u171 u172 u173 u174 u175 u176 u177 u178 u179 u180 u181 u182 u183 u184 u185 u186 u187 u188 u189 u190 u191 u192 u193 u194 u195 u196 u197 u198 u199 u200 u201 u202 u203 u204 u205 u206 u207 u208 u209 u210 u211 u212 u213 u214 u215 u216 u217 u218 u219 u220 u221 u222 u223 u224 u225 u226 u227 u228 u229 u230 u231 u232 u233 u234 u235 u236 u237 u238 u239 u240 u241 u242 u243 u244 u245 u246 u247 u248 u249 u250 u251 u252 u253 u254 u255 u256 u257 u258 u259 u260 u261 u262 u263 u264 u265 u266 u267 u268 u269 u270 u271 u272 u273 u274 u275 u276:Value}:
  al2a.wp Tryz.prog (Exit.then K (bodyPost Tryz.prog Tryz.f3 fun r w'=>r=.returned (.bool true)∧Below w0.heap.size w0 w')) ⟨#[u0,.slice A1 k cp,u2,u3,u4,.bool true,u6,gp ge,u8,u9,gp xp,gp rm,.slice As k Ac,u13,.int .i64 (k:Int),.int .i64 (k:Int),.int .i64 (k:Int),u17,u18,u19,u20,u21,u22,u23,u24,u25,u26,u27,u28,u29,u30,u31,u32,u33,u34,u35,u36,u37,u38,u39,u40,u41,u42,u43,u44,u45,u46,u47,u48,u49,u50,u51,u52,u53,u54,u55,u56,u57,u58,u59,u60,u61,u62,u63,u64,u65,u66,u67,u68,u69,u70,u71,u72,u73,u74,u75,u76,u77,u78,u79,u80,u81,u82,u83,u84,u85,u86,u87,u88,u89,u90,u91,u92,u93,u94,u95,u96,u97,u98,u99,u100,u101,u102,u103,u104,u105,u106,u107,u108,u109,u110,u111,u112,u113,u114,u115,u116,u117,u118,u119,u120,u121,u122,u123,u124,u125,u126,u127,u128,u129,u130,u131,u132,u133,u134,u135,u136,u137,u138,u139,u140,u141,u142,u143,u144,u145,u146,u147,u148,u149,u150,u151,u152,u153,u154,u155,u156,u157,u158,u159,u160,u161,u162,u163,u164,u165,u166,u167,u168,u169,u170,u171,u172,u173,u174,u175,u176,u177,u178,u179,u180,u181,u182,u183,u184,u185,u186,u187,u188,u189,u190,u191,u192,u193,u194,u195,u196,u197,u198,u199,u200,u201,u202,u203,u204,u205,u206,u207,u208,u209,u210,u211,u212,u213,u214,u215,u216,u217,u218,u219,u220,u221,u222,u223,u224,u225,u226,u227,u228,u229,u230,u231,u232,u233,u234,u235,u236,u237,u238,u239,u240,u241,u242,u243,u244,u245,u246,u247,u248,u249,u250,u251,u252,u253,u254,u255,u256,u257,u258,u259,u260,u261,u262,u263,u264,u265,u266,u267,u268,u269,u270,u271,u272,u273,u274,u275,u276],[]⟩ w:=by
 conv=>arg 2;whnf
 have HCS:=hid hcs
 clear hcs
 have HP9:Hid (∀ r∈s.rs,r.P.length≤9000):=hid fun r hr=>by
  obtain⟨i9,hi9⟩:=List.mem_iff_getElem?.1 hr;rw[(RS.out.reps i9 r hi9).2];exact PL.out i9 (by have:=(List.getElem?_eq_some_iff.1 hi9).1;have:=RS.out.len;omega)
 go_wp2_with fail
 refine (replies_ok (hid AL.out.cm) (by rw[RS.out.len];omega) HP9).mono ?_
 rintro r w2 ⟨Ag,cg,gz,rfl,rp⟩
 rw[RS.out.len] at rp
 have AL2:=hid (AL.out.next rp.below)
 have GZ:=hid rp
 clear rp HP9 AL
 rw[RS.out.len]
 dsimp only
 obtain⟨cv,rv,q0,-⟩:=AL2.out.cm.client
 have Q0:=hid q0
 clear q0
 have HKK:=hid hK
 clear hK
 go_wp2_with fail
 refine HKK.out _ _ ?_
 conv=>arg 2;whnf
 clear HKK
 go_wp2_with fail
 refine (over_ok Q0).mono ?_
 rintro r w4 ⟨rfl,k4⟩
 have ov:decide ((⟨c,gc,b,ba,bn,bc,bs,xp,0,cs⟩:Ev).cs.length≤s.rs.length)=true:=decide_eq_true (by rw[RS.out.len];show cs.length≤k;rw[HCS.out];exact Nat.le_refl _)
 rw[ov]
 have AL4:=hid (AL2.out.next k4)
 have GO:Hid (Sl.Own Rk w.heap.size w4 (.slice Ag k cg) gz):=hid (GZ.out.own.next k4)
 have GE:Hid (∀ i,i<k→∃ z,gz[i]?=some z∧z.code=(Wf i).1∧z.P=(Wf i).2∧Sl.Own Pn.k w.heap.size w4 z.pv z.P):=hid fun i hi=>by
  have l1:=GZ.out.len;have l2:=RS.out.len;obtain⟨z,hz⟩:∃ z,gz[i]?=some z:=⟨_,List.getElem?_eq_getElem (by omega)⟩
  obtain⟨y,hy⟩:∃ y,s.rs[i]?=some y:=⟨_,List.getElem?_eq_getElem (by omega)⟩
  obtain⟨e1,e2,e3⟩:=GZ.out.each i z y hz hy;obtain⟨e4,e5⟩:=RS.out.reps i y hy;exact⟨z,hz,e1.trans e4,e2.trans e5,e3.next k4⟩
 clear k4 AL2 Q0 ov GZ
 dsimp only
 obtain⟨md,wo,we⟩:=lw_aside AL4.out B.out
 have MD:=hid md
 have WO:=hid wo
 have WE:Hid (∀ i,i<k→∃ z,zs[i]?=some z∧z.code=(Wf i).1∧z.P=(Wf i).2∧Sl.Own Pn.k w6.heap.size w4 z.pv z.P):=hid fun i hi=>by
  obtain⟨z,hz⟩:∃ z,zs[i]?=some z:=⟨_,List.getElem?_eq_getElem (by rw[B.out.len];exact hi)⟩
  exact⟨z,hz,we i z hz⟩
 clear md wo we
 have lz:Hid (zs.length=k):=hid (by
  obtain⟨b9,-,hi⟩:=WO.out.is;obtain⟨a9,c9,e9⟩:=hi.len;simp only[Value.slice.injEq] at e9;exact e9.2.1.symm)
 go_wp2_with fail
 go_loopw [26] (fun si w9=>∃ i:Nat,si=.int .i64 i∧i≤k∧Hid (Below w4.heap.size w4 w9)) (fun si _=>k-(intOf si).toNat)
 case atStart=>exact⟨0,rfl,Nat.zero_le _,hid (Below.refl _ _)⟩
 case round=>
  obtain⟨i,rfl,hik,HK⟩:=hrel;by_cases hlt:i<k
  ·have hltz:(i:Int)<(k:Int):=by omega
   obtain⟨z1,hz1,e1,e2,o1⟩:=GE.out i hlt;obtain⟨z2,hz2,e3,e4,o2⟩:=WE.out i hlt;obtain⟨bg,-,ig⟩:=GO.out.is;obtain⟨offg,capg,eg,-,-,-,-⟩:=ig.some_ rok (by have:=(List.getElem?_eq_some_iff.1 hz1).1;omega)
   obtain⟨bz,-,iz⟩:=WO.out.is;obtain⟨offz,capz,ez,-,-,-,-⟩:=iz.some_ rok (by have:=(List.getElem?_eq_some_iff.1 hz2).1;omega)
   simp only[Value.slice.injEq] at eg ez;obtain rfl:=eg.1;obtain rfl:=ez.1;clear eg ez;obtain⟨c0,c1⟩:=rep_cells ig hz1;obtain⟨c2,c3⟩:=rep_cells iz hz2;have d0:=cell_keep HK.out c0;have d1:=cell_keep HK.out c1;have d2:=cell_keep HK.out c2;have d3:=cell_keep HK.out c3;have pl:=PL.out i hlt
   have OV:Hid (∀ u:Later wr,Calls Tryz.prog 21 #[.agg #[.int .i64 z1.code,.slice z1.a z1.n z1.c],.agg #[.int .i64 z2.code,.slice z2.a z2.n z2.c]] u.w fun e w'=>e=.returned (.bool true)∧Below u.w.heap.size u.w w'):=hid fun u=>by
    have h1:=Out.Rd.next (Out.Rd.own o1) (after HK.out u.below);have h2:=Out.Rd.next (Out.Rd.own o2) (after HK.out u.below);have:=Ca.same_ok z1.code z2.code _ _ z1.P z2.P u.w (hid h1) (hid h2) (by rw[e2];exact pl) (by rw[e4];exact pl)
    rwa [decide_eq_true (show z1.code=z2.code∧z1.P=z2.P from ⟨by rw[e1,e3],by rw[e2,e4]⟩)] at this
   clear c0 c1 c2 c3 ig iz o1 o2 e1 e2 e3 e4 hz1 hz2 pl;obtain⟨og,hog⟩:∃ t,offg+i*2=t:=⟨_,rfl⟩;obtain⟨oz,hoz⟩:∃ t,offz+i*2=t:=⟨_,rfl⟩;rw[hog] at d0 d1;rw[hoz] at d2 d3;have f1:(i:Int)+1≤9223372036854775807:=by omega
   have f2:-9223372036854775808≤(i:Int)+1:=by omega
   go_wp2_with fail
   refine wp_region_later (by kernel_rfl) (by kernel_rfl) ?_
   have q0:=Later.cell d0;have q1:=Later.cell d1;have q2:=Later.cell d2;have q3:=Later.cell d3
   repeat (go_big_quiet_step (with_reducible exact Later.call _ (OV.out _)))
   refine wpQuiet_nil ?_
   rintro w' ⟨u,rfl⟩;have KU:=hid (after HK.out u.below);generalize u.w=w9 at KU ⊢;clear q0 q1 q2 q3 d0 d1 d2 d3 u OV HK;go_wp2_with fail
   exact⟨⟨i+1,by go_num,by omega,KU⟩,by simp[intOf];omega⟩
  ·have hltz:¬((i:Int)<(k:Int)):=by omega
   obtain rfl:i=k:=by omega
   have AL5:=hid (AL4.out.next HK.out);clear AL4 MD HK GO GE WO WE lz;have e8:=AL5.out.env.lies.cell (i:=8) rfl;go_wp2_with fail
   refine (Ct.holder_ok (hid AL5.out.cm.ctl)).mono ?_
   rintro r w6 ⟨rfl,k6⟩;have AL6:=hid (AL5.out.next k6);clear AL5 k6 e8;rw[HD.out];dsimp only
   go_wp2_with (first
    |(refine wpList_plain rfl fun K' hK'=>ld_env (E:=⟨c,gc,b,ba,bn,bc,bs,xp,0,cs⟩) _ rfl rfl AL6.out.env.lies (hK' _ _ ?_))
    |fail)
   refine (step_over (hid AL6.out.cm) (hid (by rw[RS.out.len];show cs.length≤i;rw[HCS.out];exact Nat.le_refl _))).mono ?_
   rintro r w7 ⟨zr,R7,rfl,-,-,-,c7,o7,-⟩;have AL7:=hid (AL6.out.client c7 o7);clear AL6 c7 o7;dsimp only;go_upto_region 53 with fail
   obtain⟨w8,hw8,t8,k8⟩:=alloc1 w7 51 (Td.cl ⟨false,false,false,false,zr⟩);rw[show w7.alloc (Obj.cells #[.bool false,.bool false,.bool false,.bool false,.int .i64 zr.code,.slice zr.a zr.n zr.c] 51)=w8 from hw8]
   have AL8:=hid (AL7.out.next k8);have T8:=hid t8;clear hw8 k8 t8 AL7;generalize w7.heap.size=gt at T8 ⊢;have t0:=T8.out.cell (i:=0) rfl;have t1:=T8.out.cell (i:=1) rfl;have t2:=T8.out.cell (i:=2) rfl;have t3:=T8.out.cell (i:=3) rfl;have e8:=AL8.out.env.lies.cell (i:=8) rfl;obtain⟨m2,m3⟩:=rm_cells (lw_aside AL8.out B.out).1;rw[←CO.out.wm] at m2;rw[←CO.out.sd] at m3;have OM:Hid (∀ u:Later w8,Calls Tryz.prog 18 #[gp gc] u.w fun e w'=>e=.returned (.int .i64 s.wm)∧u.w=w'):=hid fun u=>Ct.mark_ok (hid (AL8.out.next u.below).cm.ctl)
   have OC:Hid (∀ u:Later w8,Calls Tryz.prog 19 #[gp gc] u.w fun e w'=>e=.returned (.bool s.sd)∧u.w=w'):=hid fun u=>Ct.closed_ok (hid (AL8.out.next u.below).cm.ctl)
   refine wp_region_later (by kernel_rfl) (by kernel_rfl) ?_
   have q0:=Later.cell t0;have q1:=Later.cell t1;have q2:=Later.cell t2;have q3:=Later.cell t3;have q4:=Later.cell e8;have q5:=Later.cell m2;have q6:=Later.cell m3
   repeat (go_big_quiet_step (with_reducible first|exact Later.call_same _ (OM.out _)|exact Later.call_same _ (OC.out _)))
   refine wpQuiet_nil ?_
   rintro w' ⟨u,rfl⟩;have KU:=hid (after K3.out (after AL8.out.cm.fam.below u.below));generalize u.w=w9 at KU ⊢;clear q0 q1 q2 q3 q4 q5 q6 t0 t1 t2 t3 e8 m2 m3 u;go_wp2_with fail
   go_ret;exact⟨rfl,KU.out⟩
end clientAlone
namespace Cn
open Small Foot Fm Ca
theorem CameC.next{w w':World}{x:Value×List Cl}(h:CameC w x)(k:Below w.heap.size w w'):CameC w' x:=by
 refine⟨?_,h.fit,h.len⟩
 rcases h.rd with ⟨b,h⟩|h
 ·exact .inl ⟨b,h.next k⟩
 ·exact .inr h
theorem wp_append_c0{w:World}{o:Oper}{a:Act}{Kc:Act→World→Prop}{Q:Exit→Act→World→Prop}{b cap:Nat}{ad:Addr}(s x:Operand)(hop:o.op=Op.call {callee:=Callee.builtin Builtin.append,args:=#[s,x],argTypes:=#[Ck.t,Ck.t]})
  (hs:a.eval s=.slice (some ⟨b,0,none⟩) 0 0) (hx:a.eval x=.slice (some ad) 0 cap) (hK:Kc (a.put o.dst (.slice (some ⟨b,0,none⟩) 0 0)) w):o.wp Tryz.prog a w Kc Q:=by
 obtain⟨i0,hi,hz0,hz1,hz2⟩:=info_parts cok.info
 have hf:=run_firstCells_some (P:=Tryz.prog) w i0.size 0 ad 0 cap [] (by simp) (by simp)
 have hr:(Builtin.append_ #[Ck.t,Ck.t] o.type #[.slice (some ⟨b,0,none⟩) 0 0,.slice (some ad) 0 cap]).run Tryz.prog w=.ok (.slice (some ⟨b,0,none⟩) 0 0) w:=by
  simp[Builtin.append_,run_underlying cok.under,sizeOf,typeInfo,hi,Builtin.lenOf,hf,storeCells,Result.andThen]
 unfold Oper.wp
 simp[execOp,hop,resolve,invoke,builtin,hs,hx,hr,Result.andThen]
 exact hK
theorem clone_calls0(a:Addr)(cap:Nat)(w:World):
  Calls Tryz.prog 44 #[.slice (some a) 0 cap] w fun r w'=>∃ v',r=.returned v'∧Sl.Own Ck w.heap.size w' v' []∧Below w.heap.size w w':=by
 go_enter Tryz.func44,Tryz.ntmps44
 have e0:∀ w,(binOp .eql 24 (.slice (some a) 0 cap) (.slice none 0 0)).run Tryz.prog w=.ok (.bool false) w:=fun w=>Lib.run_eql_slice_nil w _ _ _ _ _ _ _ Tryz.underlying24
 go_wp2_with (at_builtin;refine wpList_plain rfl fun K' hK'=>wp_append_c0 (.tmp 5) (.tmp 6) rfl (b:=w.heap.size) (ad:=a) (cap:=cap) rfl rfl (hK' _ _ ?_))
 go_ret
 exact⟨_,rfl,Sl.Own.empty (heap_alloc_new _ _) (Nat.le_refl _),below1 _ _⟩
theorem clone_came(v:Value)(L:List Cl)(w:World)(H:Hid (CameC w (v,L)))(hn:L.length≤9000):
  Calls Tryz.prog 44 #[v] w fun r w'=>∃ v',r=.returned v'∧Sl.Own Ck w.heap.size w' v' L∧Below w.heap.size w w':=by
 rcases H.out.rd with ⟨b,h⟩|⟨e,a,c,h⟩
 ·exact clone_calls v L b w (hid h) hn
 ·simp only at e h
  subst e h;exact clone_calls0 a c w
theorem cnew_came(num:Int)(A:Option Addr)(m cp:Nat)(L:List Cl)(w:World)(H:Hid (CameC w (.slice A m cp,L)))(hn:L.length≤9000):
  Calls Tryz.prog 10 #[.int .i64 num,.slice A m cp] w fun r w'=>∃ x cv,r=.returned (gp x)∧Q w' x num cv L (.slice none 0 0) [] g0∧From w.heap.size (CF x cv (.slice none 0 0))∧Below w.heap.size w w':=by
 go_enter Tryz.func10,Tryz.ntmps10
 go_wp2_with fail
 refine (clone_came _ L w H hn).mono ?_
 rintro r w1 ⟨v',rfl,o1,k1⟩
 obtain⟨_,_,i1⟩:=o1.is
 obtain⟨A1,c1,rfl⟩:=i1.len
 have O1:=hid o1
 clear i1
 have K1:=hid k1
 clear o1 k1
 dsimp only
 go_wp2
 go_ret
 have k2:=below1 w1 (Obj.cells (ccl num (.slice A1 L.length c1) (.slice none 0 0) g0).toArray 108)
 refine⟨w1.heap.size,.slice A1 L.length c1,rfl,⟨Lies.new w1 _ (ccl num (.slice A1 L.length c1) (.slice none 0 0) g0),own_base (O1.out.next k2) (Nat.zero_le _),Sl.Own.nil _ _ _,fun e=>?_,(fun e=>by cases e),fun a ha e=>by cases e⟩,fun i hi=>?_,after K1.out k2⟩
 ·have:=(O1.out.lt _ e).2;omega
 ·rcases hi with rfl|hi|hi
  ·exact K1.out.size
  ·exact (O1.out.lt i hi).1
  ·cases hi
end Cn
namespace Laid
section
variable {H:Type} {enc:TypeId×Value→H} {P:Program}
theorem reads(hl:laidOutB P=true){W W':World}(hb:Below W.heap.size W W')(sp:Nat→Bool):
  ∀ {ts:List TypeId} {vs:List Value} {ds:List (DataW H)} {ps:List MemPlace},(∀ t∈ts,P.readableRec t=true∧t<P.types.size)→
    DataW.TrodAll enc P W 0 (fun _=>true) true ts vs ds ps→(∀ p∈ps,p.block<W.heap.size)→(∀ p∈ps,sp p.block=true)→DataW.TrodAll enc P W' 0 sp true ts vs ds ps
 |[],_,_,_,_,h,_,_=>by
  obtain⟨rfl,rfl,rfl⟩:=trodAll_nil h;exact trodAll_mk0
 |t::ts,_,_,_,hr,h,hlt,hsp=>by
  obtain⟨v,vs,d,ds,p,q,rfl,rfl,rfl,h1,h2⟩:=trodAll_cons h;have r:=hr t (by simp)
  exact trodAll_cons_mk (WideElems.Trod_stays hl r.1 r.2 h1 (fun x hx=>hb.same (hlt x (by simp[hx]))) (fun x hx=>hsp x (by simp[hx])))
   (reads hl hb sp (fun x hx=>hr x (by simp[hx])) h2 (fun x hx=>hlt x (by simp[hx])) (fun x hx=>hsp x (by simp[hx])))
theorem post{f:Func}{s:ChangeSpec}{apart fresh handsOn again:Bool}{W W':World}{args:Array Value}{ds gs:List (DataW H)}{before:List MemPlace}{tb:TypeId}
  (hl:laidOutB P=true) (hr0:(f.params.toList.all fun t=>P.readableRec t&&decide (t<P.types.size))=true) (hv:s.vars=[]) (hrt:f.resultTypes=#[tb]) (htb:P.underlying tb=some .bool)
  (hW:DataW.Whole enc P f.params.toList s.vars apart W args.toList ds gs before)
  (hs:(s.fn H (ds++gs)).results=[.lit (.bool true)]∧(s.fn H (ds++gs)).args=ds∧(s.fn H (ds++gs)).vars=[]) (hb:Below W.heap.size W W'):
  s.post enc P f apart fresh handsOn again W args (.bool true) W':=by
 have hr:∀ t∈f.params.toList,P.readableRec t=true∧t<P.types.size:=fun t ht=>by simpa using List.all_eq_true.mp hr0 t ht
 have hin:∀ p∈before,p.block<W.heap.size:=fun p hp=>hW.lt p hp
 obtain⟨p,q,hA,hV,hpq,hz,hn⟩:=id hW
 rw[hv] at hV
 obtain⟨rfl,rfl⟩:=trodVars_none hV
 simp only[List.append_nil] at hpq
 subst hpq
 obtain⟨s1,s2,s3⟩:=hs
 have hargs:∀ sp:Nat→Bool,(∀ x∈before,sp x.block=true)→DataW.TrodAll enc P W' 0 sp true f.params.toList args.toList ds before:=fun sp hsp=>reads hl hb sp hr hA hin hsp
 have hres:∀ (b:Nat) (sp:Nat→Bool) (hd:Bool),DataW.TrodAll enc P W' b sp hd f.resultTypes.toList ((Value.bool true).resultList f.resultTypes.size) [.lit (.bool true)] []:=fun b sp hd=>by
  rw[hrt];exact trodAll_cons_mk (shut_bool htb _) trodAll_mk0
 have hvar:∀ sp:Nat→Bool,DataW.TrodVars enc P W' sp s.vars [] []:=fun sp=>by rw[hv];rfl
 have hsp:∀ x∈before,(fun b=>decide (b<W.heap.size)) x.block=true:=fun x hx=>by simpa using hin x hx
 refine⟨ds,[],before,[],before,[],hW,by rw[s1];exact hres _ _ _,by rw[s2];exact hargs _ hsp,by rw[s3];exact hvar _,?_,fun _=>⟨ok_one hrt rfl (okWide_bool_mk htb _),_,_,([]++before)++[],⟨[]++before,[],trodAll_append (hargs _ (fun _ _=>rfl)) (hres _ _ _),hvar _,rfl,?_,?_⟩,?_⟩⟩
 ·exact World.keptBut_mono (fun x hx=>⟨hx,Or.inr (by simpa using hx)⟩) (hb.frame (·∈before))
 ·intro b off hp
  have hm:MemPlace.cell b off∈before:=by simpa using hp
  rw[hb.frozen (hin _ hm)];exact hz b off hm
 ·intro ha
  simpa using hn ha
 ·intro x hx _
  simpa using hx
end
theorem laidOut:laidOutB Tryz.prog=true:=by kernel_rfl
end Laid
end Go.Proofs.YtfjlnniahfbdfaaGreat
