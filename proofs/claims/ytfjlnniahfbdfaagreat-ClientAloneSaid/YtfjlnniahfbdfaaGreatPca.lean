/- A part of the proof. -/
import Derived.Test.YtfjlnniahfbdfaaGreatPby
import Derived.Test.YtfjlnniahfbdfaaGreatPbz
import Derived.Test.YtfjlnniahfbdfaaGreatPbo
import Derived.Deep.CutBlock
import Derived.Deep.DeepCutAuto
import Derived.Deep.RegionHeld3
import Derived.StillTailTactics
set_option linter.unusedVariables false
set_option maxHeartbeats 4000000
namespace Go.Proofs.YtfjlnniahfbdfaaGreat
open Lib (hid)
open Go.ChangeShapes Go.WideShapes Go.ChangeAt Go.RowKit
set_option maxRecDepth 100000
namespace Cn
open Small Foot Fm Ca
theorem put_none9(a:Act)(v:Value):Act.put a none v=a:=rfl
theorem J3p2{j:Nat}(h:(2,j)∈J3ps):j=0∨j=1:=by
 unfold J3ps at h
 simp only[List.mem_cons,Prod.mk.injEq,List.not_mem_nil,or_false] at h
 omega
theorem J3p3{j:Nat}(h:(3,j)∈J3ps):j=2:=by
 unfold J3ps at h
 simp only[List.mem_cons,Prod.mk.injEq,List.not_mem_nil,or_false] at h
 omega
theorem J3p5{j:Nat}(h:(5,j)∈J3ps):j=4:=by
 unfold J3ps at h
 simp only[List.mem_cons,Prod.mk.injEq,List.not_mem_nil,or_false] at h
 omega
theorem J3p6{j:Nat}(h:(6,j)∈J3ps):j=5:=by
 unfold J3ps at h
 simp only[List.mem_cons,Prod.mk.injEq,List.not_mem_nil,or_false] at h
 omega
theorem J3p8{j:Nat}(h:(8,j)∈J3ps):j=7:=by
 unfold J3ps at h
 simp only[List.mem_cons,Prod.mk.injEq,List.not_mem_nil,or_false] at h
 omega
theorem J3p9{j:Nat}(h:(9,j)∈J3ps):j=8:=by
 unfold J3ps at h
 simp only[List.mem_cons,Prod.mk.injEq,List.not_mem_nil,or_false] at h
 omega
theorem J3p10{j:Nat}(h:(10,j)∈J3ps):j=3∨j=6∨j=9:=by
 unfold J3ps at h
 simp only[List.mem_cons,Prod.mk.injEq,List.not_mem_nil,or_false] at h
 omega
theorem st16{cs d:List Value}(h:cs.length=16):cs.take 0++d++cs.drop (0+16)=d:=by
 rw[List.drop_eq_nil_of_le (by omega)]
 simp
theorem tup2{a b c d:Value}(h:Value.tuple #[a,b]=.tuple #[c,d]):a=c∧b=d:=by
 injection h with h
 simp only[Array.mk.injEq,List.cons.injEq,and_true] at h
 exact h
theorem Dv.one(d:Dv):∀ v∈d.cl,v.oneCell'=true:=by
 intro v hv
 have h1:∀ x:Option Nat,(stv x).oneCell'=true:=fun x=>by cases x<;>rfl
 have h2:∀ x:Option Nat,(Ms.stv x).oneCell'=true:=fun x=>by cases x<;>rfl
 simp only[Dv.cl,dcl,List.mem_cons,List.not_mem_nil,or_false] at hv
 rcases hv with rfl|rfl|rfl|rfl|rfl|rfl|rfl|rfl|rfl|rfl|rfl|rfl|rfl|rfl|rfl|rfl<;>first|rfl|exact h1 _|exact h2 _
theorem Dv.inj{d d':Dv}(h:d.v=d'.v):d.cl=d'.cl:=by
 injection h with h
 injection h
def cv37(bw ow wn wc jj wk ge gc:Nat)(mk:Int)(sd:Bool):Nat→Value
 |0=>.slice (some ⟨bw,ow,none⟩) wn wc
 |1=>.int .i64 (jj:Int)
 |2=>.pointer (some ⟨bw,ow+jj,none⟩)
 |3=>gp wk
 |4=>.pointer (some ⟨ge,8,none⟩)
 |5=>gp gc
 |6=>.int .i64 mk
 |7=>.pointer (some ⟨ge,8,none⟩)
 |8=>gp gc
 |9=>.bool sd
 |_=>undef
abbrev zcl:List Value:=[.int .i64 0,.int .i64 0,.int .i64 0,.string ⟨#[]⟩,.int .i64 0,.int .i64 0,.int .i64 0,.int .i64 0,.int .i64 0,.int .i64 0,.pointer none,.bool false,.int .i64 0,.slice none 0 0,.slice none 0 0,.pointer none]
def blk(n:Nat):Code→Option Code
 |.block m c=>if m=n then some (.block m c) else blk n c
 |.seq a b=>match blk n a with
  |some c=>some c
  |none=>blk n b
 |.loop c=>blk n c
 |.scope c=>blk n c
 |.cond _ a b=>match blk n a with
  |some c=>some c
  |none=>blk n b
 |_=>none
def endsIn(n:Nat):Code→Bool
 |.block m _=>m == n
 |.seq _ b=>endsIn n b
 |_=>false
def aft(n:Nat):Code→Option Code
 |.seq a b=>if endsIn n a then some b else match aft n a with
  |some c=>some (.seq c b)
  |none=>aft n b
 |.block _ c=>aft n c
 |_=>none
noncomputable def al4:Code:=((Tryz.f3.body.bind (blk 4)).getD .skip)
noncomputable def al2:Code:=((Tryz.f3.body.bind (aft 2)).getD .skip)
end Cn
namespace clientAlone
open Small Foot Fm Ca Cn Rel RelG
open Md (cfOf)
theorem loop3{c:Cf}{c8:C8}{gc b bn bc xp:Nat}{ba:Option Addr}{bs:List Nat}{cs:List Cl}{q:Int→Option Nat}{zz:Nat→Option (Nat×Int×Int×Int)}{T:Nat→MS}{Wf:Nat→Int×List Pn}{ws:List Nat}{w3 w6 wL:World}{ge:Nat}{wA:Option Addr}{wn wc k3 n3:Nat}{b3 pt3:Bool}{s:St}{p:Nat→Int→Option Nat}{S:Int→Grp.Lists}{N:Nat}{n1:Int→Nat}{R:Nat→Nat→Prop}{w:World}
  (FX:Hid (Fx c8 ⟨c,gc,b,ba,bn,bc,bs,xp,0,cs⟩ zz T Wf)) (k3l:k3≤20) (n8:wn≤8) (I3:Hid (In3 c8 ⟨c,gc,b,ba,bn,bc,bs,xp,0,cs⟩ q T Wf ws w3 w6 wL ge (.slice wA wn wc) k3 n3 b3 0 pt3 s p S N n1 R w))
  {Q':Exit→Act→World→Prop} {u0 u1 u2 u3 u4 u5 u6 u9 u11 u12 u13 u14 u16 u17 u18 u19 u20 u21 u23 u24 u25 u26 u27 u28 u29 u30 u31 u32 u33 u34 u35 u36 u37 u38 u39 u40 u41 u42 u43 u44 u45 u46 u47 u48 u49 u50 u51 u52 u53 u54 u55 u56 u57 u58 u59 u60 u61 u62 u63 u64 u65 u66 u67 u68 u69 u70 u71 u72 u73 u74 u75 u76 u77 u78 u79 u80 u81 u82 u83 u84 u85 u86 u87 u88 u89 u90 u91 u92 u93 u94 u95 u96 u97 u98 u99 u100 u101 u102 u103 u104 u105 u106 u107 u108 u109 u110 u111 u112 u113 u114 u115 u116 u117 u118 u119 u120 u121 u122 u123 u124 u125 u126 u127 u128 u129 u130 u131 u132 u133 u134 u135 u136 u137 u138 u139 u140 u141 u142 u143 u144 u145 u146 u147 u148 u149 u150 u151 u152 u153 u154 u155 u156 u157 u158 u159 u160 u161 u162 u163 u164 u165 u166 u167 u168 u169 u170 u171 u172 u173 u174 u175 u176 u177 u178 u179 u180 u181 u182 u183 u184 u185 u186 u187 u188 u189 u190 u191 u192 u193 u194 u195 u196 u197 u198 u199 u200 u201 u202 u203 u204 u205 u206 u207 u208 u209 u210 u211 u212 u213 u214 u215 u216 u217 u218 u219 u220 u221 u222 u223 u224 u225 u226 u227 u228 u229 u230 u231 u232 u233 u234 u235 u236 u237 u238 u239 u240 u241 u242 u243 u244 u245 u246 u247 u248 u249 u250 u251 u252 u253 u254 u255 u256 u257 u258 u259 u260 u261 u262 u263 u264 u265 u266 u267 u268 u269 u270 u271 u272 u273 u274 u275 u276:Value}
  (hK:∀ (t4 t22 t23 t24 t141 t142 t143 t144 t145 t146 t147 t148 t149 t150 t151 t152 t153 t154 t155 t156 t157 t158 t159 t160 t161 t162 t163 t164 t165 t166 t167 t168 t169 t170 t171 t172 t173 t174 t175 t176:Value) (pt':Bool) (s':St) (p':Nat→Int→Option Nat) (S':Int→Grp.Lists) (N':Nat) (n':Int→Nat) (R':Nat→Nat→Prop) (w':World),Hid (In3 c8 ⟨c,gc,b,ba,bn,bc,bs,xp,0,cs⟩ q T Wf ws w3 w6 wL ge (.slice wA wn wc) k3 n3 b3 wn pt' s' p' S' N' n' R' w')→Q' .normal ⟨#[u0,u1,u2,u3,t4,u5,u6,.pointer (some ⟨ge,0,none⟩),.slice wA wn wc,u9,gp xp,u11,u12,u13,u14,.int .i64 ((k3+c01 pt':Nat):Int),u16,u17,u18,u19,u20,u21,t22,t23,t24,u25,u26,u27,u28,u29,u30,u31,u32,u33,u34,u35,u36,u37,u38,u39,u40,u41,u42,u43,u44,u45,u46,u47,u48,u49,u50,u51,u52,u53,u54,u55,u56,u57,u58,u59,u60,u61,u62,u63,u64,u65,u66,u67,u68,u69,u70,u71,u72,u73,u74,u75,u76,u77,u78,u79,u80,u81,u82,u83,u84,u85,u86,u87,u88,u89,u90,u91,u92,u93,u94,u95,u96,u97,u98,u99,u100,u101,u102,u103,u104,u105,u106,u107,u108,u109,u110,u111,u112,u113,u114,u115,u116,u117,u118,u119,u120,u121,u122,u123,u124,u125,u126,u127,u128,u129,u130,u131,u132,u133,u134,u135,u136,u137,u138,u139,u140,t141,t142,t143,t144,t145,t146,t147,t148,t149,t150,t151,t152,t153,t154,t155,t156,t157,t158,t159,t160,t161,t162,t163,t164,t165,t166,t167,t168,t169,t170,t171,t172,t173,t174,t175,t176,u177,u178,u179,u180,u181,u182,u183,u184,u185,u186,u187,u188,u189,u190,u191,u192,u193,u194,u195,u196,u197,u198,u199,u200,u201,u202,u203,u204,u205,u206,u207,u208,u209,u210,u211,u212,u213,u214,u215,u216,u217,u218,u219,u220,u221,u222,u223,u224,u225,u226,u227,u228,u229,u230,u231,u232,u233,u234,u235,u236,u237,u238,u239,u240,u241,u242,u243,u244,u245,u246,u247,u248,u249,u250,u251,u252,u253,u254,u255,u256,u257,u258,u259,u260,u261,u262,u263,u264,u265,u266,u267,u268,u269,u270,u271,u272,u273,u274,u275,u276],[]⟩ w'):
  al4.wp Tryz.prog Q' ⟨#[u0,u1,u2,u3,u4,u5,u6,.pointer (some ⟨ge,0,none⟩),.slice wA wn wc,u9,gp xp,u11,u12,u13,u14,.int .i64 ((k3+c01 pt3:Nat):Int),u16,u17,u18,u19,u20,u21,.int .i64 0,u23,u24,u25,u26,u27,u28,u29,u30,u31,u32,u33,u34,u35,u36,u37,u38,u39,u40,u41,u42,u43,u44,u45,u46,u47,u48,u49,u50,u51,u52,u53,u54,u55,u56,u57,u58,u59,u60,u61,u62,u63,u64,u65,u66,u67,u68,u69,u70,u71,u72,u73,u74,u75,u76,u77,u78,u79,u80,u81,u82,u83,u84,u85,u86,u87,u88,u89,u90,u91,u92,u93,u94,u95,u96,u97,u98,u99,u100,u101,u102,u103,u104,u105,u106,u107,u108,u109,u110,u111,u112,u113,u114,u115,u116,u117,u118,u119,u120,u121,u122,u123,u124,u125,u126,u127,u128,u129,u130,u131,u132,u133,u134,u135,u136,u137,u138,u139,u140,u141,u142,u143,u144,u145,u146,u147,u148,u149,u150,u151,u152,u153,u154,u155,u156,u157,u158,u159,u160,u161,u162,u163,u164,u165,u166,u167,u168,u169,u170,u171,u172,u173,u174,u175,u176,u177,u178,u179,u180,u181,u182,u183,u184,u185,u186,u187,u188,u189,u190,u191,u192,u193,u194,u195,u196,u197,u198,u199,u200,u201,u202,u203,u204,u205,u206,u207,u208,u209,u210,u211,u212,u213,u214,u215,u216,u217,u218,u219,u220,u221,u222,u223,u224,u225,u226,u227,u228,u229,u230,u231,u232,u233,u234,u235,u236,u237,u238,u239,u240,u241,u242,u243,u244,u245,u246,u247,u248,u249,u250,u251,u252,u253,u254,u255,u256,u257,u258,u259,u260,u261,u262,u263,u264,u265,u266,u267,u268,u269,u270,u271,u272,u273,u274,u275,u276],[]⟩ w:=by
 conv=>arg 2;whnf
 have wl:Hid (wn=ws.length):=hid I3.out.al.len
 go_wp2_with fail
 go_loopw [15,22] (fun sp si w9h=>∃ (jj:Nat) (pt3:Bool) (s3:St) (p3:Nat→Int→Option Nat) (S3:Int→Grp.Lists) (N3:Nat) (m3:Int→Nat) (R3:Nat→Nat→Prop),si=.int .i64 jj∧sp=.int .i64 ((k3+c01 pt3:Nat):Int)∧jj≤wn∧Hid (In3 c8 ⟨c,gc,b,ba,bn,bc,bs,xp,0,cs⟩ q T Wf ws w3 w6 wL ge (.slice wA wn wc) k3 n3 b3 jj pt3 s3 p3 S3 N3 m3 R3 w9h)) (fun _ si _=>wn-(intOf si).toNat)
 case atStart=>exact⟨0,pt3,_,_,_,_,_,_,rfl,rfl,Nat.zero_le _,I3⟩
 case round=>
  clear I3 pt3;obtain⟨jj,pt3,s3,p3,S3,N3,m3,R3,rfl,rfl,hj,IN⟩:=hrel;by_cases hlt3:jj<wn
  ·obtain⟨wk,hwk⟩:∃ wk,ws[jj]?=some wk:=⟨_,List.getElem?_eq_getElem (by have:=wl.out;omega)⟩
   have HWK:=hid hwk;obtain⟨bw,ow,rfl,-⟩:=IN.out.al.lst hwk
   have CW:Hid (∀ w',Below wr.heap.size wr w'→w'.cell? ⟨bw,ow+jj,none⟩=some (gp wk)):=hid fun w' hB=>by
    obtain⟨b9,o9,e9,c9⟩:=(IN.out.al.next hB).lst HWK.out;simp only[Option.some.injEq,Addr.mk.injEq,and_true] at e9;rw[e9.1,e9.2];exact c9
   have CE:Hid (∀ w',Below wr.heap.size wr w'→w'.cell? ⟨ge,8,none⟩=some (gp gc)∧Ct.Is w' gc s3.wm s3.hk s3.hd s3.sd):=hid fun w' hB=>by
    have A:=IN.out.al.next hB;exact⟨A.env.lies.cell (i:=8) rfl,A.cm.ctl⟩
   have L3:Hid (w3.heap.size≤wr.heap.size∧wL.heap.size≤wr.heap.size):=hid ⟨IN.out.al.cm.fam.below.size,IN.out.al.big⟩;clear hwk;go_upto_region 37 with fail
   refine wp_region_inv 16 277 (fun D f w=>J3 (Aft c8 ⟨c,gc,b,ba,bn,bc,bs,xp,0,cs⟩ q T Wf ws w3 w6 wL ge (.slice (some ⟨bw,ow,none⟩) wn wc) k3 n3 b3 jj pt3 wr.heap.size) wr (cv37 bw ow wn wc jj wk ge gc s3.wm s3.sd) D f w∧J3up D) (by show _=_;kernel_rfl) (by show _=_;kernel_rfl) (by show _=_;kernel_rfl) (fun D f hD=>⟨J3.start hD,J3up.start hD⟩) ?_ ?_
   ·intro i hi
    match i,hi with
    |0,_=>
     intro o ho a' w' D f Kc hd hout hDi hdep hJ hK;have e0:a'.eval (.tmp 8)=.slice (some ⟨bw,ow,none⟩) wn wc:=hout 8 (Reg.Free.out (by show _=_;kernel_rfl))
     exact Sl.wp_move _ (Reg.Has.op (p:=Op.move (.tmp 8)) (t:=148) (by show _=_;kernel_rfl) ho).1 (by rw[e0];exact hK _ _ (fun t hn=>absurd ((Reg.Has.op (p:=Op.move (.tmp 8)) (t:=148) (by show _=_;kernel_rfl) ho).2.symm.trans hn) (by simp)) ⟨hJ.1.put (by decide) hDi (fun e=>hJ.2.of10 e 0 (by decide)) (Below.refl _ _) rfl,hJ.2.put (fun j hj=>by unfold J3ps at hj;simp at hj)⟩)
    |1,_=>
     intro o ho a' w' D f Kc hd hout hDi hdep hJ hK;have e0:a'.eval (.tmp 22)=.int .i64 (jj:Int):=hout 22 (Reg.Free.out (by show _=_;kernel_rfl))
     exact Sl.wp_move _ (Reg.Has.op (p:=Op.move (.tmp 22)) (t:=149) (by show _=_;kernel_rfl) ho).1 (by rw[e0];exact hK _ _ (fun t hn=>absurd ((Reg.Has.op (p:=Op.move (.tmp 22)) (t:=149) (by show _=_;kernel_rfl) ho).2.symm.trans hn) (by simp)) ⟨hJ.1.put (by decide) hDi (fun e=>hJ.2.of10 e 1 (by decide)) (Below.refl _ _) rfl,hJ.2.put (fun j hj=>by unfold J3ps at hj;simp at hj)⟩)
    |2,_=>
     intro o ho a' w' D f Kc hd hout hDi hdep hJ hK
     refine wp_val (V:=.pointer (some ⟨bw,ow+jj,none⟩)) (w':=w') ?_ (hK _ _ (fun t hn=>absurd ((Reg.Has.op (p:=Op.indexAddr 33 (.tmp 148) (.tmp 149)) (t:=150) (by show _=_;kernel_rfl) ho).2.symm.trans hn) (by simp)) ⟨hJ.1.put (by decide) hDi (fun e=>hJ.2.of10 e 2 (by decide)) (Below.refl _ _) rfl,hJ.2.put (fun j hj=>by
                   rcases J3p2 hj with rfl|rfl
                   ·exact (hdep 0 (mem_of (by show _=_;kernel_rfl))).1
                   ·exact (hdep 1 (mem_of (by show _=_;kernel_rfl))).1)⟩)
     have hop:=(Reg.Has.op (p:=Op.indexAddr 33 (.tmp 148) (.tmp 149)) (t:=150) (by show _=_;kernel_rfl) ho).1
     have q0:a'.eval (.tmp 148)=.slice (some ⟨bw,ow,none⟩) wn wc:=(((hdep 0 (mem_of (by show _=_;kernel_rfl))).2 148 (by show _=_;kernel_rfl)).trans (hJ.1.val 0 (by decide) (hdep 0 (mem_of (by show _=_;kernel_rfl))).1))
     have q1:a'.eval (.tmp 149)=.int .i64 (jj:Int):=(((hdep 1 (mem_of (by show _=_;kernel_rfl))).2 149 (by show _=_;kernel_rfl)).trans (hJ.1.val 1 (by decide) (hdep 1 (mem_of (by show _=_;kernel_rfl))).1))
     have q2:(jj:Int)<(wn:Int):=by omega
     have q3:(0:Int)≤(jj:Int):=by omega
     generalize a'.eval=ev at q0 q1;simp[execOp,hop,go_sem,q0,q1,q2,q3]
    |3,_=>
     intro o ho a' w' D f Kc hd hout hDi hdep hJ hK;have hB:=hJ.1.head (by decide) hDi (fun e=>hJ.2.of10 e 3 (by decide))
     refine wp_val (V:=gp wk) (w':=w') ?_ (hK _ _ (fun t hn=>absurd ((Reg.Has.op (p:=Op.load 59 (.tmp 150)) (t:=151) (by show _=_;kernel_rfl) ho).2.symm.trans hn) (by simp)) ⟨hJ.1.put (by decide) hDi (fun e=>hJ.2.of10 e 3 (by decide)) (Below.refl _ _) rfl,hJ.2.put (fun j hj=>by cases J3p3 hj;exact (hdep 2 (mem_of (by show _=_;kernel_rfl))).1)⟩)
     have hop:=(Reg.Has.op (p:=Op.load 59 (.tmp 150)) (t:=151) (by show _=_;kernel_rfl) ho).1
     have q0:a'.eval (.tmp 150)=.pointer (some ⟨bw,ow+jj,none⟩):=(((hdep 2 (mem_of (by show _=_;kernel_rfl))).2 150 (by show _=_;kernel_rfl)).trans (hJ.1.val 2 (by decide) (hdep 2 (mem_of (by show _=_;kernel_rfl))).1))
     have q1:w'.cell? ⟨bw,ow+jj,none⟩=some (gp wk):=(CW.out w' hB);generalize a'.eval=ev at q0;simp[execOp,hop,go_sem,q0,q1]
    |4,_=>
     intro o ho a' w' D f Kc hd hout hDi hdep hJ hK;refine wp_val (V:=.pointer (some ⟨ge,8,none⟩)) (w':=w') ?_ (hK _ _ (fun t hn=>absurd ((Reg.Has.op (p:=Op.fieldAddr 32 (.tmp 7) 1) (t:=152) (by show _=_;kernel_rfl) ho).2.symm.trans hn) (by simp)) ⟨hJ.1.put (by decide) hDi (fun e=>hJ.2.of10 e 4 (by decide)) (Below.refl _ _) rfl,hJ.2.put (fun j hj=>by unfold J3ps at hj;simp at hj)⟩)
     have hop:=(Reg.Has.op (p:=Op.fieldAddr 32 (.tmp 7) 1) (t:=152) (by show _=_;kernel_rfl) ho).1
     have q0:a'.eval (.tmp 7)=gp ge:=hout 7 (Reg.Free.out (by show _=_;kernel_rfl))
     generalize a'.eval=ev at q0;simp[execOp,hop,go_sem,q0]
    |5,_=>
     intro o ho a' w' D f Kc hd hout hDi hdep hJ hK;have hB:=hJ.1.head (by decide) hDi (fun e=>hJ.2.of10 e 5 (by decide))
     refine wp_val (V:=gp gc) (w':=w') ?_ (hK _ _ (fun t hn=>absurd ((Reg.Has.op (p:=Op.load 28 (.tmp 152)) (t:=153) (by show _=_;kernel_rfl) ho).2.symm.trans hn) (by simp)) ⟨hJ.1.put (by decide) hDi (fun e=>hJ.2.of10 e 5 (by decide)) (Below.refl _ _) rfl,hJ.2.put (fun j hj=>by cases J3p5 hj;exact (hdep 4 (mem_of (by show _=_;kernel_rfl))).1)⟩)
     have hop:=(Reg.Has.op (p:=Op.load 28 (.tmp 152)) (t:=153) (by show _=_;kernel_rfl) ho).1
     have q0:a'.eval (.tmp 152)=.pointer (some ⟨ge,8,none⟩):=(((hdep 4 (mem_of (by show _=_;kernel_rfl))).2 152 (by show _=_;kernel_rfl)).trans (hJ.1.val 4 (by decide) (hdep 4 (mem_of (by show _=_;kernel_rfl))).1))
     have q1:w'.cell? ⟨ge,8,none⟩=some (gp gc):=(CE.out w' hB).1;generalize a'.eval=ev at q0;simp[execOp,hop,go_sem,q0,q1]
    |6,_=>
     intro o ho a' w' D f Kc hd hout hDi hdep hJ hK;have hB:=hJ.1.head (by decide) hDi (fun e=>hJ.2.of10 e 6 (by decide))
     have q0:a'.eval (.tmp 153)=gp gc:=(((hdep 5 (mem_of (by show _=_;kernel_rfl))).2 153 (by show _=_;kernel_rfl)).trans (hJ.1.val 5 (by decide) (hdep 5 (mem_of (by show _=_;kernel_rfl))).1))
     refine wp_call (S:=fun u w2=>u=.int .i64 s3.wm∧w'=w2) (Reg.Has.op (p:=Op.call {callee:=Callee.value (.func 18),args:=#[.tmp 153],argTypes:=#[28]}) (t:=154) (by show _=_;kernel_rfl) ho).1 #[gp gc] (by simp[q0]) (fun _ _=>enters Tryz.func18 (by kernel_rfl) rfl _ _) ((Ct.mark_ok (hid (CE.out w' hB).2)).mono fun e w2 h=>⟨_,h.1,rfl,h.2⟩) ?_
     rintro u w2 ⟨rfl,rfl⟩;exact hK _ _ (fun t hn=>absurd ((Reg.Has.op (p:=Op.call {callee:=Callee.value (.func 18),args:=#[.tmp 153],argTypes:=#[28]}) (t:=154) (by show _=_;kernel_rfl) ho).2.symm.trans hn) (by simp)) ⟨hJ.1.put (by decide) hDi (fun e=>hJ.2.of10 e 6 (by decide)) (Below.refl _ _) rfl,hJ.2.put (fun j hj=>by cases J3p6 hj;exact (hdep 5 (mem_of (by show _=_;kernel_rfl))).1)⟩
    |7,_=>
     intro o ho a' w' D f Kc hd hout hDi hdep hJ hK;refine wp_val (V:=.pointer (some ⟨ge,8,none⟩)) (w':=w') ?_ (hK _ _ (fun t hn=>absurd ((Reg.Has.op (p:=Op.fieldAddr 32 (.tmp 7) 1) (t:=155) (by show _=_;kernel_rfl) ho).2.symm.trans hn) (by simp)) ⟨hJ.1.put (by decide) hDi (fun e=>hJ.2.of10 e 7 (by decide)) (Below.refl _ _) rfl,hJ.2.put (fun j hj=>by unfold J3ps at hj;simp at hj)⟩)
     have hop:=(Reg.Has.op (p:=Op.fieldAddr 32 (.tmp 7) 1) (t:=155) (by show _=_;kernel_rfl) ho).1
     have q0:a'.eval (.tmp 7)=gp ge:=hout 7 (Reg.Free.out (by show _=_;kernel_rfl))
     generalize a'.eval=ev at q0;simp[execOp,hop,go_sem,q0]
    |8,_=>
     intro o ho a' w' D f Kc hd hout hDi hdep hJ hK;have hB:=hJ.1.head (by decide) hDi (fun e=>hJ.2.of10 e 8 (by decide))
     refine wp_val (V:=gp gc) (w':=w') ?_ (hK _ _ (fun t hn=>absurd ((Reg.Has.op (p:=Op.load 28 (.tmp 155)) (t:=156) (by show _=_;kernel_rfl) ho).2.symm.trans hn) (by simp)) ⟨hJ.1.put (by decide) hDi (fun e=>hJ.2.of10 e 8 (by decide)) (Below.refl _ _) rfl,hJ.2.put (fun j hj=>by cases J3p8 hj;exact (hdep 7 (mem_of (by show _=_;kernel_rfl))).1)⟩)
     have hop:=(Reg.Has.op (p:=Op.load 28 (.tmp 155)) (t:=156) (by show _=_;kernel_rfl) ho).1
     have q0:a'.eval (.tmp 155)=.pointer (some ⟨ge,8,none⟩):=(((hdep 7 (mem_of (by show _=_;kernel_rfl))).2 155 (by show _=_;kernel_rfl)).trans (hJ.1.val 7 (by decide) (hdep 7 (mem_of (by show _=_;kernel_rfl))).1))
     have q1:w'.cell? ⟨ge,8,none⟩=some (gp gc):=(CE.out w' hB).1;generalize a'.eval=ev at q0;simp[execOp,hop,go_sem,q0,q1]
    |9,_=>
     intro o ho a' w' D f Kc hd hout hDi hdep hJ hK;have hB:=hJ.1.head (by decide) hDi (fun e=>hJ.2.of10 e 9 (by decide))
     have q0:a'.eval (.tmp 156)=gp gc:=(((hdep 8 (mem_of (by show _=_;kernel_rfl))).2 156 (by show _=_;kernel_rfl)).trans (hJ.1.val 8 (by decide) (hdep 8 (mem_of (by show _=_;kernel_rfl))).1))
     refine wp_call (S:=fun u w2=>u=.bool s3.sd∧w'=w2) (Reg.Has.op (p:=Op.call {callee:=Callee.value (.func 19),args:=#[.tmp 156],argTypes:=#[28]}) (t:=157) (by show _=_;kernel_rfl) ho).1 #[gp gc] (by simp[q0]) (fun _ _=>enters Tryz.func19 (by kernel_rfl) rfl _ _) ((Ct.closed_ok (hid (CE.out w' hB).2)).mono fun e w2 h=>⟨_,h.1,rfl,h.2⟩) ?_
     rintro u w2 ⟨rfl,rfl⟩;exact hK _ _ (fun t hn=>absurd ((Reg.Has.op (p:=Op.call {callee:=Callee.value (.func 19),args:=#[.tmp 156],argTypes:=#[28]}) (t:=157) (by show _=_;kernel_rfl) ho).2.symm.trans hn) (by simp)) ⟨hJ.1.put (by decide) hDi (fun e=>hJ.2.of10 e 9 (by decide)) (Below.refl _ _) rfl,hJ.2.put (fun j hj=>by cases J3p9 hj;exact (hdep 8 (mem_of (by show _=_;kernel_rfl))).1)⟩
    |10,_=>
     intro o ho a' w' D f Kc hd hout hDi hdep hJ hK;have hB:=hJ.1.pre hDi;have q0:a'.eval (.tmp 151)=gp wk:=(((hdep 3 (mem_of (by show _=_;kernel_rfl))).2 151 (by show _=_;kernel_rfl)).trans (hJ.1.val 3 (by decide) (hdep 3 (mem_of (by show _=_;kernel_rfl))).1))
     have q1:a'.eval (.tmp 154)=.int .i64 s3.wm:=(((hdep 6 (mem_of (by show _=_;kernel_rfl))).2 154 (by show _=_;kernel_rfl)).trans (hJ.1.val 6 (by decide) (hdep 6 (mem_of (by show _=_;kernel_rfl))).1))
     have q2:a'.eval (.tmp 157)=.bool s3.sd:=(((hdep 9 (mem_of (by show _=_;kernel_rfl))).2 157 (by show _=_;kernel_rfl)).trans (hJ.1.val 9 (by decide) (hdep 9 (mem_of (by show _=_;kernel_rfl))).1))
     refine wp_call (S:=fun u w9=>∃ X d bo,u=.tuple #[d.v,.bool bo]∧Aft c8 ⟨c,gc,b,ba,bn,bc,bs,xp,0,cs⟩ q T Wf ws w3 w6 wL ge (.slice (some ⟨bw,ow,none⟩) wn wc) k3 n3 b3 jj pt3 wr.heap.size X d bo w9∧w'.heap.size≤w9.heap.size∧∀ a,a<w'.heap.size→(∀ i,¬R3 i a)→a≠ge→w9.heap[a]?=w'.heap[a]?∧¬X a) (Reg.Has.op (p:=Op.call {callee:=Callee.value (.func 17),args:=#[.tmp 151,.tmp 154,.tmp 157],argTypes:=#[59,2,4]}) (t:=158) (by show _=_;kernel_rfl) ho).1 #[gp wk,.int .i64 s3.wm,.bool s3.sd] (by simp[q0,q1,q2]) (fun _ _=>enters Tryz.func17 (by kernel_rfl) rfl _ _) (((IN.out.next hB).step FX.out IN.out.al.cm.old HWK.out).mono fun e w9 ⟨X,d,bo,h1,h2,h3,h4⟩=>⟨_,h1,X,d,bo,rfl,h2,h3,h4⟩) ?_
     rintro u w9 ⟨X,d,bo,rfl,h2,h3,h4⟩
     exact hK _ _ (fun t hn=>absurd ((Reg.Has.op (p:=Op.call {callee:=Callee.value (.func 17),args:=#[.tmp 151,.tmp 154,.tmp 157],argTypes:=#[59,2,4]}) (t:=158) (by show _=_;kernel_rfl) ho).2.symm.trans hn) (by simp)) ⟨hJ.1.step hDi rfl h2 h3 (fun a a1 a2=>h4 a a2 (fun i r=>by have:=IN.out.al.cm.fam.in_ i a r;omega) (fun e=>by have:=IN.out.al.env.lies.lt;omega)),hJ.2.put (fun j hj=>by
      rcases J3p10 hj with rfl|rfl|rfl
      ·exact (hdep 3 (mem_of (by show _=_;kernel_rfl))).1
      ·exact (hdep 6 (mem_of (by show _=_;kernel_rfl))).1
      ·exact (hdep 9 (mem_of (by show _=_;kernel_rfl))).1)⟩
    |11,_=>
     intro o ho a' w' D f Kc hd hout hDi hdep hJ hK;have e10:a'.eval (.tmp 158)=f 10:=((hdep 10 (mem_of (by show _=_;kernel_rfl))).2 158 (by show _=_;kernel_rfl))
     have d10:=(hdep 10 (mem_of (by show _=_;kernel_rfl))).1
     exact Sl.wp_move _ (Reg.Has.op (p:=Op.move (.tmp 158)) (t:=147) (by show _=_;kernel_rfl) ho).1 (by rw[e10];exact hK _ _ (fun t hn=>absurd ((Reg.Has.op (p:=Op.move (.tmp 158)) (t:=147) (by show _=_;kernel_rfl) ho).2.symm.trans hn) (by simp)) ⟨hJ.1.part (.inl rfl) d10 (fun d b h _=>⟨fun _=>h,fun e=>absurd e (by decide),fun e=>absurd e (by decide)⟩),hJ.2.put (fun j hj=>by unfold J3ps at hj;simp at hj)⟩)
    |12,_=>
     intro o ho a' w' D f Kc hd hout hDi hdep hJ hK;have d11:=(hdep 11 (mem_of (by show _=_;kernel_rfl))).1
     have d10:=hJ.1.past 11 (by decide) (by decide) (by decide) d11
     obtain⟨X,d,bo,h1,h2,h3,h4,h5,h6⟩:=hJ.1.post d10;have e11:a'.eval (.tmp 147)=.tuple #[d.v,.bool bo]:=((hdep 11 (mem_of (by show _=_;kernel_rfl))).2 147 (by show _=_;kernel_rfl)).trans (h3 d11)
     refine wp_val (V:=d.v) (w':=w') ?_ (hK _ _ (fun t hn=>absurd ((Reg.Has.op (p:=Op.extract (.tmp 147) 0) (t:=159) (by show _=_;kernel_rfl) ho).2.symm.trans hn) (by simp)) ⟨hJ.1.part (.inr (.inl rfl)) d10 (fun d' b' h _=>by exact⟨fun e=>absurd e (by decide),fun _=>(tup2 (h1.symm.trans h)).1,fun e=>absurd e (by decide)⟩),hJ.2.put (fun j hj=>by unfold J3ps at hj;simp at hj)⟩)
     have hop:=(Reg.Has.op (p:=Op.extract (.tmp 147) 0) (t:=159) (by show _=_;kernel_rfl) ho).1
     generalize d.v=dv at e11;generalize a'.eval=ev at e11;simp[execOp,hop,e11,go_sem]
    |13,_=>
     intro o ho a' w' D f Kc hd hout hDi hdep hJ hK;have d11:=(hdep 11 (mem_of (by show _=_;kernel_rfl))).1
     have d10:=hJ.1.past 11 (by decide) (by decide) (by decide) d11
     obtain⟨X,d,bo,h1,h2,h3,h4,h5,h6⟩:=hJ.1.post d10;have e11:a'.eval (.tmp 147)=.tuple #[d.v,.bool bo]:=((hdep 11 (mem_of (by show _=_;kernel_rfl))).2 147 (by show _=_;kernel_rfl)).trans (h3 d11)
     refine wp_val (V:=.bool bo) (w':=w') ?_ (hK _ _ (fun t hn=>absurd ((Reg.Has.op (p:=Op.extract (.tmp 147) 1) (t:=160) (by show _=_;kernel_rfl) ho).2.symm.trans hn) (by simp)) ⟨hJ.1.part (.inr (.inr rfl)) d10 (fun d' b' h _=>by exact⟨fun e=>absurd e (by decide),fun e=>absurd e (by decide),fun _=>(tup2 (h1.symm.trans h)).2⟩),hJ.2.put (fun j hj=>by unfold J3ps at hj;simp at hj)⟩)
     have hop:=(Reg.Has.op (p:=Op.extract (.tmp 147) 1) (t:=160) (by show _=_;kernel_rfl) ho).1
     generalize d.v=dv at e11;generalize a'.eval=ev at e11;simp[execOp,hop,e11,go_sem]
    |14,_=>
     intro o ho a' w' D f Kc hd hout hDi hdep hJ hK;refine wp_val (V:=gp w'.heap.size) (w':=w'.alloc (Obj.cells zcl.toArray 57)) ?_ (hK _ _ (fun t hn=>absurd ((Reg.Has.op (p:=Op.alloc 57) (t:=23) (by show _=_;kernel_rfl) ho).2.symm.trans hn) (by simp)) ⟨hJ.1.alloc hDi (fun X d b h=>h.next (below1 _ _)) (fun X d b h a=>h.in_) (below1 _ _) (Lies.new w' 57 zcl) rfl,hJ.2.put (fun j hj=>by unfold J3ps at hj;simp at hj)⟩)
     have hop:=(Reg.Has.op (p:=Op.alloc 57) (t:=23) (by show _=_;kernel_rfl) ho).1
     simp[execOp,hop,go_sem]
    |15,_=>
     intro o ho a' w' D f Kc hd hout hDi hdep hJ hK;obtain⟨hop,hdn'⟩:o.op=Op.store 57 (.tmp 23) (.tmp 159)∧o.dst=none:=by have:=Option.some.inj ho;subst this;exact⟨rfl,rfl⟩
     have d12:=(hdep 12 (mem_of (by show _=_;kernel_rfl))).1
     have d14:=(hdep 14 (mem_of (by show _=_;kernel_rfl))).1
     have d10:=hJ.1.past 12 (by decide) (by decide) (by decide) d12
     obtain⟨X,d,bo,h1,h2,h3,h4,h5,h6⟩:=hJ.1.post d10;obtain⟨a,cs9,g1,g2,g3,g4⟩:=hJ.1.al d14;have e14:a'.eval (.tmp 23)=gp a:=((hdep 14 (mem_of (by show _=_;kernel_rfl))).2 23 (by show _=_;kernel_rfl)).trans g1
     have e12:a'.eval (.tmp 159)=.agg d.cl.toArray:=((hdep 12 (mem_of (by show _=_;kernel_rfl))).2 159 (by show _=_;kernel_rfl)).trans (h4 d12)
     refine Wh.wp_store Tryz.sizeOf57 (.tmp 23) (.tmp 159) hop e14 e12 g3 (by rw[g4];exact Nat.le_refl _) rfl (Dv.one d) d.cl (st16 g4) ?_
     intro w9 l9 k9
     have:=hK (a'.eval (.tmp 23)) w9 (fun t _ hs=>by
      have h6:=hs.symm.trans (show RelA.slotOf _ 15=some 23 from (by show _=_;kernel_rfl))
      cases h6
      rfl) ⟨hJ.1.store d10 d14 g1 (fun X d b h hx=>h.aside k9 hx L3.out.1 L3.out.2 g2) k9 (fun d' b' h=>by have:=tup2 (h1.symm.trans h);rw[←Dv.inj this.1];exact l9),hJ.2.put (fun j hj=>by unfold J3ps at hj;simp at hj)⟩
     rw[hdn'] at this ⊢;exact this
    |i+16,hi=>exact absurd hi (by omega)
   ·intro f D w' hD hJ hlink hev
    change wpList _ _ _ [_] (Act.put (Act.put (Act.put (Act.put (Act.put (Act.put (Act.put (Act.put (Act.put (Act.put (Act.put (Act.put (Act.put (Act.put (Act.put (Act.put _ (some 148) (f 0)) (some 149) (f 1)) (some 150) (f 2)) (some 151) (f 3)) (some 152) (f 4)) (some 153) (f 5)) (some 154) (f 6)) (some 155) (f 7)) (some 156) (f 8)) (some 157) (f 9)) (some 158) (f 10)) (some 147) (f 11)) (some 159) (f 12)) (some 160) (f 13)) (some 23) (f 14)) none (f 15)) _
    rw[Rel.puts_zero];rw[put_none9];obtain⟨X,d,bo,p1,p2,p3',p4,p5,p6⟩:=hJ.1.post (hD 10 (by omega))
    obtain⟨a,cs9,g1,g2,g3,g4⟩:=hJ.1.al (hD 14 (by omega))
    have D5:=hid ((p6 (hD 14 (by omega)) a g1).2 (hD 15 (by omega)))
    have AF:=hid p2;have e13:=p5 (hD 13 (by omega))
    have ha:Hid (¬X a):=hid (p6 (hD 14 (by omega)) a g1).1
    rw[e13,g1];clear hJ hD hlink hev p1 p2 p3' p4 p5 p6 g1 g3 g4 e13 CW CE L3;generalize f 0=v0;generalize f 1=v1;generalize f 2=v2;generalize f 3=v3;generalize f 4=v4;generalize f 5=v5;generalize f 6=v6;generalize f 7=v7;generalize f 8=v8;generalize f 9=v9;generalize f 10=v10;generalize f 11=v11;generalize f 12=v12;generalize f 15=v15;clear f D;simp only[Act.put,List.setIfInBounds_toArray,List.set_cons_zero,List.set_cons_succ];obtain⟨s4,p4,S4,N4,m4,R4,a1,a2,a3,a4,⟨base,a5⟩,a6⟩:=AF.out;cases bo with
    |false=>
     have I4:Hid (In3 c8 ⟨c,gc,b,ba,bn,bc,bs,xp,0,cs⟩ q T Wf ws w3 w6 wL ge (.slice (some ⟨bw,ow,none⟩) wn wc) k3 n3 b3 (jj+1) pt3 s4 p4 S4 N4 m4 R4 w'):=hid (by
      rcases a6 with ⟨-,h⟩|⟨h,-⟩
      ·exact h
      ·cases h)
     have f1:(jj:Int)+1≤9223372036854775807:=by omega
     have f2:-9223372036854775808≤(jj:Int)+1:=by omega
     clear a1 a2 a3 a4 a5 a6 AF D5 ha IN;go_wp2_with fail
     exact⟨⟨jj+1,pt3,s4,p4,S4,N4,m4,R4,by go_num,rfl,hlt3,I4⟩,by simp[intOf];omega⟩
    |true=>
     obtain⟨hb3,hk3,hmv,hkd,hdt⟩:b3=true∧k3<cs.length∧d.mv=false∧((d.m.kind == 1)=!pt3)∧DidTo c8 w3 ⟨c,gc,b,ba,bn,bc,bs,xp,0,cs⟩ q T Wf k3 n3 d.v d.r s4 p4 S4 N4:=by
      rcases a6 with ⟨h,-⟩|⟨-,h1,h2,h3,h4,h5⟩
      ·cases h
      ·exact⟨h1,h2,h3,h4,h5⟩
     have A4:=hid a1;have DT:=hid (hdt w' R4 a1.cm (Out.Rd.own a5));have nR:Hid (∀ i,¬R4 i a):=hid fun i r=>ha.out ((a4 a).2 (.inl ⟨i,r⟩))
     have HMV:=hid hmv;have HKD:=hid hkd;have f1:(jj:Int)+1≤9223372036854775807:=by omega
     have f2:-9223372036854775808≤(jj:Int)+1:=by omega
     clear a1 a2 a3 a4 a5 a6 AF ha IN hmv hkd hdt
     go_wp2_with (first
      |(refine wpList_plain rfl fun K' hK'=>ld_did (m:=d.m) (mv:=d.mv) (r:=d.r) (oa:=d.oa) (on:=d.on) (oc:=d.oc) (st:=d.st) _ rfl rfl D5.out (hK' _ _ ?_))
      |fail)
     refine DT.out.mono ?_
     rintro r w5 ⟨rfl,s5,R5,c5,o5,t5,r5,e5⟩;have I5:Hid (In3 c8 ⟨c,gc,b,ba,bn,bc,bs,xp,0,cs⟩ q T Wf ws w3 w6 wL ge (.slice (some ⟨bw,ow,none⟩) wn wc) k3 n3 b3 (jj+1) true s5 p4 S4 N4 m4 R5 w5):=hid ⟨A4.out.client c5 o5,r5,.inl ⟨by rw[hb3];exact t5,e5⟩⟩
     have D6:Hid (Lies w5 a 57 d.cl):=hid ((o5.free a D5.out.lt nR.out).1.trans D5.out);have d0:=D6.out.cell (i:=0) rfl
     have d11:w5.cell? ⟨a,11,none⟩=some (.bool false):=by
      have:=D6.out.cell (i:=11) rfl
      rwa [HMV.out] at this
     clear A4 DT c5 o5 t5 r5 e5 D5 D6 nR;dsimp only;cases pt3 with
     |false=>
      have kk1:(d.m.kind == 1)=true:=HKD.out;have g1:((k3+c01 false:Nat):Int)+1≤9223372036854775807:=by show ((k3:Nat):Int)+1≤_;omega
      have g2:-9223372036854775808≤((k3+c01 false:Nat):Int)+1:=by omega
      clear HKD;go_wp2_with fail
      exact⟨⟨jj+1,true,s5,p4,S4,N4,m4,R5,by go_num,rfl,hlt3,I5⟩,by simp[intOf];omega⟩
     |true=>
      have kk1:(d.m.kind == 1)=false:=HKD.out;clear HKD;go_wp2_with fail
      exact⟨⟨jj+1,true,s5,p4,S4,N4,m4,R5,by go_num,rfl,hlt3,I5⟩,by simp[intOf];omega⟩
  ·have hltz:¬((jj:Int)<(wn:Int)):=by omega
   obtain rfl:jj=wn:=by omega
   go_wp2_with fail
   apply hK
   exact IN
end clientAlone
end Go.Proofs.YtfjlnniahfbdfaaGreat
