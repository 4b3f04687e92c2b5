/-
  ShardPlays: what stands behind the switch: the message is put, the worker's step, all answers.
-/
import Derived.Test.YtmklkiklegkioaaGreatSpMems
import Derived.Deep.RegionHeld3
import Derived.Deep.CutBlock
import Derived.Deep.DeepCutAuto
namespace Go.Proofs.YtmklkiklegkioaaGreat
open Go.ChangeShapes Go.WideShapes Go.ChangeAt Go.RowKit
set_option maxRecDepth 100000
set_option linter.unusedVariables false
namespace Sp
open Small Foot Pane Grp Ca Md Sh Rg Rm
set_option maxHeartbeats 16000000 in
theorem rest {w w7 : World} {nn gc bm gl gd gm gw wk nK jx nr cr no co : Nat} {Ar Ao : Option Addr} {cf : C8} {p MM : Int → Option Nat} {FF FR : Int → Nat → Prop} {S : Int → Lists} {n : Int → Nat} {ko kd : Option Nat} {SK : Lists} {RR RR' : Int → List Pn} {RK P O : List Pn} {lc : List Value} {kx g wh g0 mk v code : Int} {cl mv : Bool} {y : Cl} {msg : Ms.M} {R7 : Nat → Nat → Prop} {u0 u1 u2 u4 u5 u6 u7 u9 u10 u12 u23 u24 u25 u26 u27 u28 u29 u30 u31 u32 u33 u34 u35 u36 u37 u38 u39 u40 u41 u42 u43 u44 u45 u46 u47 u48 u49 u50 u51 u52 u53 u54 u55 u56 u57 u58 u59 u60 u61 u62 u63 u64 u65 u66 u67 u68 u69 u70 u71 u72 u73 u74 u75 u76 u77 u78 u79 u80 u81 u82 u83 u84 u85 u86 u87 u88 u89 u90 u91 u92 u93 u94 u95 u96 u97 u98 u99 u100 u101 u102 u103 u104 u105 u106 u107 u108 u109 u110 u111 u112 u113 u114 u115 u116 u117 u118 u119 u120 u121 u122 u123 u124 u125 u126 u127 u128 u129 u130 u131 u132 u133 u134 u135 u136 u137 u138 u139 u140 u141 u142 u143 u144 u145 u146 u147 u148 u149 u150 u151 u152 u153 u154 u155 u156 u157 u158 u159 u160 u161 u162 u163 u164 u165 u166 u167 u168 u169 u170 u171 u172 u173 u174 u175 u176 u177 u178 u179 u180 u181 u182 u183 u184 u185 u186 u187 u188 u189 u190 u191 u192 u193 u194 u195 u196 u197 u198 u199 u200 u201 u202 u203 u204 u205 u206 u207 u208 u209 u210 u211 u212 u213 u214 u215 u216 u217 u218 u219 u220 u221 u222 u223 u224 u225 u226 u227 u228 u229 u230 u231 u232 u233 u234 u235 u236 u237 u238 u239 u240 u241 u242 u243 u244 u245 u246 u247 u248 u249 u250 u251 u252 u253 u254 u255 u256 u257 u258 u259 u260 u261 u262 u263 u264 u265 u266 u267 u268 u269 u270 u271 u272 u273 u274 u275 u276 u277 u278 u279 u280 u281 u282 u283 u284 u285 u286 u287 u288 u289 u290 u291 u292 u293 u294 u295 u296 u297 u298 u299 u300 u301 u302 u303 u304 u305 u306 u307 u308 u309 u310 u311 u312 u313 u314 u315 u316 u317 u318 u319 u320 u321 u322 u323 u324 u325 u326 u327 u328 u329 u330 u331 u332 u333 u334 u335 u336 u337 u338 u339 u340 u341 u342 u343 u344 u345 u346 u347 u348 u349 u350 u351 u352 u353 u354 : Value} {K : Act → World → Prop} {Q : Exit → Act → World → Prop}
    (P7 : Hid (PM w wk cf p p FF S (16 * jx) n [] ko SK nK MM FR RR' kd RK [⟨gc, 23, cf.cl⟩, ⟨bm, 37, ml MM nn⟩, ⟨gl, 49, lc⟩, ⟨gd, 51, [.int .i64 wh, .int .i64 y.op, .string y.key, .int .i64 y.t, .int .i64 y.v, .int .i64 y.e, .int .i64 y.u, .int .i64 y.s, .int .i64 g0, .int .i64 mk, .bool cl]⟩, ⟨gm, 45, Ms.cl msg⟩, ⟨gw, 47, [.int .i64 code, .slice Ar nr cr]⟩] R7 w7)) (LL : Hid (LS nn p MM S RR ko kd SK RK lc kx)) (NN : Hid (cf.r = nn))
    (PD : Hid (Pend cf y jx g kx ko mk cl p RR v msg mv code P O RR')) (VR : Hid (VB w R7 w7 (.slice Ar nr cr) P)) (VO : Hid (VB w R7 w7 (.slice Ao no co) O))
    (M : Hid (Asg.may cf.k cf.s cf.l cf.g cf.z cf.h cf.r cf.c)) (CF : Hid (cfOf cf).Fit) (fx : Hid y.Fit) (fk : Hid ((Lit.int .i64 mk).wf = true)) (hkm : Hid (y.key.size ≤ maxLen)) (hj : jx < 50) (hg : 0 ≤ g ∧ g < nn) (hv : 0 ≤ v ∧ v < 6)
    (hK : ∀ (t6 t14 t27 t28 t29 t30 t31 t32 t227 t228 t229 t230 t231 t232 t233 t234 t235 t236 t237 t238 t239 t240 t241 t242 t243 t244 t245 t246 t247 t248 t249 t250 t251 t252 t253 t254 t255 t256 t257 t258 t259 t260 t261 t262 t263 t264 t265 t266 t267 t268 t269 t270 t271 t272 t273 t274 t275 t276 t277 t278 t279 t280 t281 t282 t283 t284 t285 t286 t287 t288 t289 t290 t291 t292 t293 t294 t295 t296 t297 t298 t299 t300 t301 t302 t303 t304 t305 t306 t307 t308 t309 t310 t311 t312 t313 t314 t315 t316 t317 t318 t319 t320 t321 t322 t323 t324 t325 t326 t327 t328 t329 t330 t331 t332 t333 t334 t335 t336 t337 t338 t339 t340 t341 t342 t343 t344 t345 t346 t347 t348 t349 t350 t351 t352 t353 : Value) (wx : World), Rnd w wk cf nn gc bm gl (jx + 1) t14 wx → K ⟨#[u0, u1, u2, .pointer (some ⟨gc, 0, none⟩), u4, u5, t6, u7, Sh.gp wk, u9, u10, .slice (some ⟨bm, 0, none⟩) nn nn, u12, .pointer (some ⟨gl, 0, none⟩), t14, .int .i64 jx, .pointer (some ⟨gd, 0, none⟩), .int .i64 v, .int .i64 g, .pointer (some ⟨gm, 0, none⟩), .pointer (some ⟨gw, 0, none⟩), .bool mv, .slice Ao no co, u23, u24, u25, u26, t27, t28, t29, t30, t31, t32, u33, u34, u35, u36, u37, u38, u39, u40, u41, u42, u43, u44, u45, u46, u47, u48, u49, u50, u51, u52, u53, u54, u55, u56, u57, u58, u59, u60, u61, u62, u63, u64, u65, u66, u67, u68, u69, u70, u71, u72, u73, u74, u75, u76, u77, u78, u79, u80, u81, u82, u83, u84, u85, u86, u87, u88, u89, u90, u91, u92, u93, u94, u95, u96, u97, u98, u99, u100, u101, u102, u103, u104, u105, u106, u107, u108, u109, u110, u111, u112, u113, u114, u115, u116, u117, u118, u119, u120, u121, u122, u123, u124, u125, u126, u127, u128, u129, u130, u131, u132, u133, u134, u135, u136, u137, u138, u139, u140, u141, u142, u143, u144, u145, u146, u147, u148, u149, u150, u151, u152, u153, u154, u155, u156, u157, u158, u159, u160, u161, u162, u163, u164, u165, u166, u167, u168, u169, u170, u171, u172, u173, u174, u175, u176, u177, u178, u179, u180, u181, u182, u183, u184, u185, u186, u187, u188, u189, u190, u191, u192, u193, u194, u195, u196, u197, u198, u199, u200, u201, u202, u203, u204, u205, u206, u207, u208, u209, u210, u211, u212, u213, u214, u215, u216, u217, u218, u219, u220, u221, u222, u223, u224, u225, u226, t227, t228, t229, t230, t231, t232, t233, t234, t235, t236, t237, t238, t239, t240, t241, t242, t243, t244, t245, t246, t247, t248, t249, t250, t251, t252, t253, t254, t255, t256, t257, t258, t259, t260, t261, t262, t263, t264, t265, t266, t267, t268, t269, t270, t271, t272, t273, t274, t275, t276, t277, t278, t279, t280, t281, t282, t283, t284, t285, t286, t287, t288, t289, t290, t291, t292, t293, t294, t295, t296, t297, t298, t299, t300, t301, t302, t303, t304, t305, t306, t307, t308, t309, t310, t311, t312, t313, t314, t315, t316, t317, t318, t319, t320, t321, t322, t323, t324, t325, t326, t327, t328, t329, t330, t331, t332, t333, t334, t335, t336, t337, t338, t339, t340, t341, t342, t343, t344, t345, t346, t347, t348, t349, t350, t351, t352, t353, u354], []⟩ wx) :
    Code.wp Tryz.prog b3r (Exit.inBlock 3 (Exit.then K Q)) ⟨#[u0, u1, u2, .pointer (some ⟨gc, 0, none⟩), u4, u5, u6, u7, Sh.gp wk, u9, u10, .slice (some ⟨bm, 0, none⟩) nn nn, u12, .pointer (some ⟨gl, 0, none⟩), Ms.stv kd, .int .i64 jx, .pointer (some ⟨gd, 0, none⟩), .int .i64 v, .int .i64 g, .pointer (some ⟨gm, 0, none⟩), .pointer (some ⟨gw, 0, none⟩), .bool mv, .slice Ao no co, u23, u24, u25, u26, u27, u28, u29, u30, u31, u32, u33, u34, u35, u36, u37, u38, u39, u40, u41, u42, u43, u44, u45, u46, u47, u48, u49, u50, u51, u52, u53, u54, u55, u56, u57, u58, u59, u60, u61, u62, u63, u64, u65, u66, u67, u68, u69, u70, u71, u72, u73, u74, u75, u76, u77, u78, u79, u80, u81, u82, u83, u84, u85, u86, u87, u88, u89, u90, u91, u92, u93, u94, u95, u96, u97, u98, u99, u100, u101, u102, u103, u104, u105, u106, u107, u108, u109, u110, u111, u112, u113, u114, u115, u116, u117, u118, u119, u120, u121, u122, u123, u124, u125, u126, u127, u128, u129, u130, u131, u132, u133, u134, u135, u136, u137, u138, u139, u140, u141, u142, u143, u144, u145, u146, u147, u148, u149, u150, u151, u152, u153, u154, u155, u156, u157, u158, u159, u160, u161, u162, u163, u164, u165, u166, u167, u168, u169, u170, u171, u172, u173, u174, u175, u176, u177, u178, u179, u180, u181, u182, u183, u184, u185, u186, u187, u188, u189, u190, u191, u192, u193, u194, u195, u196, u197, u198, u199, u200, u201, u202, u203, u204, u205, u206, u207, u208, u209, u210, u211, u212, u213, u214, u215, u216, u217, u218, u219, u220, u221, u222, u223, u224, u225, u226, u227, u228, u229, u230, u231, u232, u233, u234, u235, u236, u237, u238, u239, u240, u241, u242, u243, u244, u245, u246, u247, u248, u249, u250, u251, u252, u253, u254, u255, u256, u257, u258, u259, u260, u261, u262, u263, u264, u265, u266, u267, u268, u269, u270, u271, u272, u273, u274, u275, u276, u277, u278, u279, u280, u281, u282, u283, u284, u285, u286, u287, u288, u289, u290, u291, u292, u293, u294, u295, u296, u297, u298, u299, u300, u301, u302, u303, u304, u305, u306, u307, u308, u309, u310, u311, u312, u313, u314, u315, u316, u317, u318, u319, u320, u321, u322, u323, u324, u325, u326, u327, u328, u329, u330, u331, u332, u333, u334, u335, u336, u337, u338, u339, u340, u341, u342, u343, u344, u345, u346, u347, u348, u349, u350, u351, u352, u353, u354], []⟩ w7 := by
  conv => arg 2; whnf
  have n16 : Hid (1 ≤ nn ∧ nn ≤ 16 ∧ 1 ≤ cf.c ∧ cf.c ≤ 16) := Lib.hid (by have h1 := M.out; have h2 := NN.out; unfold Asg.may at h1; omega)
  have BC : Hid (cf.s ≤ 9223372036854775807 ∧ cf.l ≤ 9223372036854775807 ∧ cf.g ≤ 9223372036854775807 ∧ cf.z ≤ 9223372036854775807) := Lib.hid ⟨(Small.fit CF.out.2.1).2, (Small.fit CF.out.2.2.1).2, (Small.fit CF.out.2.2.2.1).2, (Small.fit CF.out.2.2.2.2.1).2⟩
  obtain ⟨mA, bxA, bvA, qA, eA⟩ := P7.out.work
  have QA := Lib.hid (qA.next (Below.refl _ _).drew)
  have FA := Lib.hid (funext fun k => propext (eA k))
  have Pd := Lib.hid (P7.out.next (Below.refl _ _).drew)
  have VRd := Lib.hid (VR.out.next (Below.refl _ _).drew)
  have VOd := Lib.hid (VO.out.next (Below.refl _ _).drew)
  have M7 := Lib.hid (P7.out.box (i := 4) rfl)
  have NM : Hid (¬ R7 0 gm) := Lib.hid (P7.out.not_in (i := 4) rfl (j := 0) (by decide))
  have CS : Hid (∀ w', Out.Wr (R7 0) w7 w' → w'.cell? ⟨gm, 0, none⟩ = some (.int .i64 msg.kind) ∧ w'.cell? ⟨gm, 1, none⟩ = some (.int .i64 msg.fr) ∧ w'.cell? ⟨gm, 2, none⟩ = some (.int .i64 msg.call.op) ∧ w'.cell? ⟨gm, 3, none⟩ = some (.string msg.call.key) ∧ w'.cell? ⟨gm, 4, none⟩ = some (.int .i64 msg.call.t) ∧ w'.cell? ⟨gm, 5, none⟩ = some (.int .i64 msg.call.v) ∧ w'.cell? ⟨gm, 6, none⟩ = some (.int .i64 msg.call.e) ∧ w'.cell? ⟨gm, 7, none⟩ = some (.int .i64 msg.call.u) ∧ w'.cell? ⟨gm, 8, none⟩ = some (.int .i64 msg.call.s) ∧ w'.cell? ⟨gm, 9, none⟩ = some (.int .i64 msg.group) ∧ w'.cell? ⟨gm, 10, none⟩ = some (Ms.stv msg.st) ∧ Out.Wr (R7 0) w7 w') := Lib.hid fun w' h => ⟨wr_cell h NM.out (M7.out.cell (i := 0) rfl), wr_cell h NM.out (M7.out.cell (i := 1) rfl), wr_cell h NM.out (M7.out.cell (i := 2) rfl), wr_cell h NM.out (M7.out.cell (i := 3) rfl), wr_cell h NM.out (M7.out.cell (i := 4) rfl), wr_cell h NM.out (M7.out.cell (i := 5) rfl), wr_cell h NM.out (M7.out.cell (i := 6) rfl), wr_cell h NM.out (M7.out.cell (i := 7) rfl), wr_cell h NM.out (M7.out.cell (i := 8) rfl), wr_cell h NM.out (M7.out.cell (i := 9) rfl), wr_cell h NM.out (M7.out.cell (i := 10) rfl), h⟩
  clear qA eA
  go_upto_region 54 with fail
  go_region_held3 (fun w' => w'.cell? ⟨gm, 0, none⟩ = some (.int .i64 msg.kind) ∧ w'.cell? ⟨gm, 1, none⟩ = some (.int .i64 msg.fr) ∧ w'.cell? ⟨gm, 2, none⟩ = some (.int .i64 msg.call.op) ∧ w'.cell? ⟨gm, 3, none⟩ = some (.string msg.call.key) ∧ w'.cell? ⟨gm, 4, none⟩ = some (.int .i64 msg.call.t) ∧ w'.cell? ⟨gm, 5, none⟩ = some (.int .i64 msg.call.v) ∧ w'.cell? ⟨gm, 6, none⟩ = some (.int .i64 msg.call.e) ∧ w'.cell? ⟨gm, 7, none⟩ = some (.int .i64 msg.call.u) ∧ w'.cell? ⟨gm, 8, none⟩ = some (.int .i64 msg.call.s) ∧ w'.cell? ⟨gm, 9, none⟩ = some (.int .i64 msg.group) ∧ w'.cell? ⟨gm, 10, none⟩ = some (Ms.stv msg.st) ∧ Out.Wr (R7 0) w7 w')
    (first | exact CS.out _ Out.Wr.drew | exact CS.out _ (Out.Wr.trans Out.Wr.drew (Out.Wr.of_moves mv8)))
    (first
      | (go_at_call 7; refine (box_at _ QA).mono ?_; rintro r _ ⟨rfl, rfl⟩)
      | (go_at_call 14; refine (Ms.put_ok bxA cf.c bvA [] msg _ (Lib.hid QA.out.box) (by have := n16.out; simp; omega) n16.out.2.2.2).mono ?_; rintro r w8 ⟨bw8, rfl, b8, v8⟩; obtain ⟨h8, mv8⟩ := QA.out.put b8 v8; rw [← FA.out] at mv8))
  have P8 := Lib.hid (Pd.out.on0 (L' := [msg]) h8 mv8)
  have VR8 := Lib.hid (VRd.out.on0 (R' := rset R7 0 (WF wk mA bxA bw8)) mv8 (rset_same _ _ _) (rset_ne _ _ (by decide)) (rset_ne _ _ (by decide)))
  have VO8 := Lib.hid (VOd.out.on0 (R' := rset R7 0 (WF wk mA bxA bw8)) mv8 (rset_same _ _ _) (rset_ne _ _ (by decide)) (rset_ne _ _ (by decide)))
  clear CS NM M7 Pd VRd VOd P7 VR VO h8 mv8 b8 v8 QA FA
  generalize rset R7 0 (WF wk mA bxA bw8) = R8 at P8 VR8 VO8
  have D8 := Lib.hid (P8.out.box (i := 3) rfl)
  have d9 := D8.out.cell (i := 9) rfl
  have d10 := D8.out.cell (i := 10) rfl
  go_wp2_with fail
  refine (step_any P8 PD (Lib.hid LL.out.rep) (by omega) (by have := n16.out; omega) (by have h1 := LL.out.k0; have h2 := LL.out.k1; have := n16.out; omega) M BC CF fx hkm.out fk).mono ?_
  rintro r w9 ⟨rv, ov, st', p', FF', S', n', ko', SK', nK', R9, rfl, pm9, orv, oov, hP, hO, af, tv⟩
  dsimp only
  obtain ⟨Ar2, nr2, cr2, rfl⟩ := lit_pn orv
  obtain ⟨Ao2, no2, co2, rfl⟩ := lit_pn oov
  have P9 := Lib.hid pm9
  have VR9 := Lib.hid (tv _ _ VR8.out)
  have VO9 := Lib.hid (tv _ _ VO8.out)
  have OR9 := Lib.hid orv
  have OO9 := Lib.hid oov
  have AF := Lib.hid af
  have HP9 := Lib.hid (And.intro hP hO)
  clear pm9 orv oov hP hO af tv P8 VR8 VO8 d9 d10 D8
  go_upto_region 56 with (first
    | (refine wpList_plain rfl fun K' hK' => wp_store_did (cs' := dcl msg mv code (.slice Ar2 nr2 cr2) (.slice Ao2 no2 co2) st') _ _ rfl rfl rfl (Lies.new _ _ zd) rfl rfl (one_did _ _ _ _ _ _ _ _ _ _ _ _ _ _) (fun w10 z1 z2 => hK' _ _ ?_))
    | fail)
  have k10 := Ms.below_over (below1 w9 _) z2 (Nat.le_refl _)
  have P10 := Lib.hid (P9.out.push k10 z1 (Nat.le_refl _))
  have VR10 := Lib.hid (VR9.out.1.next k10)
  have VO10 := Lib.hid (VO9.out.1.next k10)
  have OR10 := Lib.hid (OR9.out.next k10)
  have OO10 := Lib.hid (OO9.out.next k10)
  clear k10 z1 z2 P9 VR9 VO9 OR9 OO9
  simp only [List.cons_append, List.nil_append] at P10
  generalize rset R9 _ _ = R10 at P10
  generalize w9.heap.size = g10 at P10 ⊢
  have E10 := Lib.hid (P10.out.box (i := 6) rfl)
  have M10 := Lib.hid (P10.out.box (i := 4) rfl)
  have W10 := Lib.hid (P10.out.box (i := 5) rfl)
  have e0 := E10.out.cell (i := 0) rfl
  have e1 := E10.out.cell (i := 1) rfl
  rw [pend_fr PD.out] at e1
  have e11 := E10.out.cell (i := 11) rfl
  have e12 := E10.out.cell (i := 12) rfl
  have e13 := E10.out.cell (i := 13) rfl
  have m0 := M10.out.cell (i := 0) rfl
  have q0 := W10.out.cell (i := 0) rfl
  have q1 := W10.out.cell (i := 1) rfl
  go_wp2_with fail
  refine (Ca.same_ok code code _ _ P P w10 (Lib.hid (Out.Rd.own OR10.out)) (Lib.hid (Out.Rd.own VR10.out)) HP9.out.1 HP9.out.1).mono ?_
  rw [show decide (code = code ∧ P = P) = true by simp]
  rintro r w11 ⟨rfl, k11⟩
  dsimp only
  have P11 := Lib.hid (P10.out.next k11)
  have VO11 := Lib.hid (VO10.out.next k11)
  have OO11 := Lib.hid (OO10.out.next k11)
  clear k11 P10 VR10 VO10 OR10 OO10 E10 M10 W10 e0 e1 e11 e12 e13 m0 q0 q1
  have E11 := Lib.hid (P11.out.box (i := 6) rfl)
  have e14 := E11.out.cell (i := 14) rfl
  go_wp2_with fail
  refine (Out.same_big _ _ O O w11 (Lib.hid (Out.Rd.own OO11.out)) (Lib.hid (Out.Rd.own VO11.out)) (by have := HP9.out.2; omega) (by have := HP9.out.2; omega)).mono ?_
  rw [show decide (O = O) = true by simp]
  rintro r w12 ⟨rfl, k12⟩
  dsimp only
  have P12 := Lib.hid (P11.out.next k12)
  clear k12 P11 VO11 OO11 E11 e14 HP9
  go_upto_if 282 with fail
  go_cut [14] from 227 to 353 (fun s14 wx => ∃ (kd1 : Option Nat) (RK1 : List Pn) (lc1 : List Value) (kx1 : Int) (MM1 : Int → Option Nat) (FR1 : Int → Nat → Prop) (R1 : Nat → Nat → Prop), s14 = Ms.stv kd1 ∧ Hid (PM w wk cf p' p' FF' S' (16 * jx + 16) n' [] ko' SK' nK' MM1 FR1 RR' kd1 RK1 [⟨gc, 23, cf.cl⟩, ⟨bm, 37, ml MM1 nn⟩, ⟨gl, 49, lc1⟩, ⟨gd, 51, [.int .i64 wh, .int .i64 y.op, .string y.key, .int .i64 y.t, .int .i64 y.v, .int .i64 y.e, .int .i64 y.u, .int .i64 y.s, .int .i64 g0, .int .i64 mk, .bool cl]⟩, ⟨gm, 45, Ms.cl msg⟩, ⟨gw, 47, [.int .i64 code, .slice Ar nr cr]⟩, ⟨g10, 49, dcl msg mv code (.slice Ar2 nr2 cr2) (.slice Ao2 no2 co2) st'⟩] R1 wx) ∧ Hid (v = 5 → kd1 = kd ∧ lc1 = lc ∧ MM1 = MM ∧ RK1 = RK) ∧ Hid (v ≠ 5 → LS nn p' MM1 S' RR' ko' kd1 SK' RK1 lc1 kx1))
  case first =>
    have E12 := Lib.hid (P12.out.box (i := 6) rfl)
    have e15 := E12.out.cell (i := 15) rfl
    by_cases hv4 : v = 4
    · subst hv4
      obtain ⟨gn, rfl⟩ : ∃ gn : Nat, g = gn := ⟨g.toNat, by omega⟩
      obtain ⟨a1, a2, a3, a4, a5⟩ := AF.out.2.1 rfl
      have hgl : gn < nn := by omega
      have i1 : (gn : Int) < (nn : Int) := by omega
      have i2 : (gn : Int) ≤ 16 := by have := n16.out; omega
      have L12 := Lib.hid (P12.out.box (i := 1) rfl)
      have b0 := L12.out.cell (ml_at hgl)
      have bf := L12.out.open_ gn
      have BK := Lib.hid (pend_back PD.out (by decide))
      have HG : Hid (msg.group = (gn : Int)) := Lib.hid (pend_four PD.out rfl)
      cases hp : p (gn : Int) with
      | none =>
        have hmk := (LL.out.same (gn : Int)).1 hp
        rw [hmk] at b0
        have a1' : st' = none := a1.trans hp
        subst a1'
        rw [upd_none hp] at a2
        subst a2
        obtain ⟨rfl, rfl⟩ := a4 hp
        have LS13 : Hid (LS nn p' MM S' RR' ko' kd SK' RK lc kx) := Lib.hid ⟨LL.out.dom, LL.out.same, a3, LL.out.kept, LL.out.krep, LL.out.len, LL.out.c9, LL.out.c15, LL.out.k0, LL.out.k1, LL.out.one⟩
        have HM := Lib.hid hmk
        clear a1 a3 a4 a5 hp hmk AF LL
        go_upto_region 59 with fail
        go_quiet (fail)
        generalize hw13 : w12.drewN _ = w13
        have k13 : Below w12.heap.size w12 w13 := by rw [← hw13]; exact Sp.below_drewN _ _
        have P13 := Lib.hid (P12.out.next k13)
        clear hw13 k13 b0 bf e15 L12 E12 P12
        have E13 := Lib.hid (P13.out.box (i := 6) rfl)
        have e15 := E13.out.cell (i := 15) rfl
        have L13 := Lib.hid (P13.out.box (i := 1) rfl)
        have b0 := L13.out.cell (ml_at hgl)
        have bf := L13.out.open_ gn
        have hl13 := L13.out.put gn (Ms.stv none)
        rw [ml_set hgl, upd_none HM.out] at hl13
        have P14 := Lib.hid (P13.out.setb (i := 1) rfl (grown_set _ _ gn (Ms.stv none)) hl13)
        simp only [List.set_cons_succ, List.set_cons_zero] at P14
        rw [HM.out] at b0
        clear hl13 L13 E13
        go_wp2_with fail
        go_meet
        case rel => exact ⟨kd, RK, lc, kx, MM, FR, R10, rfl, P14, Lib.hid fun h => absurd h (by decide), Lib.hid fun _ => LS13.out⟩
      | some a =>
        obtain ⟨da, hmk⟩ := Option.ne_none_iff_exists'.1 (show MM (gn : Int) ≠ none from fun q => by rw [(LL.out.same _).2 q] at hp; cases hp)
        rw [hmk] at b0
        have a1' : st' = some a := a1.trans hp
        subst a1'
        subst a2
        obtain ⟨rfl, rfl⟩ := a5 a hp
        have LS15 : Hid (LS nn (updOf p (gn : Int) none) (updOf MM (gn : Int) none) S' RR' (some a) (some da) (S' (gn : Int)) (RR' (gn : Int)) (dcl msg mv code (.slice Ar2 nr2 cr2) (.slice Ao2 no2 co2) (some a)) (gn : Int)) := Lib.hid ⟨fun x hx => LL.out.dom x (by rw [← upd_sub x hx]; exact hx), fun x => by
          by_cases e : x = (gn : Int)
          · subst e; rw [upd_same, upd_same]
          · rw [upd_ne e, upd_ne e]; exact LL.out.same x, fun x hx => a3 x (by rw [← upd_sub x hx]; exact hx), by simp, fun _ => a3 _ (by rw [hp]; simp), rfl, by rw [← HG.out]; rfl, rfl, by omega, i1, one_did _ _ _ _ _ _ _ _ _ _ _ _ _ _⟩
        have HM := Lib.hid hmk
        have LN := Lib.hid LL.out.len
        clear a1 a3 a4 a5 hp hmk AF LL
        go_upto_region 59 with fail
        go_quiet (fail)
        generalize hw13 : w12.drewN _ = w13
        have k13 : Below w12.heap.size w12 w13 := by rw [← hw13]; exact Sp.below_drewN _ _
        have P13 := Lib.hid (P12.out.next k13)
        clear hw13 k13 b0 bf e15 L12 E12 P12
        have E13 := Lib.hid (P13.out.box (i := 6) rfl)
        have e15 := E13.out.cell (i := 15) rfl
        have G13 := Lib.hid (P13.out.box (i := 2) rfl)
        go_upto_region 63 with (first
          | (refine wpList_plain rfl fun K' hK' => wp_load_did _ rfl rfl E13.out rfl (hK' _ _ ?_))
          | (refine wpList_plain rfl fun K' hK' => wp_store_did (cs' := dcl msg mv code (.slice Ar2 nr2 cr2) (.slice Ao2 no2 co2) (some a)) _ _ rfl rfl rfl G13.out LN.out rfl (one_did _ _ _ _ _ _ _ _ _ _ _ _ _ _) (fun w14 z1 z2 => hK' _ _ ?_))
          | fail)
        have P14 := Lib.hid (P13.out.setb (i := 2) rfl z2 z1)
        simp only [List.set_cons_succ, List.set_cons_zero] at P14
        clear z1 z2 e15 E13 G13 P13
        have E14 := Lib.hid (P14.out.box (i := 6) rfl)
        have e15 := E14.out.cell (i := 15) rfl
        have L14 := Lib.hid (P14.out.box (i := 1) rfl)
        have b0 := L14.out.cell (ml_at hgl)
        have bf := L14.out.open_ gn
        have hl14 := L14.out.put gn (Ms.stv none)
        rw [ml_set hgl] at hl14
        have P15 := Lib.hid ((P14.out.dGave (x := (gn : Int)) HM.out).setb (i := 1) rfl (grown_set _ _ gn (Ms.stv none)) hl14)
        simp only [List.set_cons_succ, List.set_cons_zero] at P15
        rw [HM.out] at b0
        clear hl14 L14 E14 P14
        go_wp2_with fail
        go_meet
        case rel => exact ⟨some da, RR' (gn : Int), _, (gn : Int), _, FR, _, rfl, P15, Lib.hid fun h => absurd h (by decide), Lib.hid fun _ => LS15.out⟩
    · have h4 : (v == 4) = false := by simpa using hv4
      have hst : st' = none := by
        by_cases h5 : v = 5
        · exact (AF.out.2.2 h5).1
        · exact (AF.out.1 (by omega)).2.2.2.1
      subst hst
      have LS13 : Hid (v ≠ 5 → LS nn p' MM S' RR' ko' kd SK' RK lc kx) := Lib.hid fun h5 => by
        obtain ⟨rfl, rfl, rfl, -, a5⟩ := AF.out.1 (by omega)
        exact ⟨LL.out.dom, LL.out.same, a5, LL.out.kept, LL.out.krep, LL.out.len, LL.out.c9, LL.out.c15, LL.out.k0, LL.out.k1, LL.out.one⟩
      clear hv4
      go_wp2_with fail
      go_meet
      case rel => exact ⟨kd, RK, lc, kx, MM, FR, R10, rfl, P12, Lib.hid fun _ => ⟨rfl, rfl, rfl, rfl⟩, LS13⟩
  case rest =>
    obtain ⟨kd1, RK1, lc1, kx1, MM1, FR1, R16, rfl, P16, H5, H6⟩ := hcut
    clear P12
    go_upto_if 307 with fail
    go_cut [14] from 227 to 353 (fun s14 wx => ∃ (kd2 : Option Nat) (RK2 : List Pn) (lc2 : List Value) (kx2 : Int) (MM2 : Int → Option Nat) (FR2 : Int → Nat → Prop) (RR2 : Int → List Pn) (R2 : Nat → Nat → Prop), s14 = Ms.stv kd2 ∧ Hid (PM w wk cf p' p' FF' S' (16 * jx + 16) n' [] ko' SK' nK' MM2 FR2 RR2 kd2 RK2 [⟨gc, 23, cf.cl⟩, ⟨bm, 37, ml MM2 nn⟩, ⟨gl, 49, lc2⟩, ⟨gd, 51, [.int .i64 wh, .int .i64 y.op, .string y.key, .int .i64 y.t, .int .i64 y.v, .int .i64 y.e, .int .i64 y.u, .int .i64 y.s, .int .i64 g0, .int .i64 mk, .bool cl]⟩, ⟨gm, 45, Ms.cl msg⟩, ⟨gw, 47, [.int .i64 code, .slice Ar nr cr]⟩, ⟨g10, 49, dcl msg mv code (.slice Ar2 nr2 cr2) (.slice Ao2 no2 co2) st'⟩] R2 wx) ∧ Hid (LS nn p' MM2 S' RR2 ko' kd2 SK' RK2 lc2 kx2))
    case first =>
      by_cases hv5 : v = 5
      · subst hv5
        obtain ⟨rfl, rfl, rfl, rfl⟩ := H5.out rfl
        have BK := Lib.hid (pend_back PD.out (by decide))
        obtain ⟨a1, a2, a3, a4, a5⟩ := AF.out.2.2 rfl
        have G16 := Lib.hid (P16.out.box (i := 2) rfl)
        have q15 := G16.out.cell LL.out.c15
        have q9 := G16.out.cell LL.out.c9
        cases hko : ko with
        | none =>
          rw [hko] at q15
          have a2' : ko' = none := a2
          have a3' : p' = p := by rw [a3, if_pos hko]
          subst a2'
          subst a3'
          have hkd := LL.out.kept.1 hko
          have LS17 : Hid (LS nn p' MM1 S' RR' none none SK' RK1 zd 0) := Lib.hid ⟨LL.out.dom, LL.out.same, fun x hx => a4 x hx (.inl hko), Iff.rfl, fun q => absurd rfl q, rfl, rfl, rfl, by omega, by have := n16.out; omega, one_zd⟩
          have LN := Lib.hid LL.out.len
          clear a1 a2 a3 a4 a5 hko AF LL hkd
          go_upto_region 71 with (first
            | (refine wpList_plain rfl fun K' hK' => wp_build_zero rfl (hK' _ _ ?_))
            | (refine wpList_plain rfl fun K' hK' => wp_store_did (cs' := zd) _ _ rfl rfl rfl G16.out LN.out rfl one_zd (fun w17 z1 z2 => hK' _ _ ?_))
            | fail)
          have P17 := Lib.hid ((P16.out.setb (i := 2) rfl z2 z1).dForget)
          simp only [List.set_cons_succ, List.set_cons_zero] at P17
          clear z1 z2 q15 q9 G16 P16
          go_wp2_with fail
          go_meet
          case rel => exact ⟨none, RK1, zd, 0, MM1, FR1, RR', R16, rfl, P17, LS17⟩
        | some a =>
          rw [hko] at q15
          have a2' : ko' = none := a2
          have e0 : ko ≠ none := by rw [hko]; simp
          have a3' : p' = updOf p kx (some a) := by rw [a3, if_neg e0, hko]
          obtain ⟨b, hkd⟩ := Option.ne_none_iff_exists'.1 (show kd1 ≠ none from fun q => e0 (LL.out.kept.2 q))
          subst a2'
          subst a3'
          obtain ⟨kn, hkn⟩ : ∃ kn : Nat, kx = kn := ⟨kx.toNat, by have := LL.out.k0; omega⟩
          have hkl : kn < nn := by have := LL.out.k1; omega
          have i1 : (kn : Int) < (nn : Int) := by omega
          have i2 : (kn : Int) ≤ 16 := by have := n16.out; omega
          have i3 : (0 : Int) ≤ (kn : Int) := by omega
          have LS17 : Hid (LS nn (updOf p (kn : Int) (some a)) (updOf MM1 (kn : Int) (some b)) S' (fun x => if x = (kn : Int) then RK1 else RR' x) none none SK' RK1 zd 0) := Lib.hid ⟨fun x hx => by
            by_cases e : x = (kn : Int)
            · subst e; omega
            · rw [upd_ne e] at hx; exact LL.out.dom x hx, fun x => by
            by_cases e : x = (kn : Int)
            · subst e; rw [upd_same, upd_same]; simp
            · rw [upd_ne e, upd_ne e]; exact LL.out.same x, fun x hx => by
            by_cases e : x = (kn : Int)
            · subst e
              have h1 := a5 e0
              rw [hkn] at h1
              rw [h1]
              simpa using LL.out.krep e0
            · rw [upd_ne e] at hx
              simp only [e, if_false]
              exact a4 x hx (.inr (by rw [hkn]; exact e)), Iff.rfl, fun q => absurd rfl q, rfl, rfl, rfl, by omega, by have := n16.out; omega, one_zd⟩
          have LN := Lib.hid LL.out.len
          rw [hkn] at q9
          subst hkn
          have L16 := Lib.hid (P16.out.box (i := 1) rfl)
          have b0 := L16.out.cell (ml_at hkl)
          have bf := L16.out.open_ kn
          have hl17 := L16.out.put kn (Ms.stv (some b))
          rw [ml_set hkl] at hl17
          subst hkd
          obtain ⟨FR17, R17, h17⟩ := P16.out.dHad (x := (kn : Int))
          have P17 := Lib.hid (h17.setb (i := 1) rfl (grown_set _ _ kn (Ms.stv (some b))) hl17)
          simp only [List.set_cons_succ, List.set_cons_zero] at P17
          clear a1 a2 a3 a4 a5 hko AF LL h17 hl17
          have G17 := Lib.hid (P17.out.box (i := 2) rfl)
          go_upto_region 71 with (first
            | (refine wpList_plain rfl fun K' hK' => wp_build_zero rfl (hK' _ _ ?_))
            | (refine wpList_plain rfl fun K' hK' => wp_store_did (cs' := zd) _ _ rfl rfl rfl G17.out LN.out rfl one_zd (fun w19 z1 z2 => hK' _ _ ?_))
            | fail)
          have P19 := Lib.hid (P17.out.setb (i := 2) rfl z2 z1)
          simp only [List.set_cons_succ, List.set_cons_zero] at P19
          clear z1 z2 q15 q9 G16 G17 P16 P17 b0 bf L16
          go_wp2_with fail
          go_meet
          case rel => exact ⟨none, RK1, zd, 0, _, FR17, _, R17, rfl, P19, LS17⟩
      · have h5 : (v == 5) = false := by simpa using hv5
        have LS17 := Lib.hid (H6.out hv5)
        clear hv5
        go_wp2_with fail
        go_meet
        case rel => exact ⟨kd1, RK1, lc1, kx1, MM1, FR1, RR', R16, rfl, P16, LS17⟩
    case rest =>
      obtain ⟨kd2, RK2, lc2, kx2, MM2, FR2, RR2, R18, rfl, P18, LS18⟩ := hcut
      clear P16 H5 H6 LL AF
      go_wp2_with fail
      have HLN : Hid (∀ x, MM2 x ≠ none → (RR2 x).length ≤ 816) := Lib.hid fun x hx => by
        have hp : p' x ≠ none := fun q => hx ((LS18.out.same x).1 q)
        obtain ⟨a, ha⟩ := Option.ne_none_iff_exists'.1 hp
        have G := P18.out.pool.is x a ha
        have h1 := Rr.count (LS18.out.rep x hp) G (by omega)
        have h2 := G.few
        omega
      have HTT : Hid (∀ k, k ≤ nn → Sh.tot (fun x => (RR2 x).length) (kt MM2 k) ≤ 13056) := Lib.hid fun k hk => by
        have h1 := tot_le (n := fun x => (RR2 x).length) (N := 816) (kt MM2 k) fun x hx => HLN.out x (kt_mem.1 hx).2.2
        have h2 := kt_len (M := MM2) (k := k)
        have h3 := n16.out
        have h4 : (kt MM2 k).length * 816 ≤ 16 * 816 := Nat.mul_le_mul_right _ (by omega)
        omega
      go_loopw [30, 31, 32] (fun s30 s31 s32 wr => ∃ (k t : Nat) (A1 : Option Addr) (n1 c1 : Nat), k ≤ nn ∧ s32 = .int .i64 k ∧ s30 = .slice A1 n1 c1 ∧ s31 = .int .i64 t ∧ Hid (t = Sh.tot (fun x => (RR2 x).length) (kt MM2 k)) ∧ Hid (PM w wk cf p' p' FF' S' (16 * jx + 16) n' [] ko' SK' nK' MM2 FR2 RR2 kd2 RK2 [⟨gc, 23, cf.cl⟩, ⟨bm, 37, ml MM2 nn⟩, ⟨gl, 49, lc2⟩, ⟨gd, 51, [.int .i64 wh, .int .i64 y.op, .string y.key, .int .i64 y.t, .int .i64 y.v, .int .i64 y.e, .int .i64 y.u, .int .i64 y.s, .int .i64 g0, .int .i64 mk, .bool cl]⟩, ⟨gm, 45, Ms.cl msg⟩, ⟨gw, 47, [.int .i64 code, .slice Ar nr cr]⟩, ⟨g10, 49, dcl msg mv code (.slice Ar2 nr2 cr2) (.slice Ao2 no2 co2) st'⟩] R18 wr) ∧ Hid (Sl.Own Ik.k w.heap.size wr (.slice A1 n1 c1) (kt MM2 k)) ∧ Hid (∀ a, (Value.slice A1 n1 c1).ownBlock = some a → ∀ i, ¬ R18 i a)) (fun _ _ s32 _ => nn - (intOf s32).toNat)
      case atStart => exact ⟨0, 0, none, 0, 0, Nat.zero_le _, rfl, rfl, rfl, Lib.hid rfl, P18, Lib.hid (Sl.Own.nil _ _ _), Lib.hid fun a h => (by cases h)⟩
      case round =>
        obtain ⟨k, t, A1, n1, c1, hk, rfl, rfl, rfl, HT, P, OW, NB⟩ := hrel
        have X9 := Lib.hid (P.out.box (i := 0) rfl)
        have x6 := X9.out.cell (i := 6) rfl
        rw [NN.out] at x6
        have nn16 : nn ≤ 16 := n16.out.2.1
        by_cases hlt : k < nn
        · have i1 : (k : Int) < (nn : Int) := by omega
          have i2 : (0 : Int) ≤ (k : Int) := by omega
          have i3 : (k : Int) ≤ 16 := by omega
          have L9 := Lib.hid (P.out.box (i := 1) rfl)
          have g9 := L9.out.cell (ml_at hlt)
          cases hmk : MM2 (k : Int) with
          | none =>
            rw [hmk] at g9
            have HT2 : Hid (t = Sh.tot (fun x => (RR2 x).length) (kt MM2 (k + 1))) := Lib.hid (by rw [kt_no hmk]; exact HT.out)
            have OW2 : Hid (Sl.Own Ik.k w.heap.size wr (.slice A1 n1 c1) (kt MM2 (k + 1))) := Lib.hid (by rw [kt_no hmk]; exact OW.out)
            clear hmk
            go_wp2_with fail
            exact ⟨⟨k + 1, t, A1, n1, c1, by omega, by go_num, rfl, rfl, HT2, P, OW2, NB⟩, by first | (simp [intOf]; done) | (simp [intOf]; omega)⟩
          | some da =>
            rw [hmk] at g9
            have HMK := Lib.hid hmk
            clear hmk
            go_upto_region 78 with fail
            clear g9 x6 X9 L9
            have k1 := below1 wr (Obj.cells #[.int .i64 k] 3)
            have L1 : Hid (Lies (wr.alloc (Obj.cells #[.int .i64 k] 3)) wr.heap.size 3 [.int .i64 (k : Int)]) := Lib.hid (Lies.new _ _ _)
            have P1 := Lib.hid (P.out.next k1)
            have OW1 := Lib.hid (OW.out.next k1)
            have I1 : Hid (Sl.Is Ik.k (wr.alloc (Obj.cells #[.int .i64 k] 3)) (.slice (some ⟨wr.heap.size, 0, none⟩) 1 1) [(k : Int)] wr.heap.size) := Lib.hid (Sl.Is.one Ik.ok (x := (k : Int)) L1.out)
            have HL1 : Hid ((kt MM2 k).length + [(k : Int)].length ≤ 1048576) := Lib.hid (by have := kt_len (M := MM2) (k := k); simp; omega)
            have SB : Hid (w.heap.size ≤ (wr.alloc (Obj.cells #[.int .i64 k] 3)).heap.size) := Lib.hid P1.out.fam.below.size
            clear k1 L1
            go_upto_region 79 with (first
              | (at_builtin; refine wpList_plain rfl fun K' hK' => Sl.wp_append Ik.ok (.tmp 329) (.tmp 331) rfl (base := w.heap.size) (l := kt MM2 k) (l2 := [(k : Int)]) (b2 := wr.heap.size) OW1.out I1.out HL1.out SB.out (fun u w2 z1 z2 z3 => hK' _ _ ?_))
              | fail)
            obtain ⟨bu, -, iu⟩ := z1.is
            obtain ⟨Au, cu, rfl⟩ := iu.len
            obtain ⟨mu, hmu⟩ : ∃ mu, mu = (kt MM2 k ++ [(k : Int)]).length := ⟨_, rfl⟩
            rw [← hmu] at z1 z3 ⊢
            have P2 := Lib.hid (P1.out.aside z2 fun c hc => ⟨(OW1.out.lt c hc).1, NB.out c hc⟩)
            have NB2 : Hid (∀ c, (Value.slice Au mu cu).ownBlock = some c → ∀ i, ¬ R18 i c) := Lib.hid fun c hc => by
              rcases z3 with e | e
              · exact NB.out c (e.symm.trans hc)
              · intro i q
                have h1 := P1.out.fam.in_ i c q
                have h2 := Option.some.inj (e.symm.trans hc)
                omega
            have OW2 : Hid (Sl.Own Ik.k w.heap.size w2 (.slice Au mu cu) (kt MM2 (k + 1))) := Lib.hid (by rw [kt_yes HMK.out]; exact z1)
            clear z1 z2 z3 hmu OW1 I1 HL1 SB P1 iu
            have L2 := Lib.hid (P2.out.box (i := 1) rfl)
            have g9 : w2.cell? ⟨bm, k, none⟩ = some (.pointer (some ⟨da, 0, none⟩)) := by
              have := L2.out.cell (ml_at hlt)
              rw [HMK.out] at this
              exact this
            obtain ⟨lv, lb, rg, -, -⟩ := P2.out.docs.is (k : Int) da HMK.out
            obtain ⟨Al, cl2, hlv⟩ := rg.list.len
            have c8 := rg.lies.cell (i := 8) rfl
            rw [hlv] at c8
            have hr : (RR2 (k : Int)).length ≤ 816 := HLN.out _ (by rw [HMK.out]; simp)
            have ht : t ≤ 13056 := by rw [HT.out]; exact HTT.out k hk
            have HT2 : Hid (t + (RR2 (k : Int)).length = Sh.tot (fun x => (RR2 x).length) (kt MM2 (k + 1))) := Lib.hid (by rw [kt_yes HMK.out, Sh.tot_snoc, HT.out])
            obtain ⟨ll, hll⟩ : ∃ ll, ll = (RR2 (k : Int)).length := ⟨_, rfl⟩
            rw [← hll] at c8 hr HT2
            clear hll rg hlv
            have j1 : (0 : Int) ≤ (t : Int) := by omega
            have j2 : (0 : Int) ≤ (ll : Int) := by omega
            have j3 : (t : Int) + (ll : Int) ≤ 1048576 := by omega
            go_wp2_with fail
            exact ⟨⟨k + 1, t + ll, Au, mu, cu, by omega, by go_num, rfl, by first | go_num | (simp; done), HT2, P2, OW2, NB2⟩, by first | (simp [intOf]; done) | (simp [intOf]; omega)⟩
        · obtain rfl : nn = k := by omega
          have i1 : ¬ ((nn : Int) < (nn : Int)) := by omega
          have KM := Lib.hid (kt_same LS18.out.same (n := nn))
          go_wp2_with fail
          refine (Sh.groups_ok wr (Lib.hid P.out.work)).mono ?_
          rintro r w2 ⟨gv, ks, rfl, hks, og, k2⟩
          dsimp only
          obtain rfl := keys_kt hks LS18.out.dom LS18.out.same
          have P2 := Lib.hid (P.out.next k2)
          have OW2 := Lib.hid (OW.out.next k2)
          have OG := Lib.hid og
          have HKS := Lib.hid hks
          obtain ⟨bo, -, io⟩ := OW2.out.is
          obtain ⟨bg, -, ig⟩ := OG.out.is
          have IO := Lib.hid (Ints.of io)
          have IG := Lib.hid (Ints.of ig)
          clear k2 og hks io ig P OW x6 X9
          go_wp2_with fail
          refine (ints_ok _ _ _ w2 IG IO (by have := kt_len (M := MM2) (k := nn); omega)).mono ?_
          rintro r w3 ⟨rfl, k3⟩
          dsimp only
          have P3 := Lib.hid (P2.out.next k3)
          clear k3 P2 OW2 OG IO IG
          go_wp2_with fail
          refine (Sh.len_ok w3 (Lib.hid P3.out.work) (Lib.hid P3.out.pool) (by omega)).mono ?_
          rintro r w4 ⟨⟨t2, rfl, ht2⟩, k4⟩
          dsimp only
          have P4 := Lib.hid (P3.out.next k4)
          have ht3 : t2 = t := by
            rw [ht2 _ HKS.out, HT.out]
            unfold Sh.tot
            congr 1
            refine List.map_congr_left fun x hx => ?_
            have hp := (HKS.out.mem x).1 hx
            obtain ⟨a, ha⟩ := Option.ne_none_iff_exists'.1 hp
            exact Rr.count (LS18.out.rep x hp) (P4.out.pool.is x a ha) (by omega)
          subst ht3
          clear ht2 k4 P3 HT
          obtain ⟨R5, h5⟩ := P4.out.drop 3 (by simp)
          have P5 := Lib.hid h5
          simp only [List.take_succ_cons, List.take_zero] at P5
          clear h5 P4
          go_wp2_with fail
          exact ⟨p', FF', S', n', ko', SK', nK', MM2, FR2, RR2, kd2, RK2, lc2, kx2, R5, rfl, P5, LS18⟩
end Sp
end Go.Proofs.YtmklkiklegkioaaGreat
