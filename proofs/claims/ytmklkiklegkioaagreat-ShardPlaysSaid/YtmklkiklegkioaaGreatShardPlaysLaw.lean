/-
  ShardPlays: the round of its deeds: the document's answer to a message; the worker's; both are the same.
  ShardPlays: what any messages come to that a worker of any groups takes: each that it did, its groups, how many panes there are.
  ShardPlays: what any messages come to that a worker of any groups takes: each that it did, its groups, how many panes there are: for every config, every list of groups, every list of deeds.
-/
import Derived.Test.YtmklkiklegkioaaGreatSpArms
import Derived.Test.YtmklkiklegkioaaGreatSpRest
import Derived.Deep.RegionHeld3
import Derived.Deep.CutBlock
import Derived.Deep.DeepCutAuto
import Derived.Test.YtmklkiklegkioaaGreatLaid
namespace Go.Proofs.YtmklkiklegkioaaGreat
open Go.ChangeShapes Go.WideShapes Go.ChangeAt Go.RowKit
set_option maxRecDepth 100000
set_option linter.unusedVariables false
namespace Sp
open Small Foot Pane Grp Ca Md Sh Rg Rm
set_option maxHeartbeats 16000000 in
theorem round {w wr : World} {A : Option Addr} {m cp nn gc bm gl wk jx nK : Nat} {f : Nat → Deed} {cf : C8} {p MM : Int → Option Nat} {FF FR : Int → Nat → Prop} {S : Int → Lists} {n : Int → Nat} {ko kd : Option Nat} {SK : Lists} {RR : Int → List Pn} {RK : List Pn} {lc : List Value} {kx : Int} {R : Nat → Nat → Prop} {u0 u1 u4 u5 u6 u9 u10 u12 u16 u17 u18 u19 u20 u21 u22 u23 u24 u25 u26 u27 u28 u29 u30 u31 u32 u33 u34 u35 u36 u37 u38 u39 u40 u41 u42 u43 u44 u45 u46 u47 u48 u49 u50 u51 u52 u53 u54 u55 u56 u57 u58 u59 u60 u61 u62 u63 u64 u65 u66 u67 u68 u69 u70 u71 u72 u73 u74 u75 u76 u77 u78 u79 u80 u81 u82 u83 u84 u85 u86 u87 u88 u89 u90 u91 u92 u93 u94 u95 u96 u97 u98 u99 u100 u101 u102 u103 u104 u105 u106 u107 u108 u109 u110 u111 u112 u113 u114 u115 u116 u117 u118 u119 u120 u121 u122 u123 u124 u125 u126 u127 u128 u129 u130 u131 u132 u133 u134 u135 u136 u137 u138 u139 u140 u141 u142 u143 u144 u145 u146 u147 u148 u149 u150 u151 u152 u153 u154 u155 u156 u157 u158 u159 u160 u161 u162 u163 u164 u165 u166 u167 u168 u169 u170 u171 u172 u173 u174 u175 u176 u177 u178 u179 u180 u181 u182 u183 u184 u185 u186 u187 u188 u189 u190 u191 u192 u193 u194 u195 u196 u197 u198 u199 u200 u201 u202 u203 u204 u205 u206 u207 u208 u209 u210 u211 u212 u213 u214 u215 u216 u217 u218 u219 u220 u221 u222 u223 u224 u225 u226 u227 u228 u229 u230 u231 u232 u233 u234 u235 u236 u237 u238 u239 u240 u241 u242 u243 u244 u245 u246 u247 u248 u249 u250 u251 u252 u253 u254 u255 u256 u257 u258 u259 u260 u261 u262 u263 u264 u265 u266 u267 u268 u269 u270 u271 u272 u273 u274 u275 u276 u277 u278 u279 u280 u281 u282 u283 u284 u285 u286 u287 u288 u289 u290 u291 u292 u293 u294 u295 u296 u297 u298 u299 u300 u301 u302 u303 u304 u305 u306 u307 u308 u309 u310 u311 u312 u313 u314 u315 u316 u317 u318 u319 u320 u321 u322 u323 u324 u325 u326 u327 u328 u329 u330 u331 u332 u333 u334 u335 u336 u337 u338 u339 u340 u341 u342 u343 u344 u345 u346 u347 u348 u349 u350 u351 u352 u353 u354 : Value} {K : Act → World → Prop} {Q : Exit → Act → World → Prop}
    (hlt : jx < m) (hm50 : m ≤ 50) (hf : Hid (∀ i, i < m → DFits (f i))) (hc : Hid (Row A m f w)) (M : Hid (Asg.may cf.k cf.s cf.l cf.g cf.z cf.h cf.r cf.c)) (CF : Hid (cfOf cf).Fit) (NN : Hid (cf.r = nn))
    (P : Hid (PM w wk cf p p FF S (16 * jx) n [] ko SK nK MM FR RR kd RK [⟨gc, 23, cf.cl⟩, ⟨bm, 37, ml MM nn⟩, ⟨gl, 49, lc⟩] R wr)) (LL : Hid (LS nn p MM S RR ko kd SK RK lc kx))
    (hE : ∀ (t16 t17 t18 t19 t20 t21 t22 t23 t24 t25 t26 t27 t28 t29 t30 t31 t32 t122 t123 t124 t125 t126 t127 t128 t129 t130 t131 t132 t133 t134 t135 t136 t137 t138 t139 t140 t141 t142 t143 t144 t145 t146 t147 t148 t149 t150 t151 t152 t153 t154 t155 t156 t157 t158 t159 t160 t161 t162 t163 t164 t165 t166 t167 t168 t169 t170 t171 t172 t173 t174 t175 t176 t177 t178 t179 t180 t181 t182 t183 t184 t185 t186 t187 t188 t189 t190 t191 t192 t193 t194 t195 t196 t197 t198 t199 t200 t201 t202 t203 t204 t205 t206 t207 t208 t209 t210 t211 t212 t213 t214 t215 t216 t217 t218 t219 t220 t221 t222 t223 t224 t225 t226 t227 t228 t229 t230 t231 t232 t233 t234 t235 t236 t237 t238 t239 t240 t241 t242 t243 t244 t245 t246 t247 t248 t249 t250 t251 t252 t253 t254 t255 t256 t257 t258 t259 t260 t261 t262 t263 t264 t265 t266 t267 t268 t269 t270 t271 t272 t273 t274 t275 t276 t277 t278 t279 t280 t281 t282 t283 t284 t285 t286 t287 t288 t289 t290 t291 t292 t293 t294 t295 t296 t297 t298 t299 t300 t301 t302 t303 t304 t305 t306 t307 t308 t309 t310 t311 t312 t313 t314 t315 t316 t317 t318 t319 t320 t321 t322 t323 t324 t325 t326 t327 t328 t329 t330 t331 t332 t333 t334 t335 t336 t337 t338 t339 t340 t341 t342 t343 t344 t345 t346 t347 t348 t349 t350 t351 t352 t353 : Value) (wx : World), Below w.heap.size w wx → Q Exit.ret ⟨#[u0, u1, .slice A m cp, .pointer (some ⟨gc, 0, none⟩), u4, u5, .bool true, .bool true, Sh.gp wk, u9, u10, .slice (some ⟨bm, 0, none⟩) nn nn, u12, .pointer (some ⟨gl, 0, none⟩), Ms.stv kd, .int .i64 jx, t16, t17, t18, t19, t20, t21, t22, t23, t24, t25, t26, t27, t28, t29, t30, t31, t32, u33, u34, u35, u36, u37, u38, u39, u40, u41, u42, u43, u44, u45, u46, u47, u48, u49, u50, u51, u52, u53, u54, u55, u56, u57, u58, u59, u60, u61, u62, u63, u64, u65, u66, u67, u68, u69, u70, u71, u72, u73, u74, u75, u76, u77, u78, u79, u80, u81, u82, u83, u84, u85, u86, u87, u88, u89, u90, u91, u92, u93, u94, u95, u96, u97, u98, u99, u100, u101, u102, u103, u104, u105, u106, u107, u108, u109, u110, u111, u112, u113, u114, u115, u116, u117, u118, u119, u120, u121, t122, t123, t124, t125, t126, t127, t128, t129, t130, t131, t132, t133, t134, t135, t136, t137, t138, t139, t140, t141, t142, t143, t144, t145, t146, t147, t148, t149, t150, t151, t152, t153, t154, t155, t156, t157, t158, t159, t160, t161, t162, t163, t164, t165, t166, t167, t168, t169, t170, t171, t172, t173, t174, t175, t176, t177, t178, t179, t180, t181, t182, t183, t184, t185, t186, t187, t188, t189, t190, t191, t192, t193, t194, t195, t196, t197, t198, t199, t200, t201, t202, t203, t204, t205, t206, t207, t208, t209, t210, t211, t212, t213, t214, t215, t216, t217, t218, t219, t220, t221, t222, t223, t224, t225, t226, t227, t228, t229, t230, t231, t232, t233, t234, t235, t236, t237, t238, t239, t240, t241, t242, t243, t244, t245, t246, t247, t248, t249, t250, t251, t252, t253, t254, t255, t256, t257, t258, t259, t260, t261, t262, t263, t264, t265, t266, t267, t268, t269, t270, t271, t272, t273, t274, t275, t276, t277, t278, t279, t280, t281, t282, t283, t284, t285, t286, t287, t288, t289, t290, t291, t292, t293, t294, t295, t296, t297, t298, t299, t300, t301, t302, t303, t304, t305, t306, t307, t308, t309, t310, t311, t312, t313, t314, t315, t316, t317, t318, t319, t320, t321, t322, t323, t324, t325, t326, t327, t328, t329, t330, t331, t332, t333, t334, t335, t336, t337, t338, t339, t340, t341, t342, t343, t344, t345, t346, t347, t348, t349, t350, t351, t352, t353, u354], []⟩ wx)
    (hK : ∀ (t6 t14 t16 t17 t18 t19 t20 t21 t22 t23 t24 t25 t26 t27 t28 t29 t30 t31 t32 t122 t123 t124 t125 t126 t127 t128 t129 t130 t131 t132 t133 t134 t135 t136 t137 t138 t139 t140 t141 t142 t143 t144 t145 t146 t147 t148 t149 t150 t151 t152 t153 t154 t155 t156 t157 t158 t159 t160 t161 t162 t163 t164 t165 t166 t167 t168 t169 t170 t171 t172 t173 t174 t175 t176 t177 t178 t179 t180 t181 t182 t183 t184 t185 t186 t187 t188 t189 t190 t191 t192 t193 t194 t195 t196 t197 t198 t199 t200 t201 t202 t203 t204 t205 t206 t207 t208 t209 t210 t211 t212 t213 t214 t215 t216 t217 t218 t219 t220 t221 t222 t223 t224 t225 t226 t227 t228 t229 t230 t231 t232 t233 t234 t235 t236 t237 t238 t239 t240 t241 t242 t243 t244 t245 t246 t247 t248 t249 t250 t251 t252 t253 t254 t255 t256 t257 t258 t259 t260 t261 t262 t263 t264 t265 t266 t267 t268 t269 t270 t271 t272 t273 t274 t275 t276 t277 t278 t279 t280 t281 t282 t283 t284 t285 t286 t287 t288 t289 t290 t291 t292 t293 t294 t295 t296 t297 t298 t299 t300 t301 t302 t303 t304 t305 t306 t307 t308 t309 t310 t311 t312 t313 t314 t315 t316 t317 t318 t319 t320 t321 t322 t323 t324 t325 t326 t327 t328 t329 t330 t331 t332 t333 t334 t335 t336 t337 t338 t339 t340 t341 t342 t343 t344 t345 t346 t347 t348 t349 t350 t351 t352 t353 : Value) (wx : World), Rnd w wk cf nn gc bm gl (jx + 1) t14 wx → K ⟨#[u0, u1, .slice A m cp, .pointer (some ⟨gc, 0, none⟩), u4, u5, t6, .bool true, Sh.gp wk, u9, u10, .slice (some ⟨bm, 0, none⟩) nn nn, u12, .pointer (some ⟨gl, 0, none⟩), t14, .int .i64 jx, t16, t17, t18, t19, t20, t21, t22, t23, t24, t25, t26, t27, t28, t29, t30, t31, t32, u33, u34, u35, u36, u37, u38, u39, u40, u41, u42, u43, u44, u45, u46, u47, u48, u49, u50, u51, u52, u53, u54, u55, u56, u57, u58, u59, u60, u61, u62, u63, u64, u65, u66, u67, u68, u69, u70, u71, u72, u73, u74, u75, u76, u77, u78, u79, u80, u81, u82, u83, u84, u85, u86, u87, u88, u89, u90, u91, u92, u93, u94, u95, u96, u97, u98, u99, u100, u101, u102, u103, u104, u105, u106, u107, u108, u109, u110, u111, u112, u113, u114, u115, u116, u117, u118, u119, u120, u121, t122, t123, t124, t125, t126, t127, t128, t129, t130, t131, t132, t133, t134, t135, t136, t137, t138, t139, t140, t141, t142, t143, t144, t145, t146, t147, t148, t149, t150, t151, t152, t153, t154, t155, t156, t157, t158, t159, t160, t161, t162, t163, t164, t165, t166, t167, t168, t169, t170, t171, t172, t173, t174, t175, t176, t177, t178, t179, t180, t181, t182, t183, t184, t185, t186, t187, t188, t189, t190, t191, t192, t193, t194, t195, t196, t197, t198, t199, t200, t201, t202, t203, t204, t205, t206, t207, t208, t209, t210, t211, t212, t213, t214, t215, t216, t217, t218, t219, t220, t221, t222, t223, t224, t225, t226, t227, t228, t229, t230, t231, t232, t233, t234, t235, t236, t237, t238, t239, t240, t241, t242, t243, t244, t245, t246, t247, t248, t249, t250, t251, t252, t253, t254, t255, t256, t257, t258, t259, t260, t261, t262, t263, t264, t265, t266, t267, t268, t269, t270, t271, t272, t273, t274, t275, t276, t277, t278, t279, t280, t281, t282, t283, t284, t285, t286, t287, t288, t289, t290, t291, t292, t293, t294, t295, t296, t297, t298, t299, t300, t301, t302, t303, t304, t305, t306, t307, t308, t309, t310, t311, t312, t313, t314, t315, t316, t317, t318, t319, t320, t321, t322, t323, t324, t325, t326, t327, t328, t329, t330, t331, t332, t333, t334, t335, t336, t337, t338, t339, t340, t341, t342, t343, t344, t345, t346, t347, t348, t349, t350, t351, t352, t353, u354], []⟩ wx) :
    Code.wp Tryz.prog b3 (Exit.then K Q) ⟨#[u0, u1, .slice A m cp, .pointer (some ⟨gc, 0, none⟩), u4, u5, u6, .bool true, Sh.gp wk, u9, u10, .slice (some ⟨bm, 0, none⟩) nn nn, u12, .pointer (some ⟨gl, 0, none⟩), Ms.stv kd, .int .i64 jx, u16, u17, u18, u19, u20, u21, u22, u23, u24, u25, u26, u27, u28, u29, u30, u31, u32, u33, u34, u35, u36, u37, u38, u39, u40, u41, u42, u43, u44, u45, u46, u47, u48, u49, u50, u51, u52, u53, u54, u55, u56, u57, u58, u59, u60, u61, u62, u63, u64, u65, u66, u67, u68, u69, u70, u71, u72, u73, u74, u75, u76, u77, u78, u79, u80, u81, u82, u83, u84, u85, u86, u87, u88, u89, u90, u91, u92, u93, u94, u95, u96, u97, u98, u99, u100, u101, u102, u103, u104, u105, u106, u107, u108, u109, u110, u111, u112, u113, u114, u115, u116, u117, u118, u119, u120, u121, u122, u123, u124, u125, u126, u127, u128, u129, u130, u131, u132, u133, u134, u135, u136, u137, u138, u139, u140, u141, u142, u143, u144, u145, u146, u147, u148, u149, u150, u151, u152, u153, u154, u155, u156, u157, u158, u159, u160, u161, u162, u163, u164, u165, u166, u167, u168, u169, u170, u171, u172, u173, u174, u175, u176, u177, u178, u179, u180, u181, u182, u183, u184, u185, u186, u187, u188, u189, u190, u191, u192, u193, u194, u195, u196, u197, u198, u199, u200, u201, u202, u203, u204, u205, u206, u207, u208, u209, u210, u211, u212, u213, u214, u215, u216, u217, u218, u219, u220, u221, u222, u223, u224, u225, u226, u227, u228, u229, u230, u231, u232, u233, u234, u235, u236, u237, u238, u239, u240, u241, u242, u243, u244, u245, u246, u247, u248, u249, u250, u251, u252, u253, u254, u255, u256, u257, u258, u259, u260, u261, u262, u263, u264, u265, u266, u267, u268, u269, u270, u271, u272, u273, u274, u275, u276, u277, u278, u279, u280, u281, u282, u283, u284, u285, u286, u287, u288, u289, u290, u291, u292, u293, u294, u295, u296, u297, u298, u299, u300, u301, u302, u303, u304, u305, u306, u307, u308, u309, u310, u311, u312, u313, u314, u315, u316, u317, u318, u319, u320, u321, u322, u323, u324, u325, u326, u327, u328, u329, u330, u331, u332, u333, u334, u335, u336, u337, u338, u339, u340, u341, u342, u343, u344, u345, u346, u347, u348, u349, u350, u351, u352, u353, u354], []⟩ wr := by
  obtain ⟨ab, ao, rfl, hcell⟩ := (hc.out.next P.out.fam.below) (by omega)
  have fx := Lib.hid (hf.out jx hlt)
  obtain ⟨xd, hxd⟩ : ∃ xd, xd = f jx := ⟨_, rfl⟩
  have c0 := hcell jx hlt 0 _ rfl
  have c1 := hcell jx hlt 1 _ rfl
  have c2 := hcell jx hlt 2 _ rfl
  have c3 := hcell jx hlt 3 _ rfl
  have c4 := hcell jx hlt 4 _ rfl
  have c5 := hcell jx hlt 5 _ rfl
  have c6 := hcell jx hlt 6 _ rfl
  have c7 := hcell jx hlt 7 _ rfl
  have c8 := hcell jx hlt 8 _ rfl
  have c9 := hcell jx hlt 9 _ rfl
  have c10 := hcell jx hlt 10 _ rfl
  rw [Nat.add_zero] at c0
  rw [← Nat.add_assoc] at c1 c2 c3 c4 c5 c6 c7 c8 c9 c10
  rw [← hxd] at fx c0 c1 c2 c3 c4 c5 c6 c7 c8 c9 c10
  clear hcell hxd
  obtain ⟨wh, y, g0, mk, cl⟩ := xd
  simp only at c0 c1 c2 c3 c4 c5 c6 c7 c8 c9 c10
  have j0 : (jx : Int) < (m : Int) := by omega
  have j1 : (jx : Int) ≤ 50 := by omega
  have n16 : 1 ≤ nn ∧ nn ≤ 16 := by have h1 := M.out; have h2 := NN.out; unfold Asg.may at h1; omega
  have k3 := below1 wr (Obj.cells #[.int .i64 wh, .int .i64 y.op, .string y.key, .int .i64 y.t, .int .i64 y.v, .int .i64 y.e, .int .i64 y.u, .int .i64 y.s, .int .i64 g0, .int .i64 mk, .bool cl] 51)
  have l3 := Lies.new wr 51 [.int .i64 wh, .int .i64 y.op, .string y.key, .int .i64 y.t, .int .i64 y.v, .int .i64 y.e, .int .i64 y.u, .int .i64 y.s, .int .i64 g0, .int .i64 mk, .bool cl]
  have P3 := Lib.hid (P.out.push k3 l3 (Nat.le_refl _))
  clear k3 l3
  simp only [List.cons_append, List.nil_append] at P3
  conv => arg 2; whnf
  go_upto_region 20 with fail
  clear c0 c1 c2 c3 c4 c5 c6 c7 c8 c9 c10 P
  generalize wr.alloc (Obj.cells #[.int .i64 wh, .int .i64 y.op, .string y.key, .int .i64 y.t, .int .i64 y.v, .int .i64 y.e, .int .i64 y.u, .int .i64 y.s, .int .i64 g0, .int .i64 mk, .bool cl] 51) = w3 at P3 ⊢
  generalize rset R _ _ = R3 at P3
  generalize wr.heap.size = gd at P3 ⊢
  have D3 := Lib.hid (P3.out.box (i := 3) rfl)
  have d0 := D3.out.cell (i := 0) rfl
  have d1 := D3.out.cell (i := 1) rfl
  have d2 := D3.out.cell (i := 2) rfl
  have d3 := D3.out.cell (i := 3) rfl
  have d4 := D3.out.cell (i := 4) rfl
  have d5 := D3.out.cell (i := 5) rfl
  have d6 := D3.out.cell (i := 6) rfl
  have d7 := D3.out.cell (i := 7) rfl
  have d8 := D3.out.cell (i := 8) rfl
  have d9 := D3.out.cell (i := 9) rfl
  have d10 := D3.out.cell (i := 10) rfl
  by_cases hk : 100 < y.key.size
  · have q1 : (100 : Int) < (y.key.size : Int) := by omega
    go_wp2_with fail
    exact P3.out.fam.below
  have q1 : ¬ (100 : Int) < (y.key.size : Int) := by omega
  have hkm : Hid (y.key.size ≤ maxLen) := Lib.hid (by unfold maxLen; omega)
  clear hk
  go_wp2_with fail
  refine (pick_any wh 6 w3 fx.out.1 (by decide) (by decide)).mono ?_
  rintro r w4 ⟨v, rfl, hv6, k4⟩
  dsimp only
  have P4 := Lib.hid (P3.out.next k4)
  have D4 := Lib.hid (D3.out.next k4)
  clear k4 P3 D3 d0 d1 d2 d3 d4 d5 d6 d7 d8 d9 d10
  have d0 := D4.out.cell (i := 0) rfl
  have d1 := D4.out.cell (i := 1) rfl
  have d2 := D4.out.cell (i := 2) rfl
  have d3 := D4.out.cell (i := 3) rfl
  have d4 := D4.out.cell (i := 4) rfl
  have d5 := D4.out.cell (i := 5) rfl
  have d6 := D4.out.cell (i := 6) rfl
  have d7 := D4.out.cell (i := 7) rfl
  have d8 := D4.out.cell (i := 8) rfl
  have d9 := D4.out.cell (i := 9) rfl
  have d10 := D4.out.cell (i := 10) rfl
  have X4 := Lib.hid (P4.out.box (i := 0) rfl)
  have x0 := X4.out.cell (i := 0) rfl
  have x1 := X4.out.cell (i := 1) rfl
  have x2 := X4.out.cell (i := 2) rfl
  have x3 := X4.out.cell (i := 3) rfl
  have x4 := X4.out.cell (i := 4) rfl
  have x5 := X4.out.cell (i := 5) rfl
  have x6 := X4.out.cell (i := 6) rfl
  have x7 := X4.out.cell (i := 7) rfl
  go_wp2_with fail
  refine (pick_any g0 cf.r w4 fx.out.2.2.1 (by have := NN.out; omega) (by have := NN.out; omega)).mono ?_
  rintro r w5 ⟨g, rfl, hg6, k5⟩
  dsimp only
  have P5 := Lib.hid (P4.out.next k5)
  have D5 := Lib.hid (D4.out.next k5)
  clear k5 P4 D4 X4 d0 d1 d2 d3 d4 d5 d6 d7 d8 d9 d10 x0 x1 x2 x3 x4 x5 x6 x7
  have d0 := D5.out.cell (i := 0) rfl
  have d1 := D5.out.cell (i := 1) rfl
  have d2 := D5.out.cell (i := 2) rfl
  have d3 := D5.out.cell (i := 3) rfl
  have d4 := D5.out.cell (i := 4) rfl
  have d5 := D5.out.cell (i := 5) rfl
  have d6 := D5.out.cell (i := 6) rfl
  have d7 := D5.out.cell (i := 7) rfl
  have d8 := D5.out.cell (i := 8) rfl
  have d9 := D5.out.cell (i := 9) rfl
  have d10 := D5.out.cell (i := 10) rfl
  go_upto_region 25 with (first
    | (refine wpList_plain rfl fun K' hK' => wp_bm5 _ _ _ y rfl rfl rfl rfl (hK' _ _ ?_))
    | fail)
  have k6 := below1 w5 (Obj.cells #[.int .i64 0, .int .i64 jx, .int .i64 y.op, .string y.key, .int .i64 y.t, .int .i64 y.v, .int .i64 y.e, .int .i64 y.u, .int .i64 y.s, .int .i64 g, .pointer none] 45)
  have l6 := Lies.new w5 45 (Ms.cl ⟨0, jx, y, g, none⟩)
  have P6 := Lib.hid (P5.out.push k6 l6 (Nat.le_refl _))
  clear k6 l6 P5 D5 d0 d1 d2 d3 d4 d5 d6 d7 d8 d9 d10
  simp only [List.cons_append, List.nil_append] at P6
  generalize w5.alloc (Obj.cells #[.int .i64 0, .int .i64 jx, .int .i64 y.op, .string y.key, .int .i64 y.t, .int .i64 y.v, .int .i64 y.e, .int .i64 y.u, .int .i64 y.s, .int .i64 g, .pointer none] 45) = w6 at P6 ⊢
  generalize rset R3 _ _ = R6 at P6
  generalize w5.heap.size = gm at P6 ⊢
  go_upto_block 4 with fail
  rename_i Kr hr
  have k7 := below1 w6 (Obj.cells #[.int .i64 0, .slice none 0 0] 47)
  have l7 := Lies.new w6 47 [.int .i64 0, .slice none 0 0]
  have P7 := Lib.hid (P6.out.push k7 l7 (Nat.le_refl _))
  clear k7 l7 P6
  simp only [List.cons_append, List.nil_append] at P7
  generalize w6.alloc (Obj.cells #[.int .i64 0, .slice none 0 0] 47) = w7 at P7 ⊢
  generalize rset R6 _ _ = R7 at P7
  generalize w6.heap.size = gw at P7 ⊢
  go_cut [21, 22, 23, 24, 25, 26] from 122 to 353 (fun s21 s22 _ _ _ _ wx => Sent w wk cf nn gc bm gl gd gm gw p FF S (16 * jx) n ko SK nK MM kd RK lc ⟨wh, y, g0, mk, cl⟩ jx g kx RR v s21 s22 wx)
  case first =>
    refine arms P7 LL NN M CF (Lib.hid fx.out.2.1) (Lib.hid fx.out.2.2.2) hkm (by omega) hv6 ?_
    intros
    go_wp2_with fail
    go_meet
    case rel => assumption
  case rest =>
    obtain ⟨FR9, RR9, R9, msg, mv, code, PP, OO, Ar, Ao, nr, cr, no, co, rfl, rfl, P9, PD, VR, VO⟩ := hcut
    refine hr _ _ ?_
    refine rest P9 LL NN PD VR VO M CF (Lib.hid fx.out.2.1) (Lib.hid fx.out.2.2.2) hkm (by omega) (by have := NN.out; omega) hv6 ?_
    intros
    apply hK
    assumption
end Sp
end Go.Proofs.YtmklkiklegkioaaGreat

namespace Go.Proofs.YtmklkiklegkioaaGreat
open Go.ChangeShapes Go.WideShapes Go.ChangeAt Go.RowKit
set_option maxRecDepth 100000
set_option linter.unusedVariables false
namespace shardPlays
open Small Foot Pane Grp Ca Md Sh Rg Rm Sp
set_option maxHeartbeats 32000000 in
theorem walk_on (gv : Value) (gs : List Int) (A : Option Addr) (m cp : Nat) (f : Nat → Deed) (cf : C8) (w : World) (hgs : Hid (Ints w gv gs)) (hg30 : gs.length ≤ 30) (hm50 : m ≤ 50) (hf : Hid (∀ i, i < m → DFits (f i))) (hc : Hid (Row A m f w)) (M : Hid (Asg.may cf.k cf.s cf.l cf.g cf.z cf.h cf.r cf.c)) (CF : Hid (cfOf cf).Fit) :
    Calls Tryz.prog 3 #[cf.v, gv, .slice A m cp] w fun r w' => r = .returned (.bool true) ∧ Below w.heap.size w w' := by
  have q50 : ¬ (50 : Int) < m := by omega
  have BC : Hid (cf.s ≤ 9223372036854775807 ∧ cf.l ≤ 9223372036854775807 ∧ cf.g ≤ 9223372036854775807 ∧ cf.z ≤ 9223372036854775807) := Lib.hid ⟨(Small.fit CF.out.2.1).2, (Small.fit CF.out.2.2.1).2, (Small.fit CF.out.2.2.2.1).2, (Small.fit CF.out.2.2.2.2.1).2⟩
  have r16 : Hid (1 ≤ cf.r ∧ cf.r ≤ 16 ∧ 1 ≤ cf.c ∧ cf.c ≤ 16) := Lib.hid (by have := M.out; unfold Asg.may at this; omega)
  obtain ⟨Ag, cg, rfl, -⟩ := hgs.out
  have q30 : ¬ (30 : Int) < gs.length := by omega
  have k0 := below1 w (Obj.cells #[.int .i64 cf.k, .int .i64 cf.s, .int .i64 cf.l, .int .i64 cf.g, .int .i64 cf.z, .int .i64 cf.h, .int .i64 cf.r, .int .i64 cf.c] 23)
  have X0 := Lib.hid (Lies.new w 23 cf.cl)
  have K0 := Lib.hid k0
  clear k0
  go_enter Tryz.func3, Tryz.ntmps3
  go_upto_region 1 with fail
  generalize hgc : w.heap.size = gc at X0 ⊢
  have HGC := Lib.hid hgc
  generalize w.alloc (Obj.cells #[.int .i64 cf.k, .int .i64 cf.s, .int .i64 cf.l, .int .i64 cf.g, .int .i64 cf.z, .int .i64 cf.h, .int .i64 cf.r, .int .i64 cf.c] 23) = w0 at X0 K0 ⊢
  clear hgc
  go_wp2_with fail
  refine (Sh.up_ok _).mono ?_
  rintro r w1 ⟨rfl, k1⟩
  have K1 := Lib.hid (after K0.out k1)
  have X1 := Lib.hid (X0.out.next k1)
  clear k1 X0 K0
  have c0 := X1.out.cell (i := 0) rfl
  have c1 := X1.out.cell (i := 1) rfl
  have c2 := X1.out.cell (i := 2) rfl
  have c3 := X1.out.cell (i := 3) rfl
  have c4 := X1.out.cell (i := 4) rfl
  have c5 := X1.out.cell (i := 5) rfl
  have c6 := X1.out.cell (i := 6) rfl
  have c7 := X1.out.cell (i := 7) rfl
  go_wp2_with fail
  refine (Sh.new_any cf gs _ w1 (Lib.hid (hgs.out.next K1.out)) (by unfold maxLen; omega) M BC.out.1).mono ?_
  rintro r w2 ⟨wk, F2, p, FF, rfl, h2, P2, A2, f2, u2, k2, hp⟩
  have HP := Lib.hid hp
  obtain ⟨R2, pm⟩ := PM.start (SK := fun _ => []) (nK := 0) (FR := fun _ _ => False) (RR := fun _ => []) (RK := []) (after K1.out k2) h2 P2 A2 f2 u2 (X1.out.next k2) (by have := HGC.out; omega) X1.out.lt
  have P0 := Lib.hid pm
  clear pm h2 P2 A2 f2 u2 k2 hp K1 X1
  clear c0 c1 c2 c3 c4 c5 c6 c7
  have X2 := Lib.hid (P0.out.box (i := 0) rfl)
  have c0 := X2.out.cell (i := 0) rfl
  have c1 := X2.out.cell (i := 1) rfl
  have c2 := X2.out.cell (i := 2) rfl
  have c3 := X2.out.cell (i := 3) rfl
  have c4 := X2.out.cell (i := 4) rfl
  have c5 := X2.out.cell (i := 5) rfl
  have c6 := X2.out.cell (i := 6) rfl
  have c7 := X2.out.cell (i := 7) rfl
  go_wp2_with fail
  refine (Asg.refMay_ok cf.k cf.s cf.l cf.g cf.z cf.h cf.r cf.c w2 true (Lib.hid (by simp [M.out])) BC.out.1).mono ?_
  rintro r w3 ⟨rfl, k3⟩
  have P3 := Lib.hid (P0.out.next k3)
  clear k3 P0 X2
  clear c0 c1 c2 c3 c4 c5 c6 c7
  go_wp2_with fail
  refine (Sh.box_ok w3 (Lib.hid P3.out.work)).mono ?_
  rintro r _ ⟨rfl, _, bx, _, rfl, -, -⟩
  obtain ⟨nn, hnn⟩ : ∃ nn : Nat, cf.r = nn := ⟨cf.r.toNat, by have := r16.out; omega⟩
  have NN := Lib.hid hnn
  have n16 : 1 ≤ nn ∧ nn ≤ 16 := by have := r16.out; omega
  have X3 := Lib.hid (P3.out.box (i := 0) rfl)
  have c6 := X3.out.cell (i := 6) rfl
  rw [hnn] at c6
  clear hnn
  obtain ⟨i0, hi0, hz0, hz1, hz2⟩ := info_parts infoPtr
  go_wp2_with (at_make; refine Sp.wpList_make_lies _ rfl _ _ 36 rfl 37 i0 (.pointer none) 1 8 Tryz.underlying36 hi0 hz0 hz1 hz2 nn rfl rfl (by omega) (by unfold maxLen; omega) ?_)
  intro w4 l4 k4 z4
  have hml : (madeCells #[Value.pointer none] nn).toList = ml (fun _ => none) nn := by have := ml_zero nn; rw [Nat.mul_one] at this; exact this
  rw [hml] at l4
  clear hml
  have P4 : Hid (PM w wk cf p p FF (fun _ _ => []) 0 (fun _ => 0) [] none (fun _ => []) 0 (fun _ => none) (fun _ _ => False) (fun _ => []) none [] ([⟨gc, 23, cf.cl⟩] ++ [⟨w3.heap.size, 37, ml (fun _ => none) nn⟩]) (rset R2 (8 + [(⟨gc, 23, cf.cl⟩ : Bb)].length) fun j => j = w3.heap.size) w4) := Lib.hid (P3.out.push k4 l4 (Nat.le_refl _))
  clear k4 l4 z4 hz0 hz1 hz2 hi0 i0 P3 X3 c6
  generalize rset R2 (8 + [(⟨gc, 23, cf.cl⟩ : Bb)].length) (fun j => j = w3.heap.size) = R4 at P4
  generalize w3.heap.size = bm at P4 ⊢
  simp only [List.cons_append, List.nil_append] at P4
  go_wp2_with fail
  go_loopw [12] (fun si wr => ∃ (k : Nat) (MM : Int → Option Nat) (FR : Int → Nat → Prop) (RR : Int → List Pn) (R : Nat → Nat → Prop), k ≤ gs.length ∧ si = .int .i64 k ∧ Hid (PM w wk cf p p FF (fun _ _ => []) 0 (fun _ => 0) [] none (fun _ => []) 0 MM FR RR none [] [⟨gc, 23, cf.cl⟩, ⟨bm, 37, ml MM nn⟩] R wr) ∧ Hid ((∀ x, MM x ≠ none ↔ 0 ≤ x ∧ x < cf.r ∧ x ∈ gs.take k) ∧ ∀ x, MM x ≠ none → RR x = [])) (fun si _ => gs.length - (intOf si).toNat)
  case atStart => exact ⟨0, _, _, _, _, Nat.zero_le _, rfl, P4, Lib.hid ⟨fun x => ⟨fun q => absurd rfl q, fun q => by simp at q⟩, fun x q => absurd rfl q⟩⟩
  case round =>
    obtain ⟨k, MM, FR, RR, R, hk, rfl, P, MR⟩ := hrel
    by_cases hlt : k < gs.length
    · have i1 : (k : Int) < (gs.length : Int) := by omega
      have i2 : (k : Int) ≤ 30 := by omega
      obtain ⟨Ag2, cg2, e2, hcell⟩ := hgs.out.next P.out.fam.below
      obtain ⟨rfl, rfl⟩ : Ag = Ag2 ∧ cg = cg2 := by simpa using e2
      obtain ⟨b, off, rfl, hb, hcell⟩ := hcell (by omega)
      obtain ⟨x, hx⟩ : ∃ x, gs[k]? = some x := ⟨_, List.getElem?_eq_getElem hlt⟩
      have e1 := hcell k x hx
      have HBW : Hid (b < w.heap.size) := Lib.hid (by
        obtain ⟨A3, c3, e3, h3⟩ := hgs.out
        obtain ⟨b3, o3, e4, hb3, -⟩ := h3 (by omega)
        rw [e4] at e3
        simp at e3
        rw [e3.1.1]
        exact hb3)
      have HX := Lib.hid hx
      have X5 := Lib.hid (P.out.box (i := 0) rfl)
      have c6 := X5.out.cell (i := 6) rfl
      have tk : gs.take (k + 1) = gs.take k ++ [x] := by rw [List.take_add_one, hx]; rfl
      have TK := Lib.hid tk
      clear e2 hcell hx tk hb
      by_cases h1 : x < 0
      · have g1 : decide ((0 : Int) ≤ x) = false := decide_eq_false (by omega)
        go_wp2_with fail
        go_quiet (fail)
        generalize hw7 : wr.drewN _ = w7
        have k7 : Below wr.heap.size wr w7 := by rw [← hw7]; exact Sp.below_drewN _ _
        have P7 := Lib.hid (P.out.next k7)
        clear hw7 k7 e1 c6 X5 P
        go_wp2_with fail
        exact ⟨⟨k + 1, MM, FR, RR, R, by omega, by go_num, P7, Lib.hid ⟨fun z => by rw [MR.out.1 z, TK.out]; simp; omega, MR.out.2⟩⟩, by first | (simp [intOf]; done) | (simp [intOf]; omega)⟩
      by_cases h2 : cf.r ≤ x
      · have g1 : (0 : Int) ≤ x := by omega
        have g2 : ¬ x < cf.r := by omega
        go_wp2_with fail
        go_quiet (fail)
        generalize hw7 : wr.drewN _ = w7
        have k7 : Below wr.heap.size wr w7 := by rw [← hw7]; exact Sp.below_drewN _ _
        have P7 := Lib.hid (P.out.next k7)
        clear hw7 k7 e1 c6 X5 P
        go_wp2_with fail
        exact ⟨⟨k + 1, MM, FR, RR, R, by omega, by go_num, P7, Lib.hid ⟨fun z => by rw [MR.out.1 z, TK.out]; simp; omega, MR.out.2⟩⟩, by first | (simp [intOf]; done) | (simp [intOf]; omega)⟩
      obtain ⟨xn, rfl⟩ : ∃ xn : Nat, x = xn := ⟨x.toNat, by omega⟩
      have g1 : (0 : Int) ≤ (xn : Int) := by omega
      have g2 : (xn : Int) < cf.r := by omega
      have xl : xn < nn := by have := NN.out; omega
      have xli : (xn : Int) < (nn : Int) := by omega
      go_wp2_with fail
      go_quiet (fail)
      generalize hw7 : wr.drewN _ = w7
      have k7 : Below wr.heap.size wr w7 := by rw [← hw7]; exact Sp.below_drewN _ _
      have P7 := Lib.hid (P.out.next k7)
      have e7 := cell_keep k7 e1
      have X7 := Lib.hid (P7.out.box (i := 0) rfl)
      have B7 := Lib.hid (P7.out.box (i := 1) rfl)
      clear hw7 k7 e1 c6 X5 P
      go_upto_region 13 with fail
      have x0 := X7.out.cell (i := 0) rfl
      have x1 := X7.out.cell (i := 1) rfl
      have x2 := X7.out.cell (i := 2) rfl
      have x3 := X7.out.cell (i := 3) rfl
      have x4 := X7.out.cell (i := 4) rfl
      have x5 := X7.out.cell (i := 5) rfl
      have x6 := X7.out.cell (i := 6) rfl
      have x7 := X7.out.cell (i := 7) rfl
      have d7 := B7.out.cell (ml_at xl)
      have f7 := B7.out.open_ xn
      have kA := below1 w7 (Obj.cells #[.int .i64 cf.k, .int .i64 cf.s, .int .i64 cf.l, .int .i64 cf.g, .int .i64 cf.z, .int .i64 cf.h, .int .i64 cf.r, .int .i64 cf.c, .slice none 0 0] 40)
      have B8 := Lib.hid (B7.out.next kA)
      have X8 := Lib.hid (X7.out.next kA)
      have e8 := cell_keep kA e7
      have y0 := X8.out.cell (i := 0) rfl
      have y1 := X8.out.cell (i := 1) rfl
      have y2 := X8.out.cell (i := 2) rfl
      have y3 := X8.out.cell (i := 3) rfl
      have y4 := X8.out.cell (i := 4) rfl
      have y5 := X8.out.cell (i := 5) rfl
      have y6 := X8.out.cell (i := 6) rfl
      have y7 := X8.out.cell (i := 7) rfl
      have d8 := B8.out.cell (ml_at xl)
      have f8 := B8.out.open_ xn
      clear kA
      go_region
      obtain ⟨FR8, R8, q8⟩ := P7.out.dNew (x := (xn : Int)) (below1 w7 (Obj.cells #[.int .i64 cf.k, .int .i64 cf.s, .int .i64 cf.l, .int .i64 cf.g, .int .i64 cf.z, .int .i64 cf.h, .int .i64 cf.r, .int .i64 cf.c, .slice none 0 0] 40)) (rr_new (cf := cf) (Lies.new w7 _ (rcl cf (.slice none 0 0)))) (fun j hj => by rw [hj]; exact Nat.le_refl _)
      have l8 := (q8.box (i := 1) rfl).put xn (Ms.stv (some w7.heap.size))
      simp only at l8
      rw [ml_set xl] at l8
      have P9 := Lib.hid ((q8.setb (i := 1) rfl (grown_set _ _ _ _) l8).next (Below.refl _ _).drew)
      clear q8 l8 x0 y0 x1 y1 x2 y2 x3 y3 x4 y4 x5 y5 x6 y6 x7 y7 d7 f7 d8 f8 e7 e8 B7 X7 B8 X8 P7
      go_wp2_with fail
      refine ⟨⟨k + 1, _, FR8, _, R8, by omega, by go_num, P9, Lib.hid ⟨fun z => ?_, fun z hz => ?_⟩⟩, by first | (simp [intOf]; done) | (simp [intOf]; omega)⟩
      · rw [TK.out]
        by_cases e : z = (xn : Int)
        · subst e
          rw [upd_same]
          simp
          omega
        · rw [upd_ne e, MR.out.1 z]
          simp [e]
      · by_cases e : z = (xn : Int)
        · simp [e]
        · rw [upd_ne e] at hz
          simp only [e, if_false]
          exact MR.out.2 z hz
    · obtain rfl : k = gs.length := by omega
      have i1 : ¬ ((gs.length : Int) < (gs.length : Int)) := by omega
      have MM0 := Lib.hid MR.out
      clear MR P4
      rw [List.take_length] at MM0
      go_upto_region 15 with (first
        | (refine wpList_plain rfl fun K' hK' => wp_build_zero rfl (hK' _ _ ?_))
        | (refine wpList_plain rfl fun K' hK' => wp_store_did (cs' := zd) _ _ rfl rfl rfl (Lies.new _ _ zd) rfl rfl one_zd (fun w5 z1 z2 => hK' _ _ ?_))
        | fail)
      have k5 := Ms.below_over (below1 wr _) z2 (Nat.le_refl _)
      have P5 := Lib.hid (P.out.push k5 z1 (Nat.le_refl _))
      clear z1 z2 k5 P i1
      simp only [List.cons_append, List.nil_append] at P5
      generalize rset R _ _ = R5 at P5
      generalize wr.heap.size = gl at P5 ⊢
      have L5 : Hid (LS nn p MM (fun _ _ => []) RR none none (fun _ => []) [] zd 0) := Lib.hid ⟨fun x hx => by have := (HP.out x).1 hx; have := NN.out; omega, fun x => ⟨fun q => Classical.byContradiction fun r => ((HP.out x).2 ((MM0.out.1 x).1 r)) q, fun q => Classical.byContradiction fun r => ((MM0.out.1 x).2 ((HP.out x).1 r)) q⟩, fun x hx => by rw [MM0.out.2 x ((MM0.out.1 x).2 ((HP.out x).1 hx))]; exact Rr.rep_none, Iff.rfl, fun q => absurd rfl q, rfl, rfl, rfl, by omega, by omega, one_zd⟩
      clear MM0 HP
      go_wp2_with fail
      go_loopw [14, 15] (fun sk si wr => ∃ (jx : Nat), jx ≤ m ∧ si = .int .i64 jx ∧ Rnd w wk cf nn gc bm gl jx sk wr) (fun _ si _ => m - (intOf si).toNat)
      case atStart => exact ⟨0, Nat.zero_le _, rfl, p, FF, _, _, none, _, 0, MM, FR, RR, none, [], zd, 0, R5, rfl, P5, L5⟩
      case round =>
        clear P5 L5
        obtain ⟨jx, hjx, rfl, p1, FF1, S1, n1, ko1, SK1, nK1, MM1, FR1, RR1, kd1, RK1, lc1, kx1, R1, rfl, P1, LL1⟩ := hrel
        by_cases hlt : jx < m
        · have j0 : (jx : Int) < (m : Int) := by omega
          go_upto_block 3 with fail
          refine round hlt hm50 hf hc M CF NN P1 LL1 ?_ ?_
          · intros
            rename_i hb
            go_wp2
            go_ret
            exact ⟨rfl, hb⟩
          · intros
            rename_i hb
            go_wp2_with fail
            exact ⟨⟨jx + 1, by omega, by go_num, hb⟩, by first | (simp [intOf]; done) | (simp [intOf]; omega)⟩
        · obtain rfl : m = jx := by omega
          have j0 : ¬ ((m : Int) < (m : Int)) := by omega
          have KB := Lib.hid P1.out.fam.below
          clear P1 LL1
          go_wp2
          go_ret
          exact ⟨rfl, KB.out⟩
end shardPlays
end Go.Proofs.YtmklkiklegkioaaGreat

namespace Go.Proofs.YtmklkiklegkioaaGreat
open Go.ChangeShapes Go.WideShapes Go.ChangeAt Go.RowKit
set_option maxRecDepth 100000
set_option linter.unusedVariables false
namespace shardPlays
open Small Foot Pane Grp Ca Md Sh Rg Rm Sp
set_option maxHeartbeats 4000000 in
theorem walk_no (gv : Value) (A : Option Addr) (m cp : Nat) (cf : C8) (w : World) (M : Hid (¬ Asg.may cf.k cf.s cf.l cf.g cf.z cf.h cf.r cf.c)) (s1 : cf.s ≤ 9223372036854775807) :
    Calls Tryz.prog 3 #[cf.v, gv, .slice A m cp] w fun r w' => r = .returned (.bool true) ∧ Below w.heap.size w w' := by
  have X0 := Lib.hid (Lies.new w 23 cf.cl)
  have K0 := Lib.hid (below1 w (Obj.cells #[.int .i64 cf.k, .int .i64 cf.s, .int .i64 cf.l, .int .i64 cf.g, .int .i64 cf.z, .int .i64 cf.h, .int .i64 cf.r, .int .i64 cf.c] 23))
  go_enter Tryz.func3, Tryz.ntmps3
  go_upto_region 1 with fail
  generalize w.alloc (Obj.cells #[.int .i64 cf.k, .int .i64 cf.s, .int .i64 cf.l, .int .i64 cf.g, .int .i64 cf.z, .int .i64 cf.h, .int .i64 cf.r, .int .i64 cf.c] 23) = w0 at X0 K0 ⊢
  go_wp2_with fail
  refine (Sh.up_ok _).mono ?_
  rintro r w1 ⟨rfl, k1⟩
  have K1 := Lib.hid (after K0.out k1)
  have X1 := Lib.hid (X0.out.next k1)
  clear k1 X0 K0
  have c0 := X1.out.cell (i := 0) rfl
  have c1 := X1.out.cell (i := 1) rfl
  have c2 := X1.out.cell (i := 2) rfl
  have c3 := X1.out.cell (i := 3) rfl
  have c4 := X1.out.cell (i := 4) rfl
  have c5 := X1.out.cell (i := 5) rfl
  have c6 := X1.out.cell (i := 6) rfl
  have c7 := X1.out.cell (i := 7) rfl
  go_wp2_with fail
  refine (Sh.new_no cf gv w1 M s1).mono ?_
  rintro r w2 ⟨rfl, k2⟩
  have K2 := Lib.hid (after K1.out k2)
  have X2 := Lib.hid (X1.out.next k2)
  clear k2 K1 X1 c0 c1 c2 c3 c4 c5 c6 c7
  have c0 := X2.out.cell (i := 0) rfl
  have c1 := X2.out.cell (i := 1) rfl
  have c2 := X2.out.cell (i := 2) rfl
  have c3 := X2.out.cell (i := 3) rfl
  have c4 := X2.out.cell (i := 4) rfl
  have c5 := X2.out.cell (i := 5) rfl
  have c6 := X2.out.cell (i := 6) rfl
  have c7 := X2.out.cell (i := 7) rfl
  go_wp2_with fail
  refine (Asg.refMay_ok cf.k cf.s cf.l cf.g cf.z cf.h cf.r cf.c w2 false (Lib.hid (by simp [M.out])) s1).mono ?_
  rintro r w3 ⟨rfl, k3⟩
  have K3 := Lib.hid (after K2.out k3)
  have q1 := Errs.eql_code w3 2 2
  clear k3 K2 X2 c0 c1 c2 c3 c4 c5 c6 c7
  go_wp2
  go_ret
  exact ⟨rfl, K3.out⟩
set_option maxHeartbeats 4000000 in
theorem walk_far (gv : Value) (gs : List Int) (A : Option Addr) (m cp : Nat) (cf : C8) (w : World) (hgs : Hid (Ints w gv gs)) (hgm : gs.length ≤ maxLen) (hmm : m ≤ maxLen) (hb : 50 < m ∨ 30 < gs.length) (M : Hid (Asg.may cf.k cf.s cf.l cf.g cf.z cf.h cf.r cf.c)) (s1 : cf.s ≤ 9223372036854775807) :
    Calls Tryz.prog 3 #[cf.v, gv, .slice A m cp] w fun r w' => r = .returned (.bool true) ∧ Below w.heap.size w w' := by
  obtain ⟨Ag, cg, rfl, -⟩ := hgs.out
  have HB := Lib.hid hb
  have HMM := Lib.hid hmm
  have HGM := Lib.hid hgm
  clear hb hmm hgm
  have X0 := Lib.hid (Lies.new w 23 cf.cl)
  have K0 := Lib.hid (below1 w (Obj.cells #[.int .i64 cf.k, .int .i64 cf.s, .int .i64 cf.l, .int .i64 cf.g, .int .i64 cf.z, .int .i64 cf.h, .int .i64 cf.r, .int .i64 cf.c] 23))
  go_enter Tryz.func3, Tryz.ntmps3
  go_upto_region 1 with fail
  generalize w.alloc (Obj.cells #[.int .i64 cf.k, .int .i64 cf.s, .int .i64 cf.l, .int .i64 cf.g, .int .i64 cf.z, .int .i64 cf.h, .int .i64 cf.r, .int .i64 cf.c] 23) = w0 at X0 K0 ⊢
  go_wp2_with fail
  refine (Sh.up_ok _).mono ?_
  rintro r w1 ⟨rfl, k1⟩
  have K1 := Lib.hid (after K0.out k1)
  have X1 := Lib.hid (X0.out.next k1)
  clear k1 X0 K0
  have c0 := X1.out.cell (i := 0) rfl
  have c1 := X1.out.cell (i := 1) rfl
  have c2 := X1.out.cell (i := 2) rfl
  have c3 := X1.out.cell (i := 3) rfl
  have c4 := X1.out.cell (i := 4) rfl
  have c5 := X1.out.cell (i := 5) rfl
  have c6 := X1.out.cell (i := 6) rfl
  have c7 := X1.out.cell (i := 7) rfl
  go_wp2_with fail
  refine (Sh.new_any cf gs _ w1 (Lib.hid (hgs.out.next K1.out)) HGM.out M s1).mono ?_
  rintro r w2 ⟨wk, F2, p, FF, rfl, h2, -, -, -, -, k2, -⟩
  have H2 := Lib.hid h2
  have K2 := Lib.hid (after K1.out k2)
  have X2 := Lib.hid (X1.out.next k2)
  clear k2 h2 K1 X1 c0 c1 c2 c3 c4 c5 c6 c7
  have c0 := X2.out.cell (i := 0) rfl
  have c1 := X2.out.cell (i := 1) rfl
  have c2 := X2.out.cell (i := 2) rfl
  have c3 := X2.out.cell (i := 3) rfl
  have c4 := X2.out.cell (i := 4) rfl
  have c5 := X2.out.cell (i := 5) rfl
  have c6 := X2.out.cell (i := 6) rfl
  have c7 := X2.out.cell (i := 7) rfl
  go_wp2_with fail
  refine (Asg.refMay_ok cf.k cf.s cf.l cf.g cf.z cf.h cf.r cf.c w2 true (Lib.hid (by simp [M.out])) s1).mono ?_
  rintro r w3 ⟨rfl, k3⟩
  have K3 := Lib.hid (after K2.out k3)
  have H3 := Lib.hid (H2.out.next k3)
  clear k3 K2 X2 H2 c0 c1 c2 c3 c4 c5 c6 c7
  go_wp2_with fail
  refine (Sh.box_ok w3 H3).mono ?_
  rintro r _ ⟨rfl, _, bx, _, rfl, -, -⟩
  by_cases hm : 50 < m
  · have qm : (50 : Int) < (m : Int) := by omega
    go_wp2_with fail
    refine (Sh.box_ok _ H3).mono ?_
    rintro r _ ⟨rfl, _, bx2, _, rfl, -, -⟩
    go_wp2
    go_ret
    exact ⟨rfl, K3.out⟩
  · have hg : 30 < gs.length := HB.out.resolve_left hm
    have qm : ¬ (50 : Int) < (m : Int) := by omega
    have qg : (30 : Int) < (gs.length : Int) := by omega
    go_wp2_with fail
    refine (Sh.box_ok _ H3).mono ?_
    rintro r _ ⟨rfl, _, bx2, _, rfl, -, -⟩
    go_wp2
    go_ret
    exact ⟨rfl, K3.out⟩
theorem walk (c : Cf) (hc : c.Fit) (x : Value × List Int) (d : Option Addr × Nat × Nat × (Nat → Deed)) (w : World) (hx : Ints w x.1 x.2 ∧ x.2.length ≤ maxLen) (hd : Opens.IsRows dl 11 DFits w d) :
    Calls Tryz.prog 3 #[c.val, x.1, .slice d.1 d.2.1 d.2.2.1] w fun r w' => r = .returned (.bool true) ∧ Below w.heap.size w w' := by
  obtain ⟨A, m, cp, f⟩ := d
  obtain ⟨gv, gs⟩ := x
  obtain ⟨hm, hf, hr⟩ := hd
  obtain ⟨hg, hgm⟩ := hx
  simp only at hm hf hr hg hgm ⊢
  obtain ⟨k, s, l, g, z, h, r, cc⟩ := c
  by_cases M : Asg.may k s l g z h r cc
  · by_cases hq : m ≤ 50 ∧ gs.length ≤ 30
    · exact walk_on gv gs A m cp f ⟨k, s, l, g, z, h, r, cc⟩ w (Lib.hid hg) hq.2 hq.1 (Lib.hid hf) (Lib.hid hr) (Lib.hid M) (Lib.hid hc)
    · exact walk_far gv gs A m cp ⟨k, s, l, g, z, h, r, cc⟩ w (Lib.hid hg) hgm hm (by omega) (Lib.hid M) (Small.fit hc.2.1).2
  · exact walk_no gv A m cp ⟨k, s, l, g, z, h, r, cc⟩ w (Lib.hid M) (Small.fit hc.2.1).2

theorem own : ownKnob Tryz.prog.godebug = none := by kernel_rfl

set_option maxRecDepth 100000 in
theorem lifted (os : Os) (started : os.Started) (H : Type) (enc : TypeId × Value → H) :
    ReturnsInHanded {} Tryz.checked os 3 .any (Rows.shardPlaysSpec.pre6 enc Tryz.prog Tryz.f3 Rows.shardPlaysRow.domain false) (Rows.shardPlaysSpec.post enc Tryz.prog Tryz.f3 false true false false) := by
  refine returnsInHanded_of_change (C := Tryz.checked) own started (by kernel_rfl) Tryz.func3
    (ChangeSpec.witness6 (enc := enc) (C := Tryz.checked) false ⟨#[], #[.agg #[.int .i64 0, .int .i64 0, .int .i64 0, .int .i64 0, .int .i64 0, .int .i64 0, .int .i64 0, .int .i64 0], .slice none 0 0, .slice none 0 0], []⟩ 8 (by kernel_rfl) (by kernel_rfl) (by kernel_rfl) (by kernel_rfl)) ?_
  intro W base args ds gs before hval0 hW hcnd _
  have hval : ∀ (j : Nat) t v, Tryz.f3.params[j]? = some t → args[j]? = some v → Value.okWide Tryz.prog W .any base t v := hval0
  have hW' := hW
  obtain ⟨p, q, hA0, hV, rfl, hfz, hnd⟩ := hW
  have hA : DataW.TrodAll enc Tryz.prog W 0 (fun _ => true) true Tryz.f3.params.toList args.toList ds p := hA0
  rw [Tryz.params3] at hA hval
  obtain ⟨v0, vs0, d0, ds0, p0, q0, hargs, rfl, rfl, h0, r0⟩ := trodAll_cons hA
  obtain ⟨v1, vs1, d1, ds1, p1, q1, rfl, rfl, rfl, h1, r1⟩ := trodAll_cons r0
  obtain ⟨v2, vs2, d2, ds2, p2, q2, rfl, rfl, rfl, h2, r2⟩ := trodAll_cons r1
  obtain ⟨rfl, rfl, rfl⟩ := trodAll_nil r2
  obtain rfl : args = #[v0, v1, v2] := by cases args; simp_all
  obtain ⟨rfl, rfl⟩ := trodVars_none hV
  obtain ⟨a0, rfl, w0⟩ := Opens.open_config (hval 0 23 v0 rfl rfl) h0
  obtain ⟨a1, rfl, w1⟩ := Opens.open_nums (hval 1 24 v1 rfl rfl) h1
  obtain ⟨a2, rfl, w2⟩ := Opens.open_deeds (hval 2 25 v2 rfl rfl) h2
  clear hA0 hval0
  refine (walk a0 w0 a1 a2 W w1 w2).mono fun e W' ⟨he, hg⟩ => ?_
  subst he
  exact ⟨_, rfl, Laid.post Laid.laidOut (by kernel_rfl) rfl (by kernel_rfl) Tryz.underlying4 hW' ⟨rfl, rfl, rfl⟩ hg⟩

theorem over : Rows.shardPlaysRow.holds Tryz.pinned (OpenSpec.ofChange Rows.shardPlaysSpec) :=
  OpenClaim.holds_of_wide 3 Tryz.f3 rfl rfl rfl rfl rfl rfl rfl ⟨rfl, rfl, rfl, rfl, rfl⟩ rfl rfl rfl rfl rfl (by kernel_rfl) Tryz.func3 (by kernel_rfl)
    (of_decide_eq_true (by kernel_rfl)) (by unfold Func.isWrapper; first | (rw [if_pos (by decide +kernel)]; kernel_rfl) | (rw [if_neg (by decide +kernel)]; exact ⟨rfl, rfl⟩))
    (fun os started H enc _ => lifted os started H enc)

/-- ████ THE STATEMENT ████ -/
theorem proved : Rows.ShardPlaysSaid :=
  over
#print axioms proved
end Go.Proofs.YtmklkiklegkioaaGreat.shardPlays
