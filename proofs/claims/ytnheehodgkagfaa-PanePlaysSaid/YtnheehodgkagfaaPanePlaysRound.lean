/-
  PanePlays: a round: whatever deed it is, what is told is what the list says, and the next round begins with what was made.
-/
import Derived.Test.YtnheehodgkagfaaPanePlaysArm
import Derived.Test.YtnheehodgkagfaaPanePlaysMath
import Derived.Test.YtnheehodgkagfaaPanePlaysDup
import Derived.Test.YtnheehodgkagfaaRelG
namespace Go.Proofs.Ytnheehodgkagfaa.panePlays
open Go.ChangeShapes Go.WideShapes Go.ChangeAt Go.RowKit Small Pane
set_option linter.unusedVariables false

/-- what the parts of 'p := api.Pane{..}' yield -/
def Md (B gd : Nat) (key : ByteArray) (s e v : Int) (i : Nat) (u : Value) (w : World) : Prop := match i with
  | 0 => u = .string key
  | 1 => u = .pointer (some ⟨gd, 1, none⟩)
  | 2 => u = win s e
  | 3 => u = .pointer (some ⟨gd, 3, none⟩)
  | 4 => u = .int .i64 v
  | 5 => u = Agg.agv 1 v v v
  | 6 => u = (one key s e v).v
  | 7 => ∃ g, u = .pointer (some ⟨g, 0, none⟩) ∧ Lies w g 33 zp.cl ∧ B ≤ g
  | _ => True
theorem Md.mono (B gd : Nat) (key : ByteArray) (s e v : Int) : ∀ i u w w', Md B gd key s e v i u w → Below w.heap.size w w' → Md B gd key s e v i u w'
  | 0, u, w, w', h, k => h
  | 1, u, w, w', h, k => h
  | 2, u, w, w', h, k => h
  | 3, u, w, w', h, k => h
  | 4, u, w, w', h, k => h
  | 5, u, w, w', h, k => h
  | 6, u, w, w', h, k => h
  | 7, u, w, w', ⟨g, h1, h2, h3⟩, k => ⟨g, h1, h2.next k, h3⟩
  | i + 8, u, w, w', h, k => trivial

theorem pick_cases (c : Int) (w : World) (hc : (Lit.int .i64 c).wf = true) : Calls Try.prog 7 #[.int .i64 c, .int .i64 3] w fun r w' => (∃ pk : Int, r = .returned (.int .i64 pk) ∧ (pk = 0 ∨ pk = 1 ∨ pk = 2)) ∧ w = w' :=
  (Tmr.pick_ok c 3 w hc (by omega) (by omega)).mono fun r w' ⟨⟨i, h1, h2⟩, h3⟩ => ⟨⟨i, h1, by omega⟩, h3⟩
theorem find_any (v : Value) (L : List Pn) (b k : Nat) (s e : Int) (w : World) (H : Hid (Sl.Is Pn.k w v L b)) (hn : L.length ≤ 1000) (A : Hid (At L s e k)) :
    ∃ (fp : Pn) (isv : Bool), (Calls Try.prog 11 #[v, win s e] w fun r w' => r = .returned (.tuple #[fp.v, .bool isv]) ∧ Below w.heap.size w w') ∧ (isv = true → L[k]? = some fp ∧ Eq2 fp s e) ∧ (isv = false → fp = zp ∧ ∀ x, L[k]? = some x → ¬ Eq2 x s e) := by
  by_cases h : ∃ p, L[k]? = some p ∧ Eq2 p s e
  · obtain ⟨p, h1, h2⟩ := h
    exact ⟨p, true, find_yes v L b k s e p w H hn A (Lib.hid h1) (Lib.hid h2), fun _ => ⟨h1, h2⟩, fun q => (by cases q)⟩
  · exact ⟨zp, false, find_no v L b k s e w H hn A (Lib.hid fun x h1 h2 => h ⟨x, h1, h2⟩), fun q => (by cases q), fun _ => ⟨rfl, fun x h1 h2 => h ⟨x, h1, h2⟩⟩⟩
/-- the round -/
noncomputable def b1 : Code := ((Try.f3.body.bind (blk 1)).getD .skip)

set_option maxRecDepth 100000 in
set_option maxHeartbeats 8000000 in
theorem round {wr : World} {b vcap ab off n cp i : Nat} {AV : Option Addr} {L : List Pn} {key : ByteArray} {x : Deed} {u2 u3 u4 u8 u9 u10 u11 u12 u13 u14 u15 u16 u17 u18 u19 u20 u21 u22 u23 u24 u25 u26 u27 u28 u29 u30 u31 u32 u33 u34 u35 u36 u37 u38 u39 u40 u41 u42 u43 u44 u45 u46 u47 u48 u49 u50 u51 u52 u53 u54 u55 u56 u57 u58 u59 u60 u61 u62 u63 u64 u65 u66 u67 u68 u69 u70 u71 u72 u73 u74 u75 u76 u77 u78 u79 u80 u81 u82 u83 u84 u85 u86 u87 u88 u89 u90 u91 u92 u93 u94 u95 u96 u97 u98 u99 u100 u101 u102 u103 u104 u105 u106 u107 u108 u109 u110 u111 u112 u113 u114 u115 u116 u117 u118 u119 u120 u121 u122 u123 u124 u125 u126 u127 u128 u129 u130 u131 u132 u133 u134 u135 u136 u137 u138 u139 u140 u141 u142 u143 u144 u145 u146 u147 u148 u149 u150 u151 u152 u153 u154 u155 u156 u157 u158 u159 u160 u161 u162 u163 u164 u165 u166 u167 u168 u169 u170 u171 u172 u173 u174 u175 u176 u177 u178 u179 u180 u181 u182 u183 u184 u185 u186 u187 u188 u189 u190 u191 u192 u193 u194 u195 u196 u197 u198 u199 u200 u201 u202 u203 u204 u205 u206 u207 u208 u209 u210 u211 u212 u213 u214 u215 u216 u217 u218 u219 u220 u221 u222 u223 u224 u225 u226 u227 u228 u229 u230 u231 u232 u233 u234 u235 u236 u237 u238 u239 u240 u241 u242 u243 u244 u245 u246 u247 u248 u249 u250 u251 u252 u253 u254 u255 u256 u257 u258 u259 u260 u261 u262 u263 u264 u265 u266 u267 u268 u269 u270 u271 u272 u273 u274 u275 u276 u277 u278 u279 u280 u281 u282 u283 u284 u285 u286 u287 u288 u289 u290 : Value} {K : Act → World → Prop} {Q : Exit → Act → World → Prop}
    (hn : n ≤ 60) (i0 : (i : Int) < n) (hl : L.length ≤ i) (fx : Hid (DFits x)) (RL : Hid (Rises L)) (KL : Hid (∀ p ∈ L, p.key = key)) (IL : Hid (Sl.Is Pn.k wr (.slice AV L.length vcap) L b)) (c0 : wr.cell? ⟨ab, off + i * 4, none⟩ = some (.int .i64 x.what)) (c1 : wr.cell? ⟨ab, off + i * 4 + 1, none⟩ = some (.int .i64 x.s)) (c2 : wr.cell? ⟨ab, off + i * 4 + 2, none⟩ = some (.int .i64 x.e)) (c3 : wr.cell? ⟨ab, off + i * 4 + 3, none⟩ = some (.int .i64 x.v)) (hR : ∀ (t6 t8 t9 t10 t11 t12 t13 t14 t15 t16 t17 t18 t19 t20 t21 t22 t23 t24 t25 t26 t27 t28 t45 t46 t47 t48 t49 t50 t51 t52 t53 t54 t55 t56 t57 t58 t59 t60 t61 t62 t63 t64 t65 t66 t67 t68 t69 t70 t71 t72 t73 t74 t75 t76 t77 t78 t79 t80 t81 t82 t83 t84 t85 t86 t87 t88 t89 t90 t91 t92 t93 t94 t95 t96 t97 t98 t99 t100 t101 t102 t103 t104 t105 t106 t107 t108 t109 t110 t111 t112 t113 t114 t115 t116 t117 t118 t119 t120 t121 t122 t123 t124 t125 t126 t127 t128 t129 t130 t131 t132 t133 t134 t135 t136 t137 t138 t139 t140 t141 t142 t143 t144 t145 t146 t147 t148 t149 t150 t151 t152 t153 t154 t155 t156 t157 t158 t159 t160 t161 t162 t163 t164 t165 t166 t167 t168 t169 t170 t171 t172 t173 t174 t175 t176 t177 t178 t179 t180 t181 t182 t183 t184 t185 t186 t187 t188 t189 t190 t191 t192 t193 t194 t195 t196 t197 t198 t199 t200 t201 t202 t203 t204 t205 t206 t207 t208 t209 t210 t211 t212 t213 t214 t215 t216 t217 t218 t219 t220 t221 t222 t223 t224 t225 t226 t227 t228 t229 t230 t231 t232 t233 t234 t235 t236 t237 t238 t239 t240 t241 t242 t243 t244 t245 t246 t247 t248 t249 t250 t251 t252 t253 t254 t255 t256 t257 t258 t259 t260 t261 t262 t263 t264 t265 t266 t267 t268 t269 t270 t271 t272 t273 t274 t275 t276 t277 t278 t279 t280 t281 t282 t283 t284 t285 t286 t287 t288 t289 : Value) (wx : World), Hid (Below wr.heap.size wr wx) → Q Exit.ret ⟨#[.slice (some ⟨ab, off, none⟩) n cp, .string key, u2, u3, .bool true, .bool true, t6, .int .i64 i, t8, t9, t10, t11, t12, t13, t14, t15, t16, t17, t18, t19, t20, t21, t22, t23, t24, t25, t26, t27, t28, u29, u30, u31, u32, u33, u34, u35, u36, u37, u38, u39, u40, u41, u42, u43, u44, t45, t46, t47, t48, t49, t50, t51, t52, t53, t54, t55, t56, t57, t58, t59, t60, t61, t62, t63, t64, t65, t66, t67, t68, t69, t70, t71, t72, t73, t74, t75, t76, t77, t78, t79, t80, t81, t82, t83, t84, t85, t86, t87, t88, t89, t90, t91, t92, t93, t94, t95, t96, t97, t98, t99, t100, t101, t102, t103, t104, t105, t106, t107, t108, t109, t110, t111, t112, t113, t114, t115, t116, t117, t118, t119, t120, t121, t122, t123, t124, t125, t126, t127, t128, t129, t130, t131, t132, t133, t134, t135, t136, t137, t138, t139, t140, t141, t142, t143, t144, t145, t146, t147, t148, t149, t150, t151, t152, t153, t154, t155, t156, t157, t158, t159, t160, t161, t162, t163, t164, t165, t166, t167, t168, t169, t170, t171, t172, t173, t174, t175, t176, t177, t178, t179, t180, t181, t182, t183, t184, t185, t186, t187, t188, t189, t190, t191, t192, t193, t194, t195, t196, t197, t198, t199, t200, t201, t202, t203, t204, t205, t206, t207, t208, t209, t210, t211, t212, t213, t214, t215, t216, t217, t218, t219, t220, t221, t222, t223, t224, t225, t226, t227, t228, t229, t230, t231, t232, t233, t234, t235, t236, t237, t238, t239, t240, t241, t242, t243, t244, t245, t246, t247, t248, t249, t250, t251, t252, t253, t254, t255, t256, t257, t258, t259, t260, t261, t262, t263, t264, t265, t266, t267, t268, t269, t270, t271, t272, t273, t274, t275, t276, t277, t278, t279, t280, t281, t282, t283, t284, t285, t286, t287, t288, t289, u290], []⟩ wx)
    (hK : ∀ (t4 t6 t8 t9 t10 t11 t12 t13 t14 t15 t16 t17 t18 t19 t20 t21 t22 t23 t24 t25 t26 t27 t28 t45 t46 t47 t48 t49 t50 t51 t52 t53 t54 t55 t56 t57 t58 t59 t60 t61 t62 t63 t64 t65 t66 t67 t68 t69 t70 t71 t72 t73 t74 t75 t76 t77 t78 t79 t80 t81 t82 t83 t84 t85 t86 t87 t88 t89 t90 t91 t92 t93 t94 t95 t96 t97 t98 t99 t100 t101 t102 t103 t104 t105 t106 t107 t108 t109 t110 t111 t112 t113 t114 t115 t116 t117 t118 t119 t120 t121 t122 t123 t124 t125 t126 t127 t128 t129 t130 t131 t132 t133 t134 t135 t136 t137 t138 t139 t140 t141 t142 t143 t144 t145 t146 t147 t148 t149 t150 t151 t152 t153 t154 t155 t156 t157 t158 t159 t160 t161 t162 t163 t164 t165 t166 t167 t168 t169 t170 t171 t172 t173 t174 t175 t176 t177 t178 t179 t180 t181 t182 t183 t184 t185 t186 t187 t188 t189 t190 t191 t192 t193 t194 t195 t196 t197 t198 t199 t200 t201 t202 t203 t204 t205 t206 t207 t208 t209 t210 t211 t212 t213 t214 t215 t216 t217 t218 t219 t220 t221 t222 t223 t224 t225 t226 t227 t228 t229 t230 t231 t232 t233 t234 t235 t236 t237 t238 t239 t240 t241 t242 t243 t244 t245 t246 t247 t248 t249 t250 t251 t252 t253 t254 t255 t256 t257 t258 t259 t260 t261 t262 t263 t264 t265 t266 t267 t268 t269 t270 t271 t272 t273 t274 t275 t276 t277 t278 t279 t280 t281 t282 t283 t284 t285 t286 t287 t288 t289 : Value) (wx : World), Hid (Lst key (i + 1) wx t6) ∧ Hid (Below wr.heap.size wr wx) → K ⟨#[.slice (some ⟨ab, off, none⟩) n cp, .string key, u2, u3, t4, .bool true, t6, .int .i64 i, t8, t9, t10, t11, t12, t13, t14, t15, t16, t17, t18, t19, t20, t21, t22, t23, t24, t25, t26, t27, t28, u29, u30, u31, u32, u33, u34, u35, u36, u37, u38, u39, u40, u41, u42, u43, u44, t45, t46, t47, t48, t49, t50, t51, t52, t53, t54, t55, t56, t57, t58, t59, t60, t61, t62, t63, t64, t65, t66, t67, t68, t69, t70, t71, t72, t73, t74, t75, t76, t77, t78, t79, t80, t81, t82, t83, t84, t85, t86, t87, t88, t89, t90, t91, t92, t93, t94, t95, t96, t97, t98, t99, t100, t101, t102, t103, t104, t105, t106, t107, t108, t109, t110, t111, t112, t113, t114, t115, t116, t117, t118, t119, t120, t121, t122, t123, t124, t125, t126, t127, t128, t129, t130, t131, t132, t133, t134, t135, t136, t137, t138, t139, t140, t141, t142, t143, t144, t145, t146, t147, t148, t149, t150, t151, t152, t153, t154, t155, t156, t157, t158, t159, t160, t161, t162, t163, t164, t165, t166, t167, t168, t169, t170, t171, t172, t173, t174, t175, t176, t177, t178, t179, t180, t181, t182, t183, t184, t185, t186, t187, t188, t189, t190, t191, t192, t193, t194, t195, t196, t197, t198, t199, t200, t201, t202, t203, t204, t205, t206, t207, t208, t209, t210, t211, t212, t213, t214, t215, t216, t217, t218, t219, t220, t221, t222, t223, t224, t225, t226, t227, t228, t229, t230, t231, t232, t233, t234, t235, t236, t237, t238, t239, t240, t241, t242, t243, t244, t245, t246, t247, t248, t249, t250, t251, t252, t253, t254, t255, t256, t257, t258, t259, t260, t261, t262, t263, t264, t265, t266, t267, t268, t269, t270, t271, t272, t273, t274, t275, t276, t277, t278, t279, t280, t281, t282, t283, t284, t285, t286, t287, t288, t289, u290], []⟩ wx) :
    Code.wp Try.prog b1 (Exit.then K Q) ⟨#[.slice (some ⟨ab, off, none⟩) n cp, .string key, u2, u3, u4, .bool true, .slice AV L.length vcap, .int .i64 i, u8, u9, u10, u11, u12, u13, u14, u15, u16, u17, u18, u19, u20, u21, u22, u23, u24, u25, u26, u27, u28, u29, u30, u31, u32, u33, u34, u35, u36, u37, u38, u39, u40, u41, u42, u43, u44, u45, u46, u47, u48, u49, u50, u51, u52, u53, u54, u55, u56, u57, u58, u59, u60, u61, u62, u63, u64, u65, u66, u67, u68, u69, u70, u71, u72, u73, u74, u75, u76, u77, u78, u79, u80, u81, u82, u83, u84, u85, u86, u87, u88, u89, u90, u91, u92, u93, u94, u95, u96, u97, u98, u99, u100, u101, u102, u103, u104, u105, u106, u107, u108, u109, u110, u111, u112, u113, u114, u115, u116, u117, u118, u119, u120, u121, u122, u123, u124, u125, u126, u127, u128, u129, u130, u131, u132, u133, u134, u135, u136, u137, u138, u139, u140, u141, u142, u143, u144, u145, u146, u147, u148, u149, u150, u151, u152, u153, u154, u155, u156, u157, u158, u159, u160, u161, u162, u163, u164, u165, u166, u167, u168, u169, u170, u171, u172, u173, u174, u175, u176, u177, u178, u179, u180, u181, u182, u183, u184, u185, u186, u187, u188, u189, u190, u191, u192, u193, u194, u195, u196, u197, u198, u199, u200, u201, u202, u203, u204, u205, u206, u207, u208, u209, u210, u211, u212, u213, u214, u215, u216, u217, u218, u219, u220, u221, u222, u223, u224, u225, u226, u227, u228, u229, u230, u231, u232, u233, u234, u235, u236, u237, u238, u239, u240, u241, u242, u243, u244, u245, u246, u247, u248, u249, u250, u251, u252, u253, u254, u255, u256, u257, u258, u259, u260, u261, u262, u263, u264, u265, u266, u267, u268, u269, u270, u271, u272, u273, u274, u275, u276, u277, u278, u279, u280, u281, u282, u283, u284, u285, u286, u287, u288, u289, u290], []⟩ wr := by
  conv => arg 2; whnf
  go_wp2_with fail
  clear c0 c1 c2 c3
  have X1 : Hid (Lies (wr.alloc (Obj.cells #[.int .i64 x.what, .int .i64 x.s, .int .i64 x.e, .int .i64 x.v] 28)) wr.heap.size 28 (dl x)) := Lib.hid (Lies.new wr 28 (dl x))
  have KA := Lib.hid (below1 wr (Obj.cells #[.int .i64 x.what, .int .i64 x.s, .int .i64 x.e, .int .i64 x.v] 28))
  obtain ⟨gd, hgd⟩ : ∃ g, g = wr.heap.size := ⟨_, rfl⟩
  rw [← hgd] at X1 ⊢
  have HG := Lib.hid hgd
  clear hgd
  generalize wr.alloc (Obj.cells #[.int .i64 x.what, .int .i64 x.s, .int .i64 x.e, .int .i64 x.v] 28) = w2 at *
  refine wp_region_goes Goes.below 8 291 (Md w2.heap.size gd key x.s x.e x.v) (by show _ = _; kernel_rfl) (by show _ = _; kernel_rfl) (by show _ = _; kernel_rfl) (Md.mono w2.heap.size gd key x.s x.e x.v) ?_ ?_
  · intro i hi o ho a' w' Kc hd hout hdep hB hK
    match i, hi, ho with
    | 0, _, ho => exact Sl.wp_move _ (Reg.Has.op (p := Op.move (.tmp 1)) (t := 49) (by show _ = _; kernel_rfl) ho).1 (hK _ _ (hout 1 (Reg.Free.out (by show _ = _; kernel_rfl))) (Below.refl _ _))
    | 1, _, ho =>
      refine wp_val (V := .pointer (some ⟨gd, 1, none⟩)) (w' := w') ?_ (hK _ _ rfl (Below.refl _ _))
      have hop := (Reg.Has.op (p := Op.fieldAddr 28 (.tmp 8) 1) (t := 50) (by show _ = _; kernel_rfl) ho).1
      have h6 : a'.eval (.tmp 8) = .pointer (some ⟨gd, 0, none⟩) := (hout 8 (Reg.Free.out (by show _ = _; kernel_rfl)))
      generalize a'.eval = ev at h6
      simp [execOp, hop, h6, go_sem]
    | 2, _, ho =>
      refine wp_val (V := win x.s x.e) (w' := w') ?_ (hK _ _ rfl (Below.refl _ _))
      have hop := (Reg.Has.op (p := Op.load 26 (.tmp 50)) (t := 51) (by show _ = _; kernel_rfl) ho).1
      have h6 : a'.eval (.tmp 50) = .pointer (some ⟨gd, 1, none⟩) := (hdep 1 (mem_of (by show _ = _; kernel_rfl)) 50 (by show _ = _; kernel_rfl))
      have c1 := (X1.out.next hB).cell (i := 1) rfl
      have c2 := (X1.out.next hB).cell (i := 2) rfl
      generalize a'.eval = ev at h6
      simp [execOp, hop, h6, go_sem, c1, c2]
    | 3, _, ho =>
      refine wp_val (V := .pointer (some ⟨gd, 3, none⟩)) (w' := w') ?_ (hK _ _ rfl (Below.refl _ _))
      have hop := (Reg.Has.op (p := Op.fieldAddr 28 (.tmp 8) 2) (t := 52) (by show _ = _; kernel_rfl) ho).1
      have h6 : a'.eval (.tmp 8) = .pointer (some ⟨gd, 0, none⟩) := (hout 8 (Reg.Free.out (by show _ = _; kernel_rfl)))
      generalize a'.eval = ev at h6
      simp [execOp, hop, h6, go_sem]
    | 4, _, ho =>
      refine wp_val (V := .int .i64 x.v) (w' := w') ?_ (hK _ _ rfl (Below.refl _ _))
      have hop := (Reg.Has.op (p := Op.load 2 (.tmp 52)) (t := 53) (by show _ = _; kernel_rfl) ho).1
      have h6 : a'.eval (.tmp 52) = .pointer (some ⟨gd, 3, none⟩) := (hdep 3 (mem_of (by show _ = _; kernel_rfl)) 52 (by show _ = _; kernel_rfl))
      have c3 := (X1.out.next hB).cell (i := 3) rfl
      generalize a'.eval = ev at h6
      simp [execOp, hop, h6, go_sem, c3]
    | 5, _, ho =>
      refine wp_call (S := fun u w2 => u = Agg.agv 1 x.v x.v x.v ∧ Below w'.heap.size w' w2) (Reg.Has.op (p := Op.call { callee := Callee.value (.func 6), args := #[.tmp 53], argTypes := #[2] }) (t := 54) (by show _ = _; kernel_rfl) ho).1 #[.int .i64 x.v] (by simp [show a'.eval (.tmp 53) = _ from (hdep 4 (mem_of (by show _ = _; kernel_rfl)) 53 (by show _ = _; kernel_rfl))]) (fun _ _ => enters Try.func6 (by kernel_rfl) rfl _ _) ((Agg.one_ok x.v w').mono (fun e w2 ⟨h1, h2⟩ => ⟨_, h1, rfl, h2⟩)) ?_
      rintro u w2 ⟨rfl, h2⟩
      exact hK _ _ rfl h2
    | 6, _, ho =>
      refine wp_val (V := (one key x.s x.e x.v).v) (w' := w') ?_ (hK _ _ rfl (Below.refl _ _))
      have hop := (Reg.Has.op (p := Op.build 33 #[(0, .tmp 49), (1, .tmp 51), (2, .tmp 54)]) (t := 55) (by show _ = _; kernel_rfl) ho).1
      have h2 : a'.eval (.tmp 49) = .string key := (hdep 0 (mem_of (by show _ = _; kernel_rfl)) 49 (by show _ = _; kernel_rfl))
      have h3 : a'.eval (.tmp 51) = win x.s x.e := (hdep 2 (mem_of (by show _ = _; kernel_rfl)) 51 (by show _ = _; kernel_rfl))
      have h5 : a'.eval (.tmp 54) = Agg.agv 1 x.v x.v x.v := (hdep 5 (mem_of (by show _ = _; kernel_rfl)) 54 (by show _ = _; kernel_rfl))
      generalize a'.eval = ev at h2 h3 h5
      simp [execOp, hop, h2, h3, h5, go_sem]
    | 7, _, ho =>
      refine wp_val (V := .pointer (some ⟨w'.heap.size, 0, none⟩)) (w' := w'.alloc (.cells zp.cl.toArray 33)) ?_ (hK _ _ ⟨_, rfl, Lies.new _ _ _, hB.size⟩ (below1 _ _))
      have hop := (Reg.Has.op (p := Op.alloc 33) (t := 9) (by show _ = _; kernel_rfl) ho).1
      simp [execOp, hop, go_sem]
  · intro f w' hv hB hev
    obtain ⟨g1, e7, z7, hg⟩ := hv 7 (by omega)
    have e6 : f 6 = (one key x.s x.e x.v).v := hv 6 (by omega)
    change wpList _ _ _ [_] (Act.put (Act.put (Act.put (Act.put (Act.put (Act.put (Act.put (Act.put _ (some 49) (f 0)) (some 50) (f 1)) (some 51) (f 2)) (some 52) (f 3)) (some 53) (f 4)) (some 54) (f 5)) (some 55) (f 6)) (some 9) (f 7)) _
    rw [Rel.puts_zero]
    clear hv hev
    rw [e6, e7]
    have X2 := Lib.hid (X1.out.next hB)
    have hgl : Hid (gd < w2.heap.size) := Lib.hid X1.out.lt
    have D0 : DS wr gd g1 x zp (.slice none 0 0) (.slice none 0 0) [] [] w' :=
      ⟨after KA.out hB, by rw [HG.out]; exact Nat.le_refl _, by have := KA.out.size; omega, by have := hgl.out; omega, X2.out, z7, Sl.Own.nil _ _ _, Sl.Own.nil _ _ _, fun a ha => (by cases ha), fun a ha => (by cases ha)⟩
    obtain ⟨⟨z0, z1, z2, z3, z4, z5', z6⟩, y0, y1, y2, y3, y4, y5, y6⟩ := seven z7
    have O1 := put7_lies z7 (.string key) (.int .i64 x.s) (.int .i64 x.e) (.int .i64 1) (.int .i64 x.v) (.int .i64 x.v) (.int .i64 x.v)
    have M2 := D0.oned (x' := one key x.s x.e x.v) O1 (grown_cells _ (grown_cells _ (grown_cells _ (grown_cells _ (grown_cells _ (grown_cells _ (grown_cells _ (grown_refl _ _))))))))
    have x0 := M2.deed.cell (i := 0) rfl
    go_wp2_with fail
    refine (pick_cases x.what _ fx.out).mono ?_
    rintro e w3 ⟨⟨pk, rfl, hpk⟩, he⟩
    have M2 : Hid (DS wr gd g1 x (one key x.s x.e x.v) (.slice none 0 0) (.slice none 0 0) [] [] w3) := Lib.hid (he ▸ M2)
    clear he O1 D0 z0 z1 z2 z3 z4 z5' z6 y0 y1 y2 y3 y4 y5 y6 z7 e6 e7 hB X1 X2 KA
    have PK := Lib.hid hpk
    obtain ⟨mg, hmg⟩ : ∃ mg, (pk == 1) = mg := ⟨_, rfl⟩
    clear hpk x0
    dsimp only
    go_upto_block 2 with fail
    try rw [hmg]
    refine inner (mg := mg) (by omega) IL M2 ?_
    intros
    rename_i wx D5
    clear M2
    obtain ⟨k, hk⟩ := At.ex RL.out x.s x.e
    have AT := Lib.hid hk
    clear hk
    have IL5 := Lib.hid (IL.out.next D5.out.below)
    obtain ⟨fp, isv, hF, hy, hno⟩ := find_any (.slice AV L.length vcap) L b k x.s x.e wx IL5 (by omega) AT
    have HY := Lib.hid hy
    have HNO := Lib.hid hno
    have HF := Lib.hid hF
    clear hy hno hF
    have d1 := D5.out.deed.cell (i := 1) rfl
    have d2 := D5.out.deed.cell (i := 2) rfl
    go_wp2_with fail
    refine HF.out.mono ?_
    rintro e w6 ⟨rfl, k6⟩
    have K6 := Lib.hid (after k6 (below1 w6 (Obj.cells #[.string fp.key, .int .i64 fp.s, .int .i64 fp.e, .int .i64 fp.c, .int .i64 fp.m, .int .i64 fp.l, .int .i64 fp.u] 33)))
    have N6 := Lib.hid (Lies.new w6 33 fp.cl)
    have N6 : Hid (Lies (w6.alloc (Obj.cells #[.string fp.key, .int .i64 fp.s, .int .i64 fp.e, .int .i64 fp.c, .int .i64 fp.m, .int .i64 fp.l, .int .i64 fp.u] 33)) w6.heap.size 33 fp.cl) := N6
    have D6 := Lib.hid (D5.out.next K6.out)
    have IL6 := Lib.hid (IL5.out.next K6.out)
    clear k6 d1 d2 D5 IL5 HF
    dsimp only
    go_wp2_with fail
    obtain ⟨gf, hgf⟩ : ∃ g, g = w6.heap.size := ⟨_, rfl⟩
    rw [← hgf] at N6 ⊢
    clear hgf
    generalize w6.alloc (Obj.cells #[.string fp.key, .int .i64 fp.s, .int .i64 fp.e, .int .i64 fp.c, .int .i64 fp.m, .int .i64 fp.l, .int .i64 fp.u] 33) = w7 at *
    refine (of_ok _ L b key _ IL6 (by omega) KL).mono ?_
    rintro e w8 ⟨v18, rfl, o8, k8⟩
    have O8 := Lib.hid o8
    have D8 := Lib.hid (D6.out.next k8)
    have IL8 := Lib.hid (IL6.out.next k8)
    have N8 := Lib.hid (N6.out.next k8)
    clear o8 k8 D6 IL6 N6 K6
    dsimp only
    obtain ⟨X, hX⟩ : ∃ X, X = (metH mg x.s x.e L).foldl join2 (one key x.s x.e x.v) := ⟨_, rfl⟩
    rw [← hX] at D8
    have HX := Lib.hid hX
    clear hX
    obtain ⟨br, -, ir⟩ := D8.out.rest.is
    obtain ⟨RV, rc, hv⟩ := ir.len
    subst hv
    have IR := Lib.hid ir
    obtain ⟨bm, -, im⟩ := D8.out.met.is
    obtain ⟨MV, mc, hv⟩ := im.len
    obtain ⟨ml, hml⟩ : ∃ ml, ml = (wins (metH mg x.s x.e L)).length := ⟨_, rfl⟩
    rw [← hml] at hv
    subst hv
    have IM := Lib.hid im
    have HML := Lib.hid hml
    obtain ⟨b18, -, i18⟩ := O8.out.is
    have I18 := Lib.hid i18
    have hlr : (restH mg x.s x.e L).length ≤ L.length := List.length_filter_le _ _
    have KB := Lib.hid D8.out.below
    clear ir im hml i18 O8
    go_upto_if 154 with fail
    rcases PK.out with rfl | rfl | rfl
    · obtain rfl : mg = false := hmg.symm
      obtain ⟨MK, hput⟩ := put_all x.v RL.out KL.out AT.out (by omega) X HX.out
      have PUT := Lib.hid hput
      have MK := Lib.hid MK
      clear hput HNO HY
      refine wp_cond_false (show _ = Value.bool false from rfl) ?_
      obtain ⟨⟨z0, z1, z2, z3, z4, z5, z6⟩, -⟩ := seven D8.out.one
      go_wp2_with fail
      refine (set_ok _ (restH false x.s x.e L) br k X _ IR (by omega) (Lib.hid MK.out.at_)).mono ?_
      rintro e w9 ⟨v23, rfl, o9, k9⟩
      obtain ⟨b23, -, i23⟩ := o9.is
      have I23 := Lib.hid i23
      have IL9 := Lib.hid (IL8.out.next k9)
      have I189 := Lib.hid (I18.out.next k9)
      have D9 := Lib.hid (D8.out.deed.next k9)
      have K9 := Lib.hid (after KB.out k9)
      clear o9 i23 k9 D8 IR IM IL8 I18 N8 z0 z1 z2 z3 z4 z5 z6
      dsimp only
      go_upto_if 219 with fail
      refine wp_cond_false (show _ = Value.bool false from rfl) ?_
      refine putArm (b := b) (L := L) (W := (restH false x.s x.e L).take k ++ X :: (restH false x.s x.e L).drop k) (by rw [ins_len]; omega) D9 I23 (Lib.hid (PUT.out _ b _ IL9)) ?_
      intros
      rename_i wy ky
      have IL10 := Lib.hid (IL9.out.next ky.out)
      have I1810 := Lib.hid (I189.out.next ky.out)
      have I2310 := Lib.hid (I23.out.next ky.out)
      have K10 := Lib.hid (after K9.out ky.out)
      clear ky IL9 I189 I23 K9 D9
      go_wp2_with fail
      refine (same_yes _ v18 L b b18 _ IL10 I1810 (by omega)).mono ?_
      rintro r w11 ⟨rfl, k11⟩
      dsimp only
      go_wp2_with fail
      exact ⟨Lib.hid ⟨_, b23, MK.out.rises, MK.out.key, by have := MK.out.len; omega, I2310.out.next k11⟩, Lib.hid (after K10.out k11)⟩
    · obtain rfl : mg = true := hmg.symm
      refine wp_cond_false (show _ = Value.bool false from rfl) ?_
      go_upto_block 4 with fail
      refine dup4 (x := (X.s, X.e)) (R := restH true x.s x.e L) (by omega) IR (Lib.hid (D8.out.one.cell (i := 1) rfl)) (Lib.hid (D8.out.one.cell (i := 2) rfl)) ?_ ?_
      · intros
        rename_i kz
        apply hR
        exact Lib.hid (after KB.out kz.out)
      · intros
        rename_i wz hz
        obtain ⟨NO, kz⟩ := hz
        obtain ⟨kp, MK, hmrg⟩ := mrg_all x.v RL.out KL.out (by omega) X HX.out NO.out
        have MRG := Lib.hid hmrg
        have MK := Lib.hid MK
        have D9 := Lib.hid (D8.out.next kz.out)
        have IR9 := Lib.hid (IR.out.next kz.out)
        have IM9 := Lib.hid (IM.out.next kz.out)
        have IL9 := Lib.hid (IL8.out.next kz.out)
        have I189 := Lib.hid (I18.out.next kz.out)
        have K9 := Lib.hid (after KB.out kz.out)
        clear hmrg HNO HY NO kz D8 IR IM IL8 I18 N8 KB
        obtain ⟨⟨z0, z1, z2, z3, z4, z5, z6⟩, -⟩ := seven D9.out.one
        go_wp2_with fail
        refine (set_ok _ (restH true x.s x.e L) br kp X _ IR9 (by omega) (Lib.hid MK.out.at_)).mono ?_
        rintro e w9 ⟨v23, rfl, o9, k9⟩
        obtain ⟨b23, -, i23⟩ := o9.is
        have I23 := Lib.hid i23
        have IL10 := Lib.hid (IL9.out.next k9)
        have I1810 := Lib.hid (I189.out.next k9)
        have IM10 := Lib.hid (IM9.out.next k9)
        have D10 := Lib.hid (D9.out.next k9)
        have K10 := Lib.hid (after K9.out k9)
        clear o9 i23 k9 D9 IR9 IM9 IL9 I189 K9 z0 z1 z2 z3 z4 z5 z6
        dsimp only
        go_upto_if 219 with fail
        refine wp_cond_true (show _ = Value.bool true from rfl) ?_
        obtain ⟨M, hM⟩ : ∃ M, M = wins (metH true x.s x.e L) := ⟨_, rfl⟩
        have hMl : M.length ≤ L.length := by rw [hM, List.length_map]; exact List.length_filter_le _ _
        have hml := HML.out
        rw [← hM] at hml IM10
        subst hml
        refine mrgArm (b := b) (L := L) (M := M) (x := (X.s, X.e)) (W := (restH true x.s x.e L).take kp ++ X :: (restH true x.s x.e L).drop kp) (by rw [ins_len]; omega) (by omega) (Lib.hid D10.out.deed) I23 IM10 (Lib.hid (D10.out.one.cell (i := 1) rfl)) (Lib.hid (D10.out.one.cell (i := 2) rfl)) (Lib.hid (by rw [hM]; exact MRG.out _ b _ IL10)) ?_
        intros
        rename_i wy ky
        have IL11 := Lib.hid (IL10.out.next ky.out)
        have I1811 := Lib.hid (I1810.out.next ky.out)
        have I2311 := Lib.hid (I23.out.next ky.out)
        have K11 := Lib.hid (after K10.out ky.out)
        clear ky IL10 I1810 I23 K10 D10 IM10
        go_wp2_with fail
        refine (same_yes _ v18 L b b18 _ IL11 I1811 (by omega)).mono ?_
        rintro r w11 ⟨rfl, k11⟩
        dsimp only
        go_wp2_with fail
        exact ⟨Lib.hid ⟨_, b23, MK.out.rises, MK.out.key, by have := MK.out.len; omega, I2311.out.next k11⟩, Lib.hid (after K11.out k11)⟩
    · obtain rfl : mg = false := hmg.symm
      refine wp_cond_true (show _ = Value.bool true from rfl) ?_
      cases isv
      · obtain ⟨rfl, hno⟩ := HNO.out rfl
        obtain ⟨r1, r2⟩ := no_hit (not_found RL.out AT.out hno)
        have hml := HML.out
        rw [r2] at hml
        obtain rfl : ml = 0 := hml
        have IR2 : ∀ R, R = restH false x.s x.e L → Hid (Sl.Is Pn.k w8 (.slice RV (restH false x.s x.e L).length rc) R br) := fun R h => by rw [h]; exact IR
        refine cutNo (n := i + 1) (by omega) (by omega) RL KL IL8 AT (Lib.hid hno) (IR2 _ r1.symm) N8 (Lib.hid D8.out.deed) ?_ ?_
        · intros
          rename_i hz
          apply hK
          exact ⟨hz.1, Lib.hid (after KB.out hz.2.out)⟩
        · intros
          contradiction
      · obtain ⟨h1, h2⟩ := HY.out rfl
        obtain ⟨r1, r2⟩ := one_hit RL.out AT.out h1 h2
        have hml := HML.out
        rw [r2] at hml
        obtain rfl : ml = 1 := hml
        have IR2 : ∀ R, R = restH false x.s x.e L → Hid (Sl.Is Pn.k w8 (.slice RV (restH false x.s x.e L).length rc) R br) := fun R h => by rw [h]; exact IR
        refine cutYes (n := i + 1) (by omega) (by omega) RL KL IL8 AT (Lib.hid h1) (Lib.hid h2) (IR2 _ r1.symm) N8 (Lib.hid D8.out.deed) (by omega) ?_ ?_
        · intros
          rename_i hz
          apply hK
          exact ⟨hz.1, Lib.hid (after KB.out hz.2.out)⟩
        · intros
          contradiction

end Go.Proofs.Ytnheehodgkagfaa.panePlays
