/-
  ShardPlays: the switch's arms: what is sent, and what the document tells of it.
-/
import Derived.Test.YtmklkiklegkioaaGreatSpMems
import Derived.Deep.RegionHeld3
import Derived.Deep.CutBlock
import Derived.Deep.DeepCutAuto
namespace Go.Proofs.YtmklkiklegkioaaGreat
open Go.ChangeShapes Go.WideShapes Go.ChangeAt Go.RowKit
set_option maxRecDepth 100000
set_option linter.unusedVariables false
namespace Sp
open Small Foot Pane Grp Ca Md Sh Rg Rm
set_option maxHeartbeats 32000000 in
theorem arms {w w7 : World} {nn gc bm gl gd gm gw wk N nK jx : Nat} {cf : C8} {p MM : Int → Option Nat} {FF FR : Int → Nat → Prop} {S : Int → Lists} {n : Int → Nat} {ko kd : Option Nat} {SK : Lists} {RR : Int → List Pn} {RK : List Pn} {lc : List Value} {kx g wc g0 mk : Int} {cl : Bool} {y : Cl} {R7 : Nat → Nat → Prop} {v : Int} {u0 u1 u2 u4 u5 u6 u7 u8 u9 u10 u12 u14 u15 u23 u24 u25 u26 u27 u28 u29 u30 u31 u32 u33 u34 u35 u36 u37 u38 u39 u40 u41 u42 u43 u44 u45 u46 u47 u48 u49 u50 u51 u52 u53 u54 u55 u56 u57 u58 u59 u60 u61 u62 u63 u64 u65 u66 u67 u68 u69 u70 u71 u72 u73 u74 u75 u76 u77 u78 u79 u80 u81 u82 u83 u84 u85 u86 u87 u88 u89 u90 u91 u92 u93 u94 u95 u96 u97 u98 u99 u100 u101 u102 u103 u104 u105 u106 u107 u108 u109 u110 u111 u112 u113 u114 u115 u116 u117 u118 u119 u120 u121 u122 u123 u124 u125 u126 u127 u128 u129 u130 u131 u132 u133 u134 u135 u136 u137 u138 u139 u140 u141 u142 u143 u144 u145 u146 u147 u148 u149 u150 u151 u153 u154 u155 u156 u157 u158 u159 u160 u161 u162 u163 u164 u165 u166 u167 u168 u169 u170 u171 u172 u173 u174 u175 u176 u177 u178 u179 u180 u181 u182 u183 u184 u185 u186 u187 u188 u189 u190 u191 u192 u193 u194 u195 u196 u197 u198 u199 u200 u201 u202 u203 u204 u205 u206 u207 u208 u209 u210 u211 u212 u213 u214 u215 u216 u217 u218 u219 u220 u221 u222 u223 u224 u225 u226 u227 u228 u229 u230 u231 u232 u233 u234 u235 u236 u237 u238 u239 u240 u241 u242 u243 u244 u245 u246 u247 u248 u249 u250 u251 u252 u253 u254 u255 u256 u257 u258 u259 u260 u261 u262 u263 u264 u265 u266 u267 u268 u269 u270 u271 u272 u273 u274 u275 u276 u277 u278 u279 u280 u281 u282 u283 u284 u285 u286 u287 u288 u289 u290 u291 u292 u293 u294 u295 u296 u297 u298 u299 u300 u301 u302 u303 u304 u305 u306 u307 u308 u309 u310 u311 u312 u313 u314 u315 u316 u317 u318 u319 u320 u321 u322 u323 u324 u325 u326 u327 u328 u329 u330 u331 u332 u333 u334 u335 u336 u337 u338 u339 u340 u341 u342 u343 u344 u345 u346 u347 u348 u349 u350 u351 u352 u353 u354 : Value} {K : Act → World → Prop} {Q : Exit → Act → World → Prop}
    (P7 : Hid (PM w wk cf p p FF S N n [] ko SK nK MM FR RR kd RK [⟨gc, 23, cf.cl⟩, ⟨bm, 37, ml MM nn⟩, ⟨gl, 49, lc⟩, ⟨gd, 51, [.int .i64 wc, .int .i64 y.op, .string y.key, .int .i64 y.t, .int .i64 y.v, .int .i64 y.e, .int .i64 y.u, .int .i64 y.s, .int .i64 g0, .int .i64 mk, .bool cl]⟩, ⟨gm, 45, Ms.cl ⟨0, jx, y, g, none⟩⟩, ⟨gw, 47, [.int .i64 0, .slice none 0 0]⟩] R7 w7)) (LL : Hid (LS nn p MM S RR ko kd SK RK lc kx)) (NN : Hid (cf.r = nn)) (M : Hid (Asg.may cf.k cf.s cf.l cf.g cf.z cf.h cf.r cf.c)) (CF : Hid (cfOf cf).Fit) (fx : Hid y.Fit) (fk : Hid ((Lit.int .i64 mk).wf = true)) (hkm : Hid (y.key.size ≤ maxLen)) (hN : N ≤ 800) (hv : 0 ≤ v ∧ v < 6)
    (hK : ∀ (t21 t22 t23 t24 t25 t26 t153 t154 t155 t156 t157 t158 t159 t160 t161 t162 t163 t164 t165 t166 t167 t168 t169 t170 t171 t172 t173 t174 t175 t176 t177 t178 t179 t180 t181 t182 t183 t184 t185 t186 t187 t188 t189 t190 t191 t192 t193 t194 t195 t196 t197 t198 t199 t200 t201 t202 t203 t204 t205 t206 t207 t208 t209 t210 t211 t212 t213 t214 t215 t216 t217 t218 t219 t220 t221 t222 t223 t224 t225 t226 : Value) (wx : World), Sent w wk cf nn gc bm gl gd gm gw p FF S N n ko SK nK MM kd RK lc ⟨wc, y, g0, mk, cl⟩ jx g kx RR v t21 t22 wx → K ⟨#[u0, u1, u2, .pointer (some ⟨gc, 0, none⟩), u4, u5, u6, u7, u8, u9, u10, .slice (some ⟨bm, 0, none⟩) nn nn, u12, .pointer (some ⟨gl, 0, none⟩), u14, u15, .pointer (some ⟨gd, 0, none⟩), .int .i64 v, .int .i64 g, .pointer (some ⟨gm, 0, none⟩), .pointer (some ⟨gw, 0, none⟩), t21, t22, t23, t24, t25, t26, u27, u28, u29, u30, u31, u32, u33, u34, u35, u36, u37, u38, u39, u40, u41, u42, u43, u44, u45, u46, u47, u48, u49, u50, u51, u52, u53, u54, u55, u56, u57, u58, u59, u60, u61, u62, u63, u64, u65, u66, u67, u68, u69, u70, u71, u72, u73, u74, u75, u76, u77, u78, u79, u80, u81, u82, u83, u84, u85, u86, u87, u88, u89, u90, u91, u92, u93, u94, u95, u96, u97, u98, u99, u100, u101, u102, u103, u104, u105, u106, u107, u108, u109, u110, u111, u112, u113, u114, u115, u116, u117, u118, u119, u120, u121, u122, u123, u124, u125, u126, u127, u128, u129, u130, u131, u132, u133, u134, u135, u136, u137, u138, u139, u140, u141, u142, u143, u144, u145, u146, u147, u148, u149, u150, u151, .int .i64 v, t153, t154, t155, t156, t157, t158, t159, t160, t161, t162, t163, t164, t165, t166, t167, t168, t169, t170, t171, t172, t173, t174, t175, t176, t177, t178, t179, t180, t181, t182, t183, t184, t185, t186, t187, t188, t189, t190, t191, t192, t193, t194, t195, t196, t197, t198, t199, t200, t201, t202, t203, t204, t205, t206, t207, t208, t209, t210, t211, t212, t213, t214, t215, t216, t217, t218, t219, t220, t221, t222, t223, t224, t225, t226, u227, u228, u229, u230, u231, u232, u233, u234, u235, u236, u237, u238, u239, u240, u241, u242, u243, u244, u245, u246, u247, u248, u249, u250, u251, u252, u253, u254, u255, u256, u257, u258, u259, u260, u261, u262, u263, u264, u265, u266, u267, u268, u269, u270, u271, u272, u273, u274, u275, u276, u277, u278, u279, u280, u281, u282, u283, u284, u285, u286, u287, u288, u289, u290, u291, u292, u293, u294, u295, u296, u297, u298, u299, u300, u301, u302, u303, u304, u305, u306, u307, u308, u309, u310, u311, u312, u313, u314, u315, u316, u317, u318, u319, u320, u321, u322, u323, u324, u325, u326, u327, u328, u329, u330, u331, u332, u333, u334, u335, u336, u337, u338, u339, u340, u341, u342, u343, u344, u345, u346, u347, u348, u349, u350, u351, u352, u353, u354], []⟩ wx) :
    Code.wp Tryz.prog b4 (Exit.then K Q) ⟨#[u0, u1, u2, .pointer (some ⟨gc, 0, none⟩), u4, u5, u6, u7, u8, u9, u10, .slice (some ⟨bm, 0, none⟩) nn nn, u12, .pointer (some ⟨gl, 0, none⟩), u14, u15, .pointer (some ⟨gd, 0, none⟩), .int .i64 v, .int .i64 g, .pointer (some ⟨gm, 0, none⟩), .pointer (some ⟨gw, 0, none⟩), .bool false, .slice none 0 0, u23, u24, u25, u26, u27, u28, u29, u30, u31, u32, u33, u34, u35, u36, u37, u38, u39, u40, u41, u42, u43, u44, u45, u46, u47, u48, u49, u50, u51, u52, u53, u54, u55, u56, u57, u58, u59, u60, u61, u62, u63, u64, u65, u66, u67, u68, u69, u70, u71, u72, u73, u74, u75, u76, u77, u78, u79, u80, u81, u82, u83, u84, u85, u86, u87, u88, u89, u90, u91, u92, u93, u94, u95, u96, u97, u98, u99, u100, u101, u102, u103, u104, u105, u106, u107, u108, u109, u110, u111, u112, u113, u114, u115, u116, u117, u118, u119, u120, u121, u122, u123, u124, u125, u126, u127, u128, u129, u130, u131, u132, u133, u134, u135, u136, u137, u138, u139, u140, u141, u142, u143, u144, u145, u146, u147, u148, u149, u150, u151, .int .i64 v, u153, u154, u155, u156, u157, u158, u159, u160, u161, u162, u163, u164, u165, u166, u167, u168, u169, u170, u171, u172, u173, u174, u175, u176, u177, u178, u179, u180, u181, u182, u183, u184, u185, u186, u187, u188, u189, u190, u191, u192, u193, u194, u195, u196, u197, u198, u199, u200, u201, u202, u203, u204, u205, u206, u207, u208, u209, u210, u211, u212, u213, u214, u215, u216, u217, u218, u219, u220, u221, u222, u223, u224, u225, u226, u227, u228, u229, u230, u231, u232, u233, u234, u235, u236, u237, u238, u239, u240, u241, u242, u243, u244, u245, u246, u247, u248, u249, u250, u251, u252, u253, u254, u255, u256, u257, u258, u259, u260, u261, u262, u263, u264, u265, u266, u267, u268, u269, u270, u271, u272, u273, u274, u275, u276, u277, u278, u279, u280, u281, u282, u283, u284, u285, u286, u287, u288, u289, u290, u291, u292, u293, u294, u295, u296, u297, u298, u299, u300, u301, u302, u303, u304, u305, u306, u307, u308, u309, u310, u311, u312, u313, u314, u315, u316, u317, u318, u319, u320, u321, u322, u323, u324, u325, u326, u327, u328, u329, u330, u331, u332, u333, u334, u335, u336, u337, u338, u339, u340, u341, u342, u343, u344, u345, u346, u347, u348, u349, u350, u351, u352, u353, u354], []⟩ w7 := by
  have hvv : (v = 0 ∨ v = 1 ∨ v = 2) ∨ v = 3 ∨ v = 4 ∨ v = 5 := by omega
  clear hv
  conv => arg 2; whnf
  rcases hvv with hvv | rfl | rfl | rfl
  · rcases hvv with rfl | rfl | rfl
    all_goals
      as_aux_lemma =>
        have M7 := Lib.hid (P7.out.box (i := 4) rfl)
        have m0 := M7.out.cell (i := 0) rfl
        have f0 := M7.out.open_ 0
        have l8 := (P7.out.box (i := 4) rfl).put 0 (.int .i64 1)
        have P8 := Lib.hid (P7.out.setb (i := 4) rfl (grown_set _ _ _ _) l8)
        simp only [List.set_cons_succ, List.set_cons_zero] at P8
        clear l8 M7
        go_upto_region 36 with fail
        clear m0 f0 P7
        generalize w7.setCell ⟨gm, 0, none⟩ (.int .i64 1) = w8 at P8 ⊢
        have X8 := Lib.hid (P8.out.box (i := 0) rfl)
        have D8 := Lib.hid (P8.out.box (i := 3) rfl)
        have x0 := X8.out.cell (i := 0) rfl
        have x1 := X8.out.cell (i := 1) rfl
        have x2 := X8.out.cell (i := 2) rfl
        have x3 := X8.out.cell (i := 3) rfl
        have x4 := X8.out.cell (i := 4) rfl
        have x5 := X8.out.cell (i := 5) rfl
        have x6 := X8.out.cell (i := 6) rfl
        have x7 := X8.out.cell (i := 7) rfl
        have d0 := D8.out.cell (i := 0) rfl
        have d1 := D8.out.cell (i := 1) rfl
        have d2 := D8.out.cell (i := 2) rfl
        have d3 := D8.out.cell (i := 3) rfl
        have d4 := D8.out.cell (i := 4) rfl
        have d5 := D8.out.cell (i := 5) rfl
        have d6 := D8.out.cell (i := 6) rfl
        have d7 := D8.out.cell (i := 7) rfl
        have d8 := D8.out.cell (i := 8) rfl
        have d9 := D8.out.cell (i := 9) rfl
        have d10 := D8.out.cell (i := 10) rfl
        have r16 : Hid (1 ≤ cf.r ∧ cf.r ≤ 16) := Lib.hid (by have := M.out; unfold Asg.may at this; omega)
        obtain ⟨b, hb⟩ : ∃ b : Bool, b = true ↔ mayC (cfOf cf) y := by classical exact ⟨decide (mayC (cfOf cf) y), by simp⟩
        have HB := Lib.hid hb
        clear hb
        go_wp2_with fail
        refine (Ca.rmay_ok (cfOf cf) y w8 b HB CF.out fx.out).mono ?_
        rintro r w9 ⟨rfl, k9⟩
        dsimp only
        have P9 := Lib.hid (P8.out.next k9)
        have X9 := Lib.hid (X8.out.next k9)
        have D9 := Lib.hid (D8.out.next k9)
        clear k9 P8 X8 D8 x0 x1 x2 x3 x4 x5 x6 x7 d0 d1 d2 d3 d4 d5 d6 d7 d8 d9 d10
        have d0 := D9.out.cell (i := 0) rfl
        have d1 := D9.out.cell (i := 1) rfl
        have d2 := D9.out.cell (i := 2) rfl
        have d3 := D9.out.cell (i := 3) rfl
        have d4 := D9.out.cell (i := 4) rfl
        have d5 := D9.out.cell (i := 5) rfl
        have d6 := D9.out.cell (i := 6) rfl
        have d7 := D9.out.cell (i := 7) rfl
        have d8 := D9.out.cell (i := 8) rfl
        have d9 := D9.out.cell (i := 9) rfl
        have d10 := D9.out.cell (i := 10) rfl
        go_wp2_with fail
        refine (Ca.rkeyed_ok y w9).mono ?_
        rintro r w10 ⟨rfl, k10⟩
        dsimp only
        have P10 := Lib.hid (P9.out.next k10)
        have X10 := Lib.hid (X9.out.next k10)
        have D10 := Lib.hid (D9.out.next k10)
        clear k10 P9 X9 D9 d0 d1 d2 d3 d4 d5 d6 d7 d8 d9 d10
        by_cases hbk : b = true ∧ Ca.kd y.op = true
        case neg =>
          have HN : Hid (¬ (mayC (cfOf cf) y ∧ Ca.kd y.op = true)) := Lib.hid fun q => hbk ⟨HB.out.2 q.1, q.2⟩
          cases b with
          | false =>
            clear hbk
            go_wp2_with fail
            exact ⟨FR, RR, R7, ⟨1, jx, y, g, none⟩, false, 0, [], [], none, none, 0, 0, 0, 0, rfl, rfl, P10, Lib.hid (.nokey (by decide) HN.out), Lib.hid (VB.nil _ _ _), Lib.hid (VB.nil _ _ _)⟩
          | true =>
            have hk : Ca.kd y.op = false := by simpa using hbk
            clear hbk
            go_wp2_with fail
            exact ⟨FR, RR, R7, ⟨1, jx, y, g, none⟩, false, 0, [], [], none, none, 0, 0, 0, 0, rfl, rfl, P10, Lib.hid (.nokey (by decide) HN.out), Lib.hid (VB.nil _ _ _), Lib.hid (VB.nil _ _ _)⟩
        case pos =>
          obtain ⟨rfl, hk⟩ := hbk
          have HM := Lib.hid (HB.out.1 rfl)
          have HK := Lib.hid hk
          have x0 := X10.out.cell (i := 0) rfl
          have x1 := X10.out.cell (i := 1) rfl
          have x2 := X10.out.cell (i := 2) rfl
          have x3 := X10.out.cell (i := 3) rfl
          have x4 := X10.out.cell (i := 4) rfl
          have x5 := X10.out.cell (i := 5) rfl
          have x6 := X10.out.cell (i := 6) rfl
          have x7 := X10.out.cell (i := 7) rfl
          have d0 := D10.out.cell (i := 0) rfl
          have d1 := D10.out.cell (i := 1) rfl
          have d2 := D10.out.cell (i := 2) rfl
          have d3 := D10.out.cell (i := 3) rfl
          have d4 := D10.out.cell (i := 4) rfl
          have d5 := D10.out.cell (i := 5) rfl
          have d6 := D10.out.cell (i := 6) rfl
          have d7 := D10.out.cell (i := 7) rfl
          have d8 := D10.out.cell (i := 8) rfl
          have d9 := D10.out.cell (i := 9) rfl
          have d10 := D10.out.cell (i := 10) rfl
          go_wp2_with fail
          refine (Ca.rgroup_ok (cfOf cf) y w10 CF.out fx.out).mono ?_
          rintro r w11 ⟨rfl, k11⟩
          dsimp only
          have P11 := Lib.hid (P10.out.next k11)
          clear k11 P10 X10 D10 x0 x1 x2 x3 x4 x5 x6 x7 d0 d1 d2 d3 d4 d5 d6 d7 d8 d9 d10 hk
          obtain ⟨kn, hkn⟩ : ∃ kn : Nat, grpOf cf.r y = kn := ⟨(grpOf cf.r y).toNat, by have := grp_fit (y := y) HK.out r16.out.1; omega⟩
          have hkl : kn < nn := by have h1 := grp_fit (y := y) HK.out r16.out.1; have h2 := NN.out; omega
          have KN := Lib.hid hkn
          rw [hkn]
          clear hkn
          have D11 := Lib.hid (P11.out.box (i := 3) rfl)
          have L11 := Lib.hid (P11.out.box (i := 1) rfl)
          have d0 := D11.out.cell (i := 0) rfl
          have d1 := D11.out.cell (i := 1) rfl
          have d2 := D11.out.cell (i := 2) rfl
          have d3 := D11.out.cell (i := 3) rfl
          have d4 := D11.out.cell (i := 4) rfl
          have d5 := D11.out.cell (i := 5) rfl
          have d6 := D11.out.cell (i := 6) rfl
          have d7 := D11.out.cell (i := 7) rfl
          have d8 := D11.out.cell (i := 8) rfl
          have d9 := D11.out.cell (i := 9) rfl
          have d10 := D11.out.cell (i := 10) rfl
          have g11 := L11.out.cell (ml_at hkl)
          have hki : (kn : Int) < (nn : Int) := by omega
          have hki0 : (0 : Int) ≤ (kn : Int) := by omega
          have hki1 : (kn : Int) ≤ 16 := by have h1 := NN.out; have := r16.out; omega
          cases hmk : MM (kn : Int) with
          | none =>
            have HP : Hid (p (grpOf cf.r y) = none) := Lib.hid (by rw [KN.out]; exact (LL.out.same _).2 hmk)
            rw [hmk] at g11
            go_wp2_with fail
            exact ⟨FR, RR, R7, ⟨1, jx, y, g, none⟩, true, 0, [], [], none, none, 0, 0, 0, 0, rfl, rfl, P11, Lib.hid (.moved (by decide) HM.out HK.out HP.out), Lib.hid (VB.nil _ _ _), Lib.hid (VB.nil _ _ _)⟩
          | some da =>
            rw [hmk] at g11
            obtain ⟨a, hpa⟩ := Option.ne_none_iff_exists'.1 (show p (kn : Int) ≠ none from fun q => by rw [(LL.out.same _).1 q] at hmk; cases hmk)
            have HP : Hid (p (grpOf cf.r y) = some a) := Lib.hid (by rw [KN.out]; exact hpa)
            have HPA := Lib.hid hpa
            have HMK := Lib.hid hmk
            clear hpa hmk
            cases cl with
            | true =>
              have W11 := Lib.hid (P11.out.box (i := 5) rfl)
              have w0 := W11.out.cell (i := 0) rfl
              have w1 := W11.out.cell (i := 1) rfl
              have v0 := W11.out.open_ 0
              have v1 := W11.out.open_ 1
              have l12 := (W11.out.put 0 (.int .i64 3)).put 1 (.slice none 0 0)
              have P12 := Lib.hid (P11.out.setb (i := 5) rfl (grown_trans (grown_set _ _ _ _) (grown_set _ _ _ _)) l12)
              simp only [List.set_cons_succ, List.set_cons_zero] at P12
              clear l12 P11 W11
              go_wp2_with fail
              exact ⟨FR, RR, R7, ⟨1, jx, y, g, none⟩, false, 3, [], [], none, none, 0, 0, 0, 0, rfl, rfl, P12, Lib.hid (.closed (by decide) HM.out HK.out HP.out rfl), Lib.hid (VB.nil _ _ _), Lib.hid (VB.nil _ _ _)⟩
            | false =>
              go_upto_region 44 with fail
              clear d0 d1 d2 d3 d4 d5 d6 d7 d8 d9 d10 g11
              have G4 := Lib.hid (P11.out.docs.is (kn : Int) da HMK.out)
              have G5 := Lib.hid (P11.out.pool.is (kn : Int) a HPA.out)
              have pn : p (kn : Int) ≠ none := by rw [HPA.out]; simp
              have RP := Lib.hid (LL.out.rep (kn : Int) pn)
              have hR : (RR (kn : Int)).length ≤ 800 := by
                have h1 := Rr.count RP.out G5.out (by omega)
                have h2 := G5.out.few
                omega
              clear pn
              have FE := Lib.hid (Rr.ends RP.out G5.out)
              have DD := Lib.hid (rep_apart RP.out G5.out (by omega) y.key)
              have ft : Hid ((Lit.int .i64 y.t).wf = true) := Lib.hid fx.out.2.2.1
              have BC : Hid (cf.s ≤ 9223372036854775807 ∧ cf.l ≤ 9223372036854775807 ∧ cf.g ≤ 9223372036854775807 ∧ cf.z ≤ 9223372036854775807) := Lib.hid ⟨(Small.fit CF.out.2.1).2, (Small.fit CF.out.2.2.1).2, (Small.fit CF.out.2.2.2.1).2, (Small.fit CF.out.2.2.2.2.1).2⟩
              obtain ⟨z, hT⟩ := Asg.tells cf.k cf.s cf.l cf.g cf.z cf.h cf.r cf.c y.t (Small.fit ft.out).1 (Small.fit ft.out).2 M.out
              have T := Lib.hid hT
              clear hT
              have R4 : Hid (∀ i, FR (kn : Int) i → R7 4 i) := Lib.hid fun i hi => by rw [P11.out.r4]; exact ⟨_, by rw [HMK.out]; simp, hi⟩
              have NG : Hid (¬ (fun i => FR (kn : Int) i ∨ i = gw) bm ∧ ¬ (fun i => FR (kn : Int) i ∨ i = gw) gd ∧ ¬ FR (kn : Int) gw) := Lib.hid ⟨fun q => q.elim (fun q => P11.out.not_in (i := 1) rfl (j := 4) (by decide) (R4.out _ q)) fun q => P11.out.not_in (i := 1) rfl (j := 13) (by decide) (by rw [(P11.out.boxes 5 _ rfl).2]; exact q), fun q => q.elim (fun q => P11.out.not_in (i := 3) rfl (j := 4) (by decide) (R4.out _ q)) fun q => P11.out.not_in (i := 3) rfl (j := 13) (by decide) (by rw [(P11.out.boxes 5 _ rfl).2]; exact q), fun q => P11.out.not_in (i := 5) rfl (j := 4) (by decide) (R4.out _ q)⟩
              have W11 := Lib.hid (P11.out.box (i := 5) rfl)
              have CS : Hid (∀ w', Out.Wr (fun i => FR (kn : Int) i ∨ i = gw) w11 w' → w'.cell? ⟨bm, kn, none⟩ = some (Ms.stv (some da)) ∧ w'.cell? ⟨gd, 1, none⟩ = some (.int .i64 y.op) ∧ w'.cell? ⟨gd, 2, none⟩ = some (.string y.key) ∧ w'.cell? ⟨gd, 3, none⟩ = some (.int .i64 y.t) ∧ w'.cell? ⟨gd, 4, none⟩ = some (.int .i64 y.v) ∧ w'.cell? ⟨gd, 5, none⟩ = some (.int .i64 y.e) ∧ w'.cell? ⟨gd, 6, none⟩ = some (.int .i64 y.u) ∧ w'.cell? ⟨gd, 7, none⟩ = some (.int .i64 y.s) ∧ w'.cell? ⟨gd, 9, none⟩ = some (.int .i64 mk) ∧ Out.Wr (fun i => FR (kn : Int) i ∨ i = gw) w11 w') := Lib.hid fun w' h => ⟨wr_cell h NG.out.1 (by rw [← HMK.out]; exact L11.out.cell (ml_at hkl)), wr_cell h NG.out.2.1 (D11.out.cell (i := 1) rfl), wr_cell h NG.out.2.1 (D11.out.cell (i := 2) rfl), wr_cell h NG.out.2.1 (D11.out.cell (i := 3) rfl), wr_cell h NG.out.2.1 (D11.out.cell (i := 4) rfl), wr_cell h NG.out.2.1 (D11.out.cell (i := 5) rfl), wr_cell h NG.out.2.1 (D11.out.cell (i := 6) rfl), wr_cell h NG.out.2.1 (D11.out.cell (i := 7) rfl), wr_cell h NG.out.2.1 (D11.out.cell (i := 9) rfl), h⟩
              have CB : Hid (∀ w', w'.cell? ⟨bm, kn, none⟩ = some (Ms.stv (some da)) ∧ w'.cell? ⟨gd, 1, none⟩ = some (.int .i64 y.op) ∧ w'.cell? ⟨gd, 2, none⟩ = some (.string y.key) ∧ w'.cell? ⟨gd, 3, none⟩ = some (.int .i64 y.t) ∧ w'.cell? ⟨gd, 4, none⟩ = some (.int .i64 y.v) ∧ w'.cell? ⟨gd, 5, none⟩ = some (.int .i64 y.e) ∧ w'.cell? ⟨gd, 6, none⟩ = some (.int .i64 y.u) ∧ w'.cell? ⟨gd, 7, none⟩ = some (.int .i64 y.s) ∧ w'.cell? ⟨gd, 9, none⟩ = some (.int .i64 mk) ∧ Out.Wr (fun i => FR (kn : Int) i ∨ i = gw) w11 w' → Out.Wr (fun i => FR (kn : Int) i ∨ i = gw) w11 w') := Lib.hid fun w' h => h.2.2.2.2.2.2.2.2.2
              have WM : Hid (∀ {F' : Nat → Prop} {a b : World}, Moves (FR (kn : Int)) F' a b → Out.Wr (fun i => FR (kn : Int) i ∨ i = gw) a b) := Lib.hid fun V => (Out.Wr.of_moves V).more fun i hi => .inl hi
              go_region_held3 (fun w' => w'.cell? ⟨bm, kn, none⟩ = some (Ms.stv (some da)) ∧ w'.cell? ⟨gd, 1, none⟩ = some (.int .i64 y.op) ∧ w'.cell? ⟨gd, 2, none⟩ = some (.string y.key) ∧ w'.cell? ⟨gd, 3, none⟩ = some (.int .i64 y.t) ∧ w'.cell? ⟨gd, 4, none⟩ = some (.int .i64 y.v) ∧ w'.cell? ⟨gd, 5, none⟩ = some (.int .i64 y.e) ∧ w'.cell? ⟨gd, 6, none⟩ = some (.int .i64 y.u) ∧ w'.cell? ⟨gd, 7, none⟩ = some (.int .i64 y.s) ∧ w'.cell? ⟨gd, 9, none⟩ = some (.int .i64 mk) ∧ Out.Wr (fun i => FR (kn : Int) i ∨ i = gw) w11 w')
                (first | exact CS.out _ Out.Wr.drew | exact CS.out _ (Out.Wr.trans Out.Wr.drew (WM.out V12)) | exact CS.out _ (wr_set (wr_set (CB.out _ (by assumption)) (.inr rfl) _) (.inr rfl) _))
                (first | (go_at_call 12; refine (Rm.ask_ok y mk z _ (Lib.hid (G4.out.next (Below.refl _ _).drew)) (by omega) M BC ft fk FE DD HM.out.2.1.1 T).mono ?_; rintro r w12 ⟨rv, ov, code, PP, OO, Rx, F', rfl, ra, G12, V12, o12, oo12, -⟩; obtain ⟨Ar, nr, cr, rfl⟩ := lit_pn o12; obtain ⟨Ao, no, co, rfl⟩ := lit_pn oo12; have W12 := Lib.hid (V12.lies NG.out.2.2 W11.out.drew); have z0 := W12.out.cell (i := 0) rfl; have z1 := W12.out.cell (i := 1) rfl; have f0 := W12.out.open_ 0; have f1 := W12.out.open_ 1))
              have P12 := Lib.hid ((P11.out.next (Below.refl _ _).drew).dOne (x := (kn : Int)) HMK.out G12 V12)
              have l13 := (W12.out.put 0 (.int .i64 code)).put 1 (.slice Ar nr cr)
              have P13 := Lib.hid (P12.out.setb (i := 5) rfl (grown_trans (grown_set _ _ _ _) (grown_set _ _ _ _)) l13)
              simp only [List.set_cons_succ, List.set_cons_zero] at P13
              have HAS : Hid (∀ v : Int, v < 3 → Pend cf y jx g kx ko mk false p RR v ⟨1, jx, y, g, none⟩ false code PP OO (fun x => if x = (kn : Int) then Rx else RR x)) := Lib.hid fun v hv3 => by
                have q := Pend.has (cf := cf) (y := y) (fr := jx) (g := g) (kx := kx) (ko := ko) (mark := mk) (sh := false) (p := p) (RR := RR) hv3 HM.out HK.out HP.out rfl T.out (by rw [KN.out]; exact ra)
                rw [KN.out] at q
                exact q
              have sz : w11.drew.heap.size = w11.heap.size := rfl
              have gwl := W11.out.lt
              have vb : ∀ (u : Value) (X : List Pn), Sl.Own Pn.k w11.drew.heap.size w12 u X → VB w (rset R7 4 (UF MM fun y => if y = (kn : Int) then F' else FR y)) ((w12.setCell ⟨gw, 0, none⟩ (.int .i64 code)).setCell ⟨gw, 1, none⟩ (.slice Ar nr cr)) u X := fun u X o =>
                ⟨Gr.own_base (Gr.own_grown (b := gw) o (grown_trans (grown_set _ _ _ _) (grown_set _ _ _ _)) (by rw [sz]; exact gwl)) P11.out.fam.below.size, fun c hc => by
                  have h1 := (o.lt c hc).1
                  rw [rset_ne _ _ (by decide), rset_ne _ _ (by decide), rset_ne _ _ (by decide)]
                  refine ⟨fun q => ?_, fun q => ?_, fun q => ?_⟩
                  · have := P11.out.fam.in_ 0 c q; omega
                  · have := P11.out.fam.in_ 1 c q; omega
                  · have := P11.out.fam.in_ 2 c q; omega⟩
              have VR := Lib.hid (vb _ _ o12)
              have VO := Lib.hid (vb _ _ oo12)
              clear vb CS CB WM z0 z1 f0 f1 l13 P12 o12 oo12 ra G12 V12
              go_wp2_with fail
              exact ⟨_, _, _, ⟨1, jx, y, g, none⟩, false, code, PP, OO, Ar, Ao, nr, cr, no, co, rfl, rfl, P13, Lib.hid (HAS.out _ (by decide)), VR, VO⟩
  · as_aux_lemma =>
      have M7 := Lib.hid (P7.out.box (i := 4) rfl)
      have m0 := M7.out.cell (i := 0) rfl
      have f0 := M7.out.open_ 0
      have l8 := (P7.out.box (i := 4) rfl).put 0 (.int .i64 2)
      have P8 := Lib.hid (P7.out.setb (i := 4) rfl (grown_set _ _ _ _) l8)
      simp only [List.set_cons_succ, List.set_cons_zero] at P8
      clear l8 M7
      go_upto_region 47 with fail
      clear m0 f0 P7
      generalize w7.setCell ⟨gm, 0, none⟩ (.int .i64 2) = w8 at P8 ⊢
      have n16 : nn ≤ 16 := by have h1 := M.out; have h2 := NN.out; unfold Asg.may at h1; omega
      have HG := Lib.hid fun (x : Int) (h : MM x ≠ none) => (show ∃ a, p x = some a from Option.ne_none_iff_exists'.1 fun q => h ((LL.out.same x).1 q))
      have HL : Hid (∀ x, MM x ≠ none → (RR x).length ≤ 800 ∧ ∀ q ∈ RR x, (Lit.int .i64 q.e).wf = true) := Lib.hid fun x hx => by
        obtain ⟨a, ha⟩ := HG.out x hx
        have G := P8.out.pool.is x a ha
        have rp := LL.out.rep x (by rw [ha]; simp)
        have h1 := Rr.count rp G (by omega)
        have h2 := G.few
        exact ⟨by omega, Rr.ends rp G⟩
      have fz : Hid ((Lit.int .i64 cf.z).wf = true) := Lib.hid CF.out.2.2.2.2.1
      go_wp2_with fail
      go_loopw [22, 26] (fun so sk wr => ∃ (k : Nat) (FR1 : Int → Nat → Prop) (RR1 : Int → List Pn) (R1 : Nat → Nat → Prop) (A1 : Option Addr) (n1 c1 : Nat) (O : List Pn), k ≤ nn ∧ sk = .int .i64 k ∧ so = .slice A1 n1 c1 ∧ O.length ≤ k * 800 ∧ Hid (PM w wk cf p p FF S N n [] ko SK nK MM FR1 RR1 kd RK [⟨gc, 23, cf.cl⟩, ⟨bm, 37, ml MM nn⟩, ⟨gl, 49, lc⟩, ⟨gd, 51, [.int .i64 wc, .int .i64 y.op, .string y.key, .int .i64 y.t, .int .i64 y.v, .int .i64 y.e, .int .i64 y.u, .int .i64 y.s, .int .i64 g0, .int .i64 mk, .bool cl]⟩, ⟨gm, 45, Ms.cl ⟨2, jx, y, g, none⟩⟩, ⟨gw, 47, [.int .i64 0, .slice none 0 0]⟩] R1 wr) ∧ Hid (MkR cf.z mk RR (kt MM k) O RR1) ∧ Hid (Sl.Own Pn.k w.heap.size wr (.slice A1 n1 c1) O) ∧ Hid (∀ a, (Value.slice A1 n1 c1).ownBlock = some a → ∀ i, ¬ R1 i a)) (fun _ sk _ => nn - (intOf sk).toNat)
      case atStart => exact ⟨0, FR, RR, R7, none, 0, 0, [], Nat.zero_le _, rfl, rfl, Nat.zero_le _, P8, Lib.hid .nil, Lib.hid (Sl.Own.nil _ _ _), Lib.hid fun a h => (by cases h)⟩
      case round =>
        obtain ⟨k, FR1, RR1, R1, A1, n1, c1, O, hk, rfl, rfl, hO, P, MK, OW, NB⟩ := hrel
        have X9 := Lib.hid (P.out.box (i := 0) rfl)
        have x6 := X9.out.cell (i := 6) rfl
        rw [NN.out] at x6
        by_cases hlt : k < nn
        · have i1 : (k : Int) < (nn : Int) := by omega
          have i2 : (0 : Int) ≤ (k : Int) := by omega
          have i3 : (k : Int) ≤ 16 := by omega
          have L9 := Lib.hid (P.out.box (i := 1) rfl)
          have D9 := Lib.hid (P.out.box (i := 3) rfl)
          have g9 := L9.out.cell (ml_at hlt)
          cases hmk : MM (k : Int) with
          | none =>
            rw [hmk] at g9
            have MK2 : Hid (MkR cf.z mk RR (kt MM (k + 1)) O RR1) := Lib.hid (by rw [kt_no hmk]; exact MK.out)
            clear hmk
            go_wp2_with fail
            exact ⟨⟨k + 1, FR1, RR1, R1, A1, n1, c1, O, by omega, by go_num, rfl, by omega, P, MK2, OW, NB⟩, by first | (simp [intOf]; done) | (simp [intOf]; omega)⟩
          | some da =>
            rw [hmk] at g9
            have HMK := Lib.hid hmk
            clear hmk
            go_upto_region 51 with fail
            clear g9 x6
            have RX : Hid (RR1 (k : Int) = RR (k : Int)) := Lib.hid (MK.out.other fun q => by have := (kt_mem.1 q).2.1; omega)
            have HLK := Lib.hid (HL.out (k : Int) (by rw [HMK.out]; simp))
            have G4 := Lib.hid (P.out.docs.is (k : Int) da HMK.out)
            have R4 : Hid (∀ i, FR1 (k : Int) i → R1 4 i) := Lib.hid fun i hi => by rw [P.out.r4]; exact ⟨_, by rw [HMK.out]; simp, hi⟩
            have WM : Hid (∀ {F' : Nat → Prop} {a b : World}, Moves (FR1 (k : Int)) F' a b → Out.Wr (fun i => FR1 (k : Int) i ∨ (Value.slice A1 n1 c1).ownBlock = some i) a b) := Lib.hid fun V => (Out.Wr.of_moves V).more fun i hi => .inl hi
            have NG : Hid (¬ (fun i => FR1 (k : Int) i ∨ (Value.slice A1 n1 c1).ownBlock = some i) bm ∧ ¬ (fun i => FR1 (k : Int) i ∨ (Value.slice A1 n1 c1).ownBlock = some i) gd) := Lib.hid ⟨fun q => q.elim (fun q => P.out.not_in (i := 1) rfl (j := 4) (by decide) (R4.out _ q)) fun q => NB.out bm q 9 (by rw [(P.out.boxes 1 _ rfl).2]), fun q => q.elim (fun q => P.out.not_in (i := 3) rfl (j := 4) (by decide) (R4.out _ q)) fun q => NB.out gd q 11 (by rw [(P.out.boxes 3 _ rfl).2])⟩
            have CS : Hid (∀ w', Out.Wr (fun i => FR1 (k : Int) i ∨ (Value.slice A1 n1 c1).ownBlock = some i) wr w' → w'.cell? ⟨bm, k, none⟩ = some (Ms.stv (some da)) ∧ w'.cell? ⟨gd, 9, none⟩ = some (.int .i64 mk) ∧ Out.Wr (fun i => FR1 (k : Int) i ∨ (Value.slice A1 n1 c1).ownBlock = some i) wr w') := Lib.hid fun w' h => ⟨wr_cell h NG.out.1 (by rw [← HMK.out]; exact L9.out.cell (ml_at hlt)), wr_cell h NG.out.2 (D9.out.cell (i := 9) rfl), h⟩
            have CB : Hid (∀ w', w'.cell? ⟨bm, k, none⟩ = some (Ms.stv (some da)) ∧ w'.cell? ⟨gd, 9, none⟩ = some (.int .i64 mk) ∧ Out.Wr (fun i => FR1 (k : Int) i ∨ (Value.slice A1 n1 c1).ownBlock = some i) wr w' → Out.Wr (fun i => FR1 (k : Int) i ∨ (Value.slice A1 n1 c1).ownBlock = some i) wr w') := Lib.hid fun w' h => h.2.2
            go_region_held3 (fun w' => w'.cell? ⟨bm, k, none⟩ = some (Ms.stv (some da)) ∧ w'.cell? ⟨gd, 9, none⟩ = some (.int .i64 mk) ∧ Out.Wr (fun i => FR1 (k : Int) i ∨ (Value.slice A1 n1 c1).ownBlock = some i) wr w')
              (first | exact CS.out _ Out.Wr.drew | exact CS.out _ (Out.Wr.trans Out.Wr.drew (WM.out V9)) | exact CS.out _ (Out.Wr.trans (CB.out _ (by assumption)) (wr_grown Z2.out)))
              (first
                | (go_at_call 13; refine (Rr.settle_ok mk _ (Lib.hid (G4.out.next (Below.refl _ _).drew)) (by rw [RX.out]; have := HLK.out.1; omega) fz fk (Lib.hid (by rw [RX.out]; exact HLK.out.2))).mono ?_; rintro r w9 ⟨sv, Ok, T, F', rfl, ro, no, hlen, G9, V9, o9⟩; obtain ⟨As, ns, cs, rfl⟩ := lit_pn o9; obtain ⟨b9, -, i9⟩ := o9.is; have I9 := Lib.hid i9; have OW9 : Hid (Sl.Own Pn.k w.heap.size w9 (.slice A1 n1 c1) O) := Lib.hid (OW.out.move fun c hc => V9.block c (OW.out.lt c hc).2 fun q => NB.out c hc 4 (R4.out _ q)); have P9 := Lib.hid ((P.out.next (Below.refl _ _).drew).dOne (x := (k : Int)) HMK.out G9 V9); have NB9 : Hid (∀ c, (Value.slice A1 n1 c1).ownBlock = some c → ∀ i, ¬ rset R1 4 (UF MM fun y => if y = (k : Int) then F' else FR1 y) i c) := Lib.hid fun c hc => (P.out.next (Below.refl _ _).drew).dBeside HMK.out G9 V9 (NB.out c hc) (OW.out.lt c hc).2; have HOL : Hid (O.length + Ok.length ≤ (k + 1) * 800) := Lib.hid (by have := HLK.out.1; rw [RX.out] at hlen; omega); have HO2 : Hid (O.length + Ok.length ≤ 1048576) := Lib.hid (by have := HOL.out; omega); have SB : Hid (w.heap.size ≤ w9.heap.size) := Lib.hid P9.out.fam.below.size)
                | (refine step_append_pn rfl (.tmp 215) (.tmp 222) rfl (.slice A1 n1 c1) (.slice As ns cs) (by simp [Act.eval]) (by simp [Act.eval]) (base := w.heap.size) (l := O) (l2 := Ok) (b2 := b9) OW9.out I9.out HO2.out SB.out (fun A10 m10 c10 w10 z0 z1 z2 z3 => ?_); have Z2 := Lib.hid z2; have Z1 := Lib.hid z1; have Z3 := Lib.hid z3; clear z0 z1 z2 z3))
            have P10 := Lib.hid (P9.out.aside Z2.out fun c hc => ⟨(OW9.out.lt c hc).1, NB9.out c hc⟩)
            have NB10 : Hid (∀ c, (Value.slice A10 m10 c10).ownBlock = some c → ∀ i, ¬ rset R1 4 (UF MM fun y => if y = (k : Int) then F' else FR1 y) i c) := Lib.hid fun c hc => by
              rcases Z3.out with e | e
              · exact NB9.out c (e.symm.trans hc)
              · intro i q
                have h1 := P9.out.fam.in_ i c q
                have h2 := Option.some.inj (e.symm.trans hc)
                omega
            have MK10 : Hid (MkR cf.z mk RR (kt MM (k + 1)) (O ++ Ok) (fun j => if j = (k : Int) then T else RR1 j)) := Lib.hid (by rw [kt_yes HMK.out]; exact .snoc MK.out ro (fun q hq => by have := no q hq; omega))
            have HOL10 := HOL.out
            clear CS CB WM ro no G9 V9 o9 i9 hlen P9 OW9 NB9 Z2 Z3 HOL HO2
            go_wp2_with fail
            exact ⟨⟨k + 1, _, _, _, A10, m10, c10, O ++ Ok, by omega, by go_num, rfl, by rw [List.length_append]; exact HOL10, P10, MK10, Z1, NB10⟩, by first | (simp [intOf]; done) | (simp [intOf]; omega)⟩
        · obtain rfl : nn = k := by omega
          have i1 : ¬ ((nn : Int) < (nn : Int)) := by omega
          have HKS : Hid (KeysOf p (kt MM nn)) := Lib.hid (by
            have := keys_of LL.out.dom
            rw [kt_same LL.out.same] at this
            exact this)
          have VO : Hid (VB w R1 wr (.slice A1 n1 c1) O) := Lib.hid ⟨OW.out, fun a ha => ⟨NB.out a ha 0, NB.out a ha 1, NB.out a ha 2⟩⟩
          go_wp2_with fail
          exact ⟨FR1, RR1, R1, ⟨2, jx, y, g, none⟩, false, 0, [], O, none, A1, 0, 0, n1, c1, rfl, rfl, P, Lib.hid (.mark rfl HKS.out MK.out), Lib.hid (VB.nil _ _ _), VO⟩
  · as_aux_lemma =>
      have M7 := Lib.hid (P7.out.box (i := 4) rfl)
      have m0 := M7.out.cell (i := 0) rfl
      have f0 := M7.out.open_ 0
      have l8 := (P7.out.box (i := 4) rfl).put 0 (.int .i64 3)
      have P8 := Lib.hid (P7.out.setb (i := 4) rfl (grown_set _ _ _ _) l8)
      simp only [List.set_cons_succ, List.set_cons_zero] at P8
      clear l8 M7
      go_wp2_with fail
      exact ⟨FR, RR, R7, ⟨3, jx, y, g, none⟩, false, 0, [], [], none, none, 0, 0, 0, 0, rfl, rfl, P8, Lib.hid (.give rfl), Lib.hid (VB.nil _ _ _), Lib.hid (VB.nil _ _ _)⟩
  · as_aux_lemma =>
      have M7 := Lib.hid (P7.out.box (i := 4) rfl)
      have m0 := M7.out.cell (i := 0) rfl
      have f0 := M7.out.open_ 0
      have l8 := (P7.out.box (i := 4) rfl).put 0 (.int .i64 4)
      have P8 := Lib.hid (P7.out.setb (i := 4) rfl (grown_set _ _ _ _) l8)
      simp only [List.set_cons_succ, List.set_cons_zero] at P8
      clear l8 M7
      go_upto_region 30 with fail
      clear m0 f0
      generalize w7.setCell ⟨gm, 0, none⟩ (.int .i64 4) = w8 at P8 ⊢
      have L8 := Lib.hid (P8.out.box (i := 2) rfl)
      have M8 := Lib.hid (P8.out.box (i := 4) rfl)
      have q9 := L8.out.cell LL.out.c9
      have m9 := M8.out.cell (i := 9) rfl
      have f9 := M8.out.open_ 9
      have l9 := M8.out.put 9 (.int .i64 kx)
      have P9 := Lib.hid (P8.out.setb (i := 4) rfl (grown_set _ _ _ _) l9)
      simp only [List.set_cons_succ, List.set_cons_zero] at P9
      clear l9 P8 P7
      go_upto_region 31 with fail
      clear q9 m9 f9 L8 M8
      generalize w8.setCell ⟨gm, 9, none⟩ (.int .i64 kx) = w9 at P9 ⊢
      have L9 := Lib.hid (P9.out.box (i := 2) rfl)
      have M9 := Lib.hid (P9.out.box (i := 4) rfl)
      have q15 := L9.out.cell LL.out.c15
      have m10 := M9.out.cell (i := 10) rfl
      have f10 := M9.out.open_ 10
      have l10 := M9.out.put 10 (Ms.stv ko)
      have P10 := Lib.hid (P9.out.setb (i := 4) rfl (grown_set _ _ _ _) l10)
      simp only [List.set_cons_succ, List.set_cons_zero] at P10
      clear l10 P9 L9 M9
      go_wp2_with fail
      exact ⟨FR, RR, R7, ⟨4, jx, y, kx, ko⟩, false, 0, [], [], none, none, 0, 0, 0, 0, rfl, rfl, P10, Lib.hid (.have_ rfl), Lib.hid (VB.nil _ _ _), Lib.hid (VB.nil _ _ _)⟩
end Sp
end Go.Proofs.YtmklkiklegkioaaGreat
