/-
  TimerPlays: the switch's arm that drops one.
-/
import Derived.Test.YtomoophjcgahlaaTmrPlaysSt
namespace Go.Proofs.Ytomoophjcgahlaa.timerPlays
open Go.ChangeShapes Go.WideShapes Go.ChangeAt Go.RowKit Small Foot Tmr
set_option linter.unusedVariables false

set_option maxRecDepth 100000 in
set_option maxHeartbeats 8000000 in
theorem drop_arm {B w4 : World} {g gd b i vcap : Nat} {L : List Tm} {VA : Option Addr} {FF : Nat → Prop} {x : Deed} {at_ bi late : Int} {u0 u2 u3 u4 u5 u8 u12 u14 u15 u16 u17 u18 u19 u20 u21 u22 u23 u24 u25 u26 u27 u28 u29 u30 u31 u32 u33 u34 u35 u36 u37 u38 u39 u40 u41 u42 u43 u44 u45 u46 u47 u48 u49 u50 u51 u52 u53 u54 u55 u56 u57 u58 u59 u60 u61 u62 u63 u64 u65 u66 u67 u68 u69 u70 u71 u72 u73 u75 u76 u77 u78 u79 u80 u81 u82 u83 u84 u85 u86 u87 u88 u89 u90 u91 u92 u93 u94 u95 u96 u97 u98 u99 u100 u101 u102 u103 u104 u105 u106 u107 u108 u109 u110 u111 u112 u113 u114 u115 u116 u117 u118 u119 u120 u121 u122 u123 u124 u125 u126 u127 u128 u129 u130 u131 u132 u133 u134 u135 u136 u137 u138 u139 u140 u141 u142 u143 u144 u145 u146 u147 u148 u149 u150 u151 u152 u153 u154 u155 u156 u157 u158 u159 u160 u161 u162 u163 u164 u165 u166 u167 u168 u169 u170 u171 u172 u173 u174 u175 u176 u177 u178 u179 u180 u181 u182 u183 u184 u185 u186 u187 u188 u189 u190 u191 u192 u193 u194 u195 u196 u197 u198 u199 u200 u201 u202 u203 u204 u205 u206 u207 u208 u209 u210 u211 u212 u213 : Value} {K : Act → World → Prop} {Q : Exit → Act → World → Prop}
    (S4 : Hid (St B g L (.slice VA L.length vcap) b FF w4)) (X4 : Hid (Lies w4 gd 32 (dl x))) (Y4 : Hid (Lies w4 (gd + 1) 36 (Pn.of x.t).cl)) (HF : Hid (∀ k, FF k → k < gd))
    (HA : Hid (At L x.t L.length at_)) (FT : Hid (First L bi)) (fx : Hid (DFits x)) (hl : Hid ((Lit.int .i64 late).wf = true)) (hL : L.length ≤ i) (hi : i ≤ 100)
    (hK : ∀ (t7 t14 t15 t16 t75 t76 t77 t78 t79 t80 t81 t82 t83 t84 t85 t86 t87 t88 t89 t90 t91 t92 t93 t94 t95 t96 t97 t98 t99 t100 t101 t102 t103 t104 t105 t106 t107 t108 t109 t110 t111 t112 t113 t114 t115 t116 t117 t118 t119 t120 t121 t122 t123 t124 t125 t126 t127 t128 t129 t130 t131 t132 t133 t134 t135 t136 t137 t138 t139 t140 t141 t142 t143 t144 t145 t146 t147 t148 t149 t150 t151 t152 t153 t154 t155 t156 t157 t158 t159 t160 t161 t162 t163 t164 t165 t166 t167 t168 t169 t170 t171 t172 t173 : Value) (wx : World), (∃ L' b' F', L'.length ≤ i + 1 ∧ Hid (St B g L' t7 b' F' wx)) → K ⟨#[u0, .int .i64 late, u2, u3, u4, u5, tp g, t7, u8, .pointer (some ⟨gd, 0, none⟩), .pointer (some ⟨gd + 1, 0, none⟩), .int .i64 at_, u12, .int .i64 bi, t14, t15, t16, u17, u18, u19, u20, u21, u22, u23, u24, u25, u26, u27, u28, u29, u30, u31, u32, u33, u34, u35, u36, u37, u38, u39, u40, u41, u42, u43, u44, u45, u46, u47, u48, u49, u50, u51, u52, u53, u54, u55, u56, u57, u58, u59, u60, u61, u62, u63, u64, u65, u66, u67, u68, u69, u70, u71, u72, u73, .int .i64 2, t75, t76, t77, t78, t79, t80, t81, t82, t83, t84, t85, t86, t87, t88, t89, t90, t91, t92, t93, t94, t95, t96, t97, t98, t99, t100, t101, t102, t103, t104, t105, t106, t107, t108, t109, t110, t111, t112, t113, t114, t115, t116, t117, t118, t119, t120, t121, t122, t123, t124, t125, t126, t127, t128, t129, t130, t131, t132, t133, t134, t135, t136, t137, t138, t139, t140, t141, t142, t143, t144, t145, t146, t147, t148, t149, t150, t151, t152, t153, t154, t155, t156, t157, t158, t159, t160, t161, t162, t163, t164, t165, t166, t167, t168, t169, t170, t171, t172, t173, u174, u175, u176, u177, u178, u179, u180, u181, u182, u183, u184, u185, u186, u187, u188, u189, u190, u191, u192, u193, u194, u195, u196, u197, u198, u199, u200, u201, u202, u203, u204, u205, u206, u207, u208, u209, u210, u211, u212, u213], []⟩ wx) :
    Code.wp Try.prog b4 (Exit.then K Q) ⟨#[u0, .int .i64 late, u2, u3, u4, u5, tp g, .slice VA L.length vcap, u8, .pointer (some ⟨gd, 0, none⟩), .pointer (some ⟨gd + 1, 0, none⟩), .int .i64 at_, u12, .int .i64 bi, u14, u15, u16, u17, u18, u19, u20, u21, u22, u23, u24, u25, u26, u27, u28, u29, u30, u31, u32, u33, u34, u35, u36, u37, u38, u39, u40, u41, u42, u43, u44, u45, u46, u47, u48, u49, u50, u51, u52, u53, u54, u55, u56, u57, u58, u59, u60, u61, u62, u63, u64, u65, u66, u67, u68, u69, u70, u71, u72, u73, .int .i64 2, u75, u76, u77, u78, u79, u80, u81, u82, u83, u84, u85, u86, u87, u88, u89, u90, u91, u92, u93, u94, u95, u96, u97, u98, u99, u100, u101, u102, u103, u104, u105, u106, u107, u108, u109, u110, u111, u112, u113, u114, u115, u116, u117, u118, u119, u120, u121, u122, u123, u124, u125, u126, u127, u128, u129, u130, u131, u132, u133, u134, u135, u136, u137, u138, u139, u140, u141, u142, u143, u144, u145, u146, u147, u148, u149, u150, u151, u152, u153, u154, u155, u156, u157, u158, u159, u160, u161, u162, u163, u164, u165, u166, u167, u168, u169, u170, u171, u172, u173, u174, u175, u176, u177, u178, u179, u180, u181, u182, u183, u184, u185, u186, u187, u188, u189, u190, u191, u192, u193, u194, u195, u196, u197, u198, u199, u200, u201, u202, u203, u204, u205, u206, u207, u208, u209, u210, u211, u212, u213], []⟩ w4 := by
  have x1 := X4.out.cell (i := 1) rfl
  have x2 := X4.out.cell (i := 2) rfl
  have x3 := X4.out.cell (i := 3) rfl
  have x4 := X4.out.cell (i := 4) rfl
  conv => arg 2; whnf
  go_wp2_with fail
  refine (drop_foot _ x.t (Lib.hid S4.out.ts) (Lib.hid fx.out.2.1)).mono ?_
  rintro e w6 ⟨b1, n', F', rfl, hb1, hn', T', V'⟩
  rcases HA.out with ⟨rfl, hnot⟩ | ⟨k, rfl, hk9, hx9⟩
  · have hni : x.t ∉ L := fun q => by obtain ⟨j, hj⟩ := List.mem_iff_getElem?.1 q; exact hnot j (List.getElem?_eq_some_iff.1 hj).1 hj
    obtain rfl := false_of hb1 hni
    simp at hn'
    obtain ⟨b', SS⟩ := St.same S4.out hn'.symm T' (fun y => ⟨fun q => q.2, fun q => ⟨fun e => hni (e ▸ q), q⟩⟩) V'
    have SS := Lib.hid SS
    clear T' V' hnot hb1 hni hn' x1 x2 x3 x4
    go_wp2_with fail
    exact ⟨L, b', F', by omega, SS⟩
  · obtain rfl := true_of hb1 (List.mem_of_getElem? hx9)
    simp at hn'
    obtain ⟨bb, I6, -⟩ := is_moved S4.out.list S4.out.far V'
    have I6 := Lib.hid I6
    have T' := Lib.hid T'
    have V' := Lib.hid V'
    have HX9 := Lib.hid hx9
    have HN := Lib.hid hn'
    have HK : Hid (k < L.length) := Lib.hid (List.getElem?_eq_some_iff.1 hx9).1
    have HL : Hid (L.length ≤ 1000) := Lib.hid (by omega)
    clear hb1 hx9 hn' x1 x2 x3 x4
    go_wp2_with fail
    refine Reg.wp_cut Pn.ok 7 11 164 165 166 167 168 169 170 171 172 173 214 (by show _ = _; kernel_rfl) (by show _ = _; kernel_rfl) (by show _ = _; kernel_rfl) (by show _ = _; kernel_rfl) (by show _ = _; kernel_rfl) (by show _ = _; kernel_rfl) (by show _ = _; kernel_rfl) (by show _ = _; kernel_rfl) (by show _ = _; kernel_rfl) (by show _ = _; kernel_rfl) (by show _ = _; kernel_rfl) (by show _ = _; kernel_rfl) (by show _ = _; kernel_rfl) (by show _ = _; kernel_rfl) (by show _ = _; kernel_rfl) (by show _ = _; kernel_rfl) (by show _ = _; kernel_rfl) (by show _ = _; kernel_rfl) (by show _ = _; kernel_rfl) (by show _ = _; kernel_rfl)
      (L := L.map Pn.of) (m := k) (b := bb) I6.out (by rfl) (by rw [List.length_map]; exact HK.out) (by have := HL.out; rw [List.length_map]; omega) ?_
    intro fv v' w8 O KB
    obtain ⟨b', SS⟩ := St.shrink S4.out HX9.out HN.out T'.out V'.out KB O
    have SS := Lib.hid SS
    clear O KB T' V' I6
    simp only [List.drop_succ_cons, List.drop_zero]
    generalize fv 0 = y0
    generalize fv 1 = y1
    generalize fv 2 = y2
    generalize fv 3 = y3
    generalize fv 4 = y4
    generalize fv 5 = y5
    generalize fv 6 = y6
    generalize fv 7 = y7
    generalize fv 8 = y8
    go_wp2_with fail
    exact ⟨L.take k ++ L.drop (k + 1), b', F', by rw [List.length_append, List.length_take, List.length_drop]; omega, SS⟩

end Go.Proofs.Ytomoophjcgahlaa.timerPlays
