/-
  PanePlays: the arms of Put and of Merge: what was told is the list that was made by definition.
-/
import Derived.Test.YtnheehodgkagfaaPanePlaysCut
import Derived.Test.YtnheehodgkagfaaPanePlaysGone
import Derived.Test.YtnheehodgkagfaaPanePut
import Derived.Deep.CutBlock
namespace Go.Proofs.Ytnheehodgkagfaa.panePlays
open Go.ChangeShapes Go.WideShapes Go.ChangeAt Go.RowKit Small Pane
set_option linter.unusedVariables false

/-- what a cond does where slot k doesn't hold -/
def els (k : Nat) : Code → Option Code
  | .cond (.tmp j) a b => if j = k then some b else
    match els k a with
    | some x => some x
    | none => els k b
  | .seq a b => match els k a with
    | some c => some c
    | none => els k b
  | .loop c => els k c
  | .scope c => els k c
  | .block _ c => els k c
  | _ => none
noncomputable def bPut : Code := ((Try.f3.body.bind (els 219)).getD .skip)
noncomputable def bMrg : Code := ((Try.f3.body.bind (thn 219)).getD .skip)

set_option maxRecDepth 100000 in
set_option maxHeartbeats 8000000 in
theorem putArm {w4 : World} {g0 b bw vcap : Nat} {AV : Option Addr} {L W : List Pn} {vw : Value} {key : ByteArray} {d : Deed} {u0 u2 u3 u4 u7 u9 u10 u11 u12 u13 u14 u15 u16 u17 u18 u19 u20 u21 u22 u24 u25 u26 u27 u28 u29 u30 u31 u32 u33 u34 u35 u36 u37 u38 u39 u40 u41 u42 u43 u44 u45 u46 u47 u48 u49 u50 u51 u52 u53 u54 u55 u56 u57 u58 u59 u60 u61 u62 u63 u64 u65 u66 u67 u68 u69 u70 u71 u72 u73 u74 u75 u76 u77 u78 u79 u80 u81 u82 u83 u84 u85 u86 u87 u88 u89 u90 u91 u92 u93 u94 u95 u96 u97 u98 u99 u100 u101 u102 u103 u104 u105 u106 u107 u108 u109 u110 u111 u112 u113 u114 u115 u116 u117 u118 u119 u120 u121 u122 u123 u124 u125 u126 u127 u128 u129 u130 u131 u132 u133 u134 u135 u136 u137 u138 u139 u140 u141 u142 u143 u144 u145 u146 u147 u148 u149 u150 u151 u152 u153 u154 u155 u156 u157 u158 u159 u160 u161 u162 u163 u164 u165 u166 u167 u168 u169 u170 u171 u172 u173 u174 u175 u176 u177 u178 u179 u180 u181 u182 u183 u184 u185 u186 u187 u188 u189 u190 u191 u192 u193 u194 u195 u196 u197 u198 u199 u200 u201 u202 u203 u204 u205 u206 u207 u208 u209 u210 u211 u212 u213 u214 u215 u216 u217 u218 u219 u220 u221 u222 u223 u224 u225 u226 u227 u228 u229 u230 u231 u232 u233 u234 u235 u236 u237 u238 u239 u240 u241 u242 u243 u244 u245 u246 u247 u248 u249 u250 u251 u252 u253 u254 u255 u256 u257 u258 u259 u260 u261 u262 u263 u264 u265 u266 u267 u268 u269 u270 u271 u272 u273 u274 u275 u276 u277 u278 u279 u280 u281 u282 u283 u284 u285 u286 u287 u288 u289 u290 : Value} {K : Act → World → Prop} {Q : Exit → Act → World → Prop}
    (hW : W.length ≤ 1000) (D0 : Hid (Lies w4 g0 28 (dl d))) (IW : Hid (Sl.Is Pn.k w4 vw W bw)) (PUT : Hid (Calls Try.prog 17 #[.slice AV L.length vcap, .string key, win d.s d.e, .int .i64 d.v] w4 fun r w' => ∃ v', r = .returned v' ∧ Sl.Own Pn.k w4.heap.size w' v' W ∧ Below w4.heap.size w4 w'))
    (hK : ∀ (t275 t276 t277 t278 t279 t280 t281 t282 t283 t284 t4 : Value) (wx : World), Hid (Below w4.heap.size w4 wx) → K ⟨#[u0, .string key, u2, u3, t4, .bool true, .slice AV L.length vcap, u7, .pointer (some ⟨g0, 0, none⟩), u9, u10, u11, u12, u13, u14, u15, u16, u17, u18, u19, u20, u21, u22, vw, u24, u25, u26, u27, u28, u29, u30, u31, u32, u33, u34, u35, u36, u37, u38, u39, u40, u41, u42, u43, u44, u45, u46, u47, u48, u49, u50, u51, u52, u53, u54, u55, u56, u57, u58, u59, u60, u61, u62, u63, u64, u65, u66, u67, u68, u69, u70, u71, u72, u73, u74, u75, u76, u77, u78, u79, u80, u81, u82, u83, u84, u85, u86, u87, u88, u89, u90, u91, u92, u93, u94, u95, u96, u97, u98, u99, u100, u101, u102, u103, u104, u105, u106, u107, u108, u109, u110, u111, u112, u113, u114, u115, u116, u117, u118, u119, u120, u121, u122, u123, u124, u125, u126, u127, u128, u129, u130, u131, u132, u133, u134, u135, u136, u137, u138, u139, u140, u141, u142, u143, u144, u145, u146, u147, u148, u149, u150, u151, u152, u153, u154, u155, u156, u157, u158, u159, u160, u161, u162, u163, u164, u165, u166, u167, u168, u169, u170, u171, u172, u173, u174, u175, u176, u177, u178, u179, u180, u181, u182, u183, u184, u185, u186, u187, u188, u189, u190, u191, u192, u193, u194, u195, u196, u197, u198, u199, u200, u201, u202, u203, u204, u205, u206, u207, u208, u209, u210, u211, u212, u213, u214, u215, u216, u217, u218, u219, u220, u221, u222, u223, u224, u225, u226, u227, u228, u229, u230, u231, u232, u233, u234, u235, u236, u237, u238, u239, u240, u241, u242, u243, u244, u245, u246, u247, u248, u249, u250, u251, u252, u253, u254, u255, u256, u257, u258, u259, u260, u261, u262, u263, u264, u265, u266, u267, u268, u269, u270, u271, u272, u273, u274, t275, t276, t277, t278, t279, t280, t281, t282, t283, t284, u285, u286, u287, u288, u289, u290], []⟩ wx) :
    Code.wp Try.prog bPut (Exit.then K Q) ⟨#[u0, .string key, u2, u3, u4, .bool true, .slice AV L.length vcap, u7, .pointer (some ⟨g0, 0, none⟩), u9, u10, u11, u12, u13, u14, u15, u16, u17, u18, u19, u20, u21, u22, vw, u24, u25, u26, u27, u28, u29, u30, u31, u32, u33, u34, u35, u36, u37, u38, u39, u40, u41, u42, u43, u44, u45, u46, u47, u48, u49, u50, u51, u52, u53, u54, u55, u56, u57, u58, u59, u60, u61, u62, u63, u64, u65, u66, u67, u68, u69, u70, u71, u72, u73, u74, u75, u76, u77, u78, u79, u80, u81, u82, u83, u84, u85, u86, u87, u88, u89, u90, u91, u92, u93, u94, u95, u96, u97, u98, u99, u100, u101, u102, u103, u104, u105, u106, u107, u108, u109, u110, u111, u112, u113, u114, u115, u116, u117, u118, u119, u120, u121, u122, u123, u124, u125, u126, u127, u128, u129, u130, u131, u132, u133, u134, u135, u136, u137, u138, u139, u140, u141, u142, u143, u144, u145, u146, u147, u148, u149, u150, u151, u152, u153, u154, u155, u156, u157, u158, u159, u160, u161, u162, u163, u164, u165, u166, u167, u168, u169, u170, u171, u172, u173, u174, u175, u176, u177, u178, u179, u180, u181, u182, u183, u184, u185, u186, u187, u188, u189, u190, u191, u192, u193, u194, u195, u196, u197, u198, u199, u200, u201, u202, u203, u204, u205, u206, u207, u208, u209, u210, u211, u212, u213, u214, u215, u216, u217, u218, u219, u220, u221, u222, u223, u224, u225, u226, u227, u228, u229, u230, u231, u232, u233, u234, u235, u236, u237, u238, u239, u240, u241, u242, u243, u244, u245, u246, u247, u248, u249, u250, u251, u252, u253, u254, u255, u256, u257, u258, u259, u260, u261, u262, u263, u264, u265, u266, u267, u268, u269, u270, u271, u272, u273, u274, u275, u276, u277, u278, u279, u280, u281, u282, u283, u284, u285, u286, u287, u288, u289, u290], []⟩ w4 := by
  conv => arg 2; whnf
  have d1 := D0.out.cell (i := 1) rfl
  have d2 := D0.out.cell (i := 2) rfl
  have d3 := D0.out.cell (i := 3) rfl
  go_wp2_with fail
  refine PUT.out.mono ?_
  rintro r w1 ⟨v', rfl, o1, k1⟩
  have K1 := Lib.hid k1
  obtain ⟨bq, -, iq⟩ := o1.is
  have IQ := Lib.hid iq
  have IW1 := Lib.hid (IW.out.next k1)
  clear iq o1 k1 d1 d2 d3
  go_wp2_with fail
  refine (same_yes v' vw W bq bw _ IQ IW1 (by omega)).mono ?_
  rintro r w3 ⟨rfl, k3⟩
  have K3 := Lib.hid (after K1.out k3)
  clear k3
  go_wp2_with fail
  exact K3

set_option maxRecDepth 100000 in
set_option maxHeartbeats 8000000 in
theorem mrgArm {w4 : World} {g0 g1 b bw bm vcap mc : Nat} {AV MV : Option Addr} {L W : List Pn} {M : List (Int × Int)} {x : Int × Int} {vw : Value} {key : ByteArray} {d : Deed} {u0 u2 u3 u4 u7 u10 u12 u13 u14 u15 u16 u17 u18 u19 u20 u21 u22 u24 u25 u26 u27 u28 u29 u30 u31 u32 u33 u34 u35 u36 u37 u38 u39 u40 u41 u42 u43 u44 u45 u46 u47 u48 u49 u50 u51 u52 u53 u54 u55 u56 u57 u58 u59 u60 u61 u62 u63 u64 u65 u66 u67 u68 u69 u70 u71 u72 u73 u74 u75 u76 u77 u78 u79 u80 u81 u82 u83 u84 u85 u86 u87 u88 u89 u90 u91 u92 u93 u94 u95 u96 u97 u98 u99 u100 u101 u102 u103 u104 u105 u106 u107 u108 u109 u110 u111 u112 u113 u114 u115 u116 u117 u118 u119 u120 u121 u122 u123 u124 u125 u126 u127 u128 u129 u130 u131 u132 u133 u134 u135 u136 u137 u138 u139 u140 u141 u142 u143 u144 u145 u146 u147 u148 u149 u150 u151 u152 u153 u154 u155 u156 u157 u158 u159 u160 u161 u162 u163 u164 u165 u166 u167 u168 u169 u170 u171 u172 u173 u174 u175 u176 u177 u178 u179 u180 u181 u182 u183 u184 u185 u186 u187 u188 u189 u190 u191 u192 u193 u194 u195 u196 u197 u198 u199 u200 u201 u202 u203 u204 u205 u206 u207 u208 u209 u210 u211 u212 u213 u214 u215 u216 u217 u218 u219 u220 u221 u222 u223 u224 u225 u226 u227 u228 u229 u230 u231 u232 u233 u234 u235 u236 u237 u238 u239 u240 u241 u242 u243 u244 u245 u246 u247 u248 u249 u250 u251 u252 u253 u254 u255 u256 u257 u258 u259 u260 u261 u262 u263 u264 u265 u266 u267 u268 u269 u270 u271 u272 u273 u274 u275 u276 u277 u278 u279 u280 u281 u282 u283 u284 u285 u286 u287 u288 u289 u290 : Value} {K : Act → World → Prop} {Q : Exit → Act → World → Prop}
    (hW : W.length ≤ 1000) (hM : M.length ≤ 60) (D0 : Hid (Lies w4 g0 28 (dl d))) (IW : Hid (Sl.Is Pn.k w4 vw W bw)) (IM : Hid (Sl.Is Wn.k w4 (.slice MV M.length mc) M bm)) (P1 : Hid (w4.cell? ⟨g1, 1, none⟩ = some (.int .i64 x.1))) (P2 : Hid (w4.cell? ⟨g1, 2, none⟩ = some (.int .i64 x.2))) (MRG : Hid (Calls Try.prog 16 #[.slice AV L.length vcap, .string key, win d.s d.e, .int .i64 d.v] w4 fun r w' => ∃ v' vg, r = .returned (.tuple #[v', vg, win x.1 x.2]) ∧ Sl.Own Pn.k w4.heap.size w' v' W ∧ Sl.Own Wn.k w4.heap.size w' vg (wo M x) ∧ Below w4.heap.size w4 w'))
    (hK : ∀ (t220 t221 t222 t223 t224 t225 t226 t227 t228 t229 t230 t231 t232 t233 t234 t235 t236 t237 t238 t239 t240 t241 t242 t243 t244 t245 t246 t247 t248 t249 t250 t251 t252 t253 t254 t255 t256 t257 t258 t259 t260 t261 t262 t263 t264 t265 t266 t267 t268 t269 t270 t271 t272 t273 t274 t4 t24 t25 t26 t27 t28 : Value) (wx : World), Hid (Below w4.heap.size w4 wx) → K ⟨#[u0, .string key, u2, u3, t4, .bool true, .slice AV L.length vcap, u7, .pointer (some ⟨g0, 0, none⟩), .pointer (some ⟨g1, 0, none⟩), u10, .slice MV M.length mc, u12, u13, u14, u15, u16, u17, u18, u19, u20, u21, u22, vw, t24, t25, t26, t27, t28, u29, u30, u31, u32, u33, u34, u35, u36, u37, u38, u39, u40, u41, u42, u43, u44, u45, u46, u47, u48, u49, u50, u51, u52, u53, u54, u55, u56, u57, u58, u59, u60, u61, u62, u63, u64, u65, u66, u67, u68, u69, u70, u71, u72, u73, u74, u75, u76, u77, u78, u79, u80, u81, u82, u83, u84, u85, u86, u87, u88, u89, u90, u91, u92, u93, u94, u95, u96, u97, u98, u99, u100, u101, u102, u103, u104, u105, u106, u107, u108, u109, u110, u111, u112, u113, u114, u115, u116, u117, u118, u119, u120, u121, u122, u123, u124, u125, u126, u127, u128, u129, u130, u131, u132, u133, u134, u135, u136, u137, u138, u139, u140, u141, u142, u143, u144, u145, u146, u147, u148, u149, u150, u151, u152, u153, u154, u155, u156, u157, u158, u159, u160, u161, u162, u163, u164, u165, u166, u167, u168, u169, u170, u171, u172, u173, u174, u175, u176, u177, u178, u179, u180, u181, u182, u183, u184, u185, u186, u187, u188, u189, u190, u191, u192, u193, u194, u195, u196, u197, u198, u199, u200, u201, u202, u203, u204, u205, u206, u207, u208, u209, u210, u211, u212, u213, u214, u215, u216, u217, u218, u219, t220, t221, t222, t223, t224, t225, t226, t227, t228, t229, t230, t231, t232, t233, t234, t235, t236, t237, t238, t239, t240, t241, t242, t243, t244, t245, t246, t247, t248, t249, t250, t251, t252, t253, t254, t255, t256, t257, t258, t259, t260, t261, t262, t263, t264, t265, t266, t267, t268, t269, t270, t271, t272, t273, t274, u275, u276, u277, u278, u279, u280, u281, u282, u283, u284, u285, u286, u287, u288, u289, u290], []⟩ wx) :
    Code.wp Try.prog bMrg (Exit.then K Q) ⟨#[u0, .string key, u2, u3, u4, .bool true, .slice AV L.length vcap, u7, .pointer (some ⟨g0, 0, none⟩), .pointer (some ⟨g1, 0, none⟩), u10, .slice MV M.length mc, u12, u13, u14, u15, u16, u17, u18, u19, u20, u21, u22, vw, u24, u25, u26, u27, u28, u29, u30, u31, u32, u33, u34, u35, u36, u37, u38, u39, u40, u41, u42, u43, u44, u45, u46, u47, u48, u49, u50, u51, u52, u53, u54, u55, u56, u57, u58, u59, u60, u61, u62, u63, u64, u65, u66, u67, u68, u69, u70, u71, u72, u73, u74, u75, u76, u77, u78, u79, u80, u81, u82, u83, u84, u85, u86, u87, u88, u89, u90, u91, u92, u93, u94, u95, u96, u97, u98, u99, u100, u101, u102, u103, u104, u105, u106, u107, u108, u109, u110, u111, u112, u113, u114, u115, u116, u117, u118, u119, u120, u121, u122, u123, u124, u125, u126, u127, u128, u129, u130, u131, u132, u133, u134, u135, u136, u137, u138, u139, u140, u141, u142, u143, u144, u145, u146, u147, u148, u149, u150, u151, u152, u153, u154, u155, u156, u157, u158, u159, u160, u161, u162, u163, u164, u165, u166, u167, u168, u169, u170, u171, u172, u173, u174, u175, u176, u177, u178, u179, u180, u181, u182, u183, u184, u185, u186, u187, u188, u189, u190, u191, u192, u193, u194, u195, u196, u197, u198, u199, u200, u201, u202, u203, u204, u205, u206, u207, u208, u209, u210, u211, u212, u213, u214, u215, u216, u217, u218, u219, u220, u221, u222, u223, u224, u225, u226, u227, u228, u229, u230, u231, u232, u233, u234, u235, u236, u237, u238, u239, u240, u241, u242, u243, u244, u245, u246, u247, u248, u249, u250, u251, u252, u253, u254, u255, u256, u257, u258, u259, u260, u261, u262, u263, u264, u265, u266, u267, u268, u269, u270, u271, u272, u273, u274, u275, u276, u277, u278, u279, u280, u281, u282, u283, u284, u285, u286, u287, u288, u289, u290], []⟩ w4 := by
  conv => arg 2; whnf
  have d1 := D0.out.cell (i := 1) rfl
  have d2 := D0.out.cell (i := 2) rfl
  have d3 := D0.out.cell (i := 3) rfl
  go_wp2_with fail
  refine MRG.out.mono ?_
  rintro r w1 ⟨v', vg, rfl, o1, o2, k1⟩
  have K1 := Lib.hid (after k1 (below1 w1 (Obj.cells #[.int .i64 x.1, .int .i64 x.2] 26)))
  have N1 := Lib.hid (Lies.new w1 26 [.int .i64 x.1, .int .i64 x.2])
  have IW1 := Lib.hid (IW.out.next K1.out)
  have IM1 := Lib.hid (IM.out.next K1.out)
  obtain ⟨bq, -, iq⟩ := (o1.next (below1 w1 (Obj.cells #[.int .i64 x.1, .int .i64 x.2] 26))).is
  have IQ := Lib.hid iq
  obtain ⟨bg, -, ig⟩ := (o2.next (below1 w1 (Obj.cells #[.int .i64 x.1, .int .i64 x.2] 26))).is
  obtain ⟨GV, gc, rfl⟩ := ig.len
  have IG := Lib.hid ig
  have P1' := Lib.hid (cell_keep K1.out P1.out)
  have P2' := Lib.hid (cell_keep K1.out P2.out)
  clear iq ig o1 o2 k1 d1 d2 d3
  go_upto_block 6 with fail
  generalize w1.alloc (Obj.cells #[.int .i64 x.1, .int .i64 x.2] 26) = w2 at *
  refine gone6 hM IM1 IG P1' P2' ?_
  intros
  rename_i hrel
  obtain ⟨rfl, K6⟩ := hrel
  have IQ6 := Lib.hid (IQ.out.next K6.out)
  have IW6 := Lib.hid (IW1.out.next K6.out)
  have K7 := Lib.hid (after K1.out K6.out)
  have n0 := (N1.out.next K6.out).cell (i := 0) rfl
  have n1 := (N1.out.next K6.out).cell (i := 1) rfl
  have p1 := cell_keep K6.out P1'.out
  have p2 := cell_keep K6.out P2'.out
  have ne := win_ne x.1 x.2
  rename_i wx
  go_wp2_with fail
  refine (same_yes v' vw W bq bw _ IQ6 IW6 (by omega)).mono ?_
  rintro r w3 ⟨rfl, k3⟩
  have K3 := Lib.hid (after K7.out k3)
  clear k3
  go_wp2_with fail
  exact K3

end Go.Proofs.Ytnheehodgkagfaa.panePlays
