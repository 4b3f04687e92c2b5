/-
  PanePlays: the arm that cuts.
-/
import Derived.Test.YtnheehodgkagfaaPanePlaysIn
import Derived.Test.YtnheehodgkagfaaPaneCut
namespace Go.Proofs.Ytnheehodgkagfaa.panePlays
open Go.ChangeShapes Go.WideShapes Go.ChangeAt Go.RowKit Small Pane
set_option linter.unusedVariables false

/-- what a cond does where slot k holds -/
def thn (k : Nat) : Code → Option Code
  | .cond (.tmp j) a b => if j = k then some a else
    match thn k a with
    | some x => some x
    | none => thn k b
  | .seq a b => match thn k a with
    | some c => some c
    | none => thn k b
  | .loop c => thn k c
  | .scope c => thn k c
  | .block _ c => thn k c
  | _ => none
noncomputable def bCut : Code := ((Try.f3.body.bind (thn 154)).getD .skip)
/-- what the law keeps from round to round: the panes that there are, by rising windows, of one key -/
def Lst (key : ByteArray) (n : Nat) (w : World) (v : Value) : Prop := ∃ L b, Rises L ∧ (∀ p ∈ L, p.key = key) ∧ L.length ≤ n ∧ Sl.Is Pn.k w v L b
theorem win_neP (p : Pn) (w' : World) : (binOp .neq 33 (.agg #[.string p.key, .int .i64 p.s, .int .i64 p.e, .int .i64 p.c, .int .i64 p.m, .int .i64 p.l, .int .i64 p.u]) (.agg #[.string p.key, .int .i64 p.s, .int .i64 p.e, .int .i64 p.c, .int .i64 p.m, .int .i64 p.l, .int .i64 p.u])).run Try.prog w' = .ok (.bool false) w' := by
  simp [go_sem]
theorem win_neE {p : Pn} {s e : Int} (h : Eq2 p s e) (w' : World) : (binOp .neq 26 (.agg #[.int .i64 p.s, .int .i64 p.e]) (.agg #[.int .i64 s, .int .i64 e])).run Try.prog w' = .ok (.bool false) w' := by
  obtain ⟨h1, h2⟩ := h
  simp [go_sem, h1, h2]
theorem cut_mem {L : List Pn} {k : Nat} {q : Pn} (h : q ∈ L.take k ++ L.drop (k + 1)) : q ∈ L := by
  rcases List.mem_append.1 h with h | h
  · exact List.mem_of_mem_take h
  · exact List.mem_of_mem_drop h
theorem cut_len (L : List Pn) (k : Nat) : (L.take k ++ L.drop (k + 1)).length ≤ L.length := by
  simp; omega

set_option maxRecDepth 100000 in
set_option maxHeartbeats 8000000 in
theorem cutYes {w4 : World} {g0 g2 b br vcap mc ml k n : Nat} {AV MV : Option Addr} {L : List Pn} {vr : Value} {key : ByteArray} {d : Deed} {p : Pn} {u0 u1 u2 u3 u4 u7 u9 u12 u13 u14 u15 u18 u19 u20 u21 u22 u23 u24 u25 u26 u27 u28 u29 u30 u31 u32 u33 u34 u35 u36 u37 u38 u39 u40 u41 u42 u43 u44 u45 u46 u47 u48 u49 u50 u51 u52 u53 u54 u55 u56 u57 u58 u59 u60 u61 u62 u63 u64 u65 u66 u67 u68 u69 u70 u71 u72 u73 u74 u75 u76 u77 u78 u79 u80 u81 u82 u83 u84 u85 u86 u87 u88 u89 u90 u91 u92 u93 u94 u95 u96 u97 u98 u99 u100 u101 u102 u103 u104 u105 u106 u107 u108 u109 u110 u111 u112 u113 u114 u115 u116 u117 u118 u119 u120 u121 u122 u123 u124 u125 u126 u127 u128 u129 u130 u131 u132 u133 u134 u135 u136 u137 u138 u139 u140 u141 u142 u143 u144 u145 u146 u147 u148 u149 u150 u151 u152 u153 u154 u155 u156 u157 u158 u159 u160 u161 u162 u163 u164 u165 u166 u167 u168 u169 u170 u171 u172 u173 u174 u175 u176 u177 u178 u179 u180 u181 u182 u183 u184 u185 u186 u187 u188 u189 u190 u191 u192 u193 u194 u195 u196 u197 u198 u199 u200 u201 u202 u203 u204 u205 u206 u207 u208 u209 u210 u211 u212 u213 u214 u215 u216 u217 u218 u219 u220 u221 u222 u223 u224 u225 u226 u227 u228 u229 u230 u231 u232 u233 u234 u235 u236 u237 u238 u239 u240 u241 u242 u243 u244 u245 u246 u247 u248 u249 u250 u251 u252 u253 u254 u255 u256 u257 u258 u259 u260 u261 u262 u263 u264 u265 u266 u267 u268 u269 u270 u271 u272 u273 u274 u275 u276 u277 u278 u279 u280 u281 u282 u283 u284 u285 u286 u287 u288 u289 u290 : Value} {K : Act → World → Prop} {Q : Exit → Act → World → Prop}
    (hn : n ≤ 60) (hl : L.length ≤ n) (RL : Hid (Rises L)) (KL : Hid (∀ p ∈ L, p.key = key)) (IL : Hid (Sl.Is Pn.k w4 (.slice AV L.length vcap) L b)) (A : Hid (At L d.s d.e k)) (HX : Hid (L[k]? = some p)) (HE : Hid (Eq2 p d.s d.e)) (IR : Hid (Sl.Is Pn.k w4 vr (L.take k ++ L.drop (k + 1)) br)) (F : Hid (Lies w4 g2 33 p.cl)) (D0 : Hid (Lies w4 g0 28 (dl d))) (hm : (0 : Int) < ml) (hE : ∀ (t6 t19 t20 t21 t155 t156 t157 t158 t159 t160 t161 t162 t163 t164 t165 t166 t167 t168 t169 t170 t171 t172 t173 t174 t175 t176 t177 t178 t179 t180 t181 t182 t183 t184 t185 t186 t187 t188 t189 t190 t191 t192 t193 t194 t195 t196 t197 t198 t199 : Value) (wx : World), Hid (Lst key n wx t6) ∧ Hid (Below w4.heap.size w4 wx) → Q (Exit.exit 1) ⟨#[u0, u1, u2, u3, u4, .bool true, t6, u7, .pointer (some ⟨g0, 0, none⟩), u9, vr, .slice MV ml mc, u12, u13, u14, u15, .pointer (some ⟨g2, 0, none⟩), .bool true, u18, t19, t20, t21, u22, u23, u24, u25, u26, u27, u28, u29, u30, u31, u32, u33, u34, u35, u36, u37, u38, u39, u40, u41, u42, u43, u44, u45, u46, u47, u48, u49, u50, u51, u52, u53, u54, u55, u56, u57, u58, u59, u60, u61, u62, u63, u64, u65, u66, u67, u68, u69, u70, u71, u72, u73, u74, u75, u76, u77, u78, u79, u80, u81, u82, u83, u84, u85, u86, u87, u88, u89, u90, u91, u92, u93, u94, u95, u96, u97, u98, u99, u100, u101, u102, u103, u104, u105, u106, u107, u108, u109, u110, u111, u112, u113, u114, u115, u116, u117, u118, u119, u120, u121, u122, u123, u124, u125, u126, u127, u128, u129, u130, u131, u132, u133, u134, u135, u136, u137, u138, u139, u140, u141, u142, u143, u144, u145, u146, u147, u148, u149, u150, u151, u152, u153, u154, t155, t156, t157, t158, t159, t160, t161, t162, t163, t164, t165, t166, t167, t168, t169, t170, t171, t172, t173, t174, t175, t176, t177, t178, t179, t180, t181, t182, t183, t184, t185, t186, t187, t188, t189, t190, t191, t192, t193, t194, t195, t196, t197, t198, t199, u200, u201, u202, u203, u204, u205, u206, u207, u208, u209, u210, u211, u212, u213, u214, u215, u216, u217, u218, u219, u220, u221, u222, u223, u224, u225, u226, u227, u228, u229, u230, u231, u232, u233, u234, u235, u236, u237, u238, u239, u240, u241, u242, u243, u244, u245, u246, u247, u248, u249, u250, u251, u252, u253, u254, u255, u256, u257, u258, u259, u260, u261, u262, u263, u264, u265, u266, u267, u268, u269, u270, u271, u272, u273, u274, u275, u276, u277, u278, u279, u280, u281, u282, u283, u284, u285, u286, u287, u288, u289, u290], []⟩ wx)
    (hK : ∀ (t6 t19 t20 t21 t155 t156 t157 t158 t159 t160 t161 t162 t163 t164 t165 t166 t167 t168 t169 t170 t171 t172 t173 t174 t175 t176 t177 t178 t179 t180 t181 t182 t183 t184 t185 t186 t187 t188 t189 t190 t191 t192 t193 t194 t195 t196 t197 t198 t199 : Value) (wx : World), False → K ⟨#[u0, u1, u2, u3, u4, .bool true, t6, u7, .pointer (some ⟨g0, 0, none⟩), u9, vr, .slice MV ml mc, u12, u13, u14, u15, .pointer (some ⟨g2, 0, none⟩), .bool true, u18, t19, t20, t21, u22, u23, u24, u25, u26, u27, u28, u29, u30, u31, u32, u33, u34, u35, u36, u37, u38, u39, u40, u41, u42, u43, u44, u45, u46, u47, u48, u49, u50, u51, u52, u53, u54, u55, u56, u57, u58, u59, u60, u61, u62, u63, u64, u65, u66, u67, u68, u69, u70, u71, u72, u73, u74, u75, u76, u77, u78, u79, u80, u81, u82, u83, u84, u85, u86, u87, u88, u89, u90, u91, u92, u93, u94, u95, u96, u97, u98, u99, u100, u101, u102, u103, u104, u105, u106, u107, u108, u109, u110, u111, u112, u113, u114, u115, u116, u117, u118, u119, u120, u121, u122, u123, u124, u125, u126, u127, u128, u129, u130, u131, u132, u133, u134, u135, u136, u137, u138, u139, u140, u141, u142, u143, u144, u145, u146, u147, u148, u149, u150, u151, u152, u153, u154, t155, t156, t157, t158, t159, t160, t161, t162, t163, t164, t165, t166, t167, t168, t169, t170, t171, t172, t173, t174, t175, t176, t177, t178, t179, t180, t181, t182, t183, t184, t185, t186, t187, t188, t189, t190, t191, t192, t193, t194, t195, t196, t197, t198, t199, u200, u201, u202, u203, u204, u205, u206, u207, u208, u209, u210, u211, u212, u213, u214, u215, u216, u217, u218, u219, u220, u221, u222, u223, u224, u225, u226, u227, u228, u229, u230, u231, u232, u233, u234, u235, u236, u237, u238, u239, u240, u241, u242, u243, u244, u245, u246, u247, u248, u249, u250, u251, u252, u253, u254, u255, u256, u257, u258, u259, u260, u261, u262, u263, u264, u265, u266, u267, u268, u269, u270, u271, u272, u273, u274, u275, u276, u277, u278, u279, u280, u281, u282, u283, u284, u285, u286, u287, u288, u289, u290], []⟩ wx) :
    Code.wp Try.prog bCut (Exit.then K Q) ⟨#[u0, u1, u2, u3, u4, .bool true, .slice AV L.length vcap, u7, .pointer (some ⟨g0, 0, none⟩), u9, vr, .slice MV ml mc, u12, u13, u14, u15, .pointer (some ⟨g2, 0, none⟩), .bool true, u18, u19, u20, u21, u22, u23, u24, u25, u26, u27, u28, u29, u30, u31, u32, u33, u34, u35, u36, u37, u38, u39, u40, u41, u42, u43, u44, u45, u46, u47, u48, u49, u50, u51, u52, u53, u54, u55, u56, u57, u58, u59, u60, u61, u62, u63, u64, u65, u66, u67, u68, u69, u70, u71, u72, u73, u74, u75, u76, u77, u78, u79, u80, u81, u82, u83, u84, u85, u86, u87, u88, u89, u90, u91, u92, u93, u94, u95, u96, u97, u98, u99, u100, u101, u102, u103, u104, u105, u106, u107, u108, u109, u110, u111, u112, u113, u114, u115, u116, u117, u118, u119, u120, u121, u122, u123, u124, u125, u126, u127, u128, u129, u130, u131, u132, u133, u134, u135, u136, u137, u138, u139, u140, u141, u142, u143, u144, u145, u146, u147, u148, u149, u150, u151, u152, u153, u154, u155, u156, u157, u158, u159, u160, u161, u162, u163, u164, u165, u166, u167, u168, u169, u170, u171, u172, u173, u174, u175, u176, u177, u178, u179, u180, u181, u182, u183, u184, u185, u186, u187, u188, u189, u190, u191, u192, u193, u194, u195, u196, u197, u198, u199, u200, u201, u202, u203, u204, u205, u206, u207, u208, u209, u210, u211, u212, u213, u214, u215, u216, u217, u218, u219, u220, u221, u222, u223, u224, u225, u226, u227, u228, u229, u230, u231, u232, u233, u234, u235, u236, u237, u238, u239, u240, u241, u242, u243, u244, u245, u246, u247, u248, u249, u250, u251, u252, u253, u254, u255, u256, u257, u258, u259, u260, u261, u262, u263, u264, u265, u266, u267, u268, u269, u270, u271, u272, u273, u274, u275, u276, u277, u278, u279, u280, u281, u282, u283, u284, u285, u286, u287, u288, u289, u290], []⟩ w4 := by
  conv => arg 2; whnf
  have d1 := D0.out.cell (i := 1) rfl
  have d2 := D0.out.cell (i := 2) rfl
  go_wp2_with fail
  refine (cut_yes _ L b k d.s d.e p _ IL (by omega) A HX HE).mono ?_
  rintro r w1 ⟨v', rfl, o1, k1⟩
  have O1 := Lib.hid o1
  have K1 := Lib.hid k1
  clear o1 k1 d1 d2
  have ne := win_neP p
  have KA := Lib.hid (after K1.out (below1 w1 (Obj.cells #[.string p.key, .int .i64 p.s, .int .i64 p.e, .int .i64 p.c, .int .i64 p.m, .int .i64 p.l, .int .i64 p.u] 33)))
  have OA := Lib.hid (O1.out.next (below1 w1 (Obj.cells #[.string p.key, .int .i64 p.s, .int .i64 p.e, .int .i64 p.c, .int .i64 p.m, .int .i64 p.l, .int .i64 p.u] 33)))
  obtain ⟨⟨c0, c1, c2, c3, c4, c5, c6⟩, -⟩ := seven (F.out.next KA.out)
  go_wp2_with fail
  clear c0 c1 c2 c3 c4 c5 c6
  generalize w1.alloc (Obj.cells #[.string p.key, .int .i64 p.s, .int .i64 p.e, .int .i64 p.c, .int .i64 p.m, .int .i64 p.l, .int .i64 p.u] 33) = w2 at *
  obtain ⟨bq, -, iq⟩ := OA.out.is
  have IQ := Lib.hid iq
  clear iq
  refine (same_yes v' vr (L.take k ++ L.drop (k + 1)) bq br _ IQ (Lib.hid (IR.out.next KA.out)) (by simp; omega)).mono ?_
  rintro r w3 ⟨rfl, k3⟩
  have K3 := Lib.hid (after KA.out k3)
  have IQ3 := Lib.hid (IQ.out.next k3)
  clear k3
  have d1 := (D0.out.next K3.out).cell (i := 1) rfl
  have d2 := (D0.out.next K3.out).cell (i := 2) rfl
  obtain ⟨⟨c0, c1, c2, c3, c4, c5, c6⟩, -⟩ := seven (F.out.next K3.out)
  have ne2 := win_neE HE.out
  go_wp2_with fail
  exact ⟨Lib.hid ⟨_, bq, rises_cut RL.out k, fun q hq => KL.out q (cut_mem hq), by have := cut_len L k; omega, IQ3.out⟩, K3⟩

set_option maxRecDepth 100000 in
set_option maxHeartbeats 8000000 in
theorem cutNo {w4 : World} {g0 g2 b br vcap mc k n : Nat} {AV MV : Option Addr} {L : List Pn} {vr : Value} {key : ByteArray} {d : Deed} {u0 u1 u2 u3 u4 u7 u9 u12 u13 u14 u15 u18 u19 u20 u21 u22 u23 u24 u25 u26 u27 u28 u29 u30 u31 u32 u33 u34 u35 u36 u37 u38 u39 u40 u41 u42 u43 u44 u45 u46 u47 u48 u49 u50 u51 u52 u53 u54 u55 u56 u57 u58 u59 u60 u61 u62 u63 u64 u65 u66 u67 u68 u69 u70 u71 u72 u73 u74 u75 u76 u77 u78 u79 u80 u81 u82 u83 u84 u85 u86 u87 u88 u89 u90 u91 u92 u93 u94 u95 u96 u97 u98 u99 u100 u101 u102 u103 u104 u105 u106 u107 u108 u109 u110 u111 u112 u113 u114 u115 u116 u117 u118 u119 u120 u121 u122 u123 u124 u125 u126 u127 u128 u129 u130 u131 u132 u133 u134 u135 u136 u137 u138 u139 u140 u141 u142 u143 u144 u145 u146 u147 u148 u149 u150 u151 u152 u153 u154 u155 u156 u157 u158 u159 u160 u161 u162 u163 u164 u165 u166 u167 u168 u169 u170 u171 u172 u173 u174 u175 u176 u177 u178 u179 u180 u181 u182 u183 u184 u185 u186 u187 u188 u189 u190 u191 u192 u193 u194 u195 u196 u197 u198 u199 u200 u201 u202 u203 u204 u205 u206 u207 u208 u209 u210 u211 u212 u213 u214 u215 u216 u217 u218 u219 u220 u221 u222 u223 u224 u225 u226 u227 u228 u229 u230 u231 u232 u233 u234 u235 u236 u237 u238 u239 u240 u241 u242 u243 u244 u245 u246 u247 u248 u249 u250 u251 u252 u253 u254 u255 u256 u257 u258 u259 u260 u261 u262 u263 u264 u265 u266 u267 u268 u269 u270 u271 u272 u273 u274 u275 u276 u277 u278 u279 u280 u281 u282 u283 u284 u285 u286 u287 u288 u289 u290 : Value} {K : Act → World → Prop} {Q : Exit → Act → World → Prop}
    (hn : n ≤ 60) (hl : L.length ≤ n) (RL : Hid (Rises L)) (KL : Hid (∀ p ∈ L, p.key = key)) (IL : Hid (Sl.Is Pn.k w4 (.slice AV L.length vcap) L b)) (A : Hid (At L d.s d.e k)) (HX : Hid (∀ x, L[k]? = some x → ¬ Eq2 x d.s d.e)) (IR : Hid (Sl.Is Pn.k w4 vr L br)) (F : Hid (Lies w4 g2 33 zp.cl)) (D0 : Hid (Lies w4 g0 28 (dl d))) (hE : ∀ (t19 t20 t21 t155 t156 t157 t158 t159 t160 t161 t162 t163 t164 t165 t166 t167 t168 t169 t170 t171 t172 t173 t174 t175 t176 t177 t178 t179 t180 t181 t182 t183 t184 t185 t186 t187 t188 t189 t190 t191 t192 t193 t194 t195 t196 t197 t198 t199 : Value) (wx : World), Hid (Lst key n wx (.slice AV L.length vcap)) ∧ Hid (Below w4.heap.size w4 wx) → Q (Exit.exit 1) ⟨#[u0, u1, u2, u3, u4, .bool true, .slice AV L.length vcap, u7, .pointer (some ⟨g0, 0, none⟩), u9, vr, .slice MV 0 mc, u12, u13, u14, u15, .pointer (some ⟨g2, 0, none⟩), .bool false, u18, t19, t20, t21, u22, u23, u24, u25, u26, u27, u28, u29, u30, u31, u32, u33, u34, u35, u36, u37, u38, u39, u40, u41, u42, u43, u44, u45, u46, u47, u48, u49, u50, u51, u52, u53, u54, u55, u56, u57, u58, u59, u60, u61, u62, u63, u64, u65, u66, u67, u68, u69, u70, u71, u72, u73, u74, u75, u76, u77, u78, u79, u80, u81, u82, u83, u84, u85, u86, u87, u88, u89, u90, u91, u92, u93, u94, u95, u96, u97, u98, u99, u100, u101, u102, u103, u104, u105, u106, u107, u108, u109, u110, u111, u112, u113, u114, u115, u116, u117, u118, u119, u120, u121, u122, u123, u124, u125, u126, u127, u128, u129, u130, u131, u132, u133, u134, u135, u136, u137, u138, u139, u140, u141, u142, u143, u144, u145, u146, u147, u148, u149, u150, u151, u152, u153, u154, t155, t156, t157, t158, t159, t160, t161, t162, t163, t164, t165, t166, t167, t168, t169, t170, t171, t172, t173, t174, t175, t176, t177, t178, t179, t180, t181, t182, t183, t184, t185, t186, t187, t188, t189, t190, t191, t192, t193, t194, t195, t196, t197, t198, t199, u200, u201, u202, u203, u204, u205, u206, u207, u208, u209, u210, u211, u212, u213, u214, u215, u216, u217, u218, u219, u220, u221, u222, u223, u224, u225, u226, u227, u228, u229, u230, u231, u232, u233, u234, u235, u236, u237, u238, u239, u240, u241, u242, u243, u244, u245, u246, u247, u248, u249, u250, u251, u252, u253, u254, u255, u256, u257, u258, u259, u260, u261, u262, u263, u264, u265, u266, u267, u268, u269, u270, u271, u272, u273, u274, u275, u276, u277, u278, u279, u280, u281, u282, u283, u284, u285, u286, u287, u288, u289, u290], []⟩ wx)
    (hK : ∀ (t19 t20 t21 t155 t156 t157 t158 t159 t160 t161 t162 t163 t164 t165 t166 t167 t168 t169 t170 t171 t172 t173 t174 t175 t176 t177 t178 t179 t180 t181 t182 t183 t184 t185 t186 t187 t188 t189 t190 t191 t192 t193 t194 t195 t196 t197 t198 t199 : Value) (wx : World), False → K ⟨#[u0, u1, u2, u3, u4, .bool true, .slice AV L.length vcap, u7, .pointer (some ⟨g0, 0, none⟩), u9, vr, .slice MV 0 mc, u12, u13, u14, u15, .pointer (some ⟨g2, 0, none⟩), .bool false, u18, t19, t20, t21, u22, u23, u24, u25, u26, u27, u28, u29, u30, u31, u32, u33, u34, u35, u36, u37, u38, u39, u40, u41, u42, u43, u44, u45, u46, u47, u48, u49, u50, u51, u52, u53, u54, u55, u56, u57, u58, u59, u60, u61, u62, u63, u64, u65, u66, u67, u68, u69, u70, u71, u72, u73, u74, u75, u76, u77, u78, u79, u80, u81, u82, u83, u84, u85, u86, u87, u88, u89, u90, u91, u92, u93, u94, u95, u96, u97, u98, u99, u100, u101, u102, u103, u104, u105, u106, u107, u108, u109, u110, u111, u112, u113, u114, u115, u116, u117, u118, u119, u120, u121, u122, u123, u124, u125, u126, u127, u128, u129, u130, u131, u132, u133, u134, u135, u136, u137, u138, u139, u140, u141, u142, u143, u144, u145, u146, u147, u148, u149, u150, u151, u152, u153, u154, t155, t156, t157, t158, t159, t160, t161, t162, t163, t164, t165, t166, t167, t168, t169, t170, t171, t172, t173, t174, t175, t176, t177, t178, t179, t180, t181, t182, t183, t184, t185, t186, t187, t188, t189, t190, t191, t192, t193, t194, t195, t196, t197, t198, t199, u200, u201, u202, u203, u204, u205, u206, u207, u208, u209, u210, u211, u212, u213, u214, u215, u216, u217, u218, u219, u220, u221, u222, u223, u224, u225, u226, u227, u228, u229, u230, u231, u232, u233, u234, u235, u236, u237, u238, u239, u240, u241, u242, u243, u244, u245, u246, u247, u248, u249, u250, u251, u252, u253, u254, u255, u256, u257, u258, u259, u260, u261, u262, u263, u264, u265, u266, u267, u268, u269, u270, u271, u272, u273, u274, u275, u276, u277, u278, u279, u280, u281, u282, u283, u284, u285, u286, u287, u288, u289, u290], []⟩ wx) :
    Code.wp Try.prog bCut (Exit.then K Q) ⟨#[u0, u1, u2, u3, u4, .bool true, .slice AV L.length vcap, u7, .pointer (some ⟨g0, 0, none⟩), u9, vr, .slice MV 0 mc, u12, u13, u14, u15, .pointer (some ⟨g2, 0, none⟩), .bool false, u18, u19, u20, u21, u22, u23, u24, u25, u26, u27, u28, u29, u30, u31, u32, u33, u34, u35, u36, u37, u38, u39, u40, u41, u42, u43, u44, u45, u46, u47, u48, u49, u50, u51, u52, u53, u54, u55, u56, u57, u58, u59, u60, u61, u62, u63, u64, u65, u66, u67, u68, u69, u70, u71, u72, u73, u74, u75, u76, u77, u78, u79, u80, u81, u82, u83, u84, u85, u86, u87, u88, u89, u90, u91, u92, u93, u94, u95, u96, u97, u98, u99, u100, u101, u102, u103, u104, u105, u106, u107, u108, u109, u110, u111, u112, u113, u114, u115, u116, u117, u118, u119, u120, u121, u122, u123, u124, u125, u126, u127, u128, u129, u130, u131, u132, u133, u134, u135, u136, u137, u138, u139, u140, u141, u142, u143, u144, u145, u146, u147, u148, u149, u150, u151, u152, u153, u154, u155, u156, u157, u158, u159, u160, u161, u162, u163, u164, u165, u166, u167, u168, u169, u170, u171, u172, u173, u174, u175, u176, u177, u178, u179, u180, u181, u182, u183, u184, u185, u186, u187, u188, u189, u190, u191, u192, u193, u194, u195, u196, u197, u198, u199, u200, u201, u202, u203, u204, u205, u206, u207, u208, u209, u210, u211, u212, u213, u214, u215, u216, u217, u218, u219, u220, u221, u222, u223, u224, u225, u226, u227, u228, u229, u230, u231, u232, u233, u234, u235, u236, u237, u238, u239, u240, u241, u242, u243, u244, u245, u246, u247, u248, u249, u250, u251, u252, u253, u254, u255, u256, u257, u258, u259, u260, u261, u262, u263, u264, u265, u266, u267, u268, u269, u270, u271, u272, u273, u274, u275, u276, u277, u278, u279, u280, u281, u282, u283, u284, u285, u286, u287, u288, u289, u290], []⟩ w4 := by
  conv => arg 2; whnf
  have d1 := D0.out.cell (i := 1) rfl
  have d2 := D0.out.cell (i := 2) rfl
  go_wp2_with fail
  refine (cut_no _ L b k d.s d.e _ IL (by omega) A HX).mono ?_
  rintro r w1 ⟨v', rfl, o1, k1⟩
  have O1 := Lib.hid o1
  have K1 := Lib.hid k1
  clear o1 k1 d1 d2
  have ne : ∀ w' : World, (binOp .neq 33 (.agg #[.string ⟨#[]⟩, .int .i64 0, .int .i64 0, .int .i64 0, .int .i64 0, .int .i64 0, .int .i64 0]) (.agg #[.string ⟨#[]⟩, .int .i64 0, .int .i64 0, .int .i64 0, .int .i64 0, .int .i64 0, .int .i64 0])).run Try.prog w' = .ok (.bool false) w' := win_neP zp
  have KA := Lib.hid (after K1.out (below1 w1 (Obj.cells #[.string ⟨#[]⟩, .int .i64 0, .int .i64 0, .int .i64 0, .int .i64 0, .int .i64 0, .int .i64 0] 33)))
  have OA := Lib.hid (O1.out.next (below1 w1 (Obj.cells #[.string ⟨#[]⟩, .int .i64 0, .int .i64 0, .int .i64 0, .int .i64 0, .int .i64 0, .int .i64 0] 33)))
  obtain ⟨⟨c0, c1, c2, c3, c4, c5, c6⟩, -⟩ := seven (F.out.next KA.out)
  go_wp2_with fail
  clear c0 c1 c2 c3 c4 c5 c6
  generalize w1.alloc (Obj.cells #[.string ⟨#[]⟩, .int .i64 0, .int .i64 0, .int .i64 0, .int .i64 0, .int .i64 0, .int .i64 0] 33) = w2 at *
  obtain ⟨bq, -, iq⟩ := OA.out.is
  have IQ := Lib.hid iq
  clear iq
  refine (same_yes v' vr L bq br _ IQ (Lib.hid (IR.out.next KA.out)) (by omega)).mono ?_
  rintro r w3 ⟨rfl, k3⟩
  have K3 := Lib.hid (after KA.out k3)
  have IQ3 := Lib.hid (IQ.out.next k3)
  clear k3
  obtain ⟨⟨c0, c1, c2, c3, c4, c5, c6⟩, -⟩ := seven (F.out.next K3.out)
  go_wp2_with fail
  exact ⟨Lib.hid ⟨L, b, RL.out, KL.out, hl, IL.out.next K3.out⟩, K3⟩

end Go.Proofs.Ytnheehodgkagfaa.panePlays
