/-
  PanePlays: is the window that comes to be one that there is by itself? Then the round isn't one of Merge's, and the law is over.
-/
import Derived.Test.YtnheehodgkagfaaPanePlaysIn
namespace Go.Proofs.Ytnheehodgkagfaa.panePlays
open Go.ChangeShapes Go.WideShapes Go.ChangeAt Go.RowKit Small Pane
set_option linter.unusedVariables false

/-- the loop -/
noncomputable def b4 : Code := ((Try.f3.body.bind (blk 4)).getD .skip)

set_option maxRecDepth 100000 in
set_option maxHeartbeats 8000000 in
theorem dup4 {w4 : World} {g1 br rc : Nat} {RV : Option Addr} {R : List Pn} {x : Int × Int} {u0 u1 u2 u3 u4 u6 u7 u8 u11 u12 u13 u14 u15 u16 u17 u18 u19 u20 u21 u23 u24 u25 u26 u27 u28 u29 u30 u31 u32 u33 u34 u35 u36 u37 u38 u39 u40 u41 u42 u43 u44 u45 u46 u47 u48 u49 u50 u51 u52 u53 u54 u55 u56 u57 u58 u59 u60 u61 u62 u63 u64 u65 u66 u67 u68 u69 u70 u71 u72 u73 u74 u75 u76 u77 u78 u79 u80 u81 u82 u83 u84 u85 u86 u87 u88 u89 u90 u91 u92 u93 u94 u95 u96 u97 u98 u99 u100 u101 u102 u103 u104 u105 u106 u107 u108 u109 u110 u111 u112 u113 u114 u115 u116 u117 u118 u119 u120 u121 u122 u123 u124 u125 u126 u127 u128 u129 u130 u131 u132 u133 u134 u135 u136 u137 u138 u139 u140 u141 u142 u143 u144 u145 u146 u147 u148 u149 u150 u151 u152 u153 u154 u155 u156 u157 u158 u159 u160 u161 u162 u163 u164 u165 u166 u167 u168 u169 u170 u171 u172 u173 u174 u175 u176 u177 u178 u179 u180 u181 u182 u183 u184 u185 u186 u187 u188 u189 u190 u191 u192 u193 u194 u195 u196 u197 u198 u199 u200 u201 u202 u203 u204 u205 u206 u207 u208 u209 u210 u211 u212 u213 u214 u215 u216 u217 u218 u219 u220 u221 u222 u223 u224 u225 u226 u227 u228 u229 u230 u231 u232 u233 u234 u235 u236 u237 u238 u239 u240 u241 u242 u243 u244 u245 u246 u247 u248 u249 u250 u251 u252 u253 u254 u255 u256 u257 u258 u259 u260 u261 u262 u263 u264 u265 u266 u267 u268 u269 u270 u271 u272 u273 u274 u275 u276 u277 u278 u279 u280 u281 u282 u283 u284 u285 u286 u287 u288 u289 u290 : Value} {K : Act → World → Prop} {Q : Exit → Act → World → Prop}
    (hn : R.length ≤ 60) (IR : Hid (Sl.Is Pn.k w4 (.slice RV R.length rc) R br)) (P1 : Hid (w4.cell? ⟨g1, 1, none⟩ = some (.int .i64 x.1))) (P2 : Hid (w4.cell? ⟨g1, 2, none⟩ = some (.int .i64 x.2))) (hR : ∀ (t22 t201 t202 t203 t204 t205 t206 t207 t208 t209 t210 t211 t212 t213 t214 t215 : Value) (wx : World), Hid (Below w4.heap.size w4 wx) → Q Exit.ret ⟨#[u0, u1, u2, u3, .bool true, .bool true, u6, u7, u8, .pointer (some ⟨g1, 0, none⟩), .slice RV R.length rc, u11, u12, u13, u14, u15, u16, u17, u18, u19, u20, u21, t22, u23, u24, u25, u26, u27, u28, u29, u30, u31, u32, u33, u34, u35, u36, u37, u38, u39, u40, u41, u42, u43, u44, u45, u46, u47, u48, u49, u50, u51, u52, u53, u54, u55, u56, u57, u58, u59, u60, u61, u62, u63, u64, u65, u66, u67, u68, u69, u70, u71, u72, u73, u74, u75, u76, u77, u78, u79, u80, u81, u82, u83, u84, u85, u86, u87, u88, u89, u90, u91, u92, u93, u94, u95, u96, u97, u98, u99, u100, u101, u102, u103, u104, u105, u106, u107, u108, u109, u110, u111, u112, u113, u114, u115, u116, u117, u118, u119, u120, u121, u122, u123, u124, u125, u126, u127, u128, u129, u130, u131, u132, u133, u134, u135, u136, u137, u138, u139, u140, u141, u142, u143, u144, u145, u146, u147, u148, u149, u150, u151, u152, u153, u154, u155, u156, u157, u158, u159, u160, u161, u162, u163, u164, u165, u166, u167, u168, u169, u170, u171, u172, u173, u174, u175, u176, u177, u178, u179, u180, u181, u182, u183, u184, u185, u186, u187, u188, u189, u190, u191, u192, u193, u194, u195, u196, u197, u198, u199, u200, t201, t202, t203, t204, t205, t206, t207, t208, t209, t210, t211, t212, t213, t214, t215, u216, u217, u218, u219, u220, u221, u222, u223, u224, u225, u226, u227, u228, u229, u230, u231, u232, u233, u234, u235, u236, u237, u238, u239, u240, u241, u242, u243, u244, u245, u246, u247, u248, u249, u250, u251, u252, u253, u254, u255, u256, u257, u258, u259, u260, u261, u262, u263, u264, u265, u266, u267, u268, u269, u270, u271, u272, u273, u274, u275, u276, u277, u278, u279, u280, u281, u282, u283, u284, u285, u286, u287, u288, u289, u290], []⟩ wx)
    (hK : ∀ (t4 t22 t201 t202 t203 t204 t205 t206 t207 t208 t209 t210 t211 t212 t213 t214 t215 : Value) (wx : World), Hid (∀ (j : Nat) y, R[j]? = some y → ¬ Eq2 y x.1 x.2) ∧ Hid (Below w4.heap.size w4 wx) → K ⟨#[u0, u1, u2, u3, t4, .bool true, u6, u7, u8, .pointer (some ⟨g1, 0, none⟩), .slice RV R.length rc, u11, u12, u13, u14, u15, u16, u17, u18, u19, u20, u21, t22, u23, u24, u25, u26, u27, u28, u29, u30, u31, u32, u33, u34, u35, u36, u37, u38, u39, u40, u41, u42, u43, u44, u45, u46, u47, u48, u49, u50, u51, u52, u53, u54, u55, u56, u57, u58, u59, u60, u61, u62, u63, u64, u65, u66, u67, u68, u69, u70, u71, u72, u73, u74, u75, u76, u77, u78, u79, u80, u81, u82, u83, u84, u85, u86, u87, u88, u89, u90, u91, u92, u93, u94, u95, u96, u97, u98, u99, u100, u101, u102, u103, u104, u105, u106, u107, u108, u109, u110, u111, u112, u113, u114, u115, u116, u117, u118, u119, u120, u121, u122, u123, u124, u125, u126, u127, u128, u129, u130, u131, u132, u133, u134, u135, u136, u137, u138, u139, u140, u141, u142, u143, u144, u145, u146, u147, u148, u149, u150, u151, u152, u153, u154, u155, u156, u157, u158, u159, u160, u161, u162, u163, u164, u165, u166, u167, u168, u169, u170, u171, u172, u173, u174, u175, u176, u177, u178, u179, u180, u181, u182, u183, u184, u185, u186, u187, u188, u189, u190, u191, u192, u193, u194, u195, u196, u197, u198, u199, u200, t201, t202, t203, t204, t205, t206, t207, t208, t209, t210, t211, t212, t213, t214, t215, u216, u217, u218, u219, u220, u221, u222, u223, u224, u225, u226, u227, u228, u229, u230, u231, u232, u233, u234, u235, u236, u237, u238, u239, u240, u241, u242, u243, u244, u245, u246, u247, u248, u249, u250, u251, u252, u253, u254, u255, u256, u257, u258, u259, u260, u261, u262, u263, u264, u265, u266, u267, u268, u269, u270, u271, u272, u273, u274, u275, u276, u277, u278, u279, u280, u281, u282, u283, u284, u285, u286, u287, u288, u289, u290], []⟩ wx) :
    Code.wp Try.prog b4 (Exit.then K Q) ⟨#[u0, u1, u2, u3, u4, .bool true, u6, u7, u8, .pointer (some ⟨g1, 0, none⟩), .slice RV R.length rc, u11, u12, u13, u14, u15, u16, u17, u18, u19, u20, u21, .int .i64 0, u23, u24, u25, u26, u27, u28, u29, u30, u31, u32, u33, u34, u35, u36, u37, u38, u39, u40, u41, u42, u43, u44, u45, u46, u47, u48, u49, u50, u51, u52, u53, u54, u55, u56, u57, u58, u59, u60, u61, u62, u63, u64, u65, u66, u67, u68, u69, u70, u71, u72, u73, u74, u75, u76, u77, u78, u79, u80, u81, u82, u83, u84, u85, u86, u87, u88, u89, u90, u91, u92, u93, u94, u95, u96, u97, u98, u99, u100, u101, u102, u103, u104, u105, u106, u107, u108, u109, u110, u111, u112, u113, u114, u115, u116, u117, u118, u119, u120, u121, u122, u123, u124, u125, u126, u127, u128, u129, u130, u131, u132, u133, u134, u135, u136, u137, u138, u139, u140, u141, u142, u143, u144, u145, u146, u147, u148, u149, u150, u151, u152, u153, u154, u155, u156, u157, u158, u159, u160, u161, u162, u163, u164, u165, u166, u167, u168, u169, u170, u171, u172, u173, u174, u175, u176, u177, u178, u179, u180, u181, u182, u183, u184, u185, u186, u187, u188, u189, u190, u191, u192, u193, u194, u195, u196, u197, u198, u199, u200, u201, u202, u203, u204, u205, u206, u207, u208, u209, u210, u211, u212, u213, u214, u215, u216, u217, u218, u219, u220, u221, u222, u223, u224, u225, u226, u227, u228, u229, u230, u231, u232, u233, u234, u235, u236, u237, u238, u239, u240, u241, u242, u243, u244, u245, u246, u247, u248, u249, u250, u251, u252, u253, u254, u255, u256, u257, u258, u259, u260, u261, u262, u263, u264, u265, u266, u267, u268, u269, u270, u271, u272, u273, u274, u275, u276, u277, u278, u279, u280, u281, u282, u283, u284, u285, u286, u287, u288, u289, u290], []⟩ w4 := by
  conv => arg 2; whnf
  go_wp2_with fail
  go_loopw [22] (fun sk wr => ∃ (i : Nat), i ≤ R.length ∧ sk = .int .i64 i ∧ Hid (∀ (j : Nat) y, j < i → R[j]? = some y → ¬ Eq2 y x.1 x.2) ∧ Hid (Below w4.heap.size w4 wr)) (fun sk _ => R.length - (intOf sk).toNat)
  case atStart => exact ⟨0, by omega, rfl, Lib.hid (fun j y hj => absurd hj (by omega)), Lib.hid (Below.refl _ _)⟩
  case round =>
    obtain ⟨i, hi, rfl, NO, K⟩ := hrel
    by_cases hlt : i < R.length
    · obtain ⟨off, cap', he, h2, h3, h4, hcell⟩ := IR.out.some_ Pn.ok (by omega)
      obtain ⟨rfl, rfl⟩ : RV = some ⟨br, off, none⟩ ∧ rc = cap' := by simpa using he
      obtain ⟨p, hp⟩ := at_some hlt
      have HP := Lib.hid hp
      have CELL := Lib.hid (Tmr.pane_cells hp hcell)
      have i0 : (i : Int) < R.length := by omega
      clear hcell he h2 h3 h4 hp
      have e0 := win_eql p.s p.e x.1 x.2
      by_cases hyx : Eq2 p x.1 x.2
      · have hd : decide (p.s = x.1 ∧ p.e = x.2) = true := by simpa using hyx
        rw [hd] at e0
        clear hd
        obtain ⟨c0, c1, c2, c3, c4, c5, c6⟩ := CELL.out
        have f1 := Later.cell (cell_keep K.out c1)
        have f2 := Later.cell (cell_keep K.out c2)
        have g1' := Later.cell (cell_keep K.out P1.out)
        have g2' := Later.cell (cell_keep K.out P2.out)
        clear c0 c1 c2 c3 c4 c5 c6
        go_wp2_with fail
        refine wp_region_later (by kernel_rfl) (by kernel_rfl) ?_
        repeat (go_big_quiet_step (fail))
        refine wpQuiet_nil ?_
        rintro _ ⟨u, rfl⟩
        have K2 := Lib.hid (after K.out u.below)
        clear f1 f2 g1' g2' e0
        generalize u.w = w2 at *
        go_wp2_with fail
        exact K2
      · have hd : decide (p.s = x.1 ∧ p.e = x.2) = false := by simpa using hyx
        rw [hd] at e0
        clear hd
        have NO' : Hid (∀ (j : Nat) y, j < i + 1 → R[j]? = some y → ¬ Eq2 y x.1 x.2) := Lib.hid fun j y hj hjy => by
          by_cases e : j = i
          · subst e
            rw [HP.out] at hjy
            exact Option.some.inj hjy ▸ hyx
          · exact NO.out j y (by omega) hjy
        clear NO hyx
        obtain ⟨c0, c1, c2, c3, c4, c5, c6⟩ := CELL.out
        have f1 := Later.cell (cell_keep K.out c1)
        have f2 := Later.cell (cell_keep K.out c2)
        have g1' := Later.cell (cell_keep K.out P1.out)
        have g2' := Later.cell (cell_keep K.out P2.out)
        clear c0 c1 c2 c3 c4 c5 c6
        go_wp2_with fail
        refine wp_region_later (by kernel_rfl) (by kernel_rfl) ?_
        repeat (go_big_quiet_step (fail))
        refine wpQuiet_nil ?_
        rintro _ ⟨u, rfl⟩
        have K2 := Lib.hid (after K.out u.below)
        clear f1 f2 g1' g2' e0
        generalize u.w = w2 at *
        go_wp2_with fail
        exact ⟨⟨i + 1, by omega, by go_num, NO', K2⟩, by simp [intOf]; omega⟩
    · obtain rfl : i = R.length := by omega
      have NO' : Hid (∀ (j : Nat) y, R[j]? = some y → ¬ Eq2 y x.1 x.2) := Lib.hid fun j y h => NO.out j y (List.getElem?_eq_some_iff.1 h).1 h
      go_wp2_with fail
      exact ⟨NO', K⟩

end Go.Proofs.Ytnheehodgkagfaa.panePlays
