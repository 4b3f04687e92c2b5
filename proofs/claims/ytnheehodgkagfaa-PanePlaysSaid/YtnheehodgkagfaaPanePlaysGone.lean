/-
  PanePlays: what went out by Merge is what was met, without the one that is put.
-/
import Derived.Test.YtnheehodgkagfaaPanePlaysIn
namespace Go.Proofs.Ytnheehodgkagfaa.panePlays
open Go.ChangeShapes Go.WideShapes Go.ChangeAt Go.RowKit Small Pane
set_option linter.unusedVariables false

/-- the loop -/
noncomputable def b6 : Code := ((Try.f3.body.bind (blk 6)).getD .skip)
theorem win_ne (a b : Int) (w' : World) : (binOp .neq 26 (.agg #[.int .i64 a, .int .i64 b]) (.agg #[.int .i64 a, .int .i64 b])).run Try.prog w' = .ok (.bool false) w' := by
  simp [go_sem]
theorem wo_len (M : List (Int × Int)) (x : Int × Int) : (wo M x).length ≤ M.length := List.length_filter_le _ _
theorem wo_yes {M : List (Int × Int)} {x : Int × Int} {i : Nat} (h : M[i]? = some x) : (wo (M.take (i + 1)) x).length = (wo (M.take i) x).length := by
  rw [wo_step h]; simp
theorem wo_no {M : List (Int × Int)} {x y : Int × Int} {i : Nat} (h : M[i]? = some y) (hne : ¬ y = x) : (wo (M.take (i + 1)) x).length = (wo (M.take i) x).length + 1 ∧ (wo M x)[(wo (M.take i) x).length]? = some y := by
  refine ⟨by rw [wo_step h]; simp [hne], ?_⟩
  have h1 : wo M x = wo (M.take (i + 1)) x ++ wo (M.drop (i + 1)) x := by
    rw [← List.filter_append, List.take_append_drop]
  rw [h1, wo_step h]
  simp [hne]

set_option maxRecDepth 100000 in
set_option maxHeartbeats 8000000 in
theorem gone6 {w4 : World} {g1 bm bg mc gc : Nat} {MV GV : Option Addr} {M : List (Int × Int)} {x : Int × Int} {u0 u1 u2 u3 u4 u5 u6 u7 u8 u10 u12 u13 u14 u15 u16 u17 u18 u19 u20 u21 u22 u23 u24 u26 u29 u30 u31 u32 u33 u34 u35 u36 u37 u38 u39 u40 u41 u42 u43 u44 u45 u46 u47 u48 u49 u50 u51 u52 u53 u54 u55 u56 u57 u58 u59 u60 u61 u62 u63 u64 u65 u66 u67 u68 u69 u70 u71 u72 u73 u74 u75 u76 u77 u78 u79 u80 u81 u82 u83 u84 u85 u86 u87 u88 u89 u90 u91 u92 u93 u94 u95 u96 u97 u98 u99 u100 u101 u102 u103 u104 u105 u106 u107 u108 u109 u110 u111 u112 u113 u114 u115 u116 u117 u118 u119 u120 u121 u122 u123 u124 u125 u126 u127 u128 u129 u130 u131 u132 u133 u134 u135 u136 u137 u138 u139 u140 u141 u142 u143 u144 u145 u146 u147 u148 u149 u150 u151 u152 u153 u154 u155 u156 u157 u158 u159 u160 u161 u162 u163 u164 u165 u166 u167 u168 u169 u170 u171 u172 u173 u174 u175 u176 u177 u178 u179 u180 u181 u182 u183 u184 u185 u186 u187 u188 u189 u190 u191 u192 u193 u194 u195 u196 u197 u198 u199 u200 u201 u202 u203 u204 u205 u206 u207 u208 u209 u210 u211 u212 u213 u214 u215 u216 u217 u218 u219 u220 u221 u222 u223 u224 u225 u226 u227 u228 u229 u230 u231 u232 u233 u234 u235 u236 u237 u238 u239 u240 u241 u242 u243 u244 u245 u246 u247 u248 u249 u250 u251 u252 u253 u254 u255 u256 u257 u258 u259 u260 u261 u262 u263 u264 u265 u266 u267 u268 u269 u270 u271 u272 u273 u274 u275 u276 u277 u278 u279 u280 u281 u282 u283 u284 u285 u286 u287 u288 u289 u290 : Value} {K : Act → World → Prop} {Q : Exit → Act → World → Prop}
    (hn : M.length ≤ 60) (IM : Hid (Sl.Is Wn.k w4 (.slice MV M.length mc) M bm)) (IG : Hid (Sl.Is Wn.k w4 (.slice GV (wo M x).length gc) (wo M x) bg)) (P1 : Hid (w4.cell? ⟨g1, 1, none⟩ = some (.int .i64 x.1))) (P2 : Hid (w4.cell? ⟨g1, 2, none⟩ = some (.int .i64 x.2)))
    (hK : ∀ (t4 t27 t28 t231 t232 t233 t234 t235 t236 t237 t238 t239 t240 t241 t242 t243 t244 t245 t246 t247 t248 t249 t250 t251 t252 t253 t254 t255 t256 t257 t258 : Value) (wx : World), t27 = .int .i64 (wo M x).length ∧ Hid (Below w4.heap.size w4 wx) → K ⟨#[u0, u1, u2, u3, t4, u5, u6, u7, u8, .pointer (some ⟨g1, 0, none⟩), u10, .slice MV M.length mc, u12, u13, u14, u15, u16, u17, u18, u19, u20, u21, u22, u23, u24, .slice GV (wo M x).length gc, u26, t27, t28, u29, u30, u31, u32, u33, u34, u35, u36, u37, u38, u39, u40, u41, u42, u43, u44, u45, u46, u47, u48, u49, u50, u51, u52, u53, u54, u55, u56, u57, u58, u59, u60, u61, u62, u63, u64, u65, u66, u67, u68, u69, u70, u71, u72, u73, u74, u75, u76, u77, u78, u79, u80, u81, u82, u83, u84, u85, u86, u87, u88, u89, u90, u91, u92, u93, u94, u95, u96, u97, u98, u99, u100, u101, u102, u103, u104, u105, u106, u107, u108, u109, u110, u111, u112, u113, u114, u115, u116, u117, u118, u119, u120, u121, u122, u123, u124, u125, u126, u127, u128, u129, u130, u131, u132, u133, u134, u135, u136, u137, u138, u139, u140, u141, u142, u143, u144, u145, u146, u147, u148, u149, u150, u151, u152, u153, u154, u155, u156, u157, u158, u159, u160, u161, u162, u163, u164, u165, u166, u167, u168, u169, u170, u171, u172, u173, u174, u175, u176, u177, u178, u179, u180, u181, u182, u183, u184, u185, u186, u187, u188, u189, u190, u191, u192, u193, u194, u195, u196, u197, u198, u199, u200, u201, u202, u203, u204, u205, u206, u207, u208, u209, u210, u211, u212, u213, u214, u215, u216, u217, u218, u219, u220, u221, u222, u223, u224, u225, u226, u227, u228, u229, u230, t231, t232, t233, t234, t235, t236, t237, t238, t239, t240, t241, t242, t243, t244, t245, t246, t247, t248, t249, t250, t251, t252, t253, t254, t255, t256, t257, t258, u259, u260, u261, u262, u263, u264, u265, u266, u267, u268, u269, u270, u271, u272, u273, u274, u275, u276, u277, u278, u279, u280, u281, u282, u283, u284, u285, u286, u287, u288, u289, u290], []⟩ wx) :
    Code.wp Try.prog b6 (Exit.then K Q) ⟨#[u0, u1, u2, u3, u4, u5, u6, u7, u8, .pointer (some ⟨g1, 0, none⟩), u10, .slice MV M.length mc, u12, u13, u14, u15, u16, u17, u18, u19, u20, u21, u22, u23, u24, .slice GV (wo M x).length gc, u26, .int .i64 0, .int .i64 0, u29, u30, u31, u32, u33, u34, u35, u36, u37, u38, u39, u40, u41, u42, u43, u44, u45, u46, u47, u48, u49, u50, u51, u52, u53, u54, u55, u56, u57, u58, u59, u60, u61, u62, u63, u64, u65, u66, u67, u68, u69, u70, u71, u72, u73, u74, u75, u76, u77, u78, u79, u80, u81, u82, u83, u84, u85, u86, u87, u88, u89, u90, u91, u92, u93, u94, u95, u96, u97, u98, u99, u100, u101, u102, u103, u104, u105, u106, u107, u108, u109, u110, u111, u112, u113, u114, u115, u116, u117, u118, u119, u120, u121, u122, u123, u124, u125, u126, u127, u128, u129, u130, u131, u132, u133, u134, u135, u136, u137, u138, u139, u140, u141, u142, u143, u144, u145, u146, u147, u148, u149, u150, u151, u152, u153, u154, u155, u156, u157, u158, u159, u160, u161, u162, u163, u164, u165, u166, u167, u168, u169, u170, u171, u172, u173, u174, u175, u176, u177, u178, u179, u180, u181, u182, u183, u184, u185, u186, u187, u188, u189, u190, u191, u192, u193, u194, u195, u196, u197, u198, u199, u200, u201, u202, u203, u204, u205, u206, u207, u208, u209, u210, u211, u212, u213, u214, u215, u216, u217, u218, u219, u220, u221, u222, u223, u224, u225, u226, u227, u228, u229, u230, u231, u232, u233, u234, u235, u236, u237, u238, u239, u240, u241, u242, u243, u244, u245, u246, u247, u248, u249, u250, u251, u252, u253, u254, u255, u256, u257, u258, u259, u260, u261, u262, u263, u264, u265, u266, u267, u268, u269, u270, u271, u272, u273, u274, u275, u276, u277, u278, u279, u280, u281, u282, u283, u284, u285, u286, u287, u288, u289, u290], []⟩ w4 := by
  conv => arg 2; whnf
  have hG := Lib.hid (wo_len M x)
  go_wp2_with fail
  go_loopw [27, 28] (fun sn sk wr => ∃ (i : Nat), i ≤ M.length ∧ sk = .int .i64 i ∧ sn = .int .i64 (wo (M.take i) x).length ∧ Hid (Below w4.heap.size w4 wr)) (fun _ sk _ => M.length - (intOf sk).toNat)
  case atStart => exact ⟨0, by omega, rfl, rfl, Lib.hid (Below.refl _ _)⟩
  case round =>
    obtain ⟨i, hi, rfl, rfl, K⟩ := hrel
    by_cases hlt : i < M.length
    · obtain ⟨off, cap', he, h2, h3, h4, hcell⟩ := IM.out.some_ Wn.ok (by omega)
      obtain ⟨rfl, rfl⟩ : MV = some ⟨bm, off, none⟩ ∧ mc = cap' := by simpa using he
      obtain ⟨y, hy⟩ := Wn.at_some hlt
      have HY := Lib.hid hy
      have CELL := Lib.hid (Wn.cells hy hcell)
      have i0 : (i : Int) < M.length := by omega
      clear hcell he h2 h3 h4 hy
      by_cases hyx : y = x
      · have hd : decide (y.1 = x.1 ∧ y.2 = x.2) = true := by
          simp [hyx]
        have e0 := win_eql y.1 y.2 x.1 x.2
        rw [hd] at e0
        have NX := Lib.hid (wo_yes (HY.out.trans (congrArg some hyx)))
        clear hyx hd
        obtain ⟨f1, f2⟩ := CELL.out
        have f1 := Later.cell (cell_keep K.out f1)
        have f2 := Later.cell (cell_keep K.out f2)
        have g1' := Later.cell (cell_keep K.out P1.out)
        have g2' := Later.cell (cell_keep K.out P2.out)
        go_wp2_with fail
        refine wp_region_later (by kernel_rfl) (by kernel_rfl) ?_
        repeat (go_big_quiet_step (fail))
        refine wpQuiet_nil ?_
        rintro _ ⟨u, rfl⟩
        have K2 := Lib.hid (after K.out u.below)
        clear f1 f2 g1' g2' e0
        generalize u.w = w2 at *
        go_wp2_with fail
        exact ⟨⟨i + 1, by omega, by go_num, by rw [NX.out], K2⟩, by simp [intOf]; omega⟩
      · have hd : decide (y.1 = x.1 ∧ y.2 = x.2) = false := by
          simpa [Prod.ext_iff] using hyx
        have e0 := win_eql y.1 y.2 x.1 x.2
        rw [hd] at e0
        clear hd
        obtain ⟨nx, gx⟩ := wo_no HY.out hyx
        have NX := Lib.hid nx
        have GX := Lib.hid gx
        clear nx gx hyx
        have hN := Lib.hid (wo_len (M.take i) x)
        obtain ⟨n, hn'⟩ : ∃ n, n = (wo (M.take i) x).length := ⟨_, rfl⟩
        rw [← hn'] at NX GX hN ⊢
        clear hn'
        have n0 := (List.getElem?_eq_some_iff.1 GX.out).1
        have n1 : (n : Int) < (wo M x).length := by omega
        have n2 : ¬ (n : Int) ≥ (wo M x).length := by omega
        obtain ⟨off2, cap2, he, h2, h3, h4, hcell⟩ := IG.out.some_ Wn.ok (by omega)
        obtain ⟨rfl, rfl⟩ : GV = some ⟨bg, off2, none⟩ ∧ gc = cap2 := by simpa using he
        obtain ⟨f3, f4⟩ := Wn.cells GX.out hcell
        clear hcell he h2 h3 h4
        have hg := hG.out
        obtain ⟨f1, f2⟩ := CELL.out
        have f1 := Later.cell (cell_keep K.out f1)
        have f2 := Later.cell (cell_keep K.out f2)
        have g1' := Later.cell (cell_keep K.out P1.out)
        have g2' := Later.cell (cell_keep K.out P2.out)
        go_wp2_with fail
        refine wp_region_later (by kernel_rfl) (by kernel_rfl) ?_
        repeat (go_big_quiet_step (fail))
        refine wpQuiet_nil ?_
        rintro _ ⟨u, rfl⟩
        have K2 := Lib.hid (after K.out u.below)
        clear f1 f2 g1' g2' e0
        generalize u.w = w2 at *
        obtain ⟨f1, f2⟩ := CELL.out
        go_wp2_with fail
        have e1 := win_ne y.1 y.2
        have f1 := Later.cell (cell_keep K2.out f1)
        have f2 := Later.cell (cell_keep K2.out f2)
        have f3 := Later.cell (cell_keep K2.out f3)
        have f4 := Later.cell (cell_keep K2.out f4)
        refine wp_region_later (by kernel_rfl) (by kernel_rfl) ?_
        repeat (go_big_quiet_step (fail))
        refine wpQuiet_nil ?_
        rintro _ ⟨u, rfl⟩
        have K3 := Lib.hid (after K2.out u.below)
        clear f1 f2 f3 f4 e1
        generalize u.w = w3 at *
        go_wp2_with fail
        exact ⟨⟨i + 1, by omega, by go_num, by rw [NX.out]; go_num, K3⟩, by simp [intOf]; omega⟩
    · obtain rfl : i = M.length := by omega
      rw [List.take_length]
      go_wp2_with fail

end Go.Proofs.Ytnheehodgkagfaa.panePlays
