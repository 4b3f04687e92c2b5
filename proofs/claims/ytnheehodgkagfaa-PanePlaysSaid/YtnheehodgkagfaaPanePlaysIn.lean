/-
  PanePlays: the round's inner loop: which panes have the window, or meet it, and which don't.
-/
import Derived.Test.YtnheehodgkagfaaPanePlaysSt
import Derived.Test.YtnheehodgkagfaaRefSpan
import Derived.Test.YtnheehodgkagfaaTail
namespace Go.Proofs.Ytnheehodgkagfaa.panePlays
open Go.ChangeShapes Go.WideShapes Go.ChangeAt Go.RowKit Small Pane
set_option linter.unusedVariables false

/-- the inner loop -/
noncomputable def b2 : Code := ((Try.f3.body.bind (blk 2)).getD .skip)
theorem win_eql (a b c e : Int) (w' : World) : (binOp .eql 26 (.agg #[.int .i64 a, .int .i64 b]) (.agg #[.int .i64 c, .int .i64 e])).run Try.prog w' = .ok (.bool (decide (a = c ∧ b = e))) w' := by
  have h : decide (a = c ∧ b = e) = (a == c && b == e) := by
    rw [Bool.eq_iff_iff]
    simp
  rw [h]
  cases h0 : (a == c)
  · simp [go_sem, h0]
  cases h1 : (b == e)
  · simp [go_sem, h0, h1]
  simp [go_sem, h0, h1]

set_option maxRecDepth 100000 in
set_option maxHeartbeats 8000000 in
theorem inner {B w4 : World} {g0 g1 b vcap n0 c0 : Nat} {A0 AV : Option Addr} {ri : Int} {key : ByteArray} {L : List Pn} {d : Deed} {x0 : Pn} {mg : Bool} {u2 u3 u4 u12 u15 u16 u17 u18 u19 u20 u21 u22 u23 u24 u25 u26 u27 u28 u29 u30 u31 u32 u33 u34 u35 u36 u37 u38 u39 u40 u41 u42 u43 u44 u45 u46 u47 u48 u49 u50 u51 u52 u53 u54 u55 u56 u57 u58 u59 u60 u61 u62 u63 u64 u65 u66 u67 u68 u69 u70 u71 u72 u73 u74 u75 u76 u77 u78 u79 u80 u81 u82 u83 u84 u85 u86 u87 u88 u89 u90 u91 u92 u93 u94 u95 u96 u97 u98 u99 u100 u101 u102 u103 u104 u105 u106 u107 u108 u109 u110 u111 u112 u113 u114 u115 u116 u117 u118 u119 u120 u121 u122 u123 u124 u125 u126 u127 u128 u129 u130 u131 u132 u133 u134 u135 u136 u137 u138 u139 u140 u141 u142 u143 u144 u145 u146 u147 u148 u149 u150 u151 u152 u153 u154 u155 u156 u157 u158 u159 u160 u161 u162 u163 u164 u165 u166 u167 u168 u169 u170 u171 u172 u173 u174 u175 u176 u177 u178 u179 u180 u181 u182 u183 u184 u185 u186 u187 u188 u189 u190 u191 u192 u193 u194 u195 u196 u197 u198 u199 u200 u201 u202 u203 u204 u205 u206 u207 u208 u209 u210 u211 u212 u213 u214 u215 u216 u217 u218 u219 u220 u221 u222 u223 u224 u225 u226 u227 u228 u229 u230 u231 u232 u233 u234 u235 u236 u237 u238 u239 u240 u241 u242 u243 u244 u245 u246 u247 u248 u249 u250 u251 u252 u253 u254 u255 u256 u257 u258 u259 u260 u261 u262 u263 u264 u265 u266 u267 u268 u269 u270 u271 u272 u273 u274 u275 u276 u277 u278 u279 u280 u281 u282 u283 u284 u285 u286 u287 u288 u289 u290 : Value} {K : Act → World → Prop} {Q : Exit → Act → World → Prop}
    (hn : L.length ≤ 60) (IL : Hid (Sl.Is Pn.k B (.slice AV L.length vcap) L b)) (D0 : Hid (DS B g0 g1 d x0 (.slice none 0 0) (.slice none 0 0) [] [] w4))
    (hK : ∀ (t10 t11 t14 t15 t61 t62 t63 t64 t65 t66 t67 t68 t69 t70 t71 t72 t73 t74 t75 t76 t77 t78 t79 t80 t81 t82 t83 t84 t85 t86 t87 t88 t89 t90 t91 t92 t93 t94 t95 t96 t97 t98 t99 t100 t101 t102 t103 t104 t105 t106 t107 t108 t109 t110 t111 t112 t113 t114 t115 t116 t117 t118 t119 t120 t121 t122 t123 t124 t125 t126 t127 t128 t129 t130 t131 t132 t133 t134 t135 t136 t137 t138 t139 t140 t141 t142 : Value) (wx : World), Hid (DS B g0 g1 d ((metH mg d.s d.e L).foldl join2 x0) t10 t11 (restH mg d.s d.e L) (wins (metH mg d.s d.e L)) wx) → K ⟨#[.slice A0 n0 c0, .string key, u2, u3, u4, .bool true, .slice AV L.length vcap, .int .i64 ri, .pointer (some ⟨g0, 0, none⟩), .pointer (some ⟨g1, 0, none⟩), t10, t11, u12, .bool mg, t14, t15, u16, u17, u18, u19, u20, u21, u22, u23, u24, u25, u26, u27, u28, u29, u30, u31, u32, u33, u34, u35, u36, u37, u38, u39, u40, u41, u42, u43, u44, u45, u46, u47, u48, u49, u50, u51, u52, u53, u54, u55, u56, u57, u58, u59, u60, t61, t62, t63, t64, t65, t66, t67, t68, t69, t70, t71, t72, t73, t74, t75, t76, t77, t78, t79, t80, t81, t82, t83, t84, t85, t86, t87, t88, t89, t90, t91, t92, t93, t94, t95, t96, t97, t98, t99, t100, t101, t102, t103, t104, t105, t106, t107, t108, t109, t110, t111, t112, t113, t114, t115, t116, t117, t118, t119, t120, t121, t122, t123, t124, t125, t126, t127, t128, t129, t130, t131, t132, t133, t134, t135, t136, t137, t138, t139, t140, t141, t142, u143, u144, u145, u146, u147, u148, u149, u150, u151, u152, u153, u154, u155, u156, u157, u158, u159, u160, u161, u162, u163, u164, u165, u166, u167, u168, u169, u170, u171, u172, u173, u174, u175, u176, u177, u178, u179, u180, u181, u182, u183, u184, u185, u186, u187, u188, u189, u190, u191, u192, u193, u194, u195, u196, u197, u198, u199, u200, u201, u202, u203, u204, u205, u206, u207, u208, u209, u210, u211, u212, u213, u214, u215, u216, u217, u218, u219, u220, u221, u222, u223, u224, u225, u226, u227, u228, u229, u230, u231, u232, u233, u234, u235, u236, u237, u238, u239, u240, u241, u242, u243, u244, u245, u246, u247, u248, u249, u250, u251, u252, u253, u254, u255, u256, u257, u258, u259, u260, u261, u262, u263, u264, u265, u266, u267, u268, u269, u270, u271, u272, u273, u274, u275, u276, u277, u278, u279, u280, u281, u282, u283, u284, u285, u286, u287, u288, u289, u290], []⟩ wx) :
    Code.wp Try.prog b2 (Exit.then K Q) ⟨#[.slice A0 n0 c0, .string key, u2, u3, u4, .bool true, .slice AV L.length vcap, .int .i64 ri, .pointer (some ⟨g0, 0, none⟩), .pointer (some ⟨g1, 0, none⟩), .slice none 0 0, .slice none 0 0, u12, .bool mg, .int .i64 0, u15, u16, u17, u18, u19, u20, u21, u22, u23, u24, u25, u26, u27, u28, u29, u30, u31, u32, u33, u34, u35, u36, u37, u38, u39, u40, u41, u42, u43, u44, u45, u46, u47, u48, u49, u50, u51, u52, u53, u54, u55, u56, u57, u58, u59, u60, u61, u62, u63, u64, u65, u66, u67, u68, u69, u70, u71, u72, u73, u74, u75, u76, u77, u78, u79, u80, u81, u82, u83, u84, u85, u86, u87, u88, u89, u90, u91, u92, u93, u94, u95, u96, u97, u98, u99, u100, u101, u102, u103, u104, u105, u106, u107, u108, u109, u110, u111, u112, u113, u114, u115, u116, u117, u118, u119, u120, u121, u122, u123, u124, u125, u126, u127, u128, u129, u130, u131, u132, u133, u134, u135, u136, u137, u138, u139, u140, u141, u142, u143, u144, u145, u146, u147, u148, u149, u150, u151, u152, u153, u154, u155, u156, u157, u158, u159, u160, u161, u162, u163, u164, u165, u166, u167, u168, u169, u170, u171, u172, u173, u174, u175, u176, u177, u178, u179, u180, u181, u182, u183, u184, u185, u186, u187, u188, u189, u190, u191, u192, u193, u194, u195, u196, u197, u198, u199, u200, u201, u202, u203, u204, u205, u206, u207, u208, u209, u210, u211, u212, u213, u214, u215, u216, u217, u218, u219, u220, u221, u222, u223, u224, u225, u226, u227, u228, u229, u230, u231, u232, u233, u234, u235, u236, u237, u238, u239, u240, u241, u242, u243, u244, u245, u246, u247, u248, u249, u250, u251, u252, u253, u254, u255, u256, u257, u258, u259, u260, u261, u262, u263, u264, u265, u266, u267, u268, u269, u270, u271, u272, u273, u274, u275, u276, u277, u278, u279, u280, u281, u282, u283, u284, u285, u286, u287, u288, u289, u290], []⟩ w4 := by
  conv => arg 2; whnf
  go_wp2_with fail
  go_loopw [10, 11, 14] (fun sr sm si wr => ∃ (i : Nat), i ≤ L.length ∧ si = .int .i64 i ∧ Hid (DS B g0 g1 d ((metH mg d.s d.e (L.take i)).foldl join2 x0) sr sm (restH mg d.s d.e (L.take i)) (wins (metH mg d.s d.e (L.take i))) wr)) (fun _ _ si _ => L.length - (intOf si).toNat)
  case atStart => exact ⟨0, by omega, rfl, D0⟩
  case round =>
    obtain ⟨i, hi, rfl, DI⟩ := hrel
    by_cases hlt : i < L.length
    · obtain ⟨off, cap', he, h2, h3, h4, hcell⟩ := IL.out.some_ Pn.ok (by omega)
      obtain ⟨rfl, rfl⟩ : AV = some ⟨b, off, none⟩ ∧ vcap = cap' := by simpa using he
      obtain ⟨p, hp⟩ := at_some hlt
      have HP := Lib.hid hp
      have CELL := Lib.hid (Tmr.pane_cells hp hcell)
      have EQ : Hid (∀ w' : World, (binOp .eql 26 (.agg #[.int .i64 p.s, .int .i64 p.e]) (.agg #[.int .i64 d.s, .int .i64 d.e])).run Try.prog w' = .ok (.bool (decide (Eq2 p d.s d.e))) w') := Lib.hid (win_eql p.s p.e d.s d.e)
      have i0 : (i : Int) < L.length := by omega
      clear hcell he h2 h3 h4 hp
      go_wp2_with fail
      obtain ⟨c0, c1, c2, c3, c4, c5, c6⟩ := CELL.out
      have f1 := Later.cell (cell_keep DI.out.below c1)
      have f2 := Later.cell (cell_keep DI.out.below c2)
      have g1' := Later.cell (DI.out.deed.cell (i := 1) rfl)
      have g2' := Later.cell (DI.out.deed.cell (i := 2) rfl)
      have eq := EQ.out
      clear c0 c1 c2 c3 c4 c5 c6
      refine wp_region_later (by kernel_rfl) (by kernel_rfl) ?_
      repeat (go_big_quiet_step (fail))
      refine wpQuiet_nil ?_
      rintro _ ⟨u, rfl⟩
      have D2 := Lib.hid (DI.out.next u.below)
      clear f1 f2 g1' g2' eq
      generalize u.w = w2 at *
      go_upto_if 75 with fail
      go_cut [15] from 61 to 142 (fun s wx => s = .bool (hits mg d.s d.e p) ∧ Hid (DS B g0 g1 d ((metH mg d.s d.e (L.take i)).foldl join2 x0) u10 u11 (restH mg d.s d.e (L.take i)) (wins (metH mg d.s d.e (L.take i))) wx))
      case first =>
        cases mg
        · go_wp2_with fail
          go_meet
          exact ⟨congrArg Value.bool (show (decide (p.s = d.s) && decide (p.e = d.e)) = decide (p.s = d.s ∧ p.e = d.e) by rw [Bool.decide_and]), D2⟩
        · have ME := Lib.hid fun w : World => RefSpan.meet_ok p.s p.e d.s d.e w
          by_cases h1 : d.s < d.e
          · have q1 : decide (d.s < d.e) = true := by simpa using h1
            by_cases h2 : p.s < p.e
            · have q2 : decide (p.s < p.e) = true := by simpa using h2
              obtain ⟨c0, c1, c2, c3, c4, c5, c6⟩ := CELL.out
              have f1 := Later.cell (cell_keep D2.out.below c1)
              have f2 := Later.cell (cell_keep D2.out.below c2)
              have g1' := Later.cell (D2.out.deed.cell (i := 1) rfl)
              have g2' := Later.cell (D2.out.deed.cell (i := 2) rfl)
              clear c0 c1 c2 c3 c4 c5 c6
              go_wp2_with fail
              refine wp_region_later (by kernel_rfl) (by kernel_rfl) ?_
              repeat (go_big_quiet_step (first | (go_at_call 8; with_reducible exact Later.call _ (ME.out _))))
              refine wpQuiet_nil ?_
              rintro _ ⟨u, rfl⟩
              have D3 := Lib.hid (D2.out.next u.below)
              clear f1 f2 g1' g2'
              generalize u.w = w3 at *
              go_wp2_with fail
              go_meet
              exact ⟨by simp, D3⟩
            · have q2 : decide (p.s < p.e) = false := by simpa using h2
              have hm : meets d.s d.e p = false := by simp only [meets]; simp; omega
              obtain ⟨c0, c1, c2, c3, c4, c5, c6⟩ := CELL.out
              have f1 := Later.cell (cell_keep D2.out.below c1)
              have f2 := Later.cell (cell_keep D2.out.below c2)
              have g1' := Later.cell (D2.out.deed.cell (i := 1) rfl)
              have g2' := Later.cell (D2.out.deed.cell (i := 2) rfl)
              clear c0 c1 c2 c3 c4 c5 c6
              go_wp2_with fail
              refine wp_region_later (by kernel_rfl) (by kernel_rfl) ?_
              repeat (go_big_quiet_step (first | (go_at_call 8; with_reducible exact Later.call _ (ME.out _))))
              refine wpQuiet_nil ?_
              rintro _ ⟨u, rfl⟩
              have D3 := Lib.hid (D2.out.next u.below)
              clear f1 f2 g1' g2'
              generalize u.w = w3 at *
              go_wp2_with fail
              go_meet
              exact ⟨by rw [show hits true d.s d.e p = meets d.s d.e p from rfl, hm], D3⟩
          · have q1 : decide (d.s < d.e) = false := by simpa using h1
            have hm : meets d.s d.e p = false := by simp only [meets]; simp; omega
            obtain ⟨c0, c1, c2, c3, c4, c5, c6⟩ := CELL.out
            have f1 := Later.cell (cell_keep D2.out.below c1)
            have f2 := Later.cell (cell_keep D2.out.below c2)
            have g1' := Later.cell (D2.out.deed.cell (i := 1) rfl)
            have g2' := Later.cell (D2.out.deed.cell (i := 2) rfl)
            clear c0 c1 c2 c3 c4 c5 c6
            go_wp2_with fail
            refine wp_region_later (by kernel_rfl) (by kernel_rfl) ?_
            repeat (go_big_quiet_step (first | (go_at_call 8; with_reducible exact Later.call _ (ME.out _))))
            refine wpQuiet_nil ?_
            rintro _ ⟨u, rfl⟩
            have D3 := Lib.hid (D2.out.next u.below)
            clear f1 f2 g1' g2'
            generalize u.w = w3 at *
            go_wp2_with fail
            go_meet
            exact ⟨by rw [show hits true d.s d.e p = meets d.s d.e p from rfl, hm], D3⟩
      case rest =>
        obtain ⟨rfl, D4⟩ := hcut
        generalize wc = w5 at *
        clear D2 DI EQ
        obtain ⟨c0, c1, c2, c3, c4, c5, c6⟩ := CELL.out
        have c0 := cell_keep D4.out.below c0
        have c1 := cell_keep D4.out.below c1
        have c2 := cell_keep D4.out.below c2
        have c3 := cell_keep D4.out.below c3
        have c4 := cell_keep D4.out.below c4
        have c5 := cell_keep D4.out.below c5
        have c6 := cell_keep D4.out.below c6
        obtain ⟨ht, hht⟩ : ∃ ht, ht = hits mg d.s d.e p := ⟨_, rfl⟩
        rw [← hht]
        have HT : Hid (hits mg d.s d.e p = ht) := Lib.hid hht.symm
        clear hht
        have hw := Lib.hid D4.out.below.size
        cases ht
        · obtain ⟨t1, t2⟩ := rest_noH HP.out HT.out
          have T1 := Lib.hid t1
          have T2 := Lib.hid t2
          have hfl : Hid ((restH mg d.s d.e (L.take i)).length ≤ L.length) := Lib.hid (filter_le (fun p => !hits mg d.s d.e p) L i)
          clear t1 t2
          go_wp2_with (at_builtin; refine wpList_plain rfl fun K' hK' => Sl.wp_append (K := Pn.k) Pn.ok (.tmp 110) (.tmp 115) rfl (base := B.heap.size) (l := restH mg d.s d.e (L.take i)) (l2 := [p]) (by exact D4.out.rest.next (below1 _ _)) (by exact Sl.Is.one Pn.ok (x := p) (Lies.new _ _ _)) (by have := hfl.out; simp only [List.length_singleton]; omega) (by have := hw.out; simp; omega) (fun v' w3 x1 x2 x3 => hK' _ _ ?_); have D6 := Lib.hid ((D4.out.next (below1 _ _)).rested x1 x2 x3); clear x1 x2 x3)
          exact ⟨⟨i + 1, by omega, by go_num, Lib.hid (by rw [T1.out, T2.out]; exact D6.out)⟩, by simp [intOf]; omega⟩
        · obtain ⟨t1, t2⟩ := rest_yesH HP.out HT.out
          have T1 := Lib.hid t1
          have T2 := Lib.hid t2
          have hfl : Hid ((wins (metH mg d.s d.e (L.take i))).length ≤ L.length) := Lib.hid (by rw [List.length_map]; exact filter_le (hits mg d.s d.e) L i)
          clear t1 t2
          have q7 : wins (metH mg d.s d.e (L.take i) ++ [p]) = wins (metH mg d.s d.e (L.take i)) ++ [(p.s, p.e)] := by simp [wins]
          have Q7 := Lib.hid q7
          clear q7
          obtain ⟨x, hx⟩ : ∃ x, x = (metH mg d.s d.e (L.take i)).foldl join2 x0 := ⟨_, rfl⟩
          rw [← hx] at D4
          have X := Lib.hid hx
          clear hx
          obtain ⟨ns, hns⟩ : ∃ ns, Hid (ns = min x.s p.s) := ⟨_, Lib.hid rfl⟩
          obtain ⟨ne, hne⟩ : ∃ ne, Hid (ne = max x.e p.e) := ⟨_, Lib.hid rfl⟩
          have J := Lib.hid fun w : World => RefSpan.join_ok x.s x.e p.s p.e ns ne w hns hne
          have G := Lib.hid fun w : World => Agg.ref_ok (ag x) (ag p) w
          have XJ : Hid (join2 x p = mk x.key ns ne (Agg.mrg (ag x) (ag p))) := Lib.hid (by rw [hns.out, hne.out])
          generalize Agg.mrg (ag x) (ag p) = z at *
          go_wp2_with (at_builtin; refine wpList_plain rfl fun K' hK' => Sl.wp_append (K := Wn.k) Wn.ok (.tmp 117) (.tmp 123) rfl (base := B.heap.size) (l := wins (metH mg d.s d.e (L.take i))) (l2 := [(p.s, p.e)]) (by exact D4.out.met.next (below1 _ _)) (by exact Sl.Is.one Wn.ok (x := (p.s, p.e)) (Lies.new _ _ _)) (by have := hfl.out; simp only [List.length_singleton]; omega) (by have := hw.out; simp; omega) (fun v' w3 x1 x2 x3 => hK' _ _ ?_); have D6 := Lib.hid ((D4.out.next (below1 _ _)).metted x1 x2 x3); clear x1 x2 x3)
          clear c0 c1 c2 c3 c4 c5 c6 D4
          obtain ⟨c0, c1, c2, c3, c4, c5, c6⟩ := CELL.out
          have f1 := Later.cell (cell_keep D6.out.below c1)
          have f2 := Later.cell (cell_keep D6.out.below c2)
          have g1' := Later.cell (D6.out.one.cell (i := 1) rfl)
          have g2' := Later.cell (D6.out.one.cell (i := 2) rfl)
          clear c0 c1 c2 c3 c4 c5 c6
          refine wp_region_later_tail 9 (by kernel_rfl) (by kernel_rfl) ?_
          simp only [List.take_succ_cons, List.take_zero, List.drop_succ_cons, List.drop_zero]
          repeat (go_big_quiet_step (first | (go_at_call 9; with_reducible exact Later.call _ (J.out _))))
          refine wpQuiet_nil ?_
          rintro _ ⟨u, rfl⟩
          clear f1 f2 g1' g2'
          have D7 := Lib.hid (D6.out.next u.below)
          obtain ⟨⟨o0, o1, o2, o3, o4, o5, o6⟩, z0, z1, z2, z3, z4, z5, z6⟩ := seven D7.out.one
          have D8 : Hid (DS B g0 g1 d ⟨x.key, ns, ne, x.c, x.m, x.l, x.u⟩ _ _ _ _ ((u.w.setCell ⟨g1, 1, none⟩ (.int .i64 ns)).setCell ⟨g1, 2, none⟩ (.int .i64 ne))) :=
            Lib.hid (D7.out.oned (x' := ⟨x.key, ns, ne, x.c, x.m, x.l, x.u⟩) ((D7.out.one.put 1 (.int .i64 ns)).put 2 (.int .i64 ne)) (grown_cells _ (grown_cells _ (grown_refl _ _))))
          generalize u.w = w7 at *
          go_wp2_with fail
          generalize (w7.setCell ⟨g1, 1, none⟩ (.int .i64 ns)).setCell ⟨g1, 2, none⟩ (.int .i64 ne) = w8 at *
          clear D6 D7 o0 o1 o2 o3 o4 o5 o6 z0 z1 z2 z3 z4 z5 z6
          obtain ⟨c0, c1, c2, c3, c4, c5, c6⟩ := CELL.out
          have f3 := Later.cell (cell_keep D8.out.below c3)
          have f4 := Later.cell (cell_keep D8.out.below c4)
          have f5 := Later.cell (cell_keep D8.out.below c5)
          have f6 := Later.cell (cell_keep D8.out.below c6)
          have g3' := Later.cell (D8.out.one.cell (i := 3) rfl)
          have g4' := Later.cell (D8.out.one.cell (i := 4) rfl)
          have g5' := Later.cell (D8.out.one.cell (i := 5) rfl)
          have g6' := Later.cell (D8.out.one.cell (i := 6) rfl)
          clear c0 c1 c2 c3 c4 c5 c6
          refine wp_region_later_tail 9 (by kernel_rfl) (by kernel_rfl) ?_
          simp only [List.take_succ_cons, List.take_zero, List.drop_succ_cons, List.drop_zero]
          repeat (go_big_quiet_step (first | (go_at_call 10; with_reducible exact Later.call _ (G.out _))))
          refine wpQuiet_nil ?_
          rintro _ ⟨u, rfl⟩
          clear f3 f4 f5 f6 g3' g4' g5' g6'
          have D9 := Lib.hid (D8.out.next u.below)
          obtain ⟨⟨o0, o1, o2, o3, o4, o5, o6⟩, z0, z1, z2, z3, z4, z5, z6⟩ := seven D9.out.one
          have D10 : Hid (DS B g0 g1 d ⟨x.key, ns, ne, z.c, z.s, z.l, z.u⟩ _ _ _ _ ((((u.w.setCell ⟨g1, 3, none⟩ (.int .i64 z.c)).setCell ⟨g1, 4, none⟩ (.int .i64 z.s)).setCell ⟨g1, 5, none⟩ (.int .i64 z.l)).setCell ⟨g1, 6, none⟩ (.int .i64 z.u))) :=
            Lib.hid (D9.out.oned (x' := ⟨x.key, ns, ne, z.c, z.s, z.l, z.u⟩) ((((D9.out.one.put 3 (.int .i64 z.c)).put 4 (.int .i64 z.s)).put 5 (.int .i64 z.l)).put 6 (.int .i64 z.u)) (grown_cells _ (grown_cells _ (grown_cells _ (grown_cells _ (grown_refl _ _))))))
          generalize u.w = w9 at *
          go_wp2_with fail
          have hfold : (metH mg d.s d.e (L.take (i + 1))).foldl join2 x0 = ⟨x.key, ns, ne, z.c, z.s, z.l, z.u⟩ := by
            rw [T2.out, List.foldl_append]
            show join2 ((metH mg d.s d.e (L.take i)).foldl join2 x0) p = _
            rw [← X.out]
            exact XJ.out
          exact ⟨⟨i + 1, by omega, by go_num, Lib.hid (by rw [hfold, T1.out, T2.out, Q7.out]; exact D10.out)⟩, by simp [intOf]; omega⟩
    · obtain rfl : i = L.length := by omega
      rw [List.take_length] at DI
      go_wp2_with fail
      exact DI

end Go.Proofs.Ytnheehodgkagfaa.panePlays
