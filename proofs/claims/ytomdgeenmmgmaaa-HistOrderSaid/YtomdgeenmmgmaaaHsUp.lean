/-
  easellaw19.up holds: the document's example. Events that came in.
-/
import Derived.Test.YtomdgeenmmgmaaaHsFn
import Derived.Deep.DeepCutAuto
namespace Go.Proofs.Ytomdgeenmmgmaaa
open Go.ChangeShapes Go.WideShapes Go.ChangeAt Go.RowKit
set_option maxRecDepth 100000
set_option linter.unusedVariables false
namespace Hs
open Small Srt
def mk (c n b p q : Int) : Ev := ⟨c, n, b, p, q, .int .i64 0, .string ⟨#[]⟩, .int .i64 0, .int .i64 0, .int .i64 0, .int .i64 0, .int .i64 0, .int .i64 0, .slice none 0 0, by simp [Value.oneCell']⟩
def ea : Ev := mk 0 0 1 2 3
def eb : Ev := mk 0 1 4 0 0
def ec : Ev := mk 0 0 1 5 0
theorem run_a (w : World) : (Instr.build 33 #[(4, .int .i64 1), (5, .int .i64 2), (6, .int .i64 3)]).run Try.prog w = .ok ea.v w := by kernel_rfl
theorem run_b (w : World) : (Instr.build 33 #[(1, .int .i64 1), (4, .int .i64 4)]).run Try.prog w = .ok eb.v w := by kernel_rfl
theorem run_c (w : World) : (Instr.build 33 #[(4, .int .i64 1), (5, .int .i64 5)]).run Try.prog w = .ok ec.v w := by kernel_rfl
theorem run_two (a b : Ev) (w : World) : (Instr.buildSlice 22 2 #[(0, a.v), (1, b.v)]).run Try.prog w = .ok (.slice (some ⟨w.heap.size, 0, none⟩) 2 2) (w.alloc (.cells (Sl.flat Ev.k [a, b]).toArray 33)) := by kernel_rfl
theorem run_three (a b c : Ev) (w : World) : (Instr.buildSlice 22 3 #[(0, a.v), (1, b.v), (2, c.v)]).run Try.prog w = .ok (.slice (some ⟨w.heap.size, 0, none⟩) 3 3) (w.alloc (.cells (Sl.flat Ev.k [a, b, c]).toArray 33)) := by kernel_rfl
theorem ev_lies {w : World} {g : Nat} {l : List Ev} (h : Lies w g 33 (Sl.flat Ev.k l)) (hm : l.length ≤ maxLen) : Evs w (.slice (some ⟨g, 0, none⟩) l.length l.length) l :=
  .inl ⟨g, .inr ⟨0, l.length, rfl, Nat.le_refl _, hm, h.lt, fun j u hj => by rw [Nat.zero_add]; exact h.cell hj⟩⟩
theorem fit_mk {c n b p q : Int} (h : (Lit.int .i64 n).wf = true ∧ (Lit.int .i64 c).wf = true ∧ (Lit.int .i64 b).wf = true ∧ (Lit.int .i64 p).wf = true ∧ (Lit.int .i64 q).wf = true) : Fit (mk c n b p q) := h
theorem fits : Fit ea ∧ Fit eb ∧ Fit ec := ⟨by refine fit_mk ?_; decide, by refine fit_mk ?_; decide, by refine fit_mk ?_; decide⟩
theorem two_at (f : Nat → Prop) (h0 : f 0) (h1 : f 1) : ∀ i, i < 2 → f i := fun i hi => by
  match i, hi with
  | 0, _ => exact h0
  | 1, _ => exact h1
theorem fine_yes : Fine [ea, eb] := (fine_doc fun e he => by
    simp only [List.mem_cons, List.not_mem_nil, or_false] at he
    rcases he with rfl | rfl
    · exact fits.1
    · exact fits.2.1).2 (two_at _
  ⟨by decide, by decide, fun k hk => by omega, by decide⟩
  ⟨by decide, by decide, fun k hk => by obtain rfl : k = 0 := by omega
                                        exact ⟨by decide, fun _ => by decide⟩, by decide⟩)
theorem fine_no : ¬ Fine [eb, ea] := fun h => by
  have := ((fine_doc fun e he => by
    simp only [List.mem_cons, List.not_mem_nil, or_false] at he
    rcases he with rfl | rfl
    · exact fits.2.1
    · exact fits.1).1 h 0 (by decide)).2.2.2
  exact absurd this (by decide)
theorem ord_up : ord [ec, eb, ea] 3 = [2, 0] := by
  have h0 : ord [ec, eb, ea] 1 = [0] := by rw [ord_yes (by decide), ord_zero, mrg_nil]
  have h1 : ord [ec, eb, ea] 2 = [0] := by rw [ord_no (by decide), h0]
  rw [ord_yes (by decide), h1, mrg_cons, if_pos (by decide), mrg_right]
theorem wp_build {o : Oper} {a : Act} {K : Act → World → Prop} {Q : Exit → Act → World → Prop} {w : World} {T : TypeId} (fs : Array (Nat × Operand)) (vs : Array (Nat × Value)) (v : Value) (ho : o.op = .build T fs) (hv : (fs.map fun x => (x.1, a.eval x.2)) = vs) (hr : (Instr.build T vs).run Try.prog w = .ok v w)
    (hK : K (a.put o.dst v) w) : o.wp Try.prog a w K Q := by
  subst hv
  unfold Oper.wp execOp
  simp only [ho, Sem.run_bind, Sem.run_pure, Result.andThen_ok, hr]
  exact hK
theorem wp_row {o : Oper} {a : Act} {K : Act → World → Prop} {Q : Exit → Act → World → Prop} {w w' : World} {T : TypeId} {n : Nat} (fs : Array (Nat × Operand)) (vs : Array (Nat × Value)) (v : Value) (ho : o.op = .buildSlice T n fs) (hv : (fs.map fun x => (x.1, a.eval x.2)) = vs) (hr : (Instr.buildSlice T n vs).run Try.prog w = .ok v w')
    (hK : K (a.put o.dst v) w') : o.wp Try.prog a w K Q := by
  subst hv
  unfold Oper.wp execOp
  simp only [ho, Sem.run_bind, Sem.run_pure, Result.andThen_ok, hr]
  exact hK

set_option maxHeartbeats 3200000 in
theorem up_ok (w : World) : Calls Try.prog 5 #[] w fun r w' => r = .returned (.bool true) ∧ Below w.heap.size w w' := by
  go_enter Try.func5, Try.ntmps5
  go_upto_region 4 with (first
    | (refine BigFrame.wpList_want rfl fun K' hK' => wp_build _ #[(4, .int .i64 1), (5, .int .i64 2), (6, .int .i64 3)] ea.v rfl rfl (run_a _) (hK' _ _ ?_))
    | (refine BigFrame.wpList_want rfl fun K' hK' => wp_build _ #[(1, .int .i64 1), (4, .int .i64 4)] eb.v rfl rfl (run_b _) (hK' _ _ ?_))
    | (refine BigFrame.wpList_want rfl fun K' hK' => wp_build _ #[(4, .int .i64 1), (5, .int .i64 5)] ec.v rfl rfl (run_c _) (hK' _ _ ?_))
    | (refine BigFrame.wpList_want rfl fun K' hK' => wp_store ea _ _ rfl rfl rfl (Lies.new w 33 ez) rfl (fun W1 z1 z2 => hK' _ _ ?_); have K1 := Lib.hid (below_over (below1 w _) z2 (Nat.le_refl _) (by simp)); have A1 := Lib.hid z1; clear z1 z2)
    | (refine BigFrame.wpList_want rfl fun K' hK' => wp_store eb _ _ rfl rfl rfl (Lies.new W1 33 ez) rfl (fun W2 z1 z2 => hK' _ _ ?_); have K2 := Lib.hid (below_over (below1 W1 _) z2 (Nat.le_refl _) (by simp)); have A2 := Lib.hid (A1.out.next K2.out); have B2 := Lib.hid z1; clear z1 z2)
    | (refine BigFrame.wpList_want rfl fun K' hK' => wp_load _ rfl rfl (EvAt.lies A2.out) (hK' _ _ ?_))
    | (refine BigFrame.wpList_want rfl fun K' hK' => wp_load _ rfl rfl (EvAt.lies B2.out) (hK' _ _ ?_))
    | (refine BigFrame.wpList_want rfl fun K' hK' => wp_row _ #[(0, ec.v), (1, eb.v), (2, ea.v)] _ rfl rfl (run_three ec eb ea _) (hK' _ _ ?_)))
  have K3 : Hid (Below w.heap.size w (W2.alloc (.cells (Sl.flat Ev.k [ec, eb, ea]).toArray 33))) := Lib.hid (after (after K1.out K2.out) (below1 _ _))
  have H3 : Hid (Evs (W2.alloc (.cells (Sl.flat Ev.k [ec, eb, ea]).toArray 33)) (.slice (some ⟨W2.heap.size, 0, none⟩) 3 3) [ec, eb, ea]) := Lib.hid (ev_lies (Lies.new _ _ _) (by decide))
  have hc := order_ok _ _ _ H3 (by decide)
  have hl : ([ec, eb, ea] : List Ev).length = 3 := rfl
  rw [hl, ord_up] at hc
  clear hl
  refine hc.mono ?_
  rintro r w4 ⟨v4, b4, rfl, hb4, i4, k4⟩
  have K4 := Lib.hid (after K3.out k4)
  have A4 := Lib.hid ((A2.out.next (below1 _ _)).next k4)
  have B4 := Lib.hid ((B2.out.next (below1 _ _)).next k4)
  obtain ⟨B, capo, rfl, HC⟩ := nums_at i4
  clear k4 i4 hb4 hc H3 A2 B2
  obtain ⟨off, rfl, hb, c0⟩ := HC.out 0 (by decide)
  obtain ⟨off', e', -, c1⟩ := HC.out 1 (by decide)
  obtain rfl : off = off' := by injection e' with e'; injection e'
  rw [Nat.add_zero, show O [2, 0] 0 = 2 from rfl] at c0
  rw [show O [2, 0] 1 = 0 from rfl] at c1
  have C0 := Lib.hid c0
  have C1 := Lib.hid c1
  clear HC e' c0 c1 hb
  rw [show ([2, 0] : List Nat).length = 2 from rfl]
  dsimp only
  have q1 : ah ea eb = true := by decide
  have q2 : ah eb ea = false := by decide
  have a1 : ∀ w, Calls Try.prog 10 #[ea.v, eb.v] w fun r w' => r = .returned (.bool true) ∧ Below w.heap.size w w' := fun w => by have := ahead_ok ea eb w; rwa [q1] at this
  have a2 : ∀ w, Calls Try.prog 10 #[eb.v, ea.v] w fun r w' => r = .returned (.bool false) ∧ Below w.heap.size w w' := fun w => by have := ahead_ok eb ea w; rwa [q2] at this
  have f1 : ∀ w g, Evs w (.slice (some ⟨g, 0, none⟩) 2 2) [ea, eb] → Calls Try.prog 6 #[.slice (some ⟨g, 0, none⟩) 2 2] w fun r w' => r = .returned (.bool true) ∧ Below w.heap.size w w' := fun w g h => (fine_ok _ [ea, eb] w (Lib.hid h) (by decide) (Lib.hid fun e he => by
    simp only [List.mem_cons, List.not_mem_nil, or_false] at he
    rcases he with rfl | rfl
    · exact fits.1
    · exact fits.2.1)).mono fun r w' ⟨⟨x, h1, h2⟩, k⟩ => ⟨by rw [h1, h2.2 fine_yes], k⟩
  have f2 : ∀ w g, Evs w (.slice (some ⟨g, 0, none⟩) 2 2) [eb, ea] → Calls Try.prog 6 #[.slice (some ⟨g, 0, none⟩) 2 2] w fun r w' => r = .returned (.bool false) ∧ Below w.heap.size w w' := fun w g h => (fine_ok _ [eb, ea] w (Lib.hid h) (by decide) (Lib.hid fun e he => by
    simp only [List.mem_cons, List.not_mem_nil, or_false] at he
    rcases he with rfl | rfl
    · exact fits.2.1
    · exact fits.1)).mono fun r w' ⟨⟨x, h1, h2⟩, k⟩ => ⟨by rw [h1]; cases x; (· rfl); (· exact absurd (h2.1 rfl) fine_no), k⟩
  clear q1 q2
  go_wp2_with (first | (refine BigFrame.wpList_want rfl fun K' hK' => wp_load _ rfl rfl (EvAt.lies A4.out) (hK' _ _ ?_)) | (refine BigFrame.wpList_want rfl fun K' hK' => wp_load _ rfl rfl (EvAt.lies B4.out) (hK' _ _ ?_)))
  refine (a1 _).mono ?_
  rintro r w5 ⟨rfl, k5⟩
  have K5 := Lib.hid (after K4.out k5)
  have A5 := Lib.hid (A4.out.next k5)
  have B5 := Lib.hid (B4.out.next k5)
  have J5 := Lib.hid k5
  clear k5 A4 B4 K4
  dsimp only
  go_wp2_with (first | (refine BigFrame.wpList_want rfl fun K' hK' => wp_load _ rfl rfl (EvAt.lies A5.out) (hK' _ _ ?_)) | (refine BigFrame.wpList_want rfl fun K' hK' => wp_load _ rfl rfl (EvAt.lies B5.out) (hK' _ _ ?_)))
  refine (a2 _).mono ?_
  rintro r w6 ⟨rfl, k6⟩
  have K6 := Lib.hid (after K5.out k6)
  have A6 := Lib.hid (A5.out.next k6)
  have B6 := Lib.hid (B5.out.next k6)
  have J6 := Lib.hid (after J5.out k6)
  clear k6 A5 B5 K5 J5
  dsimp only
  go_wp2_with (first | (refine BigFrame.wpList_want rfl fun K' hK' => wp_load _ rfl rfl (EvAt.lies A6.out) (hK' _ _ ?_)) | (refine BigFrame.wpList_want rfl fun K' hK' => wp_load _ rfl rfl (EvAt.lies B6.out) (hK' _ _ ?_)))
  refine (f1 (w6.alloc (.cells (Sl.flat Ev.k [ea, eb]).toArray 33)) _ (ev_lies (Lies.new _ _ _) (by decide))).mono ?_
  rintro r w7 ⟨rfl, k7⟩
  have J0 := Lib.hid (after (below1 w6 (.cells (Sl.flat Ev.k [ea, eb]).toArray 33)) k7)
  have K7 := Lib.hid (after K6.out J0.out)
  have A7 := Lib.hid (A6.out.next J0.out)
  have B7 := Lib.hid (B6.out.next J0.out)
  have J7 := Lib.hid (after J6.out J0.out)
  clear k7 A6 B6 K6 J6 J0
  dsimp only
  go_wp2_with (first | (refine BigFrame.wpList_want rfl fun K' hK' => wp_load _ rfl rfl (EvAt.lies A7.out) (hK' _ _ ?_)) | (refine BigFrame.wpList_want rfl fun K' hK' => wp_load _ rfl rfl (EvAt.lies B7.out) (hK' _ _ ?_)))
  refine (f2 (w7.alloc (.cells (Sl.flat Ev.k [eb, ea]).toArray 33)) _ (ev_lies (Lies.new _ _ _) (by decide))).mono ?_
  rintro r w8 ⟨rfl, k8⟩
  have J0 := Lib.hid (after (below1 w7 (.cells (Sl.flat Ev.k [eb, ea]).toArray 33)) k8)
  have K8 := Lib.hid (after K7.out J0.out)
  have J8 := Lib.hid (after J7.out J0.out)
  have c0 := cell_keep J8.out C0.out
  have c1 := cell_keep J8.out C1.out
  clear k8 A7 B7 K7 J7 J0 J8
  dsimp only
  go_wp2
  go_ret
  exact ⟨rfl, K8.out⟩
end Hs
end Go.Proofs.Ytomdgeenmmgmaaa
