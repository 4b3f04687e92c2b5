/-
  Events in memory, and contracts of hist's functions of one event, and of two: Ahead, pointed, mayPoint, mayEnd, wrong, next.
-/
import Derived.Test.YtomdgeenmmgmaaaHsMath
import Derived.Test.YtomdgeenmmgmaaaLists
import Derived.ChangeAt
import Derived.Shelf.Abstract
import Derived.Lib.SliceRun
namespace Go.Proofs.Ytomdgeenmmgmaaa
open Go.ChangeShapes Go.WideShapes Go.ChangeAt Go.RowKit
set_option maxRecDepth 100000
set_option linter.unusedVariables false
namespace Ev
abbrev cl (e : Ev) : List Value := [.int .i64 e.c, .int .i64 e.n, e.v2, e.v3, e.v4, e.v5, e.v6, e.v7, e.v8, e.v9, e.v10, .int .i64 e.b, .int .i64 e.p, .int .i64 e.q]
abbrev v (e : Ev) : Value := .agg #[.int .i64 e.c, .int .i64 e.n, e.v2, e.v3, e.v4, e.v5, e.v6, e.v7, e.v8, e.v9, e.v10, .int .i64 e.b, .int .i64 e.p, .int .i64 e.q]
abbrev k : Kind Ev := ⟨22, 33, 14, 136, .agg #[.int .i64 0, .int .i64 0, .int .i64 0, .string ⟨#[]⟩, .int .i64 0, .int .i64 0, .int .i64 0, .int .i64 0, .int .i64 0, .int .i64 0, .slice none 0 0, .int .i64 0, .int .i64 0, .int .i64 0], Ev.cl⟩
theorem ok : Ev.k.Ok where
  under := Try.underlying22
  elem := by kernel_rfl
  info := by kernel_rfl
  zs := rfl
  pos := by decide
  len := fun _ => rfl
  one := by
    intro x u hu
    have h := x.one
    simp only [List.mem_cons, List.not_mem_nil, or_false] at hu h
    rcases hu with rfl | rfl | hu | hu | hu | hu | hu | hu | hu | hu | hu | rfl | rfl | rfl
    all_goals first | rfl | exact h u (by simp [hu])
  small := by decide
end Ev
namespace Hs
open Small
theorem agE : ∀ w, (isAgg 33).run Try.prog w = .ok true w := Try.isAgg33
theorem szE : ∀ w, (sizeOf 33).run Try.prog w = .ok 14 w := Try.sizeOf33

/-- an event lies there -/
def EvAt (w : World) (b off : Nat) (e : Ev) : Prop := ∀ j u, e.cl[j]? = some u → w.cell? ⟨b, off + j, none⟩ = some u
theorem EvAt.new (w : World) (e : Ev) (T : TypeId) : EvAt (w.alloc (.cells e.cl.toArray T)) w.heap.size 0 e := fun j u hj => by
  rw [Nat.zero_add]; exact (Lies.new w T e.cl).cell hj
theorem EvAt.next {w w' : World} {b off : Nat} {e : Ev} (h : EvAt w b off e) (k : Below w.heap.size w w') : EvAt w' b off e := fun j u hj => cell_keep k (h j u hj)
theorem EvAt.c {w : World} {b off : Nat} {e : Ev} (h : EvAt w b off e) : w.cell? ⟨b, off, none⟩ = some (.int .i64 e.c) := h 0 _ rfl
theorem EvAt.n {w : World} {b off : Nat} {e : Ev} (h : EvAt w b off e) : w.cell? ⟨b, off + 1, none⟩ = some (.int .i64 e.n) := h 1 _ rfl
theorem EvAt.b {w : World} {b off : Nat} {e : Ev} (h : EvAt w b off e) : w.cell? ⟨b, off + 11, none⟩ = some (.int .i64 e.b) := h 11 _ rfl
theorem EvAt.p {w : World} {b off : Nat} {e : Ev} (h : EvAt w b off e) : w.cell? ⟨b, off + 12, none⟩ = some (.int .i64 e.p) := h 12 _ rfl
theorem EvAt.q {w : World} {b off : Nat} {e : Ev} (h : EvAt w b off e) : w.cell? ⟨b, off + 13, none⟩ = some (.int .i64 e.q) := h 13 _ rfl
theorem load_ev {w : World} {b off : Nat} {e : Ev} (h : EvAt w b off e) : (loadVar 33 ⟨b, off, none⟩).run Try.prog w = .ok e.v w := by
  have := run_loadCells_list (P := Try.prog) w ⟨b, off, none⟩ e.cl fun j v hj => by rw [Addr.add_lit]; exact h j v hj
  unfold loadVar
  simp only [Sem.run_bind, agE, szE, Result.andThen_ok, if_true, show (14 : Nat) = e.cl.length from rfl, this, Sem.run_pure]
theorem wp_load {o : Oper} {a : Act} {K : Act → World → Prop} {Q : Exit → Act → World → Prop} {w : World} {b off : Nat} {e : Ev} (x : Operand) (ho : o.op = .load 33 x) (hx : a.eval x = .pointer (some ⟨b, off, none⟩)) (h : EvAt w b off e)
    (hK : K (a.put o.dst e.v) w) : o.wp Try.prog a w K Q := by
  unfold Oper.wp execOp
  simp only [ho, hx, Instr.loadAt, Instr.sureAddr, Sem.run_bind, Sem.run_pure, Result.andThen_ok, load_ev h]
  exact hK

set_option maxHeartbeats 1600000 in
theorem pointed_ok (a : Ev) (w : World) : Calls Try.prog 15 #[a.v] w fun r w' => r = .returned (.bool (decide (a.p ≠ 0))) ∧ Below w.heap.size w w' := by
  obtain ⟨c, n, b, p, q, v2, v3, v4, v5, v6, v7, v8, v9, v10, one⟩ := a
  go_enter Try.func15, Try.ntmps15
  go_wp2
  go_ret
  exact ⟨ret_bool (by by_cases h : p = 0 <;> simp [h]), below1 w _⟩
set_option maxHeartbeats 1600000 in
theorem mayPoint_ok (a : Ev) (w : World) : Calls Try.prog 20 #[a.v] w fun r w' => r = .returned (.bool (mp a)) ∧ Below w.heap.size w w' := by
  have hc := pointed_ok a (w.alloc (.cells a.cl.toArray 33))
  have E0 := EvAt.new w a 33
  have HW : Hid (Below w.heap.size w (w.alloc (.cells a.cl.toArray 33))) := below1 w _
  obtain ⟨c, n, b, p, q, v2, v3, v4, v5, v6, v7, v8, v9, v10, one⟩ := a
  by_cases h : p = 0
  · subst h
    simp only [ne_eq, not_true_eq_false, decide_false] at hc
    go_enter Try.func20, Try.ntmps20
    go_wp2_with (first | (refine BigFrame.wpList_want rfl fun K' hK' => wp_load _ rfl rfl E0 (hK' _ _ ?_)) | (refine hc.mono ?_; rintro r w1 ⟨rfl, k1⟩))
    go_ret
    exact ⟨ret_bool (by simp [mp]), after HW.out k1⟩
  · have h' : decide (p ≠ 0) = true := by simp [h]
    simp only [h'] at hc
    go_enter Try.func20, Try.ntmps20
    go_wp2_with (first | (refine BigFrame.wpList_want rfl fun K' hK' => wp_load _ rfl rfl E0 (hK' _ _ ?_)) | (refine hc.mono ?_; rintro r w1 ⟨rfl, k1⟩; have c1 := (E0.next k1).b; have c2 := (E0.next k1).p))
    go_ret
    exact ⟨ret_bool (by simp [mp, h]), after HW.out k1⟩
set_option maxHeartbeats 1600000 in
theorem mayEnd_ok (a : Ev) (w : World) : Calls Try.prog 21 #[a.v] w fun r w' => r = .returned (.bool (me a)) ∧ Below w.heap.size w w' := by
  have hc := pointed_ok a (w.alloc (.cells a.cl.toArray 33))
  have E0 := EvAt.new w a 33
  have HW : Hid (Below w.heap.size w (w.alloc (.cells a.cl.toArray 33))) := below1 w _
  obtain ⟨c, n, b, p, q, v2, v3, v4, v5, v6, v7, v8, v9, v10, one⟩ := a
  by_cases h : q = 0
  · subst h
    go_enter Try.func21, Try.ntmps21
    go_wp2
    go_ret
    exact ⟨ret_bool (by simp [me]), HW.out⟩
  · by_cases h2 : p = 0
    · subst h2
      simp only [ne_eq, not_true_eq_false, decide_false] at hc
      go_enter Try.func21, Try.ntmps21
      go_wp2_with (first | (refine BigFrame.wpList_want rfl fun K' hK' => wp_load _ rfl rfl E0 (hK' _ _ ?_)) | (refine hc.mono ?_; rintro r w1 ⟨rfl, k1⟩))
      go_ret
      exact ⟨ret_bool (by simp [me, h]), after HW.out k1⟩
    · have h' : decide (p ≠ 0) = true := by simp [h2]
      simp only [h'] at hc
      go_enter Try.func21, Try.ntmps21
      go_wp2_with (first | (refine BigFrame.wpList_want rfl fun K' hK' => wp_load _ rfl rfl E0 (hK' _ _ ?_)) | (refine hc.mono ?_; rintro r w1 ⟨rfl, k1⟩; have c1 := (E0.next k1).q; have c2 := (E0.next k1).p))
      go_ret
      exact ⟨ret_bool (by simp [me, h, h2]), after HW.out k1⟩
set_option maxHeartbeats 1600000 in
theorem wrong_ok (a : Ev) (w : World) : Calls Try.prog 12 #[a.v] w fun r w' => r = .returned (.bool (bad a)) ∧ Below w.heap.size w w' := by
  have hc := mayPoint_ok a (w.alloc (.cells a.cl.toArray 33))
  have hd : ∀ w', Calls Try.prog 21 #[a.v] w' fun r w'' => r = .returned (.bool (me a)) ∧ Below w'.heap.size w' w'' := fun w' => mayEnd_ok a w'
  have E0 := EvAt.new w a 33
  have HW : Hid (Below w.heap.size w (w.alloc (.cells a.cl.toArray 33))) := below1 w _
  obtain ⟨x, hx⟩ : ∃ x, mp a = x := ⟨_, rfl⟩
  obtain ⟨y, hy⟩ : ∃ y, me a = y := ⟨_, rfl⟩
  rw [hx] at hc
  rw [hy] at hd
  have hb : Hid (bad a = (decide (a.c < 0) || decide (a.n < 0) || decide (a.b < 1) || !x || !y)) := Lib.hid (by rw [← hx, ← hy]; rfl)
  clear hx hy
  obtain ⟨c, n, b, p, q, v2, v3, v4, v5, v6, v7, v8, v9, v10, one⟩ := a
  by_cases h1 : c < 0
  · go_enter Try.func12, Try.ntmps12
    go_wp2
    go_ret
    exact ⟨ret_bool (by rw [hb.out]; simp [h1]), HW.out⟩
  by_cases h2 : n < 0
  · go_enter Try.func12, Try.ntmps12
    go_wp2
    go_ret
    exact ⟨ret_bool (by rw [hb.out]; simp [h2]), HW.out⟩
  by_cases h3 : b < 1
  · go_enter Try.func12, Try.ntmps12
    go_wp2
    go_ret
    exact ⟨ret_bool (by rw [hb.out]; simp [h3]), HW.out⟩
  cases x with
  | false =>
    go_enter Try.func12, Try.ntmps12
    go_wp2_with (first | (refine BigFrame.wpList_want rfl fun K' hK' => wp_load _ rfl rfl E0 (hK' _ _ ?_)) | (refine hc.mono ?_; rintro r w1 ⟨rfl, k1⟩))
    go_ret
    exact ⟨ret_bool (by rw [hb.out]; simp), after HW.out k1⟩
  | true =>
    go_enter Try.func12, Try.ntmps12
    go_wp2_with (first | (refine BigFrame.wpList_want rfl fun K' hK' => wp_load _ rfl rfl E0 (hK' _ _ ?_)) | (refine BigFrame.wpList_want rfl fun K' hK' => wp_load _ rfl rfl E1.out (hK' _ _ ?_)) | (refine hc.mono ?_; rintro r w1 ⟨rfl, k1⟩; have E1 := Lib.hid (E0.next k1)) | (refine (hd _).mono ?_; rintro r w2 ⟨rfl, k2⟩))
    go_ret
    exact ⟨ret_bool (by rw [hb.out]; simp only [decide_eq_false (show ¬ c < 0 by omega), decide_eq_false (show ¬ n < 0 by omega), decide_eq_false (show ¬ b < 1 by omega), Bool.false_or, Bool.not_true]), after (after HW.out k1) k2⟩
set_option maxHeartbeats 1600000 in
theorem ahead_ok (a b : Ev) (w : World) : Calls Try.prog 10 #[a.v, b.v] w fun r w' => r = .returned (.bool (ah a b)) ∧ Below w.heap.size w w' := by
  obtain ⟨c, n, b0, p, q, v2, v3, v4, v5, v6, v7, v8, v9, v10, one⟩ := a
  obtain ⟨c', n', b', p', q', u2, u3, u4, u5, u6, u7, u8, u9, u10, one'⟩ := b
  by_cases h : 0 < q
  · go_enter Try.func10, Try.ntmps10
    go_wp2
    go_ret
    exact ⟨ret_bool (by simp [ah, h]), below2 w _ _⟩
  · go_enter Try.func10, Try.ntmps10
    go_wp2
    go_ret
    exact ⟨ret_bool (by unfold ah; simp only [decide_eq_false (show ¬ 0 < q by omega), Bool.false_and]), below2 w _ _⟩
set_option maxHeartbeats 1600000 in
theorem next_ok (a b : Ev) (w : World) : Calls Try.prog 22 #[a.v, b.v] w fun r w' => r = .returned (.bool (nx a b)) ∧ Below w.heap.size w w' := by
  have hc := ahead_ok a b ((w.alloc (.cells a.cl.toArray 33)).alloc (.cells b.cl.toArray 33))
  have E0 := (EvAt.new w a 33).next (below1 _ (.cells b.cl.toArray 33))
  have E1 : EvAt ((w.alloc (.cells a.cl.toArray 33)).alloc (.cells b.cl.toArray 33)) (w.heap.size + 1) 0 b := by
    have := EvAt.new (w.alloc (.cells a.cl.toArray 33)) b 33
    rwa [World.size_alloc] at this
  have HW : Hid (Below w.heap.size w ((w.alloc (.cells a.cl.toArray 33)).alloc (.cells b.cl.toArray 33))) := below2 w _ _
  obtain ⟨x, hx⟩ : ∃ x, ah a b = x := ⟨_, rfl⟩
  rw [hx] at hc
  have hb : Hid (nx a b = (decide (b.n = IntKind.i64.wrap (a.n + 1)) && x)) := Lib.hid (by rw [← hx]; rfl)
  clear hx
  obtain ⟨c, n, b0, p, q, v2, v3, v4, v5, v6, v7, v8, v9, v10, one⟩ := a
  obtain ⟨c', n', b', p', q', u2, u3, u4, u5, u6, u7, u8, u9, u10, one'⟩ := b
  obtain ⟨m, hm⟩ : ∃ m, IntKind.i64.wrap (n + 1) = m := ⟨_, rfl⟩
  by_cases h : n' = m
  · have hb2 : Hid (nx ⟨c, n, b0, p, q, v2, v3, v4, v5, v6, v7, v8, v9, v10, one⟩ ⟨c', n', b', p', q', u2, u3, u4, u5, u6, u7, u8, u9, u10, one'⟩ = x) := Lib.hid (by rw [hb.out]; simp [hm, h])
    clear hb
    have he : (n' == m) = true := by simp [h]
    clear h
    go_enter Try.func22, Try.ntmps22
    go_wp2_with (first | (refine BigFrame.wpList_want rfl fun K' hK' => wp_load _ rfl rfl E0 (hK' _ _ ?_)) | (refine BigFrame.wpList_want rfl fun K' hK' => wp_load _ rfl rfl E1 (hK' _ _ ?_)) | (refine hc.mono ?_; rintro r w1 ⟨rfl, k1⟩))
    go_ret
    exact ⟨ret_bool hb2.out.symm, after HW.out k1⟩
  · have hb2 : Hid (nx ⟨c, n, b0, p, q, v2, v3, v4, v5, v6, v7, v8, v9, v10, one⟩ ⟨c', n', b', p', q', u2, u3, u4, u5, u6, u7, u8, u9, u10, one'⟩ = false) := Lib.hid (by rw [hb.out]; simp [hm, h])
    clear hb
    have he : (n' == m) = false := by simp [h]
    go_enter Try.func22, Try.ntmps22
    go_wp2
    go_ret
    exact ⟨ret_bool hb2.out.symm, HW.out⟩
end Hs
end Go.Proofs.Ytomdgeenmmgmaaa
