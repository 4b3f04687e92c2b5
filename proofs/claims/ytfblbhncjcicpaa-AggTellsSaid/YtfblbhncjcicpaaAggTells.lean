/-
  AggTells holds: for any two aggregates and any int64 number the law answers true (no conditions).
-/
import Derived.Test.YtfblbhncjcicpaaUp04
import Derived.Test.YtfblbhncjcicpaaLaid
import Derived.Test.YtfblbhncjcicpaaOpens
namespace Go.Proofs.Ytfblbhncjcicpaa.aggTells
open Go.ChangeShapes Go.WideShapes Go.ChangeAt Go.RowKit Small BigFrame Agg
set_option linter.unusedVariables false

/-- the two aggregates that came in, in blocks of the call's own; nothing of B has turned -/
def Two (B : World) (x y : A4) (w : World) : Prop :=
  Lies w B.heap.size 23 [.int .i64 x.c, .int .i64 x.s, .int .i64 x.l, .int .i64 x.u] ∧ Lies w (B.heap.size + 1) 23 [.int .i64 y.c, .int .i64 y.s, .int .i64 y.l, .int .i64 y.u] ∧ Below B.heap.size B w
theorem Two.new (w : World) (c s l u c' s' l' u' : Int) :
    Two w ⟨c, s, l, u⟩ ⟨c', s', l', u'⟩ ((w.alloc (Obj.cells #[.int .i64 c, .int .i64 s, .int .i64 l, .int .i64 u] 23)).alloc (Obj.cells #[.int .i64 c', .int .i64 s', .int .i64 l', .int .i64 u'] 23)) := by
  refine ⟨(Lies.new w _ [.int .i64 c, .int .i64 s, .int .i64 l, .int .i64 u]).alloc _, ?_, below2 _ _ _⟩
  have := Lies.new (w.alloc (Obj.cells #[.int .i64 c, .int .i64 s, .int .i64 l, .int .i64 u] 23)) 23 [.int .i64 c', .int .i64 s', .int .i64 l', .int .i64 u']
  simpa using this
theorem Two.next {B w w' : World} {x y : A4} (h : Two B x y w) (k : Below w.heap.size w w') : Two B x y w' := ⟨h.1.next k, h.2.1.next k, after h.2.2 k⟩

set_option maxHeartbeats 2000000 in
theorem walk_off (c s l u c' s' l' u' v : Int) (w : World) (h : 1000000000 < c ∨ 1000000000 < c') :
    Calls Try.prog 3 #[agv c s l u, agv c' s' l' u', .int .i64 v] w fun r w' => r = .returned (.bool true) ∧ Below w.heap.size w w' := by
  have T0 := Lib.hid (Two.new w c s l u c' s' l' u')
  by_cases h1 : 1000000000 < c
  · clear h
    go_enter Try.func3, Try.ntmps3
    go_wp2_with fail
    refine (up_ok _).mono ?_
    rintro e w1 ⟨rfl, k1⟩
    have T1 := Lib.hid (T0.out.next k1)
    obtain ⟨a0, -⟩ := T1.out.1.four
    obtain ⟨b0, -⟩ := T1.out.2.1.four
    go_wp2
    go_ret
    exact ⟨rfl, T1.out.2.2⟩
  · have h2 : 1000000000 < c' := by omega
    clear h
    go_enter Try.func3, Try.ntmps3
    go_wp2_with fail
    refine (up_ok _).mono ?_
    rintro e w1 ⟨rfl, k1⟩
    have T1 := Lib.hid (T0.out.next k1)
    obtain ⟨a0, -⟩ := T1.out.1.four
    obtain ⟨b0, -⟩ := T1.out.2.1.four
    go_wp2
    go_ret
    exact ⟨rfl, T1.out.2.2⟩

set_option maxHeartbeats 2000000 in
theorem walk_on (c s l u c' s' l' u' v p0 p1 p2 p3 q0 q1 q2 q3 : Int) (w : World) (h1 : c ≤ 1000000000) (h2 : c' ≤ 1000000000)
    (A1 : Hid (∀ w : World, Calls Try.prog 8 #[agv c s l u, .int .i64 v] w fun r w' => r = .returned (agv p0 p1 p2 p3) ∧ Below w.heap.size w w'))
    (A2 : Hid (∀ w : World, Calls Try.prog 9 #[agv c s l u, agv 1 v v v] w fun r w' => r = .returned (agv p0 p1 p2 p3) ∧ Below w.heap.size w w'))
    (M1 : Hid (∀ w : World, Calls Try.prog 10 #[agv c s l u, agv c' s' l' u'] w fun r w' => r = .returned (agv q0 q1 q2 q3) ∧ Below w.heap.size w w'))
    (M2 : Hid (∀ w : World, Calls Try.prog 9 #[agv c s l u, agv c' s' l' u'] w fun r w' => r = .returned (agv q0 q1 q2 q3) ∧ Below w.heap.size w w')) :
    Calls Try.prog 3 #[agv c s l u, agv c' s' l' u', .int .i64 v] w fun r w' => r = .returned (.bool true) ∧ Below w.heap.size w w' := by
  have T0 := Lib.hid (Two.new w c s l u c' s' l' u')
  go_enter Try.func3, Try.ntmps3
  go_wp2_with fail
  refine (up_ok _).mono ?_
  rintro e w1 ⟨rfl, k1⟩
  have T1 := Lib.hid (T0.out.next k1)
  obtain ⟨a0, a1, a2, a3, -⟩ := T1.out.1.four
  obtain ⟨b0, b1, b2, b3, -⟩ := T1.out.2.1.four
  go_wp2_with fail
  have f0 := Later.cell a0
  have f1 := Later.cell a1
  have f2 := Later.cell a2
  have f3 := Later.cell a3
  have f4 := Later.cell b0
  have f5 := Later.cell b1
  have f6 := Later.cell b2
  have f7 := Later.cell b3
  clear a0 a1 a2 a3 b0 b1 b2 b3
  refine wp_region_later (by kernel_rfl) (by kernel_rfl) ?_
  repeat (go_big_quiet_step (first
    | (go_at_call 6; with_reducible exact Later.call _ (of_ok _ _))
    | (go_at_call 7; with_reducible exact Later.call _ (one_ok _ _))
    | (go_at_call 8; with_reducible exact Later.call _ (A1.out _))
    | (go_at_call 10; with_reducible exact Later.call _ (M1.out _))
    | (go_at_call 9; with_reducible exact Later.call _ (A2.out _))
    | (go_at_call 9; with_reducible exact Later.call _ (M2.out _))))
  refine wpQuiet_nil ?_
  rintro _ ⟨u, rfl⟩
  have T2 := T1.out.next u.below
  clear f0 f1 f2 f3 f4 f5 f6 f7
  go_wp2
  go_ret
  exact ⟨rfl, T2.2.2⟩

theorem walk (x : Int × Int × Int × Int) (hx : (Lit.int .i64 x.1).wf = true ∧ (Lit.int .i64 x.2.1).wf = true ∧ (Lit.int .i64 x.2.2.1).wf = true ∧ (Lit.int .i64 x.2.2.2).wf = true)
    (y : Int × Int × Int × Int) (hy : (Lit.int .i64 y.1).wf = true ∧ (Lit.int .i64 y.2.1).wf = true ∧ (Lit.int .i64 y.2.2.1).wf = true ∧ (Lit.int .i64 y.2.2.2).wf = true)
    (v : Int) (wv : (Lit.int .i64 v).wf = true) (w : World) :
    Calls Try.prog 3 #[agv x.1 x.2.1 x.2.2.1 x.2.2.2, agv y.1 y.2.1 y.2.2.1 y.2.2.2, .int .i64 v] w fun r w' => r = .returned (.bool true) ∧ Below w.heap.size w w' := by
  obtain ⟨c, s, l, u⟩ := x
  obtain ⟨c', s', l', u'⟩ := y
  by_cases h : 1000000000 < c ∨ 1000000000 < c'
  · exact walk_off c s l u c' s' l' u' v w h
  · exact walk_on c s l u c' s' l' u' v _ _ _ _ _ _ _ _ w (by omega) (by omega) (Lib.hid fun w => add_ok ⟨c, s, l, u⟩ v w) (Lib.hid fun w => ref_ok ⟨c, s, l, u⟩ (one4 v) w)
      (Lib.hid fun w => merge_ok ⟨c, s, l, u⟩ ⟨c', s', l', u'⟩ w) (Lib.hid fun w => ref_ok ⟨c, s, l, u⟩ ⟨c', s', l', u'⟩ w)

theorem own : ownKnob Try.prog.godebug = none := by kernel_rfl

set_option maxRecDepth 100000 in
theorem lifted (os : Os) (started : os.Started) (H : Type) (enc : TypeId × Value → H) :
    ReturnsInHanded {} Try.checked os 3 .any (Rows.aggTellsSpec.pre6 enc Try.prog Try.f3 Rows.aggTellsRow.domain false) (Rows.aggTellsSpec.post enc Try.prog Try.f3 false true false false) := by
  refine returnsInHanded_of_change (C := Try.checked) own started (by kernel_rfl) Try.func3
    (ChangeSpec.witness6 (enc := enc) (C := Try.checked) false ⟨#[], #[.agg #[.int .i64 0, .int .i64 0, .int .i64 0, .int .i64 0], .agg #[.int .i64 0, .int .i64 0, .int .i64 0, .int .i64 0], .int .i64 0], []⟩ 8 (by kernel_rfl) (by kernel_rfl) (by kernel_rfl) (by kernel_rfl)) ?_
  intro W base args ds gs before hval0 hW hcnd _
  have hval : ∀ (j : Nat) t v, Try.f3.params[j]? = some t → args[j]? = some v → Value.okWide Try.prog W .any base t v := hval0
  have hW' := hW
  obtain ⟨p, q, hA0, hV, rfl, hfz, hnd⟩ := hW
  have hA : DataW.TrodAll enc Try.prog W 0 (fun _ => true) true Try.f3.params.toList args.toList ds p := hA0
  rw [Try.params3] at hA hval
  obtain ⟨v0, vs0, d0, ds0, p0, q0, hargs, rfl, rfl, h0, r0⟩ := trodAll_cons hA
  obtain ⟨v1, vs1, d1, ds1, p1, q1, rfl, rfl, rfl, h1, r1⟩ := trodAll_cons r0
  obtain ⟨v2, vs2, d2, ds2, p2, q2, rfl, rfl, rfl, h2, r2⟩ := trodAll_cons r1
  obtain ⟨rfl, rfl, rfl⟩ := trodAll_nil r2
  obtain rfl : args = #[v0, v1, v2] := by cases args; simp_all
  obtain ⟨rfl, rfl⟩ := trodVars_none hV
  obtain ⟨a0, rfl, w0⟩ := Opens.open_agg (hval 0 23 v0 rfl rfl) h0
  obtain ⟨a1, rfl, w1⟩ := Opens.open_agg (hval 1 23 v1 rfl rfl) h1
  obtain ⟨a2, rfl, rfl, rfl, w2⟩ := open_int Try.underlying2 (hval 2 2 v2 rfl rfl) h2
  clear hA0 hval0
  refine (walk a0 w0 a1 w1 a2 w2 W).mono fun e W' ⟨he, hg⟩ => ?_
  subst he
  exact ⟨_, rfl, Laid.post Laid.laidOut (by kernel_rfl) rfl (by kernel_rfl) Try.underlying4 hW' ⟨rfl, rfl, rfl⟩ hg⟩

theorem over : Rows.aggTellsRow.holds Try.pinned (OpenSpec.ofChange Rows.aggTellsSpec) :=
  OpenClaim.holds_of_wide 3 Try.f3 rfl rfl rfl rfl rfl rfl rfl ⟨rfl, rfl, rfl, rfl, rfl⟩ rfl rfl rfl rfl rfl (by kernel_rfl) Try.func3 (by kernel_rfl)
    (of_decide_eq_true (by kernel_rfl)) (by unfold Func.isWrapper; first | (rw [if_pos (by decide +kernel)]; kernel_rfl) | (rw [if_neg (by decide +kernel)]; exact ⟨rfl, rfl⟩))
    (fun os started H enc _ => lifted os started H enc)

/-- ████ THE STATEMENT ████ -/
theorem proved : Rows.AggTellsSaid :=
  over
#print axioms proved
end Go.Proofs.Ytfblbhncjcicpaa.aggTells
