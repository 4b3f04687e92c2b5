/-
  CallGroup: for every config, call, Op and Value the law answers true (no premise).
-/
import Derived.Test.YtldnacgdlpijgaaUp12
import Derived.Test.YtldnacgdlpijgaaLaid
namespace Go.Proofs.Ytldnacgdlpijgaa.callGroup
open Go.ChangeShapes Go.WideShapes Go.ChangeAt Go.RowKit Base Ca
set_option linter.unusedVariables false
set_option maxRecDepth 100000

/-- the law's own config and call in the blocks g and g + 1, the call with another Op in h, with another Value in h + 1 -/
def Four (w : World) (g h : Nat) (c : Cf) (x y z : Cl) : Prop := Both w g c x ∧ Seven w h y ∧ Seven w (h + 1) z
theorem Four.next {w w' : World} {g h : Nat} {c : Cf} {x y z : Cl} (H : Four w g h c x y z) (k : Below w.heap.size w w') : Four w' g h c x y z := ⟨H.1.next k, H.2.1.next k, H.2.2.next k⟩
/-- a call's block -/
abbrev blk (x : Cl) : Obj := Obj.cells #[.int .i64 x.op, .string x.key, .int .i64 x.t, .int .i64 x.v, .int .i64 x.e, .int .i64 x.u, .int .i64 x.s] 25
theorem Four.new {w1 : World} {g : Nat} {c : Cf} {x : Cl} (H : Both w1 g c x) (y z : Cl) : Four ((w1.alloc (blk y)).alloc (blk z)) g w1.heap.size c x y z := by
  refine ⟨(H.next (below1 _ _)).next (below1 _ _), (Seven.new w1 y).next (below1 _ _), ?_⟩
  have h := Seven.new (w1.alloc (blk y)) z
  simp only [World.size_alloc] at h
  exact h

/-- how the law's answers hang together -/
inductive Way (c : Cf) (x y : Cl) (gr gy : Int) : Bool → Bool → Bool → Prop
  | keyed (h : 0 ≤ gr) (h' : gr < c.r) : Way c x y gr gy true true false
  | both (h : 0 ≤ gr) (h' : gr < c.r) (e : gy = gr) : Way c x y gr gy true true true
  | moved (h : 0 ≤ gr) (h' : gr < c.r) (e : x.op = 6) (k : Bool) : Way c x y gr gy true false k
  | other (h : gr = -1) (e : (x.op == 6) = false) (k : Bool) : Way c x y gr gy true false k
  | not1 (k : Bool) : Way c x y gr gy false false k
  | not2 : Way c x y gr gy false true false
  | not3 (e : gy = gr) : Way c x y gr gy false true true

theorem way (c : Cf) (x y : Cl) (m : Bool) (hm : m = true ↔ mayC c x) (hy : y.key = x.key) : Way c x y (grpOf c.r x) (grpOf c.r y) m (kd x.op) (kd y.op) := by
  have e1 : kd x.op = true → kd y.op = true → grpOf c.r y = grpOf c.r x := fun h1 h2 => by unfold grpOf; rw [if_pos h1, if_pos h2, hy]
  cases m with
  | false =>
    cases h1 : kd x.op with
    | false => exact .not1 _
    | true =>
      cases h2 : kd y.op with
      | false => exact .not2
      | true => exact .not3 (e1 h1 h2)
  | true =>
    obtain ⟨⟨-, -, -, -, hr, -⟩, -, -, -, h6⟩ := hm.1 rfl
    cases h1 : kd x.op with
    | true =>
      have hg : 0 ≤ grpOf c.r x ∧ grpOf c.r x < c.r := by
        unfold grpOf
        rw [if_pos h1]
        have := Fnv.grp_in (Fnv.num x.key.data.toList) c.r
        exact ⟨this.1, this.2 (by omega)⟩
      cases h2 : kd y.op with
      | false => exact .keyed hg.1 hg.2
      | true => exact .both hg.1 hg.2 (e1 h1 h2)
    | false =>
      by_cases e6 : x.op = 6
      · have hg : grpOf c.r x = x.u := by unfold grpOf; rw [if_neg (by rw [h1]; decide), if_pos e6]
        have := (h6 e6).1
        exact .moved (by omega) (by omega) e6 _
      · have hg : grpOf c.r x = -1 := by unfold grpOf; rw [if_neg (by rw [h1]; decide), if_neg e6]
        exact .other hg (by simp [e6]) _

section
variable (c : Cf) (x : Cl) (op' v' : Int) (w : World) (gr gy : Int) (m k k' : Bool)
set_option maxHeartbeats 8000000 in
theorem walk_on (hx : x.key.size ≤ 9223372036854775807) (g0 : (Lit.int .i64 gr).wf = true)
    (W : Hid (Way c x ⟨op', x.key, x.t, x.v, x.e, x.u, x.s⟩ gr gy m k k'))
    (M1 : Hid (∀ w, Calls Try.prog 7 #[c.val, x.val] w fun r w' => r = .returned (.bool m) ∧ Below w.heap.size w w'))
    (M2 : Hid (∀ w, Calls Try.prog 7 #[c.val, Cl.val ⟨x.op, x.key, x.t, v', x.e, x.u, x.s⟩] w fun r w' => r = .returned (.bool m) ∧ Below w.heap.size w w'))
    (M3 : Hid (m = true → ∀ w, Calls Try.prog 15 #[c.val] w fun r w' => r = .returned (.bool true) ∧ Below w.heap.size w w'))
    (K1 : Hid (∀ w, Calls Try.prog 9 #[x.val] w fun r w' => r = .returned (.bool k) ∧ Below w.heap.size w w'))
    (K2 : Hid (∀ w, Calls Try.prog 9 #[Cl.val ⟨op', x.key, x.t, x.v, x.e, x.u, x.s⟩] w fun r w' => r = .returned (.bool k') ∧ Below w.heap.size w w'))
    (G1 : Hid (∀ w, Calls Try.prog 11 #[c.val, x.val] w fun r w' => r = .returned (.int .i64 gr) ∧ Below w.heap.size w w'))
    (G2 : Hid (∀ w, Calls Try.prog 11 #[c.val, Cl.val ⟨op', x.key, x.t, x.v, x.e, x.u, x.s⟩] w fun r w' => r = .returned (.int .i64 gy) ∧ Below w.heap.size w w')) :
    Calls Try.prog 4 #[c.val, x.val, .int .i64 op', .int .i64 v'] w fun r w' => r = .returned (.bool true) ∧ Below w.heap.size w w' := by
  have T0 := Lib.hid (Both.new w c x)
  obtain ⟨op, key, t, v, e, u, s⟩ := x
  obtain ⟨ck, cs, cl, cg, cz, ch, cr, cc⟩ := c
  dsimp only at *
  obtain ⟨g0, g1⟩ := Num.fit g0
  go_enter Try.func4, Try.ntmps4
  go_wp2_with fail
  refine (up_ok _).mono ?_
  rintro r w1 ⟨rfl, k1⟩
  have T1 := Lib.hid (T0.out.next k1)
  have B1 := Lib.hid (after (below2 _ _ _) k1)
  clear k1 T0
  obtain ⟨⟨c0, c1, c2, c3, c4, c5, c6, c7⟩, d0, d1, d2, d3, d4, d5, d6⟩ := T1.out
  by_cases hk : (1000 : Int) < key.size
  · go_wp2
    go_ret
    exact ⟨rfl, B1.out⟩
  obtain ⟨-, e0, e1, e2, e3, e4, e5, e6⟩ := T1.out.next (below1 w1 (blk ⟨op', key, t, v, e, u, s⟩))
  have T2 := Lib.hid (Four.new T1.out ⟨op', key, t, v, e, u, s⟩ ⟨op, key, t, v', e, u, s⟩)
  obtain ⟨⟨⟨c0', c1', c2', c3', c4', c5', c6', c7'⟩, d0', d1', d2', d3', d4', d5', d6'⟩, -, -⟩ := T2.out
  have B2 := Lib.hid (after B1.out (below2 w1 (blk ⟨op', key, t, v, e, u, s⟩) (blk ⟨op, key, t, v', e, u, s⟩)))
  go_wp2_with fail
  refine (G1.out _).mono ?_
  rintro r w3 ⟨rfl, k3⟩
  have T3 := Lib.hid (T2.out.next k3)
  have B3 := Lib.hid (after B2.out k3)
  clear k3 T2 B2 T1 B1 c0 c1 c2 c3 c4 c5 c6 c7 d0 d1 d2 d3 d4 d5 d6 e0 e1 e2 e3 e4 e5 e6 c0' c1' c2' c3' c4' c5' c6' c7' d0' d1' d2' d3' d4' d5' d6'
  generalize w1.heap.size = h at *
  go_wp2_with fail
  obtain ⟨⟨⟨c0, c1, c2, c3, c4, c5, c6, c7⟩, d0, d1, d2, d3, d4, d5, d6⟩, ⟨a0, a1, a2, a3, a4, a5, a6⟩, b0, b1, b2, b3, b4, b5, b6⟩ := T3.out
  have f0 := Later.cell c0
  have f1 := Later.cell c1
  have f2 := Later.cell c2
  have f3 := Later.cell c3
  have f4 := Later.cell c4
  have f5 := Later.cell c5
  have f6 := Later.cell c6
  have f7 := Later.cell c7
  have e0 := Later.cell d0
  have e1 := Later.cell d1
  have e2 := Later.cell d2
  have e3 := Later.cell d3
  have e4 := Later.cell d4
  have e5 := Later.cell d5
  have e6 := Later.cell d6
  have i0 := Later.cell a0
  have i1 := Later.cell a1
  have i2 := Later.cell a2
  have i3 := Later.cell a3
  have i4 := Later.cell a4
  have i5 := Later.cell a5
  have i6 := Later.cell a6
  have j0 := Later.cell b0
  have j1 := Later.cell b1
  have j2 := Later.cell b2
  have j3 := Later.cell b3
  have j4 := Later.cell b4
  have j5 := Later.cell b5
  have j6 := Later.cell b6
  clear c0 c1 c2 c3 c4 c5 c6 c7 d0 d1 d2 d3 d4 d5 d6 a0 a1 a2 a3 a4 a5 a6 b0 b1 b2 b3 b4 b5 b6
  have W0 := W.out
  clear W
  rcases W0 with ⟨p1, p2⟩ | ⟨p1, p2, rfl⟩ | ⟨p1, p2, q6, _⟩ | ⟨rfl, q6, _⟩ | _ | _ | ⟨rfl⟩
  all_goals
    try dsimp only at p2
    try dsimp only at q6
    try clear G1
  · refine wp_region_later (by kernel_rfl) (by kernel_rfl) ?_
    repeat (go_big_quiet_step (first
      | (go_at_call 7; with_reducible exact Later.call _ (M1.out _))
      | (go_at_call 7; with_reducible exact Later.call _ (M2.out _))
      | (go_at_call 9; with_reducible exact Later.call _ (K1.out _))
      | (go_at_call 9; with_reducible exact Later.call _ (K2.out _))
      | (go_at_call 11; with_reducible exact Later.call _ (G2.out _))))
    refine wpQuiet_nil ?_
    rintro _ ⟨u', rfl⟩
    have T4 := Lib.hid (T3.out.next u'.below)
    have B4 := Lib.hid (after B3.out u'.below)
    clear f0 f1 f2 f3 f4 f5 f6 f7 e0 e1 e2 e3 e4 e5 e6 i0 i1 i2 i3 i4 i5 i6 j0 j1 j2 j3 j4 j5 j6 T3 B3
    generalize u'.w = w4 at T4 B4 ⊢
    obtain ⟨⟨⟨c0, c1, c2, c3, c4, c5, c6, c7⟩, d0, d1, d2, d3, d4, d5, d6⟩, -, -⟩ := T4.out
    go_wp2_with fail
    refine (M1.out _).mono ?_
    rintro r w5 ⟨rfl, k5⟩
    have T5 := Lib.hid (T4.out.next k5)
    have B5 := Lib.hid (after B4.out k5)
    clear c0 c1 c2 c3 c4 c5 c6 c7 d0 d1 d2 d3 d4 d5 d6 T4 B4 k5
    obtain ⟨⟨⟨c0, c1, c2, c3, c4, c5, c6, c7⟩, d0, d1, d2, d3, d4, d5, d6⟩, -, -⟩ := T5.out
    go_wp2_with fail
    refine (M3.out (by simp) _).mono ?_
    rintro r w6 ⟨rfl, k6⟩
    have T6 := Lib.hid (T5.out.next k6)
    have B6 := Lib.hid (after B5.out k6)
    clear c0 c1 c2 c3 c4 c5 c6 c7 d0 d1 d2 d3 d4 d5 d6 T5 B5 k6
    obtain ⟨⟨⟨c0, c1, c2, c3, c4, c5, c6, c7⟩, d0, d1, d2, d3, d4, d5, d6⟩, -, -⟩ := T6.out
    go_wp2_with fail
    refine (K1.out _).mono ?_
    rintro r w7 ⟨rfl, k7⟩
    have T7 := Lib.hid (T6.out.next k7)
    have B7 := Lib.hid (after B6.out k7)
    clear c0 c1 c2 c3 c4 c5 c6 c7 d0 d1 d2 d3 d4 d5 d6 T6 B6 k7
    obtain ⟨⟨⟨c0, c1, c2, c3, c4, c5, c6, c7⟩, d0, d1, d2, d3, d4, d5, d6⟩, -, -⟩ := T7.out
    go_wp2
    go_ret
    exact ⟨rfl, B7.out⟩
  · refine wp_region_later (by kernel_rfl) (by kernel_rfl) ?_
    repeat (go_big_quiet_step (first
      | (go_at_call 7; with_reducible exact Later.call _ (M1.out _))
      | (go_at_call 7; with_reducible exact Later.call _ (M2.out _))
      | (go_at_call 9; with_reducible exact Later.call _ (K1.out _))
      | (go_at_call 9; with_reducible exact Later.call _ (K2.out _))
      | (go_at_call 11; with_reducible exact Later.call _ (G2.out _))))
    refine wpQuiet_nil ?_
    rintro _ ⟨u', rfl⟩
    have T4 := Lib.hid (T3.out.next u'.below)
    have B4 := Lib.hid (after B3.out u'.below)
    clear f0 f1 f2 f3 f4 f5 f6 f7 e0 e1 e2 e3 e4 e5 e6 i0 i1 i2 i3 i4 i5 i6 j0 j1 j2 j3 j4 j5 j6 T3 B3
    generalize u'.w = w4 at T4 B4 ⊢
    obtain ⟨⟨⟨c0, c1, c2, c3, c4, c5, c6, c7⟩, d0, d1, d2, d3, d4, d5, d6⟩, -, -⟩ := T4.out
    go_wp2_with fail
    refine (M1.out _).mono ?_
    rintro r w5 ⟨rfl, k5⟩
    have T5 := Lib.hid (T4.out.next k5)
    have B5 := Lib.hid (after B4.out k5)
    clear c0 c1 c2 c3 c4 c5 c6 c7 d0 d1 d2 d3 d4 d5 d6 T4 B4 k5
    obtain ⟨⟨⟨c0, c1, c2, c3, c4, c5, c6, c7⟩, d0, d1, d2, d3, d4, d5, d6⟩, -, -⟩ := T5.out
    go_wp2_with fail
    refine (M3.out (by simp) _).mono ?_
    rintro r w6 ⟨rfl, k6⟩
    have T6 := Lib.hid (T5.out.next k6)
    have B6 := Lib.hid (after B5.out k6)
    clear c0 c1 c2 c3 c4 c5 c6 c7 d0 d1 d2 d3 d4 d5 d6 T5 B5 k6
    obtain ⟨⟨⟨c0, c1, c2, c3, c4, c5, c6, c7⟩, d0, d1, d2, d3, d4, d5, d6⟩, -, -⟩ := T6.out
    go_wp2_with fail
    refine (K1.out _).mono ?_
    rintro r w7 ⟨rfl, k7⟩
    have T7 := Lib.hid (T6.out.next k7)
    have B7 := Lib.hid (after B6.out k7)
    clear c0 c1 c2 c3 c4 c5 c6 c7 d0 d1 d2 d3 d4 d5 d6 T6 B6 k7
    obtain ⟨⟨⟨c0, c1, c2, c3, c4, c5, c6, c7⟩, d0, d1, d2, d3, d4, d5, d6⟩, -, -⟩ := T7.out
    go_wp2
    go_ret
    exact ⟨rfl, B7.out⟩
  · subst q6
    refine wp_region_later (by kernel_rfl) (by kernel_rfl) ?_
    repeat (go_big_quiet_step (first
      | (go_at_call 7; with_reducible exact Later.call _ (M1.out _))
      | (go_at_call 7; with_reducible exact Later.call _ (M2.out _))
      | (go_at_call 9; with_reducible exact Later.call _ (K1.out _))
      | (go_at_call 9; with_reducible exact Later.call _ (K2.out _))
      | (go_at_call 11; with_reducible exact Later.call _ (G2.out _))))
    refine wpQuiet_nil ?_
    rintro _ ⟨u', rfl⟩
    have T4 := Lib.hid (T3.out.next u'.below)
    have B4 := Lib.hid (after B3.out u'.below)
    clear f0 f1 f2 f3 f4 f5 f6 f7 e0 e1 e2 e3 e4 e5 e6 i0 i1 i2 i3 i4 i5 i6 j0 j1 j2 j3 j4 j5 j6 T3 B3
    generalize u'.w = w4 at T4 B4 ⊢
    obtain ⟨⟨⟨c0, c1, c2, c3, c4, c5, c6, c7⟩, d0, d1, d2, d3, d4, d5, d6⟩, -, -⟩ := T4.out
    go_wp2_with fail
    refine (M1.out _).mono ?_
    rintro r w5 ⟨rfl, k5⟩
    have T5 := Lib.hid (T4.out.next k5)
    have B5 := Lib.hid (after B4.out k5)
    clear c0 c1 c2 c3 c4 c5 c6 c7 d0 d1 d2 d3 d4 d5 d6 T4 B4 k5
    obtain ⟨⟨⟨c0, c1, c2, c3, c4, c5, c6, c7⟩, d0, d1, d2, d3, d4, d5, d6⟩, -, -⟩ := T5.out
    go_wp2_with fail
    refine (M3.out (by simp) _).mono ?_
    rintro r w6 ⟨rfl, k6⟩
    have T6 := Lib.hid (T5.out.next k6)
    have B6 := Lib.hid (after B5.out k6)
    clear c0 c1 c2 c3 c4 c5 c6 c7 d0 d1 d2 d3 d4 d5 d6 T5 B5 k6
    obtain ⟨⟨⟨c0, c1, c2, c3, c4, c5, c6, c7⟩, d0, d1, d2, d3, d4, d5, d6⟩, -, -⟩ := T6.out
    go_wp2_with fail
    refine (K1.out _).mono ?_
    rintro r w7 ⟨rfl, k7⟩
    have T7 := Lib.hid (T6.out.next k7)
    have B7 := Lib.hid (after B6.out k7)
    clear c0 c1 c2 c3 c4 c5 c6 c7 d0 d1 d2 d3 d4 d5 d6 T6 B6 k7
    obtain ⟨⟨⟨c0, c1, c2, c3, c4, c5, c6, c7⟩, d0, d1, d2, d3, d4, d5, d6⟩, -, -⟩ := T7.out
    go_wp2
    go_ret
    exact ⟨rfl, B7.out⟩
  · refine wp_region_later (by kernel_rfl) (by kernel_rfl) ?_
    repeat (go_big_quiet_step (first
      | (go_at_call 7; with_reducible exact Later.call _ (M1.out _))
      | (go_at_call 7; with_reducible exact Later.call _ (M2.out _))
      | (go_at_call 9; with_reducible exact Later.call _ (K1.out _))
      | (go_at_call 9; with_reducible exact Later.call _ (K2.out _))
      | (go_at_call 11; with_reducible exact Later.call _ (G2.out _))))
    refine wpQuiet_nil ?_
    rintro _ ⟨u', rfl⟩
    have T4 := Lib.hid (T3.out.next u'.below)
    have B4 := Lib.hid (after B3.out u'.below)
    clear f0 f1 f2 f3 f4 f5 f6 f7 e0 e1 e2 e3 e4 e5 e6 i0 i1 i2 i3 i4 i5 i6 j0 j1 j2 j3 j4 j5 j6 T3 B3
    generalize u'.w = w4 at T4 B4 ⊢
    obtain ⟨⟨⟨c0, c1, c2, c3, c4, c5, c6, c7⟩, d0, d1, d2, d3, d4, d5, d6⟩, -, -⟩ := T4.out
    go_wp2_with fail
    refine (M1.out _).mono ?_
    rintro r w5 ⟨rfl, k5⟩
    have T5 := Lib.hid (T4.out.next k5)
    have B5 := Lib.hid (after B4.out k5)
    clear c0 c1 c2 c3 c4 c5 c6 c7 d0 d1 d2 d3 d4 d5 d6 T4 B4 k5
    obtain ⟨⟨⟨c0, c1, c2, c3, c4, c5, c6, c7⟩, d0, d1, d2, d3, d4, d5, d6⟩, -, -⟩ := T5.out
    go_wp2_with fail
    refine (M3.out (by simp) _).mono ?_
    rintro r w6 ⟨rfl, k6⟩
    have T6 := Lib.hid (T5.out.next k6)
    have B6 := Lib.hid (after B5.out k6)
    clear c0 c1 c2 c3 c4 c5 c6 c7 d0 d1 d2 d3 d4 d5 d6 T5 B5 k6
    obtain ⟨⟨⟨c0, c1, c2, c3, c4, c5, c6, c7⟩, d0, d1, d2, d3, d4, d5, d6⟩, -, -⟩ := T6.out
    go_wp2_with fail
    refine (K1.out _).mono ?_
    rintro r w7 ⟨rfl, k7⟩
    have T7 := Lib.hid (T6.out.next k7)
    have B7 := Lib.hid (after B6.out k7)
    clear c0 c1 c2 c3 c4 c5 c6 c7 d0 d1 d2 d3 d4 d5 d6 T6 B6 k7
    obtain ⟨⟨⟨c0, c1, c2, c3, c4, c5, c6, c7⟩, d0, d1, d2, d3, d4, d5, d6⟩, -, -⟩ := T7.out
    go_wp2
    go_ret
    exact ⟨rfl, B7.out⟩
  · refine wp_region_later (by kernel_rfl) (by kernel_rfl) ?_
    repeat (go_big_quiet_step (first
      | (go_at_call 7; with_reducible exact Later.call _ (M1.out _))
      | (go_at_call 7; with_reducible exact Later.call _ (M2.out _))
      | (go_at_call 9; with_reducible exact Later.call _ (K1.out _))
      | (go_at_call 9; with_reducible exact Later.call _ (K2.out _))
      | (go_at_call 11; with_reducible exact Later.call _ (G2.out _))))
    refine wpQuiet_nil ?_
    rintro _ ⟨u', rfl⟩
    have T4 := Lib.hid (T3.out.next u'.below)
    have B4 := Lib.hid (after B3.out u'.below)
    clear f0 f1 f2 f3 f4 f5 f6 f7 e0 e1 e2 e3 e4 e5 e6 i0 i1 i2 i3 i4 i5 i6 j0 j1 j2 j3 j4 j5 j6 T3 B3
    generalize u'.w = w4 at T4 B4 ⊢
    obtain ⟨⟨⟨c0, c1, c2, c3, c4, c5, c6, c7⟩, d0, d1, d2, d3, d4, d5, d6⟩, -, -⟩ := T4.out
    go_wp2_with fail
    refine (M1.out _).mono ?_
    rintro r w5 ⟨rfl, k5⟩
    have T5 := Lib.hid (T4.out.next k5)
    have B5 := Lib.hid (after B4.out k5)
    clear c0 c1 c2 c3 c4 c5 c6 c7 d0 d1 d2 d3 d4 d5 d6 T4 B4 k5
    obtain ⟨⟨⟨c0, c1, c2, c3, c4, c5, c6, c7⟩, d0, d1, d2, d3, d4, d5, d6⟩, -, -⟩ := T5.out
    go_wp2
    go_ret
    exact ⟨rfl, B5.out⟩
  · refine wp_region_later (by kernel_rfl) (by kernel_rfl) ?_
    repeat (go_big_quiet_step (first
      | (go_at_call 7; with_reducible exact Later.call _ (M1.out _))
      | (go_at_call 7; with_reducible exact Later.call _ (M2.out _))
      | (go_at_call 9; with_reducible exact Later.call _ (K1.out _))
      | (go_at_call 9; with_reducible exact Later.call _ (K2.out _))
      | (go_at_call 11; with_reducible exact Later.call _ (G2.out _))))
    refine wpQuiet_nil ?_
    rintro _ ⟨u', rfl⟩
    have T4 := Lib.hid (T3.out.next u'.below)
    have B4 := Lib.hid (after B3.out u'.below)
    clear f0 f1 f2 f3 f4 f5 f6 f7 e0 e1 e2 e3 e4 e5 e6 i0 i1 i2 i3 i4 i5 i6 j0 j1 j2 j3 j4 j5 j6 T3 B3
    generalize u'.w = w4 at T4 B4 ⊢
    obtain ⟨⟨⟨c0, c1, c2, c3, c4, c5, c6, c7⟩, d0, d1, d2, d3, d4, d5, d6⟩, -, -⟩ := T4.out
    go_wp2_with fail
    refine (M1.out _).mono ?_
    rintro r w5 ⟨rfl, k5⟩
    have T5 := Lib.hid (T4.out.next k5)
    have B5 := Lib.hid (after B4.out k5)
    clear c0 c1 c2 c3 c4 c5 c6 c7 d0 d1 d2 d3 d4 d5 d6 T4 B4 k5
    obtain ⟨⟨⟨c0, c1, c2, c3, c4, c5, c6, c7⟩, d0, d1, d2, d3, d4, d5, d6⟩, -, -⟩ := T5.out
    go_wp2
    go_ret
    exact ⟨rfl, B5.out⟩
  · refine wp_region_later (by kernel_rfl) (by kernel_rfl) ?_
    repeat (go_big_quiet_step (first
      | (go_at_call 7; with_reducible exact Later.call _ (M1.out _))
      | (go_at_call 7; with_reducible exact Later.call _ (M2.out _))
      | (go_at_call 9; with_reducible exact Later.call _ (K1.out _))
      | (go_at_call 9; with_reducible exact Later.call _ (K2.out _))
      | (go_at_call 11; with_reducible exact Later.call _ (G2.out _))))
    refine wpQuiet_nil ?_
    rintro _ ⟨u', rfl⟩
    have T4 := Lib.hid (T3.out.next u'.below)
    have B4 := Lib.hid (after B3.out u'.below)
    clear f0 f1 f2 f3 f4 f5 f6 f7 e0 e1 e2 e3 e4 e5 e6 i0 i1 i2 i3 i4 i5 i6 j0 j1 j2 j3 j4 j5 j6 T3 B3
    generalize u'.w = w4 at T4 B4 ⊢
    obtain ⟨⟨⟨c0, c1, c2, c3, c4, c5, c6, c7⟩, d0, d1, d2, d3, d4, d5, d6⟩, -, -⟩ := T4.out
    go_wp2_with fail
    refine (M1.out _).mono ?_
    rintro r w5 ⟨rfl, k5⟩
    have T5 := Lib.hid (T4.out.next k5)
    have B5 := Lib.hid (after B4.out k5)
    clear c0 c1 c2 c3 c4 c5 c6 c7 d0 d1 d2 d3 d4 d5 d6 T4 B4 k5
    obtain ⟨⟨⟨c0, c1, c2, c3, c4, c5, c6, c7⟩, d0, d1, d2, d3, d4, d5, d6⟩, -, -⟩ := T5.out
    go_wp2
    go_ret
    exact ⟨rfl, B5.out⟩
end

theorem grp_wf (c : Cf) (x : Cl) (hc : c.Fit) (hx : x.Fit) : (Lit.int .i64 (grpOf c.r x)).wf = true := by
  have r1 := Num.fit hc.2.2.2.2.2.2.1
  have u1 := Num.fit hx.2.2.2.2.2.1
  have g := Fnv.grp_in (Fnv.num x.key.data.toList) c.r
  have b : -9223372036854775808 ≤ grpOf c.r x ∧ grpOf c.r x ≤ 9223372036854775807 := by
    unfold grpOf
    split
    · have : Fnv.grp (Fnv.num x.key.data.toList) c.r ≤ 9223372036854775807 := by
        by_cases h : 1 ≤ c.r
        · have := g.2 h; omega
        · unfold Fnv.grp; rw [if_pos (by omega)]; decide
      omega
    · split <;> omega
  generalize grpOf c.r x = q at b
  simp [Lit.wf, IntKind.min, IntKind.max, IntKind.bits, IntKind.signed]
  omega

theorem walk (c : Cf) (hc : c.Fit) (x : Cl) (hx : x.Fit) (op' : Int) (ho : (Lit.int .i64 op').wf = true) (v' : Int) (hv : (Lit.int .i64 v').wf = true) (w : World) :
    Calls Try.prog 4 #[c.val, x.val, .int .i64 op', .int .i64 v'] w fun r w' => r = .returned (.bool true) ∧ Below w.heap.size w w' := by
  obtain ⟨m, hm⟩ : ∃ m : Bool, m = true ↔ mayC c x := by classical exact ⟨decide (mayC c x), by simp⟩
  have hy : Cl.Fit ⟨op', x.key, x.t, x.v, x.e, x.u, x.s⟩ := ⟨ho, hx.2.1, hx.2.2.1, hx.2.2.2.1, hx.2.2.2.2.1, hx.2.2.2.2.2.1, hx.2.2.2.2.2.2⟩
  have hz : Cl.Fit ⟨x.op, x.key, x.t, v', x.e, x.u, x.s⟩ := ⟨hx.1, hx.2.1, hx.2.2.1, hv, hx.2.2.2.2.1, hx.2.2.2.2.2.1, hx.2.2.2.2.2.2⟩
  have s1 := (Num.fit hc.2.1).2
  exact walk_on c x op' v' w _ _ m _ _ hx.2.1 (grp_wf c x hc hx) (Lib.hid (way c x ⟨op', x.key, x.t, x.v, x.e, x.u, x.s⟩ m hm rfl))
    (Lib.hid fun w => may_ok c x w m (Lib.hid hm) hc hx) (Lib.hid fun w => may_ok c ⟨x.op, x.key, x.t, v', x.e, x.u, x.s⟩ w m (Lib.hid hm) hc hz)
    (Lib.hid fun h w => Asg.refMay_ok c.k c.s c.l c.g c.z c.h c.r c.c w true (Lib.hid ⟨fun _ => (hm.1 h).1, fun _ => rfl⟩) s1)
    (Lib.hid fun w => keyed_ok x w) (Lib.hid fun w => keyed_ok _ w) (Lib.hid fun w => group_ok c x w hc hx) (Lib.hid fun w => group_ok c _ w hc hy)

theorem own : ownKnob Try.prog.godebug = none := by kernel_rfl

set_option maxRecDepth 100000 in
theorem lifted (os : Os) (started : os.Started) (H : Type) (enc : TypeId × Value → H) :
    ReturnsInHanded {} Try.checked os 4 .any (Rows.callGroupSpec.pre6 enc Try.prog Try.f4 Rows.callGroupRow.domain false) (Rows.callGroupSpec.post enc Try.prog Try.f4 false true false false) := by
  refine returnsInHanded_of_change (C := Try.checked) own started (by kernel_rfl) Try.func4
    (ChangeSpec.witness6 (enc := enc) (C := Try.checked) false ⟨#[], #[.agg #[.int .i64 0, .int .i64 0, .int .i64 0, .int .i64 0, .int .i64 0, .int .i64 0, .int .i64 0, .int .i64 0], .agg #[.int .i64 0, .string ⟨#[]⟩, .int .i64 0, .int .i64 0, .int .i64 0, .int .i64 0, .int .i64 0], .int .i64 0, .int .i64 0], []⟩ 8 (by kernel_rfl) (by kernel_rfl) (by kernel_rfl) (by kernel_rfl)) ?_
  intro W base args ds gs before hval0 hW hcnd _
  have hval : ∀ (j : Nat) t v, Try.f4.params[j]? = some t → args[j]? = some v → Value.okWide Try.prog W .any base t v := hval0
  have hW' := hW
  obtain ⟨p, q, hA0, hV, rfl, hfz, hnd⟩ := hW
  have hA : DataW.TrodAll enc Try.prog W 0 (fun _ => true) true Try.f4.params.toList args.toList ds p := hA0
  rw [Try.params4] at hA hval
  obtain ⟨v0, vs0, d0, ds0, p0, q0, hargs, rfl, rfl, h0, r0⟩ := trodAll_cons hA
  obtain ⟨v1, vs1, d1, ds1, p1, q1, rfl, rfl, rfl, h1, r1⟩ := trodAll_cons r0
  obtain ⟨v2, vs2, d2, ds2, p2, q2, rfl, rfl, rfl, h2, r2⟩ := trodAll_cons r1
  obtain ⟨v3, vs3, d3, ds3, p3, q3, rfl, rfl, rfl, h3, r3⟩ := trodAll_cons r2
  obtain ⟨rfl, rfl, rfl⟩ := trodAll_nil r3
  obtain rfl : args = #[v0, v1, v2, v3] := by cases args; simp_all
  obtain ⟨rfl, rfl⟩ := trodVars_none hV
  obtain ⟨a0, rfl, w0⟩ := Opens.open_config (hval 0 23 v0 rfl rfl) h0
  obtain ⟨a1, rfl, w1⟩ := Opens.open_call (hval 1 25 v1 rfl rfl) h1
  obtain ⟨a2, rfl, rfl, rfl, w2⟩ := open_int Try.underlying3 (hval 2 3 v2 rfl rfl) h2
  obtain ⟨a3, rfl, rfl, rfl, w3⟩ := open_int Try.underlying2 (hval 3 2 v3 rfl rfl) h3
  clear hA0 hval0
  refine (walk a0 w0 a1 w1 a2 w2 a3 w3 W).mono fun e W' ⟨he, hg⟩ => ?_
  subst he
  exact ⟨_, rfl, Laid.post Laid.laidOut (by kernel_rfl) rfl (by kernel_rfl) Try.underlying4 hW' ⟨rfl, rfl, rfl⟩ hg⟩

theorem over : Rows.callGroupRow.holds Try.pinned (OpenSpec.ofChange Rows.callGroupSpec) :=
  OpenClaim.holds_of_wide 4 Try.f4 rfl rfl rfl rfl rfl rfl rfl ⟨rfl, rfl, rfl, rfl, rfl⟩ rfl rfl rfl rfl rfl (by kernel_rfl) Try.func4 (by kernel_rfl)
    (of_decide_eq_true (by kernel_rfl)) (by unfold Func.isWrapper; first | (rw [if_pos (by decide +kernel)]; kernel_rfl) | (rw [if_neg (by decide +kernel)]; exact ⟨rfl, rfl⟩))
    (fun os started H enc _ => lifted os started H enc)

/-- ████ THE STATEMENT ████ -/
theorem proved : Rows.CallGroupSaid :=
  over
#print axioms proved
end Go.Proofs.Ytldnacgdlpijgaa.callGroup
