/-
  CallTells: for every config, call and two replies the law answers true (no premise).
-/
import Derived.Test.YtldnacgdlpijgaaUp12
import Derived.Test.YtldnacgdlpijgaaLaid
namespace Go.Proofs.Ytldnacgdlpijgaa.callTells
open Go.ChangeShapes Go.WideShapes Go.ChangeAt Go.RowKit Base Ca
set_option linter.unusedVariables false
set_option maxRecDepth 100000

/-- the law's own config, call and replies, in four blocks from g on -/
def Four (w : World) (g : Nat) (c : Cf) (x : Cl) (p : Int) (l : Value) (q : Int) (m : Value) : Prop :=
  Both w g c x ∧ w.cell? ⟨g + 1 + 1, 0, none⟩ = some (.int .i64 p) ∧ w.cell? ⟨g + 1 + 1, 1, none⟩ = some l ∧ w.cell? ⟨g + 1 + 1 + 1, 0, none⟩ = some (.int .i64 q) ∧ w.cell? ⟨g + 1 + 1 + 1, 1, none⟩ = some m
theorem Four.next {w w' : World} {g : Nat} {c : Cf} {x : Cl} {p q : Int} {l m : Value} (h : Four w g c x p l q m) (k : Below w.heap.size w w') : Four w' g c x p l q m :=
  ⟨h.1.next k, cell_keep k h.2.1, cell_keep k h.2.2.1, cell_keep k h.2.2.2.1, cell_keep k h.2.2.2.2⟩
theorem Four.new (w : World) (c : Cf) (x : Cl) (p q : Int) (l m : Value) :
    Four ((((w.alloc (Obj.cells #[.int .i64 c.k, .int .i64 c.s, .int .i64 c.l, .int .i64 c.g, .int .i64 c.z, .int .i64 c.h, .int .i64 c.r, .int .i64 c.c] 23)).alloc (Obj.cells #[.int .i64 x.op, .string x.key, .int .i64 x.t, .int .i64 x.v, .int .i64 x.e, .int .i64 x.u, .int .i64 x.s] 25)).alloc (Obj.cells #[.int .i64 p, l] 28)).alloc (Obj.cells #[.int .i64 q, m] 28)) w.heap.size c x p l q m := by
  refine ⟨((Both.new w c x).next (below1 _ _)).next (below1 _ _), ?_, ?_, ?_, ?_⟩ <;> go_simp

section
variable (c : Cf) (x : Cl) (p q : Int) (AD AE : Option Addr) (n1 n2 cap cap2 : Nat) (w : World)
set_option maxHeartbeats 8000000 in
/-- the law's last statement, from a world in which all four lie -/
theorem walk_on (L M : List Pn) (hn1 : L.length = n1) (hn2 : M.length = n2) (m k sm : Bool) (gr : Int)
    (hx : x.key.size ≤ 9223372036854775807)
    (F1 : Hid (∀ w', Below w.heap.size w w' → Calls Try.prog 6 #[rep p (.slice AD n1 cap)] w' (Few L w')))
    (F2 : Hid (∀ w', Below w.heap.size w w' → Calls Try.prog 6 #[rep q (.slice AE n2 cap2)] w' (Few M w')))
    (M1 : Hid (∀ w, Calls Try.prog 7 #[c.val, x.val] w fun r w' => r = .returned (.bool m) ∧ Below w.heap.size w w'))
    (M2 : Hid (∀ w, Calls Try.prog 8 #[c.val, x.val] w fun r w' => r = .returned (.bool m) ∧ Below w.heap.size w w'))
    (K1 : Hid (∀ w, Calls Try.prog 9 #[x.val] w fun r w' => r = .returned (.bool k) ∧ Below w.heap.size w w'))
    (K2 : Hid (∀ w, Calls Try.prog 10 #[x.val] w fun r w' => r = .returned (.bool k) ∧ Below w.heap.size w w'))
    (G1 : Hid (∀ w, Calls Try.prog 11 #[c.val, x.val] w fun r w' => r = .returned (.int .i64 gr) ∧ Below w.heap.size w w'))
    (G2 : Hid (∀ w, Calls Try.prog 12 #[c.val, x.val] w fun r w' => r = .returned (.int .i64 gr) ∧ Below w.heap.size w w'))
    (S1 : Hid (L.length ≤ 30 → M.length ≤ 30 → ∀ w', Below w.heap.size w w' → Calls Try.prog 13 #[rep p (.slice AD n1 cap), rep q (.slice AE n2 cap2)] w' fun r w2 => r = .returned (.bool sm) ∧ Below w'.heap.size w' w2))
    (S2 : Hid (L.length ≤ 30 → M.length ≤ 30 → ∀ w', Below w.heap.size w w' → Calls Try.prog 14 #[rep p (.slice AD n1 cap), rep q (.slice AE n2 cap2)] w' fun r w2 => r = .returned (.bool sm) ∧ Below w'.heap.size w' w2))
    (S3 : Hid (L.length ≤ 30 → ∀ w', Below w.heap.size w w' → Calls Try.prog 13 #[rep p (.slice AD n1 cap), rep p (.slice AD n1 cap)] w' fun r w2 => r = .returned (.bool true) ∧ Below w'.heap.size w' w2)) :
    Calls Try.prog 3 #[c.val, x.val, rep p (.slice AD n1 cap), rep q (.slice AE n2 cap2)] w fun r w' => r = .returned (.bool true) ∧ Below w.heap.size w w' := by
  have T0 := Lib.hid (Four.new w c x p q (.slice AD n1 cap) (.slice AE n2 cap2))
  have B0 : Hid (Below w.heap.size w ((((w.alloc (Obj.cells #[.int .i64 c.k, .int .i64 c.s, .int .i64 c.l, .int .i64 c.g, .int .i64 c.z, .int .i64 c.h, .int .i64 c.r, .int .i64 c.c] 23)).alloc (Obj.cells #[.int .i64 x.op, .string x.key, .int .i64 x.t, .int .i64 x.v, .int .i64 x.e, .int .i64 x.u, .int .i64 x.s] 25)).alloc (Obj.cells #[.int .i64 p, .slice AD n1 cap] 28)).alloc (Obj.cells #[.int .i64 q, .slice AE n2 cap2] 28))) :=
    Lib.hid (after (after (below2 _ _ _) (below1 _ _)) (below1 _ _))
  obtain ⟨op, key, t, v, e, u, s⟩ := x
  obtain ⟨ck, cs, cl, cg, cz, ch, cr, cc⟩ := c
  dsimp only at *

  go_enter Try.func3, Try.ntmps3
  go_wp2_with fail
  refine (up_ok _).mono ?_
  rintro r w1 ⟨rfl, k1⟩
  have T1 := Lib.hid (T0.out.next k1)
  have B1 := Lib.hid (after B0.out k1)
  clear k1 T0 B0
  obtain ⟨⟨-, d0, d1, d2, d3, d4, d5, d6⟩, a0, a1, b0, b1⟩ := T1.out
  by_cases hk : (1000 : Int) < key.size
  · go_wp2
    go_ret
    exact ⟨rfl, B1.out⟩
  go_wp2_with fail
  refine (F1.out _ B1.out).mono ?_
  rintro r w2 ⟨f1, rfl, h1, k2⟩
  have T2 := Lib.hid (T1.out.next k2)
  have B2 := Lib.hid (after B1.out k2)
  clear k2 T1 B1 d0 d1 d2 d3 d4 d5 d6 a0 a1 b0 b1
  obtain ⟨⟨-, d0, d1, d2, d3, d4, d5, d6⟩, a0, a1, b0, b1⟩ := T2.out
  cases f1 with
  | false =>
    clear h1
    go_wp2
    go_ret
    exact ⟨rfl, B2.out⟩
  | true =>
    have hL := Lib.hid (h1 rfl)
    clear h1
    go_wp2_with fail
    refine (F2.out _ B2.out).mono ?_
    rintro r w3 ⟨f2, rfl, h2, k3⟩
    have T3 := Lib.hid (T2.out.next k3)
    have B3 := Lib.hid (after B2.out k3)
    clear k3 T2 B2 d0 d1 d2 d3 d4 d5 d6 a0 a1 b0 b1
    cases f2 with
    | false =>
      clear h2
      obtain ⟨⟨-, d0, d1, d2, d3, d4, d5, d6⟩, a0, a1, b0, b1⟩ := T3.out
      go_wp2
      go_ret
      exact ⟨rfl, B3.out⟩
    | true =>
      have hM := Lib.hid (h2 rfl)
      clear h2
      go_wp2_with fail
      have Q1 := Lib.hid fun u : Later w3 => S1.out hL.out hM.out u.w (after B3.out u.below)
      have Q2 := Lib.hid fun u : Later w3 => S2.out hL.out hM.out u.w (after B3.out u.below)
      have Q3 := Lib.hid fun u : Later w3 => S3.out hL.out u.w (after B3.out u.below)
      obtain ⟨⟨⟨c0, c1, c2, c3, c4, c5, c6, c7⟩, d0, d1, d2, d3, d4, d5, d6⟩, a0, a1, b0, b1⟩ := T3.out
      have f0 := Later.cell c0
      have f1 := Later.cell c1
      have f2 := Later.cell c2
      have f3 := Later.cell c3
      have f4 := Later.cell c4
      have f5 := Later.cell c5
      have f6 := Later.cell c6
      have f7 := Later.cell c7
      have e0 := Later.cell d0
      have e1 := Later.cell d1
      have e2 := Later.cell d2
      have e3 := Later.cell d3
      have e4 := Later.cell d4
      have e5 := Later.cell d5
      have e6 := Later.cell d6
      have i0 := Later.cell a0
      have i1 := Later.cell a1
      have j0 := Later.cell b0
      have j1 := Later.cell b1
      clear c0 c1 c2 c3 c4 c5 c6 c7 d0 d1 d2 d3 d4 d5 d6 a0 a1 b0 b1 S1 S2 S3 F1 F2
      refine wp_region_later (by kernel_rfl) (by kernel_rfl) ?_
      repeat (go_big_quiet_step (first
        | (go_at_call 7; with_reducible exact Later.call _ (M1.out _))
        | (go_at_call 8; with_reducible exact Later.call _ (M2.out _))
        | (go_at_call 9; with_reducible exact Later.call _ (K1.out _))
        | (go_at_call 10; with_reducible exact Later.call _ (K2.out _))
        | (go_at_call 11; with_reducible exact Later.call _ (G1.out _))
        | (go_at_call 12; with_reducible exact Later.call _ (G2.out _))
        | (go_at_call 13; with_reducible exact Later.call _ (Q1.out _))
        | (go_at_call 14; with_reducible exact Later.call _ (Q2.out _))
        | (go_at_call 13; with_reducible exact Later.call _ (Q3.out _))))
      refine wpQuiet_nil ?_
      rintro _ ⟨u, rfl⟩
      have B4 := Lib.hid (after B3.out u.below)
      clear f0 f1 f2 f3 f4 f5 f6 f7 e0 e1 e2 e3 e4 e5 e6 i0 i1 j0 j1
      go_wp2
      go_ret
      exact ⟨rfl, B4.out⟩
end

theorem rd_len {w : World} {v : Value} {L : List Pn} (h : Out.Rd w v L) : L.length ≤ maxLen := by
  rcases Nat.eq_zero_or_pos L.length with h0 | h0
  · omega
  · obtain ⟨b, off, cap, _, h1, h2, _⟩ := h.some_ h0
    omega

theorem walk (c : Cf) (hc : c.Fit) (x : Cl) (hx : x.Fit) (a : Int × Value × List Pn) (ha : (Lit.int .i64 a.1).wf = true) (b : Int × Value × List Pn) (hb : (Lit.int .i64 b.1).wf = true) (w : World) (wa : Out.Came w a.2) (wb : Out.Came w b.2) :
    Calls Try.prog 3 #[c.val, x.val, rep a.1 a.2.1, rep b.1 b.2.1] w fun r w' => r = .returned (.bool true) ∧ Below w.heap.size w w' := by
  obtain ⟨p, l, L⟩ := a
  obtain ⟨q, m, M⟩ := b
  have RL : Out.Rd w l L := wa.1
  have RM : Out.Rd w m M := wb.1
  obtain ⟨AD, cap, hl⟩ := RL.len
  obtain ⟨AE, cap2, hm⟩ := RM.len
  dsimp only
  subst hl hm
  obtain ⟨y, hy⟩ : ∃ y : Bool, y = true ↔ mayC c x := by classical exact ⟨decide (mayC c x), by simp⟩
  exact walk_on c x p q AD AE _ _ cap cap2 w L M rfl rfl y _ _ _ hx.2.1
    (Lib.hid fun w' k => few_ok p _ L w' (Lib.hid (RL.next k)) (rd_len RL))
    (Lib.hid fun w' k => few_ok q _ M w' (Lib.hid (RM.next k)) (rd_len RM))
    (Lib.hid fun w => may_ok c x w y (Lib.hid hy) hc hx) (Lib.hid fun w => rmay_ok c x w y (Lib.hid hy) hc hx)
    (Lib.hid fun w => keyed_ok x w) (Lib.hid fun w => rkeyed_ok x w) (Lib.hid fun w => group_ok c x w hc hx) (Lib.hid fun w => rgroup_ok c x w hc hx)
    (Lib.hid fun h1 h2 w' k => same_ok p q _ _ L M w' (Lib.hid (RL.next k)) (Lib.hid (RM.next k)) (by omega) (by omega))
    (Lib.hid fun h1 h2 w' k => rsame_ok p q _ _ L M w' (Lib.hid (RL.next k)) (Lib.hid (RM.next k)) (by omega) (by omega))
    (Lib.hid fun h1 w' k => told true (same_ok p p _ _ L L w' (Lib.hid (RL.next k)) (Lib.hid (RL.next k)) (by omega) (by omega)) (by simp))

theorem own : ownKnob Try.prog.godebug = none := by kernel_rfl

set_option maxRecDepth 100000 in
theorem lifted (os : Os) (started : os.Started) (H : Type) (enc : TypeId × Value → H) :
    ReturnsInHanded {} Try.checked os 3 .any (Rows.callTellsSpec.pre6 enc Try.prog Try.f3 Rows.callTellsRow.domain false) (Rows.callTellsSpec.post enc Try.prog Try.f3 false true false false) := by
  refine returnsInHanded_of_change (C := Try.checked) own started (by kernel_rfl) Try.func3
    (ChangeSpec.witness6 (enc := enc) (C := Try.checked) false ⟨#[], #[.agg #[.int .i64 0, .int .i64 0, .int .i64 0, .int .i64 0, .int .i64 0, .int .i64 0, .int .i64 0, .int .i64 0], .agg #[.int .i64 0, .string ⟨#[]⟩, .int .i64 0, .int .i64 0, .int .i64 0, .int .i64 0, .int .i64 0], .agg #[.int .i64 0, .slice none 0 0], .agg #[.int .i64 0, .slice none 0 0]], []⟩ 8 (by kernel_rfl) (by kernel_rfl) (by kernel_rfl) (by kernel_rfl)) ?_
  intro W base args ds gs before hval0 hW hcnd _
  have hval : ∀ (j : Nat) t v, Try.f3.params[j]? = some t → args[j]? = some v → Value.okWide Try.prog W .any base t v := hval0
  have hW' := hW
  obtain ⟨p, q, hA0, hV, rfl, hfz, hnd⟩ := hW
  have hA : DataW.TrodAll enc Try.prog W 0 (fun _ => true) true Try.f3.params.toList args.toList ds p := hA0
  rw [Try.params3] at hA hval
  obtain ⟨v0, vs0, d0, ds0, p0, q0, hargs, rfl, rfl, h0, r0⟩ := trodAll_cons hA
  obtain ⟨v1, vs1, d1, ds1, p1, q1, rfl, rfl, rfl, h1, r1⟩ := trodAll_cons r0
  obtain ⟨v2, vs2, d2, ds2, p2, q2, rfl, rfl, rfl, h2, r2⟩ := trodAll_cons r1
  obtain ⟨v3, vs3, d3, ds3, p3, q3, rfl, rfl, rfl, h3, r3⟩ := trodAll_cons r2
  obtain ⟨rfl, rfl, rfl⟩ := trodAll_nil r3
  obtain rfl : args = #[v0, v1, v2, v3] := by cases args; simp_all
  obtain ⟨rfl, rfl⟩ := trodVars_none hV
  obtain ⟨a0, rfl, w0⟩ := Opens.open_config (hval 0 23 v0 rfl rfl) h0
  obtain ⟨a1, rfl, w1⟩ := Opens.open_call (hval 1 25 v1 rfl rfl) h1
  obtain ⟨a2, rfl, w2⟩ := Opens.open_reply (hval 2 28 v2 rfl rfl) h2
  obtain ⟨a3, rfl, w3⟩ := Opens.open_reply (hval 3 28 v3 rfl rfl) h3
  clear hA0 hval0
  refine (walk a0 w0 a1 w1 a2 w2.1 a3 w3.1 W w2.2 w3.2).mono fun e W' ⟨he, hg⟩ => ?_
  subst he
  exact ⟨_, rfl, Laid.post Laid.laidOut (by kernel_rfl) rfl (by kernel_rfl) Try.underlying4 hW' ⟨rfl, rfl, rfl⟩ hg⟩

theorem over : Rows.callTellsRow.holds Try.pinned (OpenSpec.ofChange Rows.callTellsSpec) :=
  OpenClaim.holds_of_wide 3 Try.f3 rfl rfl rfl rfl rfl rfl rfl ⟨rfl, rfl, rfl, rfl, rfl⟩ rfl rfl rfl rfl rfl (by kernel_rfl) Try.func3 (by kernel_rfl)
    (of_decide_eq_true (by kernel_rfl)) (by unfold Func.isWrapper; first | (rw [if_pos (by decide +kernel)]; kernel_rfl) | (rw [if_neg (by decide +kernel)]; exact ⟨rfl, rfl⟩))
    (fun os started H enc _ => lifted os started H enc)

/-- ████ THE STATEMENT ████ -/
theorem proved : Rows.CallTellsSaid :=
  over
#print axioms proved
end Go.Proofs.Ytldnacgdlpijgaa.callTells
