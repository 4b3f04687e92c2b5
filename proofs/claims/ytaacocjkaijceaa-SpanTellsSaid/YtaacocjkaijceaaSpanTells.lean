/-
  SpanTells holds: for any two windows and any three int64 numbers the law answers true (no conditions).
-/
import Derived.Test.YtaacocjkaijceaaSpanTellsW
import Derived.Test.YtaacocjkaijceaaLaid
import Derived.Test.YtaacocjkaijceaaOpens
namespace Go.Proofs.Ytaacocjkaijceaa.spanTells
open Go.ChangeShapes Go.WideShapes Go.ChangeAt Go.RowKit Spn
set_option linter.unusedVariables false

theorem walk (a b : Int) (wa : (Lit.int .i64 a).wf = true) (wb : (Lit.int .i64 b).wf = true) (c d : Int) (wc : (Lit.int .i64 c).wf = true) (wd : (Lit.int .i64 d).wf = true)
    (t : Int) (wt : (Lit.int .i64 t).wf = true) (l : Int) (wl : (Lit.int .i64 l).wf = true) (m : Int) (wm : (Lit.int .i64 m).wf = true) (w : World) :
    Calls Try.prog 3 #[win a b, win c d, .int .i64 t, .int .i64 l, .int .i64 m] w fun r w' => r = .returned (.bool true) ∧ Below w.heap.size w w' := by
  obtain ⟨a0, a1⟩ := Num.fit wa
  obtain ⟨b0, b1⟩ := Num.fit wb
  obtain ⟨l0, l1⟩ := Num.fit wl
  obtain ⟨m0, m1⟩ := Num.fit wm
  have M := Lib.hid fun w : World => Spn.meet_ok a b c d w
  have R := Lib.hid fun w : World => RefSpan.meet_ok a b c d w
  by_cases h1 : a < b
  · by_cases h2 : a ≤ t
    · by_cases h3 : c < d
      · exact walkB1 a b c d t l m _ w a0 a1 b0 b1 l0 l1 m0 m1 h1 h2 h3 M R
      · exact walkB0 a b c d t l m _ w a0 a1 b0 b1 l0 l1 m0 m1 h1 h2 h3 (by rw [decide_eq_false_iff_not]; omega) M R
    · by_cases h3 : c < d
      · exact walkC1 a b c d t l m _ w a0 a1 b0 b1 l0 l1 m0 m1 h1 h2 h3 M R
      · exact walkC0 a b c d t l m _ w a0 a1 b0 b1 l0 l1 m0 m1 h1 h2 h3 (by rw [decide_eq_false_iff_not]; omega) M R
  · exact walkA a b c d t l m _ w a0 a1 b0 b1 l0 l1 m0 m1 h1 (by rw [decide_eq_false_iff_not]; omega) M R

theorem own : ownKnob Try.prog.godebug = none := by kernel_rfl

set_option maxRecDepth 100000 in
theorem lifted (os : Os) (started : os.Started) (H : Type) (enc : TypeId × Value → H) :
    ReturnsInHanded {} Try.checked os 3 .any (Rows.spanTellsSpec.pre6 enc Try.prog Try.f3 Rows.spanTellsRow.domain false) (Rows.spanTellsSpec.post enc Try.prog Try.f3 false true false false) := by
  refine returnsInHanded_of_change (C := Try.checked) own started (by kernel_rfl) Try.func3
    (ChangeSpec.witness6 (enc := enc) (C := Try.checked) false ⟨#[], #[.agg #[.int .i64 0, .int .i64 0], .agg #[.int .i64 0, .int .i64 0], .int .i64 0, .int .i64 0, .int .i64 0], []⟩ 8 (by kernel_rfl) (by kernel_rfl) (by kernel_rfl) (by kernel_rfl)) ?_
  intro W base args ds gs before hval0 hW hcnd _
  have hval : ∀ (j : Nat) t v, Try.f3.params[j]? = some t → args[j]? = some v → Value.okWide Try.prog W .any base t v := hval0
  have hW' := hW
  obtain ⟨p, q, hA0, hV, rfl, hfz, hnd⟩ := hW
  have hA : DataW.TrodAll enc Try.prog W 0 (fun _ => true) true Try.f3.params.toList args.toList ds p := hA0
  rw [Try.params3] at hA hval
  obtain ⟨v0, vs0, d0, ds0, p0, q0, hargs, rfl, rfl, h0, r0⟩ := trodAll_cons hA
  obtain ⟨v1, vs1, d1, ds1, p1, q1, rfl, rfl, rfl, h1, r1⟩ := trodAll_cons r0
  obtain ⟨v2, vs2, d2, ds2, p2, q2, rfl, rfl, rfl, h2, r2⟩ := trodAll_cons r1
  obtain ⟨v3, vs3, d3, ds3, p3, q3, rfl, rfl, rfl, h3, r3⟩ := trodAll_cons r2
  obtain ⟨v4, vs4, d4, ds4, p4, q4, rfl, rfl, rfl, h4, r4⟩ := trodAll_cons r3
  obtain ⟨rfl, rfl, rfl⟩ := trodAll_nil r4
  obtain rfl : args = #[v0, v1, v2, v3, v4] := by cases args; simp_all
  obtain ⟨rfl, rfl⟩ := trodVars_none hV
  obtain ⟨a0, b0, rfl, w0, x0⟩ := Opens.open_win (hval 0 23 v0 rfl rfl) h0
  obtain ⟨a1, b1, rfl, w1, x1⟩ := Opens.open_win (hval 1 23 v1 rfl rfl) h1
  obtain ⟨a2, rfl, rfl, rfl, w2⟩ := open_int Try.underlying2 (hval 2 2 v2 rfl rfl) h2
  obtain ⟨a3, rfl, rfl, rfl, w3⟩ := open_int Try.underlying2 (hval 3 2 v3 rfl rfl) h3
  obtain ⟨a4, rfl, rfl, rfl, w4⟩ := open_int Try.underlying2 (hval 4 2 v4 rfl rfl) h4
  clear hA0 hval0
  refine (walk a0 b0 w0 x0 a1 b1 w1 x1 a2 w2 a3 w3 a4 w4 W).mono fun e W' ⟨he, hg⟩ => ?_
  subst he
  exact ⟨_, rfl, Laid.post Laid.laidOut (by kernel_rfl) rfl (by kernel_rfl) Try.underlying4 hW' ⟨rfl, rfl, rfl⟩ hg⟩

theorem over : Rows.spanTellsRow.holds Try.pinned (OpenSpec.ofChange Rows.spanTellsSpec) :=
  OpenClaim.holds_of_wide 3 Try.f3 rfl rfl rfl rfl rfl rfl rfl ⟨rfl, rfl, rfl, rfl, rfl⟩ rfl rfl rfl rfl rfl (by kernel_rfl) Try.func3 (by kernel_rfl)
    (of_decide_eq_true (by kernel_rfl)) (by unfold Func.isWrapper; first | (rw [if_pos (by decide +kernel)]; kernel_rfl) | (rw [if_neg (by decide +kernel)]; exact ⟨rfl, rfl⟩))
    (fun os started H enc _ => lifted os started H enc)

/-- ████ THE STATEMENT ████ -/
theorem proved : Rows.SpanTellsSaid :=
  over
#print axioms proved
end Go.Proofs.Ytaacocjkaijceaa.spanTells
