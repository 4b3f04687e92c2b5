/-
  FnvTells holds: for any text and any int the law answers true (no conditions).
-/
import Derived.Test.YtnkhijhncnilhaaUp05
import Derived.Test.YtnkhijhncnilhaaLaid
import Derived.Test.YtnkhijhncnilhaaOpens
namespace Go.Proofs.Ytnkhijhncnilhaa.fnvTells
open Go.ChangeShapes Go.WideShapes Go.ChangeAt Go.RowKit Small BigFrame Fnv
set_option linter.unusedVariables false

set_option maxHeartbeats 2000000 in
theorem walk_off (s : ByteArray) (g : Int) (w : World) (hs : s.size ≤ 9223372036854775807) (h : 1000 < s.size) :
    Calls Try.prog 3 #[.string s, .int .i64 g] w fun r w' => r = .returned (.bool true) ∧ Below w.heap.size w w' := by
  go_enter Try.func3, Try.ntmps3
  go_wp2_with fail
  refine (up_ok _).mono ?_
  rintro e w1 ⟨rfl, k1⟩
  go_wp2
  go_ret
  exact ⟨rfl, k1⟩

set_option maxHeartbeats 2000000 in
theorem walk_on (s : ByteArray) (g : Int) (w : World) (hs : s.size ≤ 1000) (m : Bool) (n : Nat) (q : Int)
    (M : Hid (∀ w : World, Calls Try.prog 6 #[.string s] w fun r w' => r = .returned (.bool m) ∧ Below w.heap.size w w'))
    (N : Hid (∀ w : World, Calls Try.prog 7 #[.string s] w fun r w' => r = .returned (.int .u32 (n : Nat)) ∧ Below w.heap.size w w'))
    (N' : Hid (∀ w : World, Calls Try.prog 8 #[.string s] w fun r w' => r = .returned (.int .u32 (n : Nat)) ∧ Below w.heap.size w w'))
    (G : Hid (∀ w : World, Calls Try.prog 9 #[.string s, .int .i64 g] w fun r w' => r = .returned (.int .i64 q) ∧ Below w.heap.size w w'))
    (G' : Hid (∀ w : World, Calls Try.prog 10 #[.string s, .int .i64 g] w fun r w' => r = .returned (.int .i64 q) ∧ Below w.heap.size w w'))
    (hm : (1 ≤ s.size ∧ s.size ≤ 20 ∧ m = true) ∨ (s.size = 0 ∧ m = false) ∨ (20 < s.size ∧ m = false)) :
    Calls Try.prog 3 #[.string s, .int .i64 g] w fun r w' => r = .returned (.bool true) ∧ Below w.heap.size w w' := by
  obtain ⟨z, hz⟩ : ∃ z, Hid (s.size = z) := ⟨_, Lib.hid rfl⟩
  rcases hm with ⟨h1, h2, rfl⟩ | ⟨h1, rfl⟩ | ⟨h1, rfl⟩
  all_goals
    go_enter Try.func3, Try.ntmps3
    go_wp2_with fail
    refine (up_ok _).mono ?_
    rintro e w1 ⟨rfl, k1⟩
    go_wp2_with fail
    refine (M.out _).mono ?_
    rintro e w2 ⟨rfl, k2⟩
    go_wp2_with fail
    refine (N.out _).mono ?_
    rintro e w3 ⟨rfl, k3⟩
    go_wp2_with fail
    refine (N'.out _).mono ?_
    rintro e w4 ⟨rfl, k4⟩
    go_wp2_with fail
    refine (G.out _).mono ?_
    rintro e w5 ⟨rfl, k5⟩
    go_wp2_with fail
    refine (G'.out _).mono ?_
    rintro e w6 ⟨rfl, k6⟩
    go_wp2
    go_ret
    have K := after k1 (after k2 (after k3 (after k4 (after k5 k6))))
    first
      | exact ⟨rfl, K⟩
      | exact ⟨ret_bool (by simp; omega), K⟩

theorem walk (s : ByteArray) (hs : s.size ≤ 9223372036854775807) (g : Int) (wg : (Lit.int .i64 g).wf = true) (w : World) :
    Calls Try.prog 3 #[.string s, .int .i64 g] w fun r w' => r = .returned (.bool true) ∧ Below w.heap.size w w' := by
  obtain ⟨g0, g1⟩ := fit wg
  by_cases h : 1000 < s.size
  · exact walk_off s g w hs h
  · refine walk_on s g w (by omega) _ _ _ (Lib.hid fun w => may_ok s w hs) (Lib.hid fun w => sum_ok s w hs) (Lib.hid fun w => refsum_ok s w hs)
      (Lib.hid fun w => group_ok s g w hs g0 g1) (Lib.hid fun w => refgroup_ok s g w hs g0 g1) ?_
    simp only [decide_eq_true_eq, decide_eq_false_iff_not]
    omega

theorem own : ownKnob Try.prog.godebug = none := by kernel_rfl

set_option maxRecDepth 100000 in
theorem lifted (os : Os) (started : os.Started) (H : Type) (enc : TypeId × Value → H) :
    ReturnsInHanded {} Try.checked os 3 .any (Rows.fnvTellsSpec.pre6 enc Try.prog Try.f3 Rows.fnvTellsRow.domain false) (Rows.fnvTellsSpec.post enc Try.prog Try.f3 false true false false) := by
  refine returnsInHanded_of_change (C := Try.checked) own started (by kernel_rfl) Try.func3
    (ChangeSpec.witness6 (enc := enc) (C := Try.checked) false ⟨#[], #[.string ⟨#[]⟩, .int .i64 0], []⟩ 8 (by kernel_rfl) (by kernel_rfl) (by kernel_rfl) (by kernel_rfl)) ?_
  intro W base args ds gs before hval0 hW hcnd _
  have hval : ∀ (j : Nat) t v, Try.f3.params[j]? = some t → args[j]? = some v → Value.okWide Try.prog W .any base t v := hval0
  have hW' := hW
  obtain ⟨p, q, hA0, hV, rfl, hfz, hnd⟩ := hW
  have hA : DataW.TrodAll enc Try.prog W 0 (fun _ => true) true Try.f3.params.toList args.toList ds p := hA0
  rw [Try.params3] at hA hval
  obtain ⟨v0, vs0, d0, ds0, p0, q0, hargs, rfl, rfl, h0, r0⟩ := trodAll_cons hA
  obtain ⟨v1, vs1, d1, ds1, p1, q1, rfl, rfl, rfl, h1, r1⟩ := trodAll_cons r0
  obtain ⟨rfl, rfl, rfl⟩ := trodAll_nil r1
  obtain rfl : args = #[v0, v1] := by cases args; simp_all
  obtain ⟨rfl, rfl⟩ := trodVars_none hV
  obtain ⟨a0, rfl, w0⟩ := Opens.open_str (hval 0 9 v0 rfl rfl) h0
  obtain ⟨a1, rfl, rfl, rfl, w1⟩ := open_int Try.underlying3 (hval 1 3 v1 rfl rfl) h1
  clear hA0 hval0
  refine (walk a0 w0 a1 w1 W).mono fun e W' ⟨he, hg⟩ => ?_
  subst he
  exact ⟨_, rfl, Laid.post Laid.laidOut (by kernel_rfl) rfl (by kernel_rfl) Try.underlying4 hW' ⟨rfl, rfl, rfl⟩ hg⟩

theorem over : Rows.fnvTellsRow.holds Try.pinned (OpenSpec.ofChange Rows.fnvTellsSpec) :=
  OpenClaim.holds_of_wide 3 Try.f3 rfl rfl rfl rfl rfl rfl rfl ⟨rfl, rfl, rfl, rfl, rfl⟩ rfl rfl rfl rfl rfl (by kernel_rfl) Try.func3 (by kernel_rfl)
    (of_decide_eq_true (by kernel_rfl)) (by unfold Func.isWrapper; first | (rw [if_pos (by decide +kernel)]; kernel_rfl) | (rw [if_neg (by decide +kernel)]; exact ⟨rfl, rfl⟩))
    (fun os started H enc _ => lifted os started H enc)

/-- ████ THE STATEMENT ████ -/
theorem proved : Rows.FnvTellsSaid :=
  over
#print axioms proved
end Go.Proofs.Ytnkhijhncnilhaa.fnvTells
