/-
  NumBack holds: for any two int64 numbers the law answers true (no conditions).
-/
import Derived.Test.YtcnckiajljiijaaUp01
namespace Go.Proofs.Ytcnckiajljiijaa.numBack
open Go.ChangeShapes Go.WideShapes Go.ChangeAt Go.RowKit
set_option linter.unusedVariables false

theorem off_u64 (a b : Int) (ha0 : -9223372036854775808 ≤ a) (ha1 : a ≤ 9223372036854775807) (h2 : 1 ≤ b) (hb1 : b ≤ 9223372036854775807) :
    IntKind.u64.wrap (IntKind.u64.wrap a - IntKind.u64.wrap (a - a % b)) < b := by
  have g0 := Int.emod_nonneg a (b := b) (by omega)
  have g1 := Int.emod_lt_of_pos a (b := b) (by omega)
  generalize a % b = r at *
  simp only [IntKind.wrap, IntKind.bits, IntKind.signed]
  simp
  omega

theorem mul_back (a b : Int) (ha0 : -9223372036854775808 ≤ a) (ha1 : a ≤ 9223372036854775807) (h2 : 1 ≤ b) (h3 : -9223372036854775808 ≤ a - a % b) :
    (wrap64 (a / b * b) == a - a % b) = true := by
  have e : a / b * b = a - a % b := by have := Int.emod_add_mul_ediv a b; rw [Int.mul_comm]; omega
  have g0 := Int.emod_nonneg a (b := b) (by omega)
  rw [e, IntWalk.wrap64_in _ (by omega)]; simp

set_option maxHeartbeats 400000 in
theorem walk_arg1 (a b : Int) (w : World) (ha0 : -9223372036854775808 ≤ a) (ha1 : a ≤ 9223372036854775807) (hb0 : -9223372036854775808 ≤ b) (hb1 : b ≤ 9223372036854775807)
    (h0 : -9223372036854775808 ≤ a + b) (h1 : a + b ≤ 9223372036854775807) (h2 : b < 1) :
    Calls Try.prog 4 #[.int .i64 a, .int .i64 b] w fun e w' => e = .returned (.bool true) ∧ w = w' := by
  have hq1 : (a + b - a != b) = false := by simp; omega
  go_enter Try.func4, Try.ntmps4
  go_wp2_with fail
  refine (Num.up_ok _).mono ?_
  rintro e w' ⟨rfl, rfl⟩
  go_wp2_with fail
  refine (Num.add_ok a b _ ha0 ha1 hb0 hb1 h0 h1).mono ?_
  rintro e w' ⟨rfl, rfl⟩
  go_wp2_with fail
  refine (Num.sub_ok (a + b) b _ h0 h1 hb0 hb1 (by omega) (by omega)).mono ?_
  rintro e w' ⟨rfl, rfl⟩
  go_wp2_with fail
  refine (Num.sub_ok (a + b) a _ h0 h1 ha0 ha1 (by omega) (by omega)).mono ?_
  rintro e w' ⟨rfl, rfl⟩
  go_wp2
  go_ret
  exact ⟨rfl, rfl⟩

set_option maxHeartbeats 400000 in
theorem walk_ok1 (a b : Int) (w : World) (ha0 : -9223372036854775808 ≤ a) (ha1 : a ≤ 9223372036854775807) (hb0 : -9223372036854775808 ≤ b) (hb1 : b ≤ 9223372036854775807)
    (h0 : -9223372036854775808 ≤ a + b) (h1 : a + b ≤ 9223372036854775807) (h2 : 1 ≤ b) (h3 : -9223372036854775808 ≤ a - a % b) :
    Calls Try.prog 4 #[.int .i64 a, .int .i64 b] w fun e w' => e = .returned (.bool true) ∧ w = w' := by
  have hq1 : (a + b - a != b) = false := by simp; omega
  have hd : a - a % b ≤ a := by have := Int.emod_nonneg a (b := b) (by omega); omega
  have hu := off_u64 a b ha0 ha1 h2 hb1
  have hz := mul_back a b ha0 ha1 h2 h3
  go_enter Try.func4, Try.ntmps4
  go_wp2_with fail
  refine (Num.up_ok _).mono ?_
  rintro e w' ⟨rfl, rfl⟩
  go_wp2_with fail
  refine (Num.add_ok a b _ ha0 ha1 hb0 hb1 h0 h1).mono ?_
  rintro e w' ⟨rfl, rfl⟩
  go_wp2_with fail
  refine (Num.sub_ok (a + b) b _ h0 h1 hb0 hb1 (by omega) (by omega)).mono ?_
  rintro e w' ⟨rfl, rfl⟩
  go_wp2_with fail
  refine (Num.sub_ok (a + b) a _ h0 h1 ha0 ha1 (by omega) (by omega)).mono ?_
  rintro e w' ⟨rfl, rfl⟩
  go_wp2_with fail
  refine (Num.down_ok a b _ ha0 ha1 h2 hb1 h3).mono ?_
  rintro e w' ⟨rfl, rfl⟩
  go_wp2_with fail
  refine (Num.floor_ok a b _ ha0 ha1 h2 hb1).mono ?_
  rintro e w' ⟨rfl, rfl⟩
  go_wp2
  go_ret
  exact ⟨rfl, rfl⟩

set_option maxHeartbeats 400000 in
theorem walk_bad1 (a b : Int) (w : World) (ha0 : -9223372036854775808 ≤ a) (ha1 : a ≤ 9223372036854775807) (hb0 : -9223372036854775808 ≤ b) (hb1 : b ≤ 9223372036854775807)
    (h0 : -9223372036854775808 ≤ a + b) (h1 : a + b ≤ 9223372036854775807) (h2 : 1 ≤ b) (h3 : a - a % b < -9223372036854775808) :
    Calls Try.prog 4 #[.int .i64 a, .int .i64 b] w fun e w' => e = .returned (.bool true) ∧ w = w' := by
  have hq1 : (a + b - a != b) = false := by simp; omega
  have q3 := Errs.eql_code w 3 3
  have hl : a < 0 := by
    rcases Int.lt_or_le a 0 with hl | hl
    · exact hl
    · have := Int.emod_lt_of_pos a (b := b) (by omega); omega
  go_enter Try.func4, Try.ntmps4
  go_wp2_with fail
  refine (Num.up_ok _).mono ?_
  rintro e w' ⟨rfl, rfl⟩
  go_wp2_with fail
  refine (Num.add_ok a b _ ha0 ha1 hb0 hb1 h0 h1).mono ?_
  rintro e w' ⟨rfl, rfl⟩
  go_wp2_with fail
  refine (Num.sub_ok (a + b) b _ h0 h1 hb0 hb1 (by omega) (by omega)).mono ?_
  rintro e w' ⟨rfl, rfl⟩
  go_wp2_with fail
  refine (Num.sub_ok (a + b) a _ h0 h1 ha0 ha1 (by omega) (by omega)).mono ?_
  rintro e w' ⟨rfl, rfl⟩
  go_wp2_with fail
  refine (Num.down_bad a b _ ha0 ha1 h2 hb1 h3).mono ?_
  rintro e w' ⟨rfl, rfl⟩
  go_wp2_with fail
  refine (Num.floor_ok a b _ ha0 ha1 h2 hb1).mono ?_
  rintro e w' ⟨rfl, rfl⟩
  go_wp2
  go_ret
  exact ⟨rfl, rfl⟩

set_option maxHeartbeats 400000 in
theorem walk_arg0 (a b : Int) (w : World) (ha0 : -9223372036854775808 ≤ a) (ha1 : a ≤ 9223372036854775807) (hb0 : -9223372036854775808 ≤ b) (hb1 : b ≤ 9223372036854775807)
    (hs : a + b < -9223372036854775808 ∨ 9223372036854775807 < a + b) (h2 : b < 1) :
    Calls Try.prog 4 #[.int .i64 a, .int .i64 b] w fun e w' => e = .returned (.bool true) ∧ w = w' := by
  go_enter Try.func4, Try.ntmps4
  go_wp2_with fail
  refine (Num.up_ok _).mono ?_
  rintro e w' ⟨rfl, rfl⟩
  go_wp2_with fail
  refine (Num.add_bad a b _ ha0 ha1 hb0 hb1 hs).mono ?_
  rintro e w' ⟨rfl, rfl⟩
  go_wp2
  go_ret
  exact ⟨rfl, rfl⟩

set_option maxHeartbeats 400000 in
theorem walk_ok0 (a b : Int) (w : World) (ha0 : -9223372036854775808 ≤ a) (ha1 : a ≤ 9223372036854775807) (hb0 : -9223372036854775808 ≤ b) (hb1 : b ≤ 9223372036854775807)
    (hs : a + b < -9223372036854775808 ∨ 9223372036854775807 < a + b) (h2 : 1 ≤ b) (h3 : -9223372036854775808 ≤ a - a % b) :
    Calls Try.prog 4 #[.int .i64 a, .int .i64 b] w fun e w' => e = .returned (.bool true) ∧ w = w' := by
  have hd : a - a % b ≤ a := by have := Int.emod_nonneg a (b := b) (by omega); omega
  have hu := off_u64 a b ha0 ha1 h2 hb1
  have hu2 : IntKind.u64.wrap (a - IntKind.u64.wrap (a - a % b)) < b := by
    have hu3 := hu
    rw [IntWalk.u64_in a (by omega)] at hu3
    exact hu3
  have hz := mul_back a b ha0 ha1 h2 h3
  go_enter Try.func4, Try.ntmps4
  go_wp2_with fail
  refine (Num.up_ok _).mono ?_
  rintro e w' ⟨rfl, rfl⟩
  go_wp2_with fail
  refine (Num.add_bad a b _ ha0 ha1 hb0 hb1 hs).mono ?_
  rintro e w' ⟨rfl, rfl⟩
  go_wp2_with fail
  refine (Num.down_ok a b _ ha0 ha1 h2 hb1 h3).mono ?_
  rintro e w' ⟨rfl, rfl⟩
  go_wp2_with fail
  refine (Num.floor_ok a b _ ha0 ha1 h2 hb1).mono ?_
  rintro e w' ⟨rfl, rfl⟩
  go_wp2
  go_ret
  exact ⟨rfl, rfl⟩

set_option maxHeartbeats 400000 in
theorem walk_bad0 (a b : Int) (w : World) (ha0 : -9223372036854775808 ≤ a) (ha1 : a ≤ 9223372036854775807) (hb0 : -9223372036854775808 ≤ b) (hb1 : b ≤ 9223372036854775807)
    (hs : a + b < -9223372036854775808 ∨ 9223372036854775807 < a + b) (h2 : 1 ≤ b) (h3 : a - a % b < -9223372036854775808) :
    Calls Try.prog 4 #[.int .i64 a, .int .i64 b] w fun e w' => e = .returned (.bool true) ∧ w = w' := by
  have hl : a < 0 := by
    rcases Int.lt_or_le a 0 with hl | hl
    · exact hl
    · have := Int.emod_lt_of_pos a (b := b) (by omega); omega
  omega

theorem own : ownKnob Try.prog.godebug = none := by kernel_rfl

theorem walk (a0 : Int) (a1 : Int) (w0 : (Lit.int .i64 a0).wf = true) (w1 : (Lit.int .i64 a1).wf = true) (w : World) :
    Calls Try.prog 4 #[.int .i64 a0, .int .i64 a1] w fun e w' => e = .returned (.bool true) ∧ Grown w w' := by
  obtain ⟨p0, p1⟩ := Num.fit w0
  obtain ⟨p2, p3⟩ := Num.fit w1
  have key : Calls Try.prog 4 #[.int .i64 a0, .int .i64 a1] w fun e w' => e = .returned (.bool true) ∧ w = w' := by
    by_cases hs : -9223372036854775808 ≤ a0 + a1 ∧ a0 + a1 ≤ 9223372036854775807
    · by_cases h2 : 1 ≤ a1
      · by_cases h3 : -9223372036854775808 ≤ a0 - a0 % a1
        · exact walk_ok1 a0 a1 w p0 p1 p2 p3 hs.1 hs.2 h2 h3
        · exact walk_bad1 a0 a1 w p0 p1 p2 p3 hs.1 hs.2 h2 (by omega)
      · exact walk_arg1 a0 a1 w p0 p1 p2 p3 hs.1 hs.2 (by omega)
    · by_cases h2 : 1 ≤ a1
      · by_cases h3 : -9223372036854775808 ≤ a0 - a0 % a1
        · exact walk_ok0 a0 a1 w p0 p1 p2 p3 (by omega) h2 h3
        · exact walk_bad0 a0 a1 w p0 p1 p2 p3 (by omega) h2 (by omega)
      · exact walk_arg0 a0 a1 w p0 p1 p2 p3 (by omega) (by omega)
  refine key.mono ?_
  rintro e w' ⟨rfl, rfl⟩
  exact ⟨rfl, Grown.refl _⟩

set_option maxRecDepth 100000 in
theorem lifted (os : Os) (started : os.Started) (H : Type) (enc : TypeId × Value → H) :
    ReturnsInHanded {} Try.checked os 4 .any (Rows.numBackSpec.pre6 enc Try.prog Try.f4 Rows.numBackRow.domain false) (Rows.numBackSpec.post enc Try.prog Try.f4 false true false false) := by
  refine returnsInHanded_of_change (C := Try.checked) own started (by kernel_rfl) Try.func4
    (ChangeSpec.witness6 (enc := enc) (C := Try.checked) false ⟨#[], #[.int .i64 0, .int .i64 0], []⟩ 8 (by kernel_rfl) (by kernel_rfl) (by kernel_rfl) (by kernel_rfl)) ?_
  intro W base args ds gs before hval0 hW hcnd _
  have hval : ∀ (j : Nat) t v, Try.f4.params[j]? = some t → args[j]? = some v → Value.okWide Try.prog W .any base t v := hval0
  have hW' := hW
  obtain ⟨p, q, hA0, hV, rfl, hfz, hnd⟩ := hW
  have hA : DataW.TrodAll enc Try.prog W 0 (fun _ => true) true Try.f4.params.toList args.toList ds p := hA0
  rw [Try.params4] at hA hval
  obtain ⟨v0, vs0, d0, ds0, p0, q0, hargs, rfl, rfl, h0, r0⟩ := trodAll_cons hA
  obtain ⟨v1, vs1, d1, ds1, p1, q1, rfl, rfl, rfl, h1, r1⟩ := trodAll_cons r0
  obtain ⟨rfl, rfl, rfl⟩ := trodAll_nil r1
  obtain rfl : args = #[v0, v1] := by cases args; simp_all
  obtain ⟨rfl, rfl⟩ := trodVars_none hV
  obtain ⟨a0, rfl, rfl, rfl, w0⟩ := open_int Try.underlying2 (hval 0 2 v0 rfl rfl) h0
  obtain ⟨a1, rfl, rfl, rfl, w1⟩ := open_int Try.underlying2 (hval 1 2 v1 rfl rfl) h1
  clear hA0 hval0
  simp only [List.append_nil] at hW'
  refine (walk a0 a1 w0 w1 W).mono fun e W' ⟨he, hg⟩ => ?_
  subst he
  exact ⟨_, rfl, post_of_same (pa := []) (pv := []) hW' (fun _ _ _ => (trodAll_cons_mk (shut_bool Try.underlying4 _) trodAll_mk0)) (fun sp _ => (trodAll_cons_mk (shut_int Try.underlying2 w0) (trodAll_cons_mk (shut_int Try.underlying2 w1) trodAll_mk0))) (fun _ _ => rfl) rfl
    (hg.frame _) hg.2.1 (ok_one (by kernel_rfl) rfl (okWide_bool_mk Try.underlying4 _))⟩

theorem over : Rows.numBackRow.holds Try.pinned (OpenSpec.ofChange Rows.numBackSpec) :=
  OpenClaim.holds_of_wide 4 Try.f4 rfl rfl rfl rfl rfl rfl rfl ⟨rfl, rfl, rfl, rfl, rfl⟩ rfl rfl rfl rfl rfl (by kernel_rfl) Try.func4 (by kernel_rfl)
    (of_decide_eq_true (by kernel_rfl)) (by unfold Func.isWrapper; first | (rw [if_pos (by decide +kernel)]; kernel_rfl) | (rw [if_neg (by decide +kernel)]; exact ⟨rfl, rfl⟩))
    (fun os started H enc _ => lifted os started H enc)

/-- ████ THE STATEMENT ████ -/
theorem proved : Rows.NumBackSaid :=
  over
#print axioms proved
end Go.Proofs.Ytcnckiajljiijaa.numBack
