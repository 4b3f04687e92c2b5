/-
  NumTells holds: for any two int64 numbers the law answers true (no conditions).
-/
import Derived.Test.YtcnckiajljiijaaUp01
import Derived.Test.YtcnckiajljiijaaRef01
import Derived.Test.YtcnckiajljiijaaLaid
namespace Go.Proofs.Ytcnckiajljiijaa.numTells
open Go.ChangeShapes Go.WideShapes Go.ChangeAt Go.RowKit Ref01
set_option linter.unusedVariables false

/-- what the code told (x and the error e) is what the document tells (p, if ok; else the error of number bad) -/
def Ans (x : Int) (e : Value) (p : Int) (ok : Bool) (bad : Nat) : Prop := (ok = true ∧ x = p ∧ e = .nilIface) ∨ (ok = false ∧ x = 0 ∧ e = .iface 32 (.int .i64 bad))

set_option maxHeartbeats 400000 in
theorem is_any (x : Int) (e : Value) (p : Int) (ok : Bool) (bad : Nat) (w : World) (h : Hid (Ans x e p ok bad)) (h0 : bad ≤ 10) (h1 : 1 ≤ bad ∨ ok = true) :
    Calls Try.prog 12 #[.int .i64 x, e, .int .i64 p, .bool ok, .int .i64 bad] w fun e w' => e = .returned (.bool true) ∧ w = w' := by
  rcases h.out with ⟨rfl, rfl, rfl⟩ | ⟨rfl, rfl, rfl⟩
  · clear h h1
    go_enter Try.func12, Try.ntmps12
    go_wp2
    go_ret
    exact ⟨rfl, rfl⟩
  · clear h
    have h2 : 1 ≤ bad := by rcases h1 with h | h; exact h; simp at h
    clear h1
    go_enter Try.func12, Try.ntmps12
    go_wp2_with (go_at_call 19; refine (Errs.code_of bad _ h2 h0).mono ?_; rintro e w' ⟨rfl, rfl⟩)
    go_ret
    exact ⟨rfl, rfl⟩

theorem add_pair (a b : Int) (ha0 : -9223372036854775808 ≤ a) (ha1 : a ≤ 9223372036854775807) (hb0 : -9223372036854775808 ≤ b) (hb1 : b ≤ 9223372036854775807) :
    ∃ (x : Int) (e : Value) (p : Int) (ok : Bool), Hid (Ans x e p ok 3) ∧
      Hid (∀ w : World, Calls Try.prog 6 #[.int .i64 a, .int .i64 b] w fun r w' => r = .returned (.tuple #[.int .i64 x, e]) ∧ w = w') ∧
      Hid (∀ w : World, Calls Try.prog 10 #[.int .i64 a, .int .i64 b] w fun r w' => r = .returned (.tuple #[.int .i64 p, .bool ok]) ∧ Below w.heap.size w w') := by
  by_cases h : -9223372036854775808 ≤ a + b ∧ a + b ≤ 9223372036854775807
  · exact ⟨a + b, .nilIface, a + b, true, Lib.hid (.inl ⟨rfl, rfl, rfl⟩), Lib.hid (fun w => Num.add_ok a b w ha0 ha1 hb0 hb1 h.1 h.2), Lib.hid (fun w => add_yes a b w ha0 ha1 hb0 hb1 h.1 h.2)⟩
  · exact ⟨0, .iface 32 (.int .i64 3), 0, false, Lib.hid (.inr ⟨rfl, rfl, rfl⟩), Lib.hid (fun w => Num.add_bad a b w ha0 ha1 hb0 hb1 (by omega)), Lib.hid (fun w => add_no a b w ha0 ha1 hb0 hb1 (by omega))⟩

theorem sub_pair (a b : Int) (ha0 : -9223372036854775808 ≤ a) (ha1 : a ≤ 9223372036854775807) (hb0 : -9223372036854775808 ≤ b) (hb1 : b ≤ 9223372036854775807) :
    ∃ (x : Int) (e : Value) (p : Int) (ok : Bool), Hid (Ans x e p ok 3) ∧
      Hid (∀ w : World, Calls Try.prog 7 #[.int .i64 a, .int .i64 b] w fun r w' => r = .returned (.tuple #[.int .i64 x, e]) ∧ w = w') ∧
      Hid (∀ w : World, Calls Try.prog 11 #[.int .i64 a, .int .i64 b] w fun r w' => r = .returned (.tuple #[.int .i64 p, .bool ok]) ∧ Below w.heap.size w w') := by
  by_cases h : -9223372036854775808 ≤ a - b ∧ a - b ≤ 9223372036854775807
  · exact ⟨a - b, .nilIface, a - b, true, Lib.hid (.inl ⟨rfl, rfl, rfl⟩), Lib.hid (fun w => Num.sub_ok a b w ha0 ha1 hb0 hb1 h.1 h.2), Lib.hid (fun w => sub_yes a b w ha0 ha1 hb0 hb1 h.1 h.2)⟩
  · exact ⟨0, .iface 32 (.int .i64 3), 0, false, Lib.hid (.inr ⟨rfl, rfl, rfl⟩), Lib.hid (fun w => Num.sub_bad a b w ha0 ha1 hb0 hb1 (by omega)), Lib.hid (fun w => sub_no a b w ha0 ha1 hb0 hb1 (by omega))⟩

theorem down_pair (a b : Int) (ha0 : -9223372036854775808 ≤ a) (ha1 : a ≤ 9223372036854775807) (hb0 : 1 ≤ b) (hb1 : b ≤ 9223372036854775807) :
    ∃ (x : Int) (e : Value) (p : Int) (ok : Bool), Hid (Ans x e p ok 3) ∧
      Hid (∀ w : World, Calls Try.prog 9 #[.int .i64 a, .int .i64 b] w fun r w' => r = .returned (.tuple #[.int .i64 x, e]) ∧ w = w') ∧
      Hid (∀ w : World, Calls Try.prog 13 #[.int .i64 a, .int .i64 b] w fun r w' => r = .returned (.tuple #[.int .i64 p, .bool ok]) ∧ Below w.heap.size w w') := by
  by_cases h : -9223372036854775808 ≤ a - a % b
  · exact ⟨a - a % b, .nilIface, a - a % b, true, Lib.hid (.inl ⟨rfl, rfl, rfl⟩), Lib.hid (fun w => Num.down_ok a b w ha0 ha1 hb0 hb1 h), Lib.hid (fun w => down_yes a b w ha0 ha1 hb0 hb1 h)⟩
  · exact ⟨0, .iface 32 (.int .i64 3), 0, false, Lib.hid (.inr ⟨rfl, rfl, rfl⟩), Lib.hid (fun w => Num.down_bad a b w ha0 ha1 hb0 hb1 (by omega)), Lib.hid (fun w => down_no a b w ha0 ha1 hb0 hb1 (by omega))⟩

set_option maxHeartbeats 1000000 in
theorem walk_arg (a b : Int) (w : World) (ha0 : -9223372036854775808 ≤ a) (ha1 : a ≤ 9223372036854775807) (hb0 : -9223372036854775808 ≤ b) (hb1 : b ≤ 9223372036854775807) (h2 : b < 1) :
    Calls Try.prog 3 #[.int .i64 a, .int .i64 b] w fun e w' => e = .returned (.bool true) ∧ Below w.heap.size w w' := by
  obtain ⟨x, e, p, ok, s1, s2, s3⟩ := add_pair a b ha0 ha1 hb0 hb1
  obtain ⟨y, f, q, fine, u1, u2, u3⟩ := sub_pair a b ha0 ha1 hb0 hb1
  have v1 : Hid (Ans 0 (.iface 32 (.int .i64 (1 : Nat))) 0 false 1) := Lib.hid (.inr ⟨rfl, rfl, rfl⟩)
  go_enter Try.func3, Try.ntmps3
  go_wp2_with fail
  refine (Num.up_ok _).mono ?_
  rintro r w' ⟨rfl, rfl⟩
  go_wp2_with fail
  refine (s2.out _).mono ?_
  rintro r w' ⟨rfl, rfl⟩
  go_wp2_with fail
  refine (u2.out _).mono ?_
  rintro r w' ⟨rfl, rfl⟩
  go_wp2_with fail
  refine (Num.floor_arg a b _ h2).mono ?_
  rintro r w' ⟨rfl, rfl⟩
  go_wp2_with fail
  refine (Num.down_arg a b _ h2).mono ?_
  rintro r w' ⟨rfl, rfl⟩
  go_wp2_with fail
  refine (s3.out _).mono ?_
  rintro r w1 ⟨rfl, k1⟩
  go_wp2_with fail
  refine (u3.out _).mono ?_
  rintro r w2 ⟨rfl, k2⟩
  go_wp2_with fail
  refine (is_any x e p ok 3 _ s1 (by omega) (by omega)).mono ?_
  rintro r w' ⟨rfl, rfl⟩
  go_wp2_with fail
  refine (is_any y f q fine 3 _ u1 (by omega) (by omega)).mono ?_
  rintro r w' ⟨rfl, rfl⟩
  go_wp2_with fail
  refine (is_any 0 _ 0 false 1 _ v1 (by omega) (by omega)).mono ?_
  rintro r w' ⟨rfl, rfl⟩
  go_wp2_with fail
  refine (is_any 0 _ 0 false 1 _ v1 (by omega) (by omega)).mono ?_
  rintro r w' ⟨rfl, rfl⟩
  go_wp2
  go_ret
  exact ⟨rfl, below_after k1 k2⟩

set_option maxHeartbeats 1000000 in
theorem walk_div (a b : Int) (w : World) (ha0 : -9223372036854775808 ≤ a) (ha1 : a ≤ 9223372036854775807) (hb0 : -9223372036854775808 ≤ b) (hb1 : b ≤ 9223372036854775807) (h2 : 1 ≤ b) :
    Calls Try.prog 3 #[.int .i64 a, .int .i64 b] w fun e w' => e = .returned (.bool true) ∧ Below w.heap.size w w' := by
  obtain ⟨x, e, p, ok, s1, s2, s3⟩ := add_pair a b ha0 ha1 hb0 hb1
  obtain ⟨y, f, q, fine, u1, u2, u3⟩ := sub_pair a b ha0 ha1 hb0 hb1
  obtain ⟨z, g, d, there, v1, v2, v3⟩ := down_pair a b ha0 ha1 h2 hb1
  go_enter Try.func3, Try.ntmps3
  go_wp2_with fail
  refine (Num.up_ok _).mono ?_
  rintro r w' ⟨rfl, rfl⟩
  go_wp2_with fail
  refine (s2.out _).mono ?_
  rintro r w' ⟨rfl, rfl⟩
  go_wp2_with fail
  refine (u2.out _).mono ?_
  rintro r w' ⟨rfl, rfl⟩
  go_wp2_with fail
  refine (Num.floor_ok a b _ ha0 ha1 h2 hb1).mono ?_
  rintro r w' ⟨rfl, rfl⟩
  go_wp2_with fail
  refine (v2.out _).mono ?_
  rintro r w' ⟨rfl, rfl⟩
  go_wp2_with fail
  refine (s3.out _).mono ?_
  rintro r w1 ⟨rfl, k1⟩
  go_wp2_with fail
  refine (u3.out _).mono ?_
  rintro r w2 ⟨rfl, k2⟩
  go_wp2_with fail
  refine (is_any x e p ok 3 _ s1 (by omega) (by omega)).mono ?_
  rintro r w' ⟨rfl, rfl⟩
  go_wp2_with fail
  refine (is_any y f q fine 3 _ u1 (by omega) (by omega)).mono ?_
  rintro r w' ⟨rfl, rfl⟩
  go_wp2_with fail
  refine (v3.out _).mono ?_
  rintro r w3 ⟨rfl, k3⟩
  go_wp2_with fail
  refine (floor_ok a b _ ha0 ha1 h2 hb1).mono ?_
  rintro r w' ⟨rfl, rfl⟩
  go_wp2_with fail
  refine (is_any (a / b) .nilIface (a / b) true 0 _ (Lib.hid (.inl ⟨rfl, rfl, rfl⟩)) (by omega) (.inr rfl)).mono ?_
  rintro r w' ⟨rfl, rfl⟩
  go_wp2_with fail
  refine (is_any z g d there 3 _ v1 (by omega) (by omega)).mono ?_
  rintro r w' ⟨rfl, rfl⟩
  go_wp2
  go_ret
  exact ⟨rfl, below_after (below_after k1 k2) k3⟩

theorem own : ownKnob Try.prog.godebug = none := by kernel_rfl

theorem walk (a0 : Int) (a1 : Int) (w0 : (Lit.int .i64 a0).wf = true) (w1 : (Lit.int .i64 a1).wf = true) (w : World) :
    Calls Try.prog 3 #[.int .i64 a0, .int .i64 a1] w fun e w' => e = .returned (.bool true) ∧ Below w.heap.size w w' := by
  obtain ⟨p0, p1⟩ := Num.fit w0
  obtain ⟨p2, p3⟩ := Num.fit w1
  by_cases h : a1 < 1
  · exact walk_arg a0 a1 w p0 p1 p2 p3 h
  · exact walk_div a0 a1 w p0 p1 p2 p3 (by omega)

set_option maxRecDepth 100000 in
theorem lifted (os : Os) (started : os.Started) (H : Type) (enc : TypeId × Value → H) :
    ReturnsInHanded {} Try.checked os 3 .any (Rows.numTellsSpec.pre6 enc Try.prog Try.f3 Rows.numTellsRow.domain false) (Rows.numTellsSpec.post enc Try.prog Try.f3 false true false false) := by
  refine returnsInHanded_of_change (C := Try.checked) own started (by kernel_rfl) Try.func3
    (ChangeSpec.witness6 (enc := enc) (C := Try.checked) false ⟨#[], #[.int .i64 0, .int .i64 0], []⟩ 8 (by kernel_rfl) (by kernel_rfl) (by kernel_rfl) (by kernel_rfl)) ?_
  intro W base args ds gs before hval0 hW hcnd _
  have hval : ∀ (j : Nat) t v, Try.f3.params[j]? = some t → args[j]? = some v → Value.okWide Try.prog W .any base t v := hval0
  have hW' := hW
  obtain ⟨p, q, hA0, hV, rfl, hfz, hnd⟩ := hW
  have hA : DataW.TrodAll enc Try.prog W 0 (fun _ => true) true Try.f3.params.toList args.toList ds p := hA0
  rw [Try.params3] at hA hval
  obtain ⟨v0, vs0, d0, ds0, p0, q0, hargs, rfl, rfl, h0, r0⟩ := trodAll_cons hA
  obtain ⟨v1, vs1, d1, ds1, p1, q1, rfl, rfl, rfl, h1, r1⟩ := trodAll_cons r0
  obtain ⟨rfl, rfl, rfl⟩ := trodAll_nil r1
  obtain rfl : args = #[v0, v1] := by cases args; simp_all
  obtain ⟨rfl, rfl⟩ := trodVars_none hV
  obtain ⟨a0, rfl, rfl, rfl, w0⟩ := open_int Try.underlying2 (hval 0 2 v0 rfl rfl) h0
  obtain ⟨a1, rfl, rfl, rfl, w1⟩ := open_int Try.underlying2 (hval 1 2 v1 rfl rfl) h1
  clear hA0 hval0
  simp only [List.append_nil] at hW'
  refine (walk a0 a1 w0 w1 W).mono fun e W' ⟨he, hg⟩ => ?_
  subst he
  exact ⟨_, rfl, Laid.post Laid.laidOut (by kernel_rfl) rfl (by kernel_rfl) Try.underlying4 hW' ⟨rfl, rfl, rfl⟩ hg⟩

theorem over : Rows.numTellsRow.holds Try.pinned (OpenSpec.ofChange Rows.numTellsSpec) :=
  OpenClaim.holds_of_wide 3 Try.f3 rfl rfl rfl rfl rfl rfl rfl ⟨rfl, rfl, rfl, rfl, rfl⟩ rfl rfl rfl rfl rfl (by kernel_rfl) Try.func3 (by kernel_rfl)
    (of_decide_eq_true (by kernel_rfl)) (by unfold Func.isWrapper; first | (rw [if_pos (by decide +kernel)]; kernel_rfl) | (rw [if_neg (by decide +kernel)]; exact ⟨rfl, rfl⟩))
    (fun os started H enc _ => lifted os started H enc)

/-- ████ THE STATEMENT ████ -/
theorem proved : Rows.NumTellsSaid :=
  over
#print axioms proved
end Go.Proofs.Ytcnckiajljiijaa.numTells
