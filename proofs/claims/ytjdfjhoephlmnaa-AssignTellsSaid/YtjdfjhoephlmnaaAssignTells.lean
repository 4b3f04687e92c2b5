/-
  AssignTells: for every config and every time the statement answers true, and its arguments read as they read before. No condition.
-/
import Derived.Test.YtjdfjhoephlmnaaRefAsg
import Derived.Test.YtjdfjhoephlmnaaAsgSame
import Derived.Test.YtjdfjhoephlmnaaUp03
import Derived.Test.YtjdfjhoephlmnaaOpens
import Derived.Test.YtjdfjhoephlmnaaLaid
namespace Go.Proofs.Ytjdfjhoephlmnaa.assignTells
open Go.ChangeShapes Go.WideShapes Go.ChangeAt Go.RowKit
open Base Asg
set_option linter.unusedVariables false

set_option maxHeartbeats 1600000 in
theorem walk_config (k s l g z h r c t : Int) (w : World)
    (OF : Hid (∀ w, Calls Try.prog 6 #[cfg k s l g z h r c, .int .i64 t] w (Gives (failsR (.iface 31 (.int .i64 2))) w)))
    (M1 : Hid (∀ w, Calls Try.prog 8 #[cfg k s l g z h r c] w fun e w' => e = .returned (.bool false) ∧ Below w.heap.size w w'))
    (M2 : Hid (∀ w, Calls Try.prog 7 #[cfg k s l g z h r c] w fun e w' => e = .returned (.bool false) ∧ Below w.heap.size w w')) :
    Calls Try.prog 3 #[cfg k s l g z h r c, .int .i64 t] w fun e w' => e = .returned (.bool true) ∧ Below w.heap.size w w' := by
  have C0 := Lib.hid (Cfg.new w k s l g z h r c)
  go_enter Try.func3, Try.ntmps3
  go_wp2_with fail
  refine (up_ok _).mono ?_
  rintro e w1 ⟨rfl, k1⟩
  have C1 := Lib.hid (C0.out.next k1)
  obtain ⟨c0, c1, c2, c3, c4, c5, c6, c7⟩ := C1.out
  go_wp2_with fail
  refine (OF.out _).mono ?_
  rintro e w2 ⟨_, _, rfl, ⟨rfl, rfl⟩, k2⟩
  have C2 := Lib.hid (C1.out.next k2)
  clear c0 c1 c2 c3 c4 c5 c6 c7
  obtain ⟨c0, c1, c2, c3, c4, c5, c6, c7⟩ := C2.out
  go_wp2_with fail
  refine (M2.out _).mono ?_
  rintro e w3 ⟨rfl, k3⟩
  have C3 := Lib.hid (C2.out.next k3)
  clear c0 c1 c2 c3 c4 c5 c6 c7
  obtain ⟨c0, c1, c2, c3, c4, c5, c6, c7⟩ := C3.out
  go_wp2_with fail
  refine (M1.out _).mono ?_
  rintro e w4 ⟨rfl, k4⟩
  have q := Errs.eql_code w4 2 2
  go_wp2
  go_ret
  exact ⟨rfl, after (after (after (after (below1 _ _) k1) k2) k3) k4⟩

set_option maxHeartbeats 1600000 in
theorem walk_range (k s l g z h r c t : Int) (w : World)
    (OF : Hid (∀ w, Calls Try.prog 6 #[cfg k s l g z h r c, .int .i64 t] w (Gives (failsR (.iface 31 (.int .i64 3))) w)))
    (RF : Hid (∀ w, Calls Try.prog 9 #[cfg k s l g z h r c, .int .i64 t] w (Gives (failsR (.bool false)) w)))
    (M1 : Hid (∀ w, Calls Try.prog 8 #[cfg k s l g z h r c] w fun e w' => e = .returned (.bool true) ∧ Below w.heap.size w w'))
    (M2 : Hid (∀ w, Calls Try.prog 7 #[cfg k s l g z h r c] w fun e w' => e = .returned (.bool true) ∧ Below w.heap.size w w')) :
    Calls Try.prog 3 #[cfg k s l g z h r c, .int .i64 t] w fun e w' => e = .returned (.bool true) ∧ Below w.heap.size w w' := by
  have C0 := Lib.hid (Cfg.new w k s l g z h r c)
  go_enter Try.func3, Try.ntmps3
  go_wp2_with fail
  refine (up_ok _).mono ?_
  rintro e w1 ⟨rfl, k1⟩
  have C1 := Lib.hid (C0.out.next k1)
  obtain ⟨c0, c1, c2, c3, c4, c5, c6, c7⟩ := C1.out
  go_wp2_with fail
  refine (OF.out _).mono ?_
  rintro e w2 ⟨_, _, rfl, ⟨rfl, rfl⟩, k2⟩
  have C2 := Lib.hid (C1.out.next k2)
  clear c0 c1 c2 c3 c4 c5 c6 c7
  obtain ⟨c0, c1, c2, c3, c4, c5, c6, c7⟩ := C2.out
  go_wp2_with fail
  refine (M2.out _).mono ?_
  rintro e w3 ⟨rfl, k3⟩
  have C3 := Lib.hid (C2.out.next k3)
  clear c0 c1 c2 c3 c4 c5 c6 c7
  obtain ⟨c0, c1, c2, c3, c4, c5, c6, c7⟩ := C3.out
  go_wp2_with fail
  refine (M1.out _).mono ?_
  rintro e w4 ⟨rfl, k4⟩
  have C4 := Lib.hid (C3.out.next k4)
  clear c0 c1 c2 c3 c4 c5 c6 c7
  obtain ⟨c0, c1, c2, c3, c4, c5, c6, c7⟩ := C4.out
  go_wp2_with fail
  refine (RF.out _).mono ?_
  rintro e w5 ⟨_, _, rfl, ⟨rfl, rfl⟩, k5⟩
  go_wp2_with fail
  refine (Errs.code_of 3 _ (by omega) (by omega)).mono ?_
  rintro e w' ⟨rfl, rfl⟩
  go_wp2
  go_ret
  exact ⟨rfl, after (after (after (after (after (below1 _ _) k1) k2) k3) k4) k5⟩

set_option maxHeartbeats 1600000 in
theorem walk_wins (k s l g z h r c t : Int) (n : Nat) (a d m : Int) (w : World) (n1 : n ≤ 16)
    (OF : Hid (∀ w, Calls Try.prog 6 #[cfg k s l g z h r c, .int .i64 t] w (Gives (madeR .nilIface n a d m) w)))
    (RF : Hid (∀ w, Calls Try.prog 9 #[cfg k s l g z h r c, .int .i64 t] w (Gives (madeR (.bool true) n a d m) w)))
    (M1 : Hid (∀ w, Calls Try.prog 8 #[cfg k s l g z h r c] w fun e w' => e = .returned (.bool true) ∧ Below w.heap.size w w'))
    (M2 : Hid (∀ w, Calls Try.prog 7 #[cfg k s l g z h r c] w fun e w' => e = .returned (.bool true) ∧ Below w.heap.size w w')) :
    Calls Try.prog 3 #[cfg k s l g z h r c, .int .i64 t] w fun e w' => e = .returned (.bool true) ∧ Below w.heap.size w w' := by
  have C0 := Lib.hid (Cfg.new w k s l g z h r c)
  go_enter Try.func3, Try.ntmps3
  go_wp2_with fail
  refine (up_ok _).mono ?_
  rintro e w1 ⟨rfl, k1⟩
  have C1 := Lib.hid (C0.out.next k1)
  obtain ⟨c0, c1, c2, c3, c4, c5, c6, c7⟩ := C1.out
  go_wp2_with fail
  refine (OF.out _).mono ?_
  rintro e w2 ⟨_, _, rfl, ⟨g1, p1, rfl, rfl, W1⟩, k2⟩
  have V1 := Lib.hid W1
  clear W1
  have C2 := Lib.hid (C1.out.next k2)
  clear c0 c1 c2 c3 c4 c5 c6 c7
  obtain ⟨c0, c1, c2, c3, c4, c5, c6, c7⟩ := C2.out
  go_wp2_with fail
  refine (M2.out _).mono ?_
  rintro e w3 ⟨rfl, k3⟩
  have C3 := Lib.hid (C2.out.next k3)
  clear c0 c1 c2 c3 c4 c5 c6 c7
  obtain ⟨c0, c1, c2, c3, c4, c5, c6, c7⟩ := C3.out
  go_wp2_with fail
  refine (M1.out _).mono ?_
  rintro e w4 ⟨rfl, k4⟩
  have C4 := Lib.hid (C3.out.next k4)
  clear c0 c1 c2 c3 c4 c5 c6 c7
  obtain ⟨c0, c1, c2, c3, c4, c5, c6, c7⟩ := C4.out
  go_wp2_with fail
  refine (RF.out _).mono ?_
  rintro e w5 ⟨_, _, rfl, ⟨g2, p2, rfl, rfl, W2⟩, k5⟩
  have V2 := Lib.hid W2
  clear W2
  go_wp2_with fail
  refine (same_ok g1 g2 n p1 p2 a d m _ n1 (Lib.hid (((V1.out.next k3).next k4).next k5)) V2).mono ?_
  rintro e w6 ⟨rfl, k6⟩
  go_wp2
  go_ret
  exact ⟨rfl, after (after (after (after (after (after (below1 _ _) k1) k2) k3) k4) k5) k6⟩

theorem told_len {k s l g z t : Int} {n : Nat} {a d m : Int} (T : Asg.Told k s l g z t (some (n, a, d, m))) : n ≤ 16 := by
  cases T with
  | slidesYes q hk q1 b b' f hh => omega
  | sessionYes hk hh => omega

theorem walk (x : Int × Int × Int × Int × Int × Int × Int × Int) (wx : (Lit.int .i64 x.1).wf = true ∧ (Lit.int .i64 x.2.1).wf = true ∧ (Lit.int .i64 x.2.2.1).wf = true ∧ (Lit.int .i64 x.2.2.2.1).wf = true ∧ (Lit.int .i64 x.2.2.2.2.1).wf = true ∧ (Lit.int .i64 x.2.2.2.2.2.1).wf = true ∧ (Lit.int .i64 x.2.2.2.2.2.2.1).wf = true ∧ (Lit.int .i64 x.2.2.2.2.2.2.2).wf = true)
    (t : Int) (wt : (Lit.int .i64 t).wf = true) (w : World) :
    Calls Try.prog 3 #[cfg x.1 x.2.1 x.2.2.1 x.2.2.2.1 x.2.2.2.2.1 x.2.2.2.2.2.1 x.2.2.2.2.2.2.1 x.2.2.2.2.2.2.2, .int .i64 t] w fun e w' => e = .returned (.bool true) ∧ Below w.heap.size w w' := by
  obtain ⟨k, s, l, g, z, h, r, c⟩ := x
  obtain ⟨wk, ws, wl, wg, wz, wh, wr, wc⟩ := wx
  dsimp only at wk ws wl wg wz wh wr wc ⊢
  obtain ⟨t0, t1⟩ := Num.fit wt
  obtain ⟨s0, s1⟩ := Num.fit ws
  obtain ⟨l0, l1⟩ := Num.fit wl
  obtain ⟨g0, g1⟩ := Num.fit wg
  obtain ⟨z0, z1⟩ := Num.fit wz
  by_cases M : may k s l g z h r c
  · have M1 := Lib.hid fun w => may_ok k s l g z h r c w true (Lib.hid (by simp [M])) s1
    have M2 := Lib.hid fun w => refMay_ok k s l g z h r c w true (Lib.hid (by simp [M])) s1
    obtain ⟨x, T⟩ := tells k s l g z h r c t t0 t1 M
    have OF := Lib.hid fun w => Asg.of_ok k s l g z h r c t x w s1 l1 g1 z1 t0 t1 M T
    have RF := Lib.hid fun w => RefAsg.of_ok k s l g z h r c t x w s1 l1 g1 z1 t0 t1 M T
    cases x with
    | none => exact walk_range k s l g z h r c t w OF RF M1 M2
    | some y =>
      obtain ⟨n, a, d, m⟩ := y
      exact walk_wins k s l g z h r c t n a d m w (told_len T) OF RF M1 M2
  · have M1 := Lib.hid fun w => may_ok k s l g z h r c w false (Lib.hid (by simp [M])) s1
    have M2 := Lib.hid fun w => refMay_ok k s l g z h r c w false (Lib.hid (by simp [M])) s1
    exact walk_config k s l g z h r c t w (Lib.hid fun w => of_config k s l g z h r c t w s1 (Lib.hid M)) M1 M2

theorem own : ownKnob Try.prog.godebug = none := by kernel_rfl

set_option maxRecDepth 100000 in
theorem lifted (os : Os) (started : os.Started) (H : Type) (enc : TypeId × Value → H) :
    ReturnsInHanded {} Try.checked os 3 .any (Rows.assignTellsSpec.pre6 enc Try.prog Try.f3 Rows.assignTellsRow.domain false) (Rows.assignTellsSpec.post enc Try.prog Try.f3 false true false false) := by
  refine returnsInHanded_of_change (C := Try.checked) own started (by kernel_rfl) Try.func3
    (ChangeSpec.witness6 (enc := enc) (C := Try.checked) false ⟨#[], #[.agg #[.int .i64 0, .int .i64 0, .int .i64 0, .int .i64 0, .int .i64 0, .int .i64 0, .int .i64 0, .int .i64 0], .int .i64 0], []⟩ 8 (by kernel_rfl) (by kernel_rfl) (by kernel_rfl) (by kernel_rfl)) ?_
  intro W base args ds gs before hval0 hW hcnd _
  have hval : ∀ (j : Nat) t v, Try.f3.params[j]? = some t → args[j]? = some v → Value.okWide Try.prog W .any base t v := hval0
  have hW' := hW
  obtain ⟨p, q, hA0, hV, rfl, hfz, hnd⟩ := hW
  have hA : DataW.TrodAll enc Try.prog W 0 (fun _ => true) true Try.f3.params.toList args.toList ds p := hA0
  rw [Try.params3] at hA hval
  obtain ⟨v0, vs0, d0, ds0, p0, q0, hargs, rfl, rfl, h0, r0⟩ := trodAll_cons hA
  obtain ⟨v1, vs1, d1, ds1, p1, q1, rfl, rfl, rfl, h1, r1⟩ := trodAll_cons r0
  obtain ⟨rfl, rfl, rfl⟩ := trodAll_nil r1
  obtain rfl : args = #[v0, v1] := by cases args; simp_all
  obtain ⟨rfl, rfl⟩ := trodVars_none hV
  obtain ⟨x00, x01, x02, x03, x04, x05, x06, x07, rfl, w0⟩ := Opens.open_cfg (hval 0 23 v0 rfl rfl) h0
  obtain ⟨a1, rfl, rfl, rfl, w1⟩ := open_int Try.underlying2 (hval 1 2 v1 rfl rfl) h1
  clear hA0 hval0
  refine (walk (x00, x01, x02, x03, x04, x05, x06, x07) w0 a1 w1 W).mono fun e W' ⟨he, hg⟩ => ?_
  subst he
  exact ⟨_, rfl, Laid.post Laid.laidOut (by kernel_rfl) rfl (by kernel_rfl) Try.underlying4 hW' ⟨rfl, rfl, rfl⟩ hg⟩

theorem over : Rows.assignTellsRow.holds Try.pinned (OpenSpec.ofChange Rows.assignTellsSpec) :=
  OpenClaim.holds_of_wide 3 Try.f3 rfl rfl rfl rfl rfl rfl rfl ⟨rfl, rfl, rfl, rfl, rfl⟩ rfl rfl rfl rfl rfl (by kernel_rfl) Try.func3 (by kernel_rfl)
    (of_decide_eq_true (by kernel_rfl)) (by unfold Func.isWrapper; first | (rw [if_pos (by decide +kernel)]; kernel_rfl) | (rw [if_neg (by decide +kernel)]; exact ⟨rfl, rfl⟩))
    (fun os started H enc _ => lifted os started H enc)

/-- ████ THE STATEMENT ████ -/
theorem proved : Rows.AssignTellsSaid :=
  over
#print axioms proved
end Go.Proofs.Ytjdfjhoephlmnaa.assignTells
