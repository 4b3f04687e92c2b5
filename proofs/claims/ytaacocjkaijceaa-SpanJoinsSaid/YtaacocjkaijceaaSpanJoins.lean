/-
  SpanJoins holds: for any two windows and any four int64 numbers the law answers true (no conditions).
-/
import Derived.Test.YtaacocjkaijceaaUp02
import Derived.Test.YtaacocjkaijceaaLaid
import Derived.Test.YtaacocjkaijceaaOpens
import Derived.Test.YtaacocjkaijceaaLater
import Derived.Deep.DeepCutAuto
namespace Go.Proofs.Ytaacocjkaijceaa.spanJoins
open Go.ChangeShapes Go.WideShapes Go.ChangeAt Go.RowKit Spn BigFrame
set_option linter.unusedVariables false

/-- the two windows that came in, and their join, in blocks of the call's own; nothing of B has turned -/
def Three (B : World) (J : Nat) (a b c d x y : Int) (w : World) : Prop :=
  w.cell? ⟨B.heap.size, 0, none⟩ = some (.int .i64 a) ∧ w.cell? ⟨B.heap.size, 1, none⟩ = some (.int .i64 b) ∧ w.cell? ⟨B.heap.size + 1, 0, none⟩ = some (.int .i64 c) ∧ w.cell? ⟨B.heap.size + 1, 1, none⟩ = some (.int .i64 d) ∧
    w.cell? ⟨J, 0, none⟩ = some (.int .i64 x) ∧ w.cell? ⟨J, 1, none⟩ = some (.int .i64 y) ∧ Below B.heap.size B w

theorem Three.next {B : World} {J : Nat} {a b c d x y : Int} {w w' : World} (k : Below w.heap.size w w') (h : Three B J a b c d x y w) : Three B J a b c d x y w' := by
  obtain ⟨h0, h1, h2, h3, h4, h5, h6⟩ := h
  exact ⟨cell_keep k h0, cell_keep k h1, cell_keep k h2, cell_keep k h3, cell_keep k h4, cell_keep k h5, after h6 k⟩
theorem Three.drew {B : World} {J : Nat} {a b c d x y : Int} {w : World} (h : Three B J a b c d x y w) : Three B J a b c d x y w.drew :=
  ⟨h.1, h.2.1, h.2.2.1, h.2.2.2.1, h.2.2.2.2.1, h.2.2.2.2.2.1, h.2.2.2.2.2.2.drew⟩
theorem Three.below {B : World} {J : Nat} {a b c d x y : Int} {w : World} (h : Three B J a b c d x y w) : Below B.heap.size B w := h.2.2.2.2.2.2
theorem three_new {B : World} {a b c d : Int} {w : World} (h : Two B a b c d w) (x y : Int) : Three B w.heap.size a b c d x y (w.alloc (Obj.cells #[.int .i64 x, .int .i64 y] 23)) := by
  obtain ⟨h0, h1, h2, h3, h4, h5⟩ := h
  have k := below1 w (Obj.cells #[.int .i64 x, .int .i64 y] 23)
  exact ⟨cell_keep k h0, cell_keep k h1, cell_keep k h2, cell_keep k h3, by go_simp, by go_simp, after h4 k⟩

set_option maxRecDepth 100000 in
set_option maxHeartbeats 4000000 in
theorem walk_any (a b c d t l m n x y e1 e2 : Int) (p q r mt o1 o2 inn : Bool) (w : World)
    (HA : Hid (∀ w : World, Calls Try.prog 7 #[win a b, .int .i64 t] w fun z w' => z = .returned (.bool p) ∧ Below w.heap.size w w'))
    (HB : Hid (∀ w : World, Calls Try.prog 7 #[win c d, .int .i64 t] w fun z w' => z = .returned (.bool q) ∧ Below w.heap.size w w'))
    (HJ : Hid (∀ w : World, Calls Try.prog 7 #[win x y, .int .i64 t] w fun z w' => z = .returned (.bool r) ∧ Below w.heap.size w w'))
    (M1 : Hid (∀ w : World, Calls Try.prog 9 #[win a b, win c d] w fun z w' => z = .returned (.bool mt) ∧ Below w.heap.size w w'))
    (M2 : Hid (∀ w : World, Calls Try.prog 9 #[win c d, win a b] w fun z w' => z = .returned (.bool mt) ∧ Below w.heap.size w w'))
    (J1 : Hid (∀ w : World, Calls Try.prog 10 #[win a b, win c d] w fun z w' => z = .returned (win x y) ∧ Below w.heap.size w w'))
    (J2 : Hid (∀ w : World, Calls Try.prog 10 #[win c d, win a b] w fun z w' => z = .returned (win x y) ∧ Below w.heap.size w w'))
    (O1 : Hid (∀ w : World, Calls Try.prog 12 #[win a b, .int .i64 l, .int .i64 m] w fun z w' => z = .returned (.bool o1) ∧ Below w.heap.size w w'))
    (O2 : Hid (∀ w : World, Calls Try.prog 12 #[win a b, .int .i64 l, .int .i64 n] w fun z w' => z = .returned (.bool o2) ∧ Below w.heap.size w w'))
    (C1 : Hid (∀ w : World, Calls Try.prog 14 #[win a b, win c d] w fun z w' => z = .returned (.int .i64 e1) ∧ Below w.heap.size w w'))
    (C2 : Hid (∀ w : World, Calls Try.prog 14 #[win c d, win a b] w fun z w' => z = .returned (.int .i64 e2) ∧ Below w.heap.size w w'))
    (hin : Hid (inn = (p || q))) (K1 : Hid (inn = true → r = true)) (K2 : Hid (mt = true → r = inn)) (K3 : Hid (o1 = true → m ≤ n → o2 = true))
    (K4 : Hid ((e1 = 0 ∧ e2 = 0 ∧ a = c ∧ b = d) ∨ (e1 = -1 ∧ e2 = 1 ∧ (a ≠ c ∨ b ≠ d)) ∨ (e1 = 1 ∧ e2 = -1 ∧ (a ≠ c ∨ b ≠ d)))) :
    Calls Try.prog 4 #[win a b, win c d, .int .i64 t, .int .i64 l, .int .i64 m, .int .i64 n] w fun z w' => z = .returned (.bool true) ∧ Below w.heap.size w w' := by
  have T0 := Lib.hid (two_new w a b c d)
  go_enter Try.func4, Try.ntmps4
  go_wp2_with fail
  refine (Spn.up_ok _).mono ?_
  rintro e w1 ⟨rfl, k1⟩
  have T1 := Lib.hid (T0.out.next k1)
  obtain ⟨a1, b1, c1, d1, -⟩ := T1.out
  go_wp2_with fail
  refine (J1.out _).mono ?_
  rintro e w2 ⟨rfl, k2⟩
  have T2 := Lib.hid (T1.out.next k2)
  clear a1 b1 c1 d1
  obtain ⟨w3, hw3⟩ : ∃ w3, w3 = w2.alloc (Obj.cells #[.int .i64 x, .int .i64 y] 23) := ⟨_, rfl⟩
  have T3 : Hid (Three w w2.heap.size a b c d x y w3) := Lib.hid (by rw [hw3]; exact three_new T2.out x y)
  go_upto_region 3 with fail
  rw [← hw3]
  clear hw3
  obtain ⟨a3, b3, c3, d3, x3, y3, -⟩ := T3.out
  go_cut [15] (fun s wx => s = .bool inn ∧ Hid (Three w w2.heap.size a b c d x y wx))
  case first =>
    cases p
    · go_wp2_with fail
      refine (HA.out _).mono ?_
      rintro e w4 ⟨rfl, k4⟩
      have T4 := Lib.hid (T3.out.next k4)
      clear a3 b3 c3 d3 x3 y3
      obtain ⟨a4, b4, c4, d4, x4, y4, -⟩ := T4.out
      go_wp2_with fail
      refine (HB.out _).mono ?_
      rintro e w5 ⟨rfl, k5⟩
      have T5 := Lib.hid (T4.out.next k5)
      go_wp2_with fail
      go_meet
      exact ⟨by rw [hin.out]; simp, T5⟩
    · go_wp2_with fail
      refine (HA.out _).mono ?_
      rintro e w4 ⟨rfl, k4⟩
      have T4 := Lib.hid (T3.out.next k4)
      clear a3 b3 c3 d3 x3 y3
      go_wp2_with fail
      go_meet
      exact ⟨by rw [hin.out]; simp, T4⟩
  case rest =>
    clear a3 b3 c3 d3 x3 y3
    obtain ⟨rfl, T6⟩ := hcut
    go_upto_region 4 with fail
    go_cut [50] (fun s wx => s = .bool false ∧ Hid (Three w w2.heap.size a b c d x y wx))
    case first =>
      have k1 := K1.out
      cases inn
      · clear k1
        obtain ⟨g0, g1, g2, g3, g4, g5, -⟩ := T6.out
        have f0 := Later.cell g0
        have f1 := Later.cell g1
        have f2 := Later.cell g2
        have f3 := Later.cell g3
        have f4 := Later.cell g4
        have f5 := Later.cell g5
        refine wp_region_later (by kernel_rfl) (by kernel_rfl) ?_
        clear g0 g1 g2 g3 g4 g5
        repeat (go_big_quiet_step (first
            | (go_at_call 7; with_reducible exact Later.call _ (HJ.out _))
            | (go_at_call 9; with_reducible exact Later.call _ (M1.out _))
            | (go_at_call 9; with_reducible exact Later.call _ (M2.out _))
            | (go_at_call 10; with_reducible exact Later.call _ (J2.out _))))
        refine wpQuiet_nil ?_
        rintro _ ⟨u, rfl⟩
        go_wp2_with fail
        go_meet
        exact ⟨rfl, Lib.hid (T6.out.next u.below)⟩
      · have hr : r = true := k1 rfl
        clear k1
        subst hr
        obtain ⟨g0, g1, g2, g3, g4, g5, -⟩ := T6.out
        have f0 := Later.cell g0
        have f1 := Later.cell g1
        have f2 := Later.cell g2
        have f3 := Later.cell g3
        have f4 := Later.cell g4
        have f5 := Later.cell g5
        refine wp_region_later (by kernel_rfl) (by kernel_rfl) ?_
        clear g0 g1 g2 g3 g4 g5
        repeat (go_big_quiet_step (first
            | (go_at_call 7; with_reducible exact Later.call _ (HJ.out _))
            | (go_at_call 9; with_reducible exact Later.call _ (M1.out _))
            | (go_at_call 9; with_reducible exact Later.call _ (M2.out _))
            | (go_at_call 10; with_reducible exact Later.call _ (J2.out _))))
        refine wpQuiet_nil ?_
        rintro _ ⟨u, rfl⟩
        go_wp2_with fail
        go_meet
        exact ⟨rfl, Lib.hid (T6.out.next u.below)⟩
    case rest =>
      obtain ⟨rfl, T7⟩ := hcut
      go_upto_region 6 with fail
      obtain ⟨a7, b7, c7, d7, x7, y7, -⟩ := T7.out
      go_cut [60] (fun s wx => s = .bool false ∧ Hid (Three w w2.heap.size a b c d x y wx))
      case first =>
        have k2 := K2.out
        cases mt
        · clear k2
          go_wp2_with fail
          refine (M1.out _).mono ?_
          rintro e w8 ⟨rfl, k8⟩
          have T8 := Lib.hid (T7.out.next k8)
          go_wp2_with fail
          go_meet
          exact ⟨rfl, T8⟩
        · have hr : r = inn := k2 rfl
          clear k2
          subst hr
          go_wp2_with fail
          refine (M1.out _).mono ?_
          rintro e w8 ⟨rfl, k8⟩
          have T8 := Lib.hid (T7.out.next k8)
          clear a7 b7 c7 d7 x7 y7
          obtain ⟨a8, b8, c8, d8, x8, y8, -⟩ := T8.out
          go_wp2_with fail
          refine (HJ.out _).mono ?_
          rintro e w9 ⟨rfl, k9⟩
          have T9 := Lib.hid (T8.out.next k9)
          go_wp2_with fail
          go_meet
          exact ⟨by simp, T9⟩
      case rest =>
        obtain ⟨rfl, T10⟩ := hcut
        clear a7 b7 c7 d7 x7 y7
        go_upto_region 8 with fail
        obtain ⟨a10, b10, c10, d10, x10, y10, -⟩ := T10.out
        go_cut [76] (fun s wx => s = .bool false ∧ Hid (Three w w2.heap.size a b c d x y wx))
        case first =>
          have k3 := K3.out
          cases o1
          · clear k3
            go_wp2_with fail
            refine (O1.out _).mono ?_
            rintro e w11 ⟨rfl, k11⟩
            have T11 := Lib.hid (T10.out.next k11)
            go_wp2_with fail
            go_meet
            exact ⟨rfl, T11⟩
          · by_cases hmn : m ≤ n
            · have ho : o2 = true := k3 rfl hmn
              clear k3
              subst ho
              go_wp2_with fail
              refine (O1.out _).mono ?_
              rintro e w11 ⟨rfl, k11⟩
              have T11 := Lib.hid (T10.out.next k11)
              clear a10 b10 c10 d10 x10 y10
              obtain ⟨a11, b11, c11, d11, x11, y11, -⟩ := T11.out
              go_wp2_with fail
              refine (O2.out _).mono ?_
              rintro e w12 ⟨rfl, k12⟩
              have T12 := Lib.hid (T11.out.next k12)
              go_wp2_with fail
              go_meet
              exact ⟨rfl, T12⟩
            · clear k3
              go_wp2_with fail
              refine (O1.out _).mono ?_
              rintro e w11 ⟨rfl, k11⟩
              have T11 := Lib.hid (T10.out.next k11)
              go_wp2_with fail
              go_meet
              exact ⟨rfl, T11⟩
        case rest =>
          obtain ⟨rfl, T13⟩ := hcut
          clear a10 b10 c10 d10 x10 y10
          go_upto_region 10 with fail
          rcases K4.out with ⟨rfl, rfl, rfl, rfl⟩ | ⟨rfl, rfl, hne⟩ | ⟨rfl, rfl, hne⟩
          · clear K4
            obtain ⟨g0, g1, g2, g3, g4, g5, -⟩ := T13.out
            have f0 := Later.cell g0
            have f1 := Later.cell g1
            have f2 := Later.cell g2
            have f3 := Later.cell g3
            have f4 := Later.cell g4
            have f5 := Later.cell g5
            refine wp_region_later (by kernel_rfl) (by kernel_rfl) ?_
            clear g0 g1 g2 g3 g4 g5
            repeat (go_big_quiet_step (first
                | (go_at_call 14; with_reducible exact Later.call _ (C1.out _))
                | (go_at_call 14; with_reducible exact Later.call _ (C2.out _))))
            refine wpQuiet_nil ?_
            rintro _ ⟨u, rfl⟩
            go_wp2
            go_ret
            exact ⟨rfl, Three.below (T13.out.next u.below)⟩
          · clear K4
            by_cases hac : a = c
            · have hbd : (b == d) = false := by simp; rcases hne with h | h; exact absurd hac h; exact h
              subst hac
              clear hne
              obtain ⟨g0, g1, g2, g3, g4, g5, -⟩ := T13.out
              have f0 := Later.cell g0
              have f1 := Later.cell g1
              have f2 := Later.cell g2
              have f3 := Later.cell g3
              have f4 := Later.cell g4
              have f5 := Later.cell g5
              refine wp_region_later (by kernel_rfl) (by kernel_rfl) ?_
              clear g0 g1 g2 g3 g4 g5
              repeat (go_big_quiet_step (first
                  | (go_at_call 14; with_reducible exact Later.call _ (C1.out _))
                  | (go_at_call 14; with_reducible exact Later.call _ (C2.out _))))
              refine wpQuiet_nil ?_
              rintro _ ⟨u, rfl⟩
              go_wp2
              go_ret
              exact ⟨rfl, Three.below (T13.out.next u.below)⟩
            · have hac' : (a == c) = false := by simp [hac]
              clear hne
              obtain ⟨g0, g1, g2, g3, g4, g5, -⟩ := T13.out
              have f0 := Later.cell g0
              have f1 := Later.cell g1
              have f2 := Later.cell g2
              have f3 := Later.cell g3
              have f4 := Later.cell g4
              have f5 := Later.cell g5
              refine wp_region_later (by kernel_rfl) (by kernel_rfl) ?_
              clear g0 g1 g2 g3 g4 g5
              repeat (go_big_quiet_step (first
                  | (go_at_call 14; with_reducible exact Later.call _ (C1.out _))
                  | (go_at_call 14; with_reducible exact Later.call _ (C2.out _))))
              refine wpQuiet_nil ?_
              rintro _ ⟨u, rfl⟩
              go_wp2
              go_ret
              exact ⟨rfl, Three.below (T13.out.next u.below)⟩
          · clear K4
            by_cases hac : a = c
            · have hbd : (b == d) = false := by simp; rcases hne with h | h; exact absurd hac h; exact h
              subst hac
              clear hne
              obtain ⟨g0, g1, g2, g3, g4, g5, -⟩ := T13.out
              have f0 := Later.cell g0
              have f1 := Later.cell g1
              have f2 := Later.cell g2
              have f3 := Later.cell g3
              have f4 := Later.cell g4
              have f5 := Later.cell g5
              refine wp_region_later (by kernel_rfl) (by kernel_rfl) ?_
              clear g0 g1 g2 g3 g4 g5
              repeat (go_big_quiet_step (first
                  | (go_at_call 14; with_reducible exact Later.call _ (C1.out _))
                  | (go_at_call 14; with_reducible exact Later.call _ (C2.out _))))
              refine wpQuiet_nil ?_
              rintro _ ⟨u, rfl⟩
              go_wp2
              go_ret
              exact ⟨rfl, Three.below (T13.out.next u.below)⟩
            · have hac' : (a == c) = false := by simp [hac]
              clear hne
              obtain ⟨g0, g1, g2, g3, g4, g5, -⟩ := T13.out
              have f0 := Later.cell g0
              have f1 := Later.cell g1
              have f2 := Later.cell g2
              have f3 := Later.cell g3
              have f4 := Later.cell g4
              have f5 := Later.cell g5
              refine wp_region_later (by kernel_rfl) (by kernel_rfl) ?_
              clear g0 g1 g2 g3 g4 g5
              repeat (go_big_quiet_step (first
                  | (go_at_call 14; with_reducible exact Later.call _ (C1.out _))
                  | (go_at_call 14; with_reducible exact Later.call _ (C2.out _))))
              refine wpQuiet_nil ?_
              rintro _ ⟨u, rfl⟩
              go_wp2
              go_ret
              exact ⟨rfl, Three.below (T13.out.next u.below)⟩

theorem cmp_pair (a b c d : Int) : (cmpW a b c d = 0 ∧ cmpW c d a b = 0 ∧ a = c ∧ b = d) ∨ (cmpW a b c d = -1 ∧ cmpW c d a b = 1 ∧ (a ≠ c ∨ b ≠ d)) ∨ (cmpW a b c d = 1 ∧ cmpW c d a b = -1 ∧ (a ≠ c ∨ b ≠ d)) := by
  unfold cmpW cmp3
  repeat' split
  all_goals omega

theorem walk (a b : Int) (wa : (Lit.int .i64 a).wf = true) (wb : (Lit.int .i64 b).wf = true) (c d : Int) (wc : (Lit.int .i64 c).wf = true) (wd : (Lit.int .i64 d).wf = true)
    (t : Int) (wt : (Lit.int .i64 t).wf = true) (l : Int) (wl : (Lit.int .i64 l).wf = true) (m : Int) (wm : (Lit.int .i64 m).wf = true) (n : Int) (wn : (Lit.int .i64 n).wf = true) (w : World) :
    Calls Try.prog 4 #[win a b, win c d, .int .i64 t, .int .i64 l, .int .i64 m, .int .i64 n] w fun r w' => r = .returned (.bool true) ∧ Below w.heap.size w w' := by
  obtain ⟨b0, b1⟩ := Num.fit wb
  obtain ⟨l0, l1⟩ := Num.fit wl
  obtain ⟨m0, m1⟩ := Num.fit wm
  obtain ⟨n0, n1⟩ := Num.fit wn
  have e1 : min c a = min a c := by omega
  have e2 : max d b = max b d := by omega
  refine walk_any a b c d t l m n (min a c) (max b d) (cmpW a b c d) (cmpW c d a b) _ _ _ _ _ _ _ w (Lib.hid fun w => has_ok a b t w) (Lib.hid fun w => has_ok c d t w) (Lib.hid fun w => has_ok _ _ t w)
    (Lib.hid fun w => meet_ok a b c d w) (Lib.hid fun w => told _ (meet_ok c d a b w) (by simp only [decide_eq_decide]; omega)) (Lib.hid fun w => join_ok a b c d w)
    (Lib.hid fun w => by have h := join_ok c d a b w; rw [e1, e2] at h; exact h)
    (Lib.hid fun w => over_ok a b l m w b0 b1 l0 l1 m0 m1) (Lib.hid fun w => over_ok a b l n w b0 b1 l0 l1 n0 n1) (Lib.hid fun w => comp_ok a b c d w) (Lib.hid fun w => comp_ok c d a b w)
    (Lib.hid rfl) (Lib.hid ?_) (Lib.hid ?_) (Lib.hid ?_) (Lib.hid (cmp_pair a b c d))
  · simp only [Bool.or_eq_true, Bool.and_eq_true, decide_eq_true_eq]; omega
  · intro h
    rw [decide_eq_true_eq] at h
    rw [Bool.eq_iff_iff]
    simp only [Bool.or_eq_true, Bool.and_eq_true, decide_eq_true_eq]; omega
  · simp only [decide_eq_true_eq]; omega

theorem own : ownKnob Try.prog.godebug = none := by kernel_rfl

set_option maxRecDepth 100000 in
theorem lifted (os : Os) (started : os.Started) (H : Type) (enc : TypeId × Value → H) :
    ReturnsInHanded {} Try.checked os 4 .any (Rows.spanJoinsSpec.pre6 enc Try.prog Try.f4 Rows.spanJoinsRow.domain false) (Rows.spanJoinsSpec.post enc Try.prog Try.f4 false true false false) := by
  refine returnsInHanded_of_change (C := Try.checked) own started (by kernel_rfl) Try.func4
    (ChangeSpec.witness6 (enc := enc) (C := Try.checked) false ⟨#[], #[.agg #[.int .i64 0, .int .i64 0], .agg #[.int .i64 0, .int .i64 0], .int .i64 0, .int .i64 0, .int .i64 0, .int .i64 0], []⟩ 8 (by kernel_rfl) (by kernel_rfl) (by kernel_rfl) (by kernel_rfl)) ?_
  intro W base args ds gs before hval0 hW hcnd _
  have hval : ∀ (j : Nat) t v, Try.f4.params[j]? = some t → args[j]? = some v → Value.okWide Try.prog W .any base t v := hval0
  have hW' := hW
  obtain ⟨p, q, hA0, hV, rfl, hfz, hnd⟩ := hW
  have hA : DataW.TrodAll enc Try.prog W 0 (fun _ => true) true Try.f4.params.toList args.toList ds p := hA0
  rw [Try.params4] at hA hval
  obtain ⟨v0, vs0, d0, ds0, p0, q0, hargs, rfl, rfl, h0, r0⟩ := trodAll_cons hA
  obtain ⟨v1, vs1, d1, ds1, p1, q1, rfl, rfl, rfl, h1, r1⟩ := trodAll_cons r0
  obtain ⟨v2, vs2, d2, ds2, p2, q2, rfl, rfl, rfl, h2, r2⟩ := trodAll_cons r1
  obtain ⟨v3, vs3, d3, ds3, p3, q3, rfl, rfl, rfl, h3, r3⟩ := trodAll_cons r2
  obtain ⟨v4, vs4, d4, ds4, p4, q4, rfl, rfl, rfl, h4, r4⟩ := trodAll_cons r3
  obtain ⟨v5, vs5, d5, ds5, p5, q5, rfl, rfl, rfl, h5, r5⟩ := trodAll_cons r4
  obtain ⟨rfl, rfl, rfl⟩ := trodAll_nil r5
  obtain rfl : args = #[v0, v1, v2, v3, v4, v5] := by cases args; simp_all
  obtain ⟨rfl, rfl⟩ := trodVars_none hV
  obtain ⟨a0, b0, rfl, w0, x0⟩ := Opens.open_win (hval 0 23 v0 rfl rfl) h0
  obtain ⟨a1, b1, rfl, w1, x1⟩ := Opens.open_win (hval 1 23 v1 rfl rfl) h1
  obtain ⟨a2, rfl, rfl, rfl, w2⟩ := open_int Try.underlying2 (hval 2 2 v2 rfl rfl) h2
  obtain ⟨a3, rfl, rfl, rfl, w3⟩ := open_int Try.underlying2 (hval 3 2 v3 rfl rfl) h3
  obtain ⟨a4, rfl, rfl, rfl, w4⟩ := open_int Try.underlying2 (hval 4 2 v4 rfl rfl) h4
  obtain ⟨a5, rfl, rfl, rfl, w5⟩ := open_int Try.underlying2 (hval 5 2 v5 rfl rfl) h5
  clear hA0 hval0
  refine (walk a0 b0 w0 x0 a1 b1 w1 x1 a2 w2 a3 w3 a4 w4 a5 w5 W).mono fun e W' ⟨he, hg⟩ => ?_
  subst he
  exact ⟨_, rfl, Laid.post Laid.laidOut (by kernel_rfl) rfl (by kernel_rfl) Try.underlying4 hW' ⟨rfl, rfl, rfl⟩ hg⟩

theorem over : Rows.spanJoinsRow.holds Try.pinned (OpenSpec.ofChange Rows.spanJoinsSpec) :=
  OpenClaim.holds_of_wide 4 Try.f4 rfl rfl rfl rfl rfl rfl rfl ⟨rfl, rfl, rfl, rfl, rfl⟩ rfl rfl rfl rfl rfl (by kernel_rfl) Try.func4 (by kernel_rfl)
    (of_decide_eq_true (by kernel_rfl)) (by unfold Func.isWrapper; first | (rw [if_pos (by decide +kernel)]; kernel_rfl) | (rw [if_neg (by decide +kernel)]; exact ⟨rfl, rfl⟩))
    (fun os started H enc _ => lifted os started H enc)

/-- ████ THE STATEMENT ████ -/
theorem proved : Rows.SpanJoinsSaid :=
  over
#print axioms proved
end Go.Proofs.Ytaacocjkaijceaa.spanJoins
