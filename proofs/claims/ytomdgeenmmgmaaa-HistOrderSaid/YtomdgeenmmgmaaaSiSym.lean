/-
  Contract of slices.symMergeCmpFunc over a row of numbers: two parts of it that are in order, one behind the other, become the two merged, alike ones as they stand.
-/
import Derived.Test.YtomdgeenmmgmaaaSiSymR
namespace Go.Proofs.Ytomdgeenmmgmaaa
open Go.ChangeShapes Go.WideShapes Go.ChangeAt Go.RowKit Go.Sort Go.Lib Go.Shelf
namespace Si
open Srt
set_option linter.unusedVariables false
variable {P : Program} {α : Type} [Inhabited α] {enc : α → Value}

theorem split_two (l : List α) (i : Nat) (h : i ≤ l.length) : ∃ U V, l = U ++ V ∧ U.length = i ∧ (∀ j, j < i → l[j]! = U[j]!) ∧ (∀ j, i ≤ j → l[j]! = V[j - i]!) := by
  refine ⟨l.take i, l.drop i, by simp, by rw [List.length_take]; omega, fun j hj => ?_, fun j hj => ?_⟩
  · simp only [List.getElem!_eq_getElem?_getD, List.getElem?_take]
    rw [if_pos hj]
  · simp only [List.getElem!_eq_getElem?_getD, List.getElem?_drop]
    rw [show i + (j - i) = j by omega]
theorem last_at (U : List α) (h : 0 < U.length) : ∃ V z, U = V ++ [z] ∧ U[U.length - 1]! = z :=
  ⟨U.dropLast, U.getLast (List.length_pos_iff.1 h), (List.dropLast_concat_getLast _).symm, by rw [List.getElem!_eq_getElem?_getD, List.getLast_eq_getElem, List.getElem?_eq_getElem (by omega)]; rfl⟩
/-- what the search finds is a cut -/
theorem cut_mrg {lt : α → α → Bool} (S : SWO lt) (X1 X2 Y1 Y2 : List α) (hX : Asc lt (X1 ++ X2)) (hY : Asc lt (Y1 ++ Y2)) (h1 : 0 < X1.length → 0 < Y2.length → lt Y2[0]! X1[X1.length - 1]! = false)
    (h2 : 0 < Y1.length → 0 < X2.length → lt Y1[Y1.length - 1]! X2[0]! = true) : mrg lt (X1 ++ X2) (Y1 ++ Y2) = mrg lt X1 Y1 ++ mrg lt X2 Y2 := by
  refine mrg_split lt X1 X2 Y1 Y2 (fun a ha b hb => ?_) (fun a ha b hb => ?_)
  · obtain ⟨V, z, rfl, hz⟩ := last_at X1 (List.length_pos_of_mem ha)
    cases Y2 with
    | nil => cases hb
    | cons y Y2 =>
      have h := h1 (by simp) (by simp)
      rw [hz] at h
      replace h : lt y z = false := by simpa using h
      have g1 : lt b z = false := by
        rcases List.mem_cons.1 hb with rfl | hb
        · exact h
        · exact S.ntrans _ _ _ ((List.pairwise_cons.1 (List.pairwise_append.1 hY).2.1).1 b hb) h
      rcases List.mem_append.1 ha with ha | ha
      · exact S.ntrans _ _ _ g1 ((List.pairwise_append.1 (List.pairwise_append.1 hX).1).2.2 a ha z (by simp))
      · simp at ha; subst ha; exact g1
  · obtain ⟨V, z, rfl, hz⟩ := last_at Y1 (List.length_pos_of_mem hb)
    cases X2 with
    | nil => cases ha
    | cons x X2 =>
      have h := h2 (by simp) (by simp)
      rw [hz] at h
      replace h : lt z x = true := by simpa using h
      have g1 : lt z a = true := by
        rcases List.mem_cons.1 ha with rfl | ha
        · exact h
        · exact lt_behind S ((List.pairwise_cons.1 (List.pairwise_append.1 hX).2.1).1 a ha) h
      rcases List.mem_append.1 hb with hb | hb
      · exact lt_ahead S ((List.pairwise_append.1 (List.pairwise_append.1 hY).1).2.2 b hb z (by simp)) g1
      · simp at hb; subst hb; exact g1

/-- what is said of a merge of two parts -/
def SymAt (P : Program) (enc : α → Value) (cf : α → α → Int) (g : Nat) (cb : Array Value) (w0 : World) (b off N cap F : Nat) : Prop :=
  ∀ (w : World) (C X Y Q : List α), X.length + Y.length ≤ F → (C ++ (X ++ (Y ++ Q))).length = N → ∀ (a m e : Nat), a = C.length → m = a + X.length → e = m + Y.length → 0 < X.length → 0 < Y.length → Asc (ltOf cf) X → Asc (ltOf cf) Y → Rw enc w0 b off (C ++ (X ++ (Y ++ Q))) w →
    Calls P 26 #[.slice (some ⟨b, off, none⟩) N cap, .int .i64 a, .int .i64 m, .int .i64 e, .func (.func g) #[] cb] w fun r w' =>
      r = .returned (.tuple #[]) ∧ Rw enc w0 b off (C ++ (mrg (ltOf cf) X Y ++ Q)) w'

set_option maxHeartbeats 16000000 in
set_option maxRecDepth 1000000 in
theorem sym_gen (L : SP P) {cf : α → α → Int} (SW : SWO (ltOf cf)) {g : Nat} {cb : Array Value} {w0 w : World} {b off N cap F : Nat} (hcmp : Cmps P g cb enc cf w0 b off N) (eg : ∀ args w, (callFunc g args).run P w = .ok (.enter g args) w)
    (R : Rk enc w0 b off N) (hsz : N < 4611686018427387904) (IH : SymAt P enc cf g cb w0 b off N cap F) (C X Y Q : List α) (hF : X.length + Y.length ≤ F + 1) (hN : (C ++ (X ++ (Y ++ Q))).length = N)
    (a m e : Nat) (hp : a = C.length) (hq : m = a + X.length) (hn : e = m + Y.length) (hX1 : 2 ≤ X.length) (hY1 : 2 ≤ Y.length) (hX : Asc (ltOf cf) X) (hY : Asc (ltOf cf) Y) (S : Rw enc w0 b off (C ++ (X ++ (Y ++ Q))) w) :
    Calls P 26 #[.slice (some ⟨b, off, none⟩) N cap, .int .i64 a, .int .i64 m, .int .i64 e, .func (.func g) #[] cb] w fun r w' =>
      r = .returned (.tuple #[]) ∧ Rw enc w0 b off (C ++ (mrg (ltOf cf) X Y ++ Q)) w' := by
  have mixed := L.mixed; have t0 := L.t0; have a0 := L.a0; have z0 := L.z0; have v0 := L.v0; have t3 := L.t3; have a3 := L.a3; have z3 := L.z3; have v3 := L.v3; have t4 := L.t4; have a4 := L.a4; have z4 := L.z4; have v4 := L.v4; have t26 := L.t26; have a26 := L.a26; have z26 := L.z26; have v26 := L.v26; have t51 := L.t51; have a51 := L.a51; have z51 := L.z51; have v51 := L.v51; have t62 := L.t62; have a62 := L.a62; have z62 := L.z62; have v62 := L.v62; have u26 := run_underlying L.t26; have FG := L.fSym
  have u0 := run_underlying L.t0; have u3 := run_underlying L.t3; have u4 := run_underlying L.t4; have u62 := run_underlying L.t62
  have eRot := L.eRot; have eSym := L.eSym
  have S0 : Aside (Rw enc w0 b off (C ++ (X ++ (Y ++ Q))) w) := S
  have HC : Aside (Cmps P g cb enc cf w0 b off N) := hcmp
  have HW : Hid (SWO (ltOf cf)) := SW
  have HA : Hid (Asc (ltOf cf) X ∧ Asc (ltOf cf) Y) := ⟨hX, hY⟩
  have HR : Hid (Rk enc w0 b off N) := R
  have HI : Aside (SymAt P enc cf g cb w0 b off N cap F) := IH
  have HT : Aside (SP P) := L
  have HN : Hid (C.length + X.length + Y.length + Q.length = N ∧ X.length + Y.length ≤ F + 1 ∧ 2 ≤ X.length ∧ 2 ≤ Y.length) := Lib.hid (by simp at hN; omega)
  have HP : Hid (a = C.length ∧ m = a + X.length ∧ e = m + Y.length) := ⟨hp, hq, hn⟩
  have ham : a + 2 ≤ m := by omega
  have hme : m + 2 ≤ e := by omega
  have heN : e ≤ N := by have := HN.out; omega
  clear S hN R hp hq hn hX hX1 hY hY1 L hcmp SW IH hF
  obtain ⟨mid, hmid⟩ : ∃ mid : Nat, mid = (a + e) / 2 := ⟨_, rfl⟩
  have hmz : ((a : Int) + (e : Int)) / 2 = (mid : Int) := by omega
  have hm1 : a + e ≤ 2 * mid + 1 := by omega
  have hm2 : 2 * mid ≤ a + e := by omega
  clear hmid
  have wae : IntKind.i64.wrap ((a : Int) + (e : Int)) = (a : Int) + (e : Int) := by rw [IntKind.wrap_i64]; omega
  have wma : IntKind.i64.wrap ((m : Int) - (a : Int)) = ((m - a : Nat) : Int) := by rw [IntKind.wrap_i64]; omega
  have wem : IntKind.i64.wrap ((e : Int) - (m : Int)) = ((e - m : Nat) : Int) := by rw [IntKind.wrap_i64]; omega
  have n1 : (((m - a : Nat) : Int) == 1) = false := by rw [beq_eq_false_iff_ne]; omega
  have n2 : (((e - m : Nat) : Int) == 1) = false := by rw [beq_eq_false_iff_ne]; omega
  obtain ⟨p, hpp⟩ : ∃ p : Nat, p = mid + m - 1 := ⟨_, rfl⟩
  have wmm : IntKind.i64.wrap ((mid : Int) + (m : Int)) = (p : Int) + 1 := by rw [IntKind.wrap_i64]; omega
  have wp1 : IntKind.i64.wrap ((p : Int) + 1 - 1) = (p : Int) := by rw [IntKind.wrap_i64]; omega
  have wp2 : (p : Int) + 1 - 1 = (p : Int) := by omega
  have hpm : p + 1 = mid + m := by omega
  clear hpp
  have arms : ∃ s0 r0 : Nat, (mid < m → s0 = p + 1 - e ∧ r0 = mid) ∧ (m ≤ mid → s0 = a ∧ r0 = m) := by
    by_cases h : mid < m
    · exact ⟨_, _, fun _ => ⟨rfl, rfl⟩, fun h' => by omega⟩
    · exact ⟨_, _, fun h' => by omega, fun _ => ⟨rfl, rfl⟩⟩
  obtain ⟨s0, r0, arm1, arm2⟩ := arms
  have b1 : a ≤ s0 := by by_cases h : mid < m <;> omega
  have b2 : s0 ≤ r0 := by by_cases h : mid < m <;> omega
  have b3 : r0 ≤ m := by by_cases h : mid < m <;> omega
  have b4 : r0 ≤ mid := by by_cases h : mid < m <;> omega
  have b5 : p + 1 ≤ e + s0 := by by_cases h : mid < m <;> omega
  have b6 : Hid ((s0 = a ∨ p + 1 = e + s0) ∧ (r0 = m ∨ r0 = mid)) := Lib.hid (by by_cases h : mid < m <;> omega)
  have wst : mid < m → IntKind.i64.wrap ((p : Int) + 1 - (e : Int)) = (s0 : Int) := fun h => by rw [IntKind.wrap_i64]; omega
  have wst2 : mid < m → (p : Int) + 1 - (e : Int) = (s0 : Int) := fun h => by omega
  have ar : mid < m → (mid : Int) = (r0 : Int) := fun h => by omega
  have ar2 : ¬ mid < m → (s0 = a ∧ r0 = m) := fun h => by omega
  clear arm1 arm2
  by_cases hm : mid < m
  · have hmz2 : (mid : Int) < (m : Int) := by omega
    have wst := wst hm
    have wst2 := wst2 hm
    have HE : Hid (r0 = mid) := Lib.hid (by have := ar hm; omega)
    clear ar ar2
    go_enter FG, Try.ntmps26
    go_wp2
    clear wae wma wem wmm wp1 wp2 n1 n2 wst wst2
    go_loopg [20, 21] (e - a) (fun g s20 s21 wr => ∃ (i j : Nat), s20 = .int .i64 i ∧ s21 = .int .i64 j ∧ s0 ≤ i ∧ i ≤ j ∧ j ≤ r0 ∧ j - i ≤ g ∧ Hid ((s0 < i → ltOf cf Y[p + 1 - i - m]! X[i - 1 - a]! = false) ∧ (j < r0 → ltOf cf Y[p - j - m]! X[j - a]! = true)) ∧ Aside (Rw enc w0 b off (C ++ (X ++ (Y ++ Q))) wr))
    case atStart => exact ⟨s0, mid, rfl, rfl, by have := HE.out; omega, by have := HE.out; omega, by have := HE.out; omega, by have := HE.out; omega, ⟨fun h => by have := HE.out; omega, fun h => by have := HE.out; omega⟩, S0⟩
    case round =>
      obtain ⟨i, j, rfl, rfl, hmi, hij, hje, hg, HJ, S1⟩ := hrel
      clear S0
      by_cases hlt : i < j
      · have hltz : (i : Int) < (j : Int) := by omega
        obtain ⟨c, hh⟩ : ∃ c : Nat, c = (i + j) / 2 := ⟨_, rfl⟩
        have hhz : ((i : Int) + (j : Int)) / 2 = (c : Int) := by omega
        have hi1 : i ≤ c := by omega
        have hj1 : c < j := by omega
        clear hh
        obtain ⟨q, hq⟩ : ∃ q : Nat, q = p - c := ⟨_, rfl⟩
        have q1 : q + c = p := by omega
        have q2 : m ≤ q := by omega
        have q3 : q < e := by omega
        clear hq
        have wa : IntKind.i64.wrap ((i : Int) + (j : Int)) = (i : Int) + (j : Int) := by rw [IntKind.wrap_i64]; omega
        have wq : IntKind.i64.wrap ((p : Int) - (c : Int)) = (q : Int) := by rw [IntKind.wrap_i64]; omega
        have bq : (q : Int) < (N : Int) := by omega
        have bc : (c : Int) < (N : Int) := by omega
        have wh : IntKind.i64.wrap ((c : Int) + 1) = (c : Int) + 1 := by rw [IntKind.wrap_i64]; omega
        have hp := HP.out
        have hN := HN.out
        obtain ⟨U, x, V, r1, r2, r3⟩ := split_at X (c - a) (by omega)
        obtain ⟨U', y, V', r4, r5, r6⟩ := split_at Y (q - m) (by omega)
        have e1 : C ++ (X ++ (Y ++ Q)) = (C ++ U) ++ x :: (V ++ (Y ++ Q)) := by rw [r1]; simp
        have e2 : C ++ (X ++ (Y ++ Q)) = (C ++ X ++ U') ++ y :: (V' ++ Q) := by rw [r4]; simp
        have ln : (C ++ (X ++ (Y ++ Q))).length = N := by simp; omega
        have lc := S1.out.cl HR.out ln e1 c (by simp; omega)
        have lq := S1.out.cl HR.out ln e2 q (by simp; omega)
        have hcg : ∀ n' os', Calls P g (#[enc y, enc x] ++ cb) (grow (wr.drewN n') os') fun e w' => e = .returned (.int .i64 (cf y x)) ∧ ∃ q os'', w' = grow ((grow (wr.drewN n') os').drewN q) os'' := fun n' os' => S1.out.cmp HC.out (by simp; omega) y x n' os'
        by_cases hv : cf y x < 0
        · have hd : decide (cf y x < 0) = true := decide_eq_true hv
          have HJ2 : Hid ((s0 < i → ltOf cf Y[p + 1 - i - m]! X[i - 1 - a]! = false) ∧ (c < r0 → ltOf cf Y[p - c - m]! X[c - a]! = true)) := ⟨HJ.out.1, fun _ => by rw [show p - c - m = q - m by omega, r3, r6]; exact hd⟩
          clear hp hN r1 r2 r3 r4 r5 r6 e1 e2 ln HJ
          go_wp2_with fail
          go_quiet_grown (first | (go_at_fn g; refine Calls.grown_of (hcg _ _)))
          have S2 : Aside (Rw enc w0 b off (C ++ (X ++ (Y ++ Q))) (grow (wr.drewN nq) osq)) := S1.out.grown nq osq
          clear lc lq hcg S1
          generalize grow (wr.drewN nq) osq = w2 at S2 ⊢
          clear nq osq
          go_wp2
          go_roundg (c - i)
          case measure => omega
          case rel => exact ⟨i, c, rfl, rfl, by omega, by omega, by omega, Nat.le_refl _, HJ2, S2⟩
        · have hd : decide (cf y x < 0) = false := decide_eq_false hv
          have HJ2 : Hid ((s0 < c + 1 → ltOf cf Y[p + 1 - (c + 1) - m]! X[c + 1 - 1 - a]! = false) ∧ (j < r0 → ltOf cf Y[p - j - m]! X[j - a]! = true)) := ⟨fun _ => by rw [show p + 1 - (c + 1) - m = q - m by omega, show c + 1 - 1 - a = c - a by omega, r3, r6]; exact hd, HJ.out.2⟩
          clear hp hN r1 r2 r3 r4 r5 r6 e1 e2 ln HJ
          go_wp2_with fail
          go_quiet_grown (first | (go_at_fn g; refine Calls.grown_of (hcg _ _)))
          have S2 : Aside (Rw enc w0 b off (C ++ (X ++ (Y ++ Q))) (grow (wr.drewN nq) osq)) := S1.out.grown nq osq
          clear lc lq hcg S1
          generalize grow (wr.drewN nq) osq = w2 at S2 ⊢
          clear nq osq
          go_wp2
          go_roundg (j - (c + 1))
          case measure => omega
          case rel => exact ⟨c + 1, j, by go_num, rfl, by omega, by omega, hje, Nat.le_refl _, HJ2, S2⟩
      · have hltz : ¬ (i : Int) < (j : Int) := by omega
        obtain rfl : j = i := by omega
        obtain ⟨t, ht⟩ : ∃ t : Nat, t = p + 1 - j := ⟨_, rfl⟩
        have ht2 : t + j = p + 1 := by omega
        clear ht
        have wt : IntKind.i64.wrap ((p : Int) + 1 - (j : Int)) = (t : Int) := by rw [IntKind.wrap_i64]; omega
        have wt2 : (p : Int) + 1 - (j : Int) = (t : Int) := by omega
        have hp := HP.out
        have hN := HN.out
        have T : Aside (∃ X1 X2 Y1 Y2, X = X1 ++ X2 ∧ Y = Y1 ++ Y2 ∧ X1.length = j - a ∧ Y1.length = t - m ∧ mrg (ltOf cf) X Y = mrg (ltOf cf) X1 Y1 ++ mrg (ltOf cf) X2 Y2) := by
          obtain ⟨X1, X2, r1, r2, r3, r4⟩ := split_two X (j - a) (by omega)
          obtain ⟨Y1, Y2, r5, r6, r7, r8⟩ := split_two Y (t - m) (by omega)
          refine ⟨X1, X2, Y1, Y2, r1, r5, r2, r6, ?_⟩
          have h1 := HJ.out.1
          have h2 := HJ.out.2
          have hA := HA.out
          have lx := congrArg List.length r1
          have ly := congrArg List.length r5
          rw [List.length_append] at lx ly
          have b6 := b6.out
          rw [r1, r5] at hA ⊢
          refine cut_mrg HW.out X1 X2 Y1 Y2 hA.1 hA.2 (fun k1 k2 => ?_) (fun k1 k2 => ?_)
          · have := h1 (by omega)
            rw [show p + 1 - j - m = t - m by omega, r8 _ (Nat.le_refl _), Nat.sub_self, show j - 1 - a = X1.length - 1 by omega, r3 _ (by omega)] at this
            exact this
          · have := h2 (by omega)
            rw [r4 _ (Nat.le_refl _), Nat.sub_self, show p - j - m = Y1.length - 1 by omega, r7 _ (by omega)] at this
            exact this
        obtain ⟨X1, X2, Y1, Y2, r1, r5, r2, r6, r9⟩ := T.out
        have lx := congrArg List.length r1
        have ly := congrArg List.length r5
        rw [List.length_append] at lx ly
        have asX := HA.out.1
        have asY := HA.out.2
        rw [r1] at asX
        rw [r5] at asY
        have d1 := List.pairwise_append.1 asX
        have d2 := List.pairwise_append.1 asY
        have L0 : Aside (Rw enc w0 b off (C ++ (X1 ++ (X2 ++ (Y1 ++ (Y2 ++ Q))))) wr) := by
          have := S1.out
          rw [r1, r5] at this
          exact (by simpa using this : Rw enc w0 b off (C ++ (X1 ++ (X2 ++ (Y1 ++ (Y2 ++ Q))))) wr)
        have KR : Aside (j < m → m < t → ∀ W, Rw enc w0 b off (C ++ (X1 ++ (X2 ++ (Y1 ++ (Y2 ++ Q))))) W → Calls P 27 #[.slice (some ⟨b, off, none⟩) N cap, .int .i64 j, .int .i64 m, .int .i64 t, .func (.func g) #[] cb] W fun r w' => r = .returned (.tuple #[]) ∧ Rw enc w0 b off (C ++ (X1 ++ (Y1 ++ (X2 ++ (Y2 ++ Q))))) w') := by
          intro c1 c2 W hW
          have := rotate_ok HT.out HR.out (w := W) (cap := cap) (.func (.func g) #[] cb) hsz (C ++ X1) X2 Y1 (Y2 ++ Q) (by simp; omega) j m t (by simp; omega) (by omega) (by omega) (by intro h; subst h; simp at lx; omega) (by intro h; subst h; simp at ly r6; omega) (by simpa using hW)
          exact this.mono fun e w' h => ⟨h.1, by simpa using h.2⟩
        have K1 : Aside (a < j → j < mid → ∀ W, Rw enc w0 b off (C ++ (X1 ++ (Y1 ++ (X2 ++ (Y2 ++ Q))))) W → Calls P 26 #[.slice (some ⟨b, off, none⟩) N cap, .int .i64 a, .int .i64 j, .int .i64 mid, .func (.func g) #[] cb] W fun r w' => r = .returned (.tuple #[]) ∧ Rw enc w0 b off (C ++ (mrg (ltOf cf) X1 Y1 ++ (X2 ++ (Y2 ++ Q)))) w') := fun c1 c2 W hW =>
          HI.out W C X1 Y1 (X2 ++ (Y2 ++ Q)) (by omega) (by simp; omega) a j mid (by omega) (by omega) (by omega) (by omega) (by omega) d1.1 d2.1 hW
        have K2 : Aside (mid < t → t < e → ∀ W, Rw enc w0 b off (C ++ (mrg (ltOf cf) X1 Y1 ++ (X2 ++ (Y2 ++ Q)))) W → Calls P 26 #[.slice (some ⟨b, off, none⟩) N cap, .int .i64 mid, .int .i64 t, .int .i64 e, .func (.func g) #[] cb] W fun r w' => r = .returned (.tuple #[]) ∧ Rw enc w0 b off (C ++ (mrg (ltOf cf) X Y ++ Q)) w') := by
          intro c1 c2 W hW
          have := HI.out W (C ++ mrg (ltOf cf) X1 Y1) X2 Y2 Q (by omega) (by simp [mrg_len]; omega) mid t e (by simp [mrg_len]; omega) (by omega) (by omega) (by omega) (by omega) d1.2.1 d2.2.1 (by simpa using hW)
          exact this.mono fun e w' h => ⟨h.1, by rw [r9]; simpa using h.2⟩
        have N0 : Aside (¬ (j < m ∧ m < t) → ∀ W, Rw enc w0 b off (C ++ (X1 ++ (X2 ++ (Y1 ++ (Y2 ++ Q))))) W → Rw enc w0 b off (C ++ (X1 ++ (Y1 ++ (X2 ++ (Y2 ++ Q))))) W) := by
          intro c1 W hW
          rcases (by omega : X2.length = 0 ∨ Y1.length = 0) with h | h <;> obtain rfl := List.length_eq_zero_iff.1 h <;> simpa using hW
        have N1 : Aside (¬ (a < j ∧ j < mid) → ∀ W, Rw enc w0 b off (C ++ (X1 ++ (Y1 ++ (X2 ++ (Y2 ++ Q))))) W → Rw enc w0 b off (C ++ (mrg (ltOf cf) X1 Y1 ++ (X2 ++ (Y2 ++ Q)))) W) := by
          intro c1 W hW
          rcases (by omega : X1.length = 0 ∨ Y1.length = 0) with h | h <;> obtain rfl := List.length_eq_zero_iff.1 h <;> simpa using hW
        have N2 : Aside (¬ (mid < t ∧ t < e) → ∀ W, Rw enc w0 b off (C ++ (mrg (ltOf cf) X1 Y1 ++ (X2 ++ (Y2 ++ Q)))) W → Rw enc w0 b off (C ++ (mrg (ltOf cf) X Y ++ Q)) W) := by
          intro c1 W hW
          rw [r9]
          rcases (by omega : X2.length = 0 ∨ Y2.length = 0) with h | h <;> obtain rfl := List.length_eq_zero_iff.1 h <;> simpa using hW
        clear hp hN lx ly r1 r2 r5 r6 r9 asX asY d1 d2 T S1 HJ
        rcases (by omega : (j < m ∧ m < t) ∨ (j < m ∧ ¬ m < t) ∨ ¬ j < m) with ⟨c1, c2⟩ | ⟨c1, c2⟩ | c1
        · have c1z : (j : Int) < (m : Int) := by omega
          have c2z : (m : Int) < (t : Int) := by omega
          rcases (by omega : (a < j ∧ j < mid) ∨ (a < j ∧ ¬ j < mid) ∨ ¬ a < j) with ⟨c3, c4⟩ | ⟨c3, c4⟩ | c3
          · have c3z : (a : Int) < (j : Int) := by omega
            have c4z : (j : Int) < (mid : Int) := by omega
            rcases (by omega : (mid < t ∧ t < e) ∨ (mid < t ∧ ¬ t < e) ∨ ¬ mid < t) with ⟨c5, c6⟩ | ⟨c5, c6⟩ | c5
            · have c5z : (mid : Int) < (t : Int) := by omega
              have c6z : (t : Int) < (e : Int) := by omega
              have KR := Lib.hid (KR.out (by omega) (by omega))
              have K1 := Lib.hid (K1.out (by omega) (by omega))
              have K2 := Lib.hid (K2.out (by omega) (by omega))
              go_wp2_with (first | (go_at_fn 27; refine (KR.out _ L0.out).mono ?_; rintro r w1 ⟨rfl, hw⟩; have L1 := Lib.hid hw; clear hw) | (go_at_fn 26; refine (K1.out _ L1.out).mono ?_; rintro r w2 ⟨rfl, hw⟩; have L2 := Lib.hid hw; clear hw) | (go_at_fn 26; refine (K2.out _ L2.out).mono ?_; rintro r w3 ⟨rfl, hw⟩; have L3 := Lib.hid hw; clear hw))
              go_end0
              exact ⟨rfl, L3.out⟩
            · have c5z : (mid : Int) < (t : Int) := by omega
              have c6z : ¬ (t : Int) < (e : Int) := by omega
              have KR := Lib.hid (KR.out (by omega) (by omega))
              have K1 := Lib.hid (K1.out (by omega) (by omega))
              have N2 := Lib.hid (N2.out (by omega))
              go_wp2_with (first | (go_at_fn 27; refine (KR.out _ L0.out).mono ?_; rintro r w1 ⟨rfl, hw⟩; have L1 := Lib.hid hw; clear hw) | (go_at_fn 26; refine (K1.out _ L1.out).mono ?_; rintro r w2 ⟨rfl, hw⟩; have L2 := Lib.hid hw; clear hw))
              go_end0
              exact ⟨rfl, N2.out _ L2.out⟩
            · have c5z : ¬ (mid : Int) < (t : Int) := by omega
              have KR := Lib.hid (KR.out (by omega) (by omega))
              have K1 := Lib.hid (K1.out (by omega) (by omega))
              have N2 := Lib.hid (N2.out (by omega))
              go_wp2_with (first | (go_at_fn 27; refine (KR.out _ L0.out).mono ?_; rintro r w1 ⟨rfl, hw⟩; have L1 := Lib.hid hw; clear hw) | (go_at_fn 26; refine (K1.out _ L1.out).mono ?_; rintro r w2 ⟨rfl, hw⟩; have L2 := Lib.hid hw; clear hw))
              go_end0
              exact ⟨rfl, N2.out _ L2.out⟩
          · have c3z : (a : Int) < (j : Int) := by omega
            have c4z : ¬ (j : Int) < (mid : Int) := by omega
            rcases (by omega : (mid < t ∧ t < e) ∨ (mid < t ∧ ¬ t < e) ∨ ¬ mid < t) with ⟨c5, c6⟩ | ⟨c5, c6⟩ | c5
            · have c5z : (mid : Int) < (t : Int) := by omega
              have c6z : (t : Int) < (e : Int) := by omega
              have KR := Lib.hid (KR.out (by omega) (by omega))
              have N1 := Lib.hid (N1.out (by omega))
              have K2 := Lib.hid (K2.out (by omega) (by omega))
              go_wp2_with (first | (go_at_fn 27; refine (KR.out _ L0.out).mono ?_; rintro r w1 ⟨rfl, hw⟩; have L1 := Lib.hid (N1.out _ hw); clear hw) | (go_at_fn 26; refine (K2.out _ L1.out).mono ?_; rintro r w3 ⟨rfl, hw⟩; have L3 := Lib.hid hw; clear hw))
              go_end0
              exact ⟨rfl, L3.out⟩
            · have c5z : (mid : Int) < (t : Int) := by omega
              have c6z : ¬ (t : Int) < (e : Int) := by omega
              have KR := Lib.hid (KR.out (by omega) (by omega))
              have N1 := Lib.hid (N1.out (by omega))
              have N2 := Lib.hid (N2.out (by omega))
              go_wp2_with (first | (go_at_fn 27; refine (KR.out _ L0.out).mono ?_; rintro r w1 ⟨rfl, hw⟩; have L1 := Lib.hid (N1.out _ hw); clear hw))
              go_end0
              exact ⟨rfl, N2.out _ L1.out⟩
            · have c5z : ¬ (mid : Int) < (t : Int) := by omega
              have KR := Lib.hid (KR.out (by omega) (by omega))
              have N1 := Lib.hid (N1.out (by omega))
              have N2 := Lib.hid (N2.out (by omega))
              go_wp2_with (first | (go_at_fn 27; refine (KR.out _ L0.out).mono ?_; rintro r w1 ⟨rfl, hw⟩; have L1 := Lib.hid (N1.out _ hw); clear hw))
              go_end0
              exact ⟨rfl, N2.out _ L1.out⟩
          · have c3z : ¬ (a : Int) < (j : Int) := by omega
            rcases (by omega : (mid < t ∧ t < e) ∨ (mid < t ∧ ¬ t < e) ∨ ¬ mid < t) with ⟨c5, c6⟩ | ⟨c5, c6⟩ | c5
            · have c5z : (mid : Int) < (t : Int) := by omega
              have c6z : (t : Int) < (e : Int) := by omega
              have KR := Lib.hid (KR.out (by omega) (by omega))
              have N1 := Lib.hid (N1.out (by omega))
              have K2 := Lib.hid (K2.out (by omega) (by omega))
              go_wp2_with (first | (go_at_fn 27; refine (KR.out _ L0.out).mono ?_; rintro r w1 ⟨rfl, hw⟩; have L1 := Lib.hid (N1.out _ hw); clear hw) | (go_at_fn 26; refine (K2.out _ L1.out).mono ?_; rintro r w3 ⟨rfl, hw⟩; have L3 := Lib.hid hw; clear hw))
              go_end0
              exact ⟨rfl, L3.out⟩
            · have c5z : (mid : Int) < (t : Int) := by omega
              have c6z : ¬ (t : Int) < (e : Int) := by omega
              have KR := Lib.hid (KR.out (by omega) (by omega))
              have N1 := Lib.hid (N1.out (by omega))
              have N2 := Lib.hid (N2.out (by omega))
              go_wp2_with (first | (go_at_fn 27; refine (KR.out _ L0.out).mono ?_; rintro r w1 ⟨rfl, hw⟩; have L1 := Lib.hid (N1.out _ hw); clear hw))
              go_end0
              exact ⟨rfl, N2.out _ L1.out⟩
            · have c5z : ¬ (mid : Int) < (t : Int) := by omega
              have KR := Lib.hid (KR.out (by omega) (by omega))
              have N1 := Lib.hid (N1.out (by omega))
              have N2 := Lib.hid (N2.out (by omega))
              go_wp2_with (first | (go_at_fn 27; refine (KR.out _ L0.out).mono ?_; rintro r w1 ⟨rfl, hw⟩; have L1 := Lib.hid (N1.out _ hw); clear hw))
              go_end0
              exact ⟨rfl, N2.out _ L1.out⟩
        · have c1z : (j : Int) < (m : Int) := by omega
          have c2z : ¬ (m : Int) < (t : Int) := by omega
          rcases (by omega : (a < j ∧ j < mid) ∨ (a < j ∧ ¬ j < mid) ∨ ¬ a < j) with ⟨c3, c4⟩ | ⟨c3, c4⟩ | c3
          · have c3z : (a : Int) < (j : Int) := by omega
            have c4z : (j : Int) < (mid : Int) := by omega
            rcases (by omega : (mid < t ∧ t < e) ∨ (mid < t ∧ ¬ t < e) ∨ ¬ mid < t) with ⟨c5, c6⟩ | ⟨c5, c6⟩ | c5
            · have c5z : (mid : Int) < (t : Int) := by omega
              have c6z : (t : Int) < (e : Int) := by omega
              have L1 : Aside (Rw enc w0 b off (C ++ (X1 ++ (Y1 ++ (X2 ++ (Y2 ++ Q))))) wr) := N0.out (by omega) wr L0.out
              have K1 := Lib.hid (K1.out (by omega) (by omega))
              have K2 := Lib.hid (K2.out (by omega) (by omega))
              go_wp2_with (first | (go_at_fn 26; refine (K1.out _ L1.out).mono ?_; rintro r w2 ⟨rfl, hw⟩; have L2 := Lib.hid hw; clear hw) | (go_at_fn 26; refine (K2.out _ L2.out).mono ?_; rintro r w3 ⟨rfl, hw⟩; have L3 := Lib.hid hw; clear hw))
              go_end0
              exact ⟨rfl, L3.out⟩
            · have c5z : (mid : Int) < (t : Int) := by omega
              have c6z : ¬ (t : Int) < (e : Int) := by omega
              have L1 : Aside (Rw enc w0 b off (C ++ (X1 ++ (Y1 ++ (X2 ++ (Y2 ++ Q))))) wr) := N0.out (by omega) wr L0.out
              have K1 := Lib.hid (K1.out (by omega) (by omega))
              have N2 := Lib.hid (N2.out (by omega))
              go_wp2_with (first | (go_at_fn 26; refine (K1.out _ L1.out).mono ?_; rintro r w2 ⟨rfl, hw⟩; have L2 := Lib.hid hw; clear hw))
              go_end0
              exact ⟨rfl, N2.out _ L2.out⟩
            · have c5z : ¬ (mid : Int) < (t : Int) := by omega
              have L1 : Aside (Rw enc w0 b off (C ++ (X1 ++ (Y1 ++ (X2 ++ (Y2 ++ Q))))) wr) := N0.out (by omega) wr L0.out
              have K1 := Lib.hid (K1.out (by omega) (by omega))
              have N2 := Lib.hid (N2.out (by omega))
              go_wp2_with (first | (go_at_fn 26; refine (K1.out _ L1.out).mono ?_; rintro r w2 ⟨rfl, hw⟩; have L2 := Lib.hid hw; clear hw))
              go_end0
              exact ⟨rfl, N2.out _ L2.out⟩
          · have c3z : (a : Int) < (j : Int) := by omega
            have c4z : ¬ (j : Int) < (mid : Int) := by omega
            rcases (by omega : (mid < t ∧ t < e) ∨ (mid < t ∧ ¬ t < e) ∨ ¬ mid < t) with ⟨c5, c6⟩ | ⟨c5, c6⟩ | c5
            · have c5z : (mid : Int) < (t : Int) := by omega
              have c6z : (t : Int) < (e : Int) := by omega
              have L1 : Aside (Rw enc w0 b off (C ++ (X1 ++ (Y1 ++ (X2 ++ (Y2 ++ Q))))) wr) := N0.out (by omega) wr L0.out
              have L2 : Aside (Rw enc w0 b off (C ++ (mrg (ltOf cf) X1 Y1 ++ (X2 ++ (Y2 ++ Q)))) wr) := N1.out (by omega) wr L1.out
              have N1 := Lib.hid (N1.out (by omega))
              have K2 := Lib.hid (K2.out (by omega) (by omega))
              go_wp2_with (first | (go_at_fn 26; refine (K2.out _ L2.out).mono ?_; rintro r w3 ⟨rfl, hw⟩; have L3 := Lib.hid hw; clear hw))
              go_end0
              exact ⟨rfl, L3.out⟩
            · have c5z : (mid : Int) < (t : Int) := by omega
              have c6z : ¬ (t : Int) < (e : Int) := by omega
              have L1 : Aside (Rw enc w0 b off (C ++ (X1 ++ (Y1 ++ (X2 ++ (Y2 ++ Q))))) wr) := N0.out (by omega) wr L0.out
              have L2 : Aside (Rw enc w0 b off (C ++ (mrg (ltOf cf) X1 Y1 ++ (X2 ++ (Y2 ++ Q)))) wr) := N1.out (by omega) wr L1.out
              have L3 : Aside (Rw enc w0 b off (C ++ (mrg (ltOf cf) X Y ++ Q)) wr) := N2.out (by omega) wr L2.out
              have N1 := Lib.hid (N1.out (by omega))
              have N2 := Lib.hid (N2.out (by omega))
              go_wp2
              go_end0
              exact ⟨rfl, L3.out⟩
            · have c5z : ¬ (mid : Int) < (t : Int) := by omega
              have L1 : Aside (Rw enc w0 b off (C ++ (X1 ++ (Y1 ++ (X2 ++ (Y2 ++ Q))))) wr) := N0.out (by omega) wr L0.out
              have L2 : Aside (Rw enc w0 b off (C ++ (mrg (ltOf cf) X1 Y1 ++ (X2 ++ (Y2 ++ Q)))) wr) := N1.out (by omega) wr L1.out
              have L3 : Aside (Rw enc w0 b off (C ++ (mrg (ltOf cf) X Y ++ Q)) wr) := N2.out (by omega) wr L2.out
              have N1 := Lib.hid (N1.out (by omega))
              have N2 := Lib.hid (N2.out (by omega))
              go_wp2
              go_end0
              exact ⟨rfl, L3.out⟩
          · have c3z : ¬ (a : Int) < (j : Int) := by omega
            rcases (by omega : (mid < t ∧ t < e) ∨ (mid < t ∧ ¬ t < e) ∨ ¬ mid < t) with ⟨c5, c6⟩ | ⟨c5, c6⟩ | c5
            · have c5z : (mid : Int) < (t : Int) := by omega
              have c6z : (t : Int) < (e : Int) := by omega
              have L1 : Aside (Rw enc w0 b off (C ++ (X1 ++ (Y1 ++ (X2 ++ (Y2 ++ Q))))) wr) := N0.out (by omega) wr L0.out
              have L2 : Aside (Rw enc w0 b off (C ++ (mrg (ltOf cf) X1 Y1 ++ (X2 ++ (Y2 ++ Q)))) wr) := N1.out (by omega) wr L1.out
              have N1 := Lib.hid (N1.out (by omega))
              have K2 := Lib.hid (K2.out (by omega) (by omega))
              go_wp2_with (first | (go_at_fn 26; refine (K2.out _ L2.out).mono ?_; rintro r w3 ⟨rfl, hw⟩; have L3 := Lib.hid hw; clear hw))
              go_end0
              exact ⟨rfl, L3.out⟩
            · have c5z : (mid : Int) < (t : Int) := by omega
              have c6z : ¬ (t : Int) < (e : Int) := by omega
              have L1 : Aside (Rw enc w0 b off (C ++ (X1 ++ (Y1 ++ (X2 ++ (Y2 ++ Q))))) wr) := N0.out (by omega) wr L0.out
              have L2 : Aside (Rw enc w0 b off (C ++ (mrg (ltOf cf) X1 Y1 ++ (X2 ++ (Y2 ++ Q)))) wr) := N1.out (by omega) wr L1.out
              have L3 : Aside (Rw enc w0 b off (C ++ (mrg (ltOf cf) X Y ++ Q)) wr) := N2.out (by omega) wr L2.out
              have N1 := Lib.hid (N1.out (by omega))
              have N2 := Lib.hid (N2.out (by omega))
              go_wp2
              go_end0
              exact ⟨rfl, L3.out⟩
            · have c5z : ¬ (mid : Int) < (t : Int) := by omega
              have L1 : Aside (Rw enc w0 b off (C ++ (X1 ++ (Y1 ++ (X2 ++ (Y2 ++ Q))))) wr) := N0.out (by omega) wr L0.out
              have L2 : Aside (Rw enc w0 b off (C ++ (mrg (ltOf cf) X1 Y1 ++ (X2 ++ (Y2 ++ Q)))) wr) := N1.out (by omega) wr L1.out
              have L3 : Aside (Rw enc w0 b off (C ++ (mrg (ltOf cf) X Y ++ Q)) wr) := N2.out (by omega) wr L2.out
              have N1 := Lib.hid (N1.out (by omega))
              have N2 := Lib.hid (N2.out (by omega))
              go_wp2
              go_end0
              exact ⟨rfl, L3.out⟩
        · have c1z : ¬ (j : Int) < (m : Int) := by omega
          rcases (by omega : (a < j ∧ j < mid) ∨ (a < j ∧ ¬ j < mid) ∨ ¬ a < j) with ⟨c3, c4⟩ | ⟨c3, c4⟩ | c3
          · have c3z : (a : Int) < (j : Int) := by omega
            have c4z : (j : Int) < (mid : Int) := by omega
            rcases (by omega : (mid < t ∧ t < e) ∨ (mid < t ∧ ¬ t < e) ∨ ¬ mid < t) with ⟨c5, c6⟩ | ⟨c5, c6⟩ | c5
            · have c5z : (mid : Int) < (t : Int) := by omega
              have c6z : (t : Int) < (e : Int) := by omega
              have L1 : Aside (Rw enc w0 b off (C ++ (X1 ++ (Y1 ++ (X2 ++ (Y2 ++ Q))))) wr) := N0.out (by omega) wr L0.out
              have K1 := Lib.hid (K1.out (by omega) (by omega))
              have K2 := Lib.hid (K2.out (by omega) (by omega))
              go_wp2_with (first | (go_at_fn 26; refine (K1.out _ L1.out).mono ?_; rintro r w2 ⟨rfl, hw⟩; have L2 := Lib.hid hw; clear hw) | (go_at_fn 26; refine (K2.out _ L2.out).mono ?_; rintro r w3 ⟨rfl, hw⟩; have L3 := Lib.hid hw; clear hw))
              go_end0
              exact ⟨rfl, L3.out⟩
            · have c5z : (mid : Int) < (t : Int) := by omega
              have c6z : ¬ (t : Int) < (e : Int) := by omega
              have L1 : Aside (Rw enc w0 b off (C ++ (X1 ++ (Y1 ++ (X2 ++ (Y2 ++ Q))))) wr) := N0.out (by omega) wr L0.out
              have K1 := Lib.hid (K1.out (by omega) (by omega))
              have N2 := Lib.hid (N2.out (by omega))
              go_wp2_with (first | (go_at_fn 26; refine (K1.out _ L1.out).mono ?_; rintro r w2 ⟨rfl, hw⟩; have L2 := Lib.hid hw; clear hw))
              go_end0
              exact ⟨rfl, N2.out _ L2.out⟩
            · have c5z : ¬ (mid : Int) < (t : Int) := by omega
              have L1 : Aside (Rw enc w0 b off (C ++ (X1 ++ (Y1 ++ (X2 ++ (Y2 ++ Q))))) wr) := N0.out (by omega) wr L0.out
              have K1 := Lib.hid (K1.out (by omega) (by omega))
              have N2 := Lib.hid (N2.out (by omega))
              go_wp2_with (first | (go_at_fn 26; refine (K1.out _ L1.out).mono ?_; rintro r w2 ⟨rfl, hw⟩; have L2 := Lib.hid hw; clear hw))
              go_end0
              exact ⟨rfl, N2.out _ L2.out⟩
          · have c3z : (a : Int) < (j : Int) := by omega
            have c4z : ¬ (j : Int) < (mid : Int) := by omega
            rcases (by omega : (mid < t ∧ t < e) ∨ (mid < t ∧ ¬ t < e) ∨ ¬ mid < t) with ⟨c5, c6⟩ | ⟨c5, c6⟩ | c5
            · have c5z : (mid : Int) < (t : Int) := by omega
              have c6z : (t : Int) < (e : Int) := by omega
              have L1 : Aside (Rw enc w0 b off (C ++ (X1 ++ (Y1 ++ (X2 ++ (Y2 ++ Q))))) wr) := N0.out (by omega) wr L0.out
              have L2 : Aside (Rw enc w0 b off (C ++ (mrg (ltOf cf) X1 Y1 ++ (X2 ++ (Y2 ++ Q)))) wr) := N1.out (by omega) wr L1.out
              have N1 := Lib.hid (N1.out (by omega))
              have K2 := Lib.hid (K2.out (by omega) (by omega))
              go_wp2_with (first | (go_at_fn 26; refine (K2.out _ L2.out).mono ?_; rintro r w3 ⟨rfl, hw⟩; have L3 := Lib.hid hw; clear hw))
              go_end0
              exact ⟨rfl, L3.out⟩
            · have c5z : (mid : Int) < (t : Int) := by omega
              have c6z : ¬ (t : Int) < (e : Int) := by omega
              have L1 : Aside (Rw enc w0 b off (C ++ (X1 ++ (Y1 ++ (X2 ++ (Y2 ++ Q))))) wr) := N0.out (by omega) wr L0.out
              have L2 : Aside (Rw enc w0 b off (C ++ (mrg (ltOf cf) X1 Y1 ++ (X2 ++ (Y2 ++ Q)))) wr) := N1.out (by omega) wr L1.out
              have L3 : Aside (Rw enc w0 b off (C ++ (mrg (ltOf cf) X Y ++ Q)) wr) := N2.out (by omega) wr L2.out
              have N1 := Lib.hid (N1.out (by omega))
              have N2 := Lib.hid (N2.out (by omega))
              go_wp2
              go_end0
              exact ⟨rfl, L3.out⟩
            · have c5z : ¬ (mid : Int) < (t : Int) := by omega
              have L1 : Aside (Rw enc w0 b off (C ++ (X1 ++ (Y1 ++ (X2 ++ (Y2 ++ Q))))) wr) := N0.out (by omega) wr L0.out
              have L2 : Aside (Rw enc w0 b off (C ++ (mrg (ltOf cf) X1 Y1 ++ (X2 ++ (Y2 ++ Q)))) wr) := N1.out (by omega) wr L1.out
              have L3 : Aside (Rw enc w0 b off (C ++ (mrg (ltOf cf) X Y ++ Q)) wr) := N2.out (by omega) wr L2.out
              have N1 := Lib.hid (N1.out (by omega))
              have N2 := Lib.hid (N2.out (by omega))
              go_wp2
              go_end0
              exact ⟨rfl, L3.out⟩
          · have c3z : ¬ (a : Int) < (j : Int) := by omega
            rcases (by omega : (mid < t ∧ t < e) ∨ (mid < t ∧ ¬ t < e) ∨ ¬ mid < t) with ⟨c5, c6⟩ | ⟨c5, c6⟩ | c5
            · have c5z : (mid : Int) < (t : Int) := by omega
              have c6z : (t : Int) < (e : Int) := by omega
              have L1 : Aside (Rw enc w0 b off (C ++ (X1 ++ (Y1 ++ (X2 ++ (Y2 ++ Q))))) wr) := N0.out (by omega) wr L0.out
              have L2 : Aside (Rw enc w0 b off (C ++ (mrg (ltOf cf) X1 Y1 ++ (X2 ++ (Y2 ++ Q)))) wr) := N1.out (by omega) wr L1.out
              have N1 := Lib.hid (N1.out (by omega))
              have K2 := Lib.hid (K2.out (by omega) (by omega))
              go_wp2_with (first | (go_at_fn 26; refine (K2.out _ L2.out).mono ?_; rintro r w3 ⟨rfl, hw⟩; have L3 := Lib.hid hw; clear hw))
              go_end0
              exact ⟨rfl, L3.out⟩
            · have c5z : (mid : Int) < (t : Int) := by omega
              have c6z : ¬ (t : Int) < (e : Int) := by omega
              have L1 : Aside (Rw enc w0 b off (C ++ (X1 ++ (Y1 ++ (X2 ++ (Y2 ++ Q))))) wr) := N0.out (by omega) wr L0.out
              have L2 : Aside (Rw enc w0 b off (C ++ (mrg (ltOf cf) X1 Y1 ++ (X2 ++ (Y2 ++ Q)))) wr) := N1.out (by omega) wr L1.out
              have L3 : Aside (Rw enc w0 b off (C ++ (mrg (ltOf cf) X Y ++ Q)) wr) := N2.out (by omega) wr L2.out
              have N1 := Lib.hid (N1.out (by omega))
              have N2 := Lib.hid (N2.out (by omega))
              go_wp2
              go_end0
              exact ⟨rfl, L3.out⟩
            · have c5z : ¬ (mid : Int) < (t : Int) := by omega
              have L1 : Aside (Rw enc w0 b off (C ++ (X1 ++ (Y1 ++ (X2 ++ (Y2 ++ Q))))) wr) := N0.out (by omega) wr L0.out
              have L2 : Aside (Rw enc w0 b off (C ++ (mrg (ltOf cf) X1 Y1 ++ (X2 ++ (Y2 ++ Q)))) wr) := N1.out (by omega) wr L1.out
              have L3 : Aside (Rw enc w0 b off (C ++ (mrg (ltOf cf) X Y ++ Q)) wr) := N2.out (by omega) wr L2.out
              have N1 := Lib.hid (N1.out (by omega))
              have N2 := Lib.hid (N2.out (by omega))
              go_wp2
              go_end0
              exact ⟨rfl, L3.out⟩
  · have hmz2 : ¬ (mid : Int) < (m : Int) := by omega
    clear wst wst2
    have HE : Hid (s0 = a ∧ r0 = m) := Lib.hid (by exact ar2 hm)
    clear ar ar2
    go_enter FG, Try.ntmps26
    go_wp2
    clear wae wma wem wmm wp1 wp2 n1 n2
    go_loopg [20, 21] (e - a) (fun g s20 s21 wr => ∃ (i j : Nat), s20 = .int .i64 i ∧ s21 = .int .i64 j ∧ s0 ≤ i ∧ i ≤ j ∧ j ≤ r0 ∧ j - i ≤ g ∧ Hid ((s0 < i → ltOf cf Y[p + 1 - i - m]! X[i - 1 - a]! = false) ∧ (j < r0 → ltOf cf Y[p - j - m]! X[j - a]! = true)) ∧ Aside (Rw enc w0 b off (C ++ (X ++ (Y ++ Q))) wr))
    case atStart => exact ⟨a, m, rfl, rfl, by have := HE.out; omega, by have := HE.out; omega, by have := HE.out; omega, by have := HE.out; omega, ⟨fun h => by have := HE.out; omega, fun h => by have := HE.out; omega⟩, S0⟩
    case round =>
      obtain ⟨i, j, rfl, rfl, hmi, hij, hje, hg, HJ, S1⟩ := hrel
      clear S0
      by_cases hlt : i < j
      · have hltz : (i : Int) < (j : Int) := by omega
        obtain ⟨c, hh⟩ : ∃ c : Nat, c = (i + j) / 2 := ⟨_, rfl⟩
        have hhz : ((i : Int) + (j : Int)) / 2 = (c : Int) := by omega
        have hi1 : i ≤ c := by omega
        have hj1 : c < j := by omega
        clear hh
        obtain ⟨q, hq⟩ : ∃ q : Nat, q = p - c := ⟨_, rfl⟩
        have q1 : q + c = p := by omega
        have q2 : m ≤ q := by omega
        have q3 : q < e := by omega
        clear hq
        have wa : IntKind.i64.wrap ((i : Int) + (j : Int)) = (i : Int) + (j : Int) := by rw [IntKind.wrap_i64]; omega
        have wq : IntKind.i64.wrap ((p : Int) - (c : Int)) = (q : Int) := by rw [IntKind.wrap_i64]; omega
        have bq : (q : Int) < (N : Int) := by omega
        have bc : (c : Int) < (N : Int) := by omega
        have wh : IntKind.i64.wrap ((c : Int) + 1) = (c : Int) + 1 := by rw [IntKind.wrap_i64]; omega
        have hp := HP.out
        have hN := HN.out
        obtain ⟨U, x, V, r1, r2, r3⟩ := split_at X (c - a) (by omega)
        obtain ⟨U', y, V', r4, r5, r6⟩ := split_at Y (q - m) (by omega)
        have e1 : C ++ (X ++ (Y ++ Q)) = (C ++ U) ++ x :: (V ++ (Y ++ Q)) := by rw [r1]; simp
        have e2 : C ++ (X ++ (Y ++ Q)) = (C ++ X ++ U') ++ y :: (V' ++ Q) := by rw [r4]; simp
        have ln : (C ++ (X ++ (Y ++ Q))).length = N := by simp; omega
        have lc := S1.out.cl HR.out ln e1 c (by simp; omega)
        have lq := S1.out.cl HR.out ln e2 q (by simp; omega)
        have hcg : ∀ n' os', Calls P g (#[enc y, enc x] ++ cb) (grow (wr.drewN n') os') fun e w' => e = .returned (.int .i64 (cf y x)) ∧ ∃ q os'', w' = grow ((grow (wr.drewN n') os').drewN q) os'' := fun n' os' => S1.out.cmp HC.out (by simp; omega) y x n' os'
        by_cases hv : cf y x < 0
        · have hd : decide (cf y x < 0) = true := decide_eq_true hv
          have HJ2 : Hid ((s0 < i → ltOf cf Y[p + 1 - i - m]! X[i - 1 - a]! = false) ∧ (c < r0 → ltOf cf Y[p - c - m]! X[c - a]! = true)) := ⟨HJ.out.1, fun _ => by rw [show p - c - m = q - m by omega, r3, r6]; exact hd⟩
          clear hp hN r1 r2 r3 r4 r5 r6 e1 e2 ln HJ
          go_wp2_with fail
          go_quiet_grown (first | (go_at_fn g; refine Calls.grown_of (hcg _ _)))
          have S2 : Aside (Rw enc w0 b off (C ++ (X ++ (Y ++ Q))) (grow (wr.drewN nq) osq)) := S1.out.grown nq osq
          clear lc lq hcg S1
          generalize grow (wr.drewN nq) osq = w2 at S2 ⊢
          clear nq osq
          go_wp2
          go_roundg (c - i)
          case measure => omega
          case rel => exact ⟨i, c, rfl, rfl, by omega, by omega, by omega, Nat.le_refl _, HJ2, S2⟩
        · have hd : decide (cf y x < 0) = false := decide_eq_false hv
          have HJ2 : Hid ((s0 < c + 1 → ltOf cf Y[p + 1 - (c + 1) - m]! X[c + 1 - 1 - a]! = false) ∧ (j < r0 → ltOf cf Y[p - j - m]! X[j - a]! = true)) := ⟨fun _ => by rw [show p + 1 - (c + 1) - m = q - m by omega, show c + 1 - 1 - a = c - a by omega, r3, r6]; exact hd, HJ.out.2⟩
          clear hp hN r1 r2 r3 r4 r5 r6 e1 e2 ln HJ
          go_wp2_with fail
          go_quiet_grown (first | (go_at_fn g; refine Calls.grown_of (hcg _ _)))
          have S2 : Aside (Rw enc w0 b off (C ++ (X ++ (Y ++ Q))) (grow (wr.drewN nq) osq)) := S1.out.grown nq osq
          clear lc lq hcg S1
          generalize grow (wr.drewN nq) osq = w2 at S2 ⊢
          clear nq osq
          go_wp2
          go_roundg (j - (c + 1))
          case measure => omega
          case rel => exact ⟨c + 1, j, by go_num, rfl, by omega, by omega, hje, Nat.le_refl _, HJ2, S2⟩
      · have hltz : ¬ (i : Int) < (j : Int) := by omega
        obtain rfl : j = i := by omega
        obtain ⟨t, ht⟩ : ∃ t : Nat, t = p + 1 - j := ⟨_, rfl⟩
        have ht2 : t + j = p + 1 := by omega
        clear ht
        have wt : IntKind.i64.wrap ((p : Int) + 1 - (j : Int)) = (t : Int) := by rw [IntKind.wrap_i64]; omega
        have wt2 : (p : Int) + 1 - (j : Int) = (t : Int) := by omega
        have hp := HP.out
        have hN := HN.out
        have T : Aside (∃ X1 X2 Y1 Y2, X = X1 ++ X2 ∧ Y = Y1 ++ Y2 ∧ X1.length = j - a ∧ Y1.length = t - m ∧ mrg (ltOf cf) X Y = mrg (ltOf cf) X1 Y1 ++ mrg (ltOf cf) X2 Y2) := by
          obtain ⟨X1, X2, r1, r2, r3, r4⟩ := split_two X (j - a) (by omega)
          obtain ⟨Y1, Y2, r5, r6, r7, r8⟩ := split_two Y (t - m) (by omega)
          refine ⟨X1, X2, Y1, Y2, r1, r5, r2, r6, ?_⟩
          have h1 := HJ.out.1
          have h2 := HJ.out.2
          have hA := HA.out
          have lx := congrArg List.length r1
          have ly := congrArg List.length r5
          rw [List.length_append] at lx ly
          have b6 := b6.out
          rw [r1, r5] at hA ⊢
          refine cut_mrg HW.out X1 X2 Y1 Y2 hA.1 hA.2 (fun k1 k2 => ?_) (fun k1 k2 => ?_)
          · have := h1 (by omega)
            rw [show p + 1 - j - m = t - m by omega, r8 _ (Nat.le_refl _), Nat.sub_self, show j - 1 - a = X1.length - 1 by omega, r3 _ (by omega)] at this
            exact this
          · have := h2 (by omega)
            rw [r4 _ (Nat.le_refl _), Nat.sub_self, show p - j - m = Y1.length - 1 by omega, r7 _ (by omega)] at this
            exact this
        obtain ⟨X1, X2, Y1, Y2, r1, r5, r2, r6, r9⟩ := T.out
        have lx := congrArg List.length r1
        have ly := congrArg List.length r5
        rw [List.length_append] at lx ly
        have asX := HA.out.1
        have asY := HA.out.2
        rw [r1] at asX
        rw [r5] at asY
        have d1 := List.pairwise_append.1 asX
        have d2 := List.pairwise_append.1 asY
        have L0 : Aside (Rw enc w0 b off (C ++ (X1 ++ (X2 ++ (Y1 ++ (Y2 ++ Q))))) wr) := by
          have := S1.out
          rw [r1, r5] at this
          exact (by simpa using this : Rw enc w0 b off (C ++ (X1 ++ (X2 ++ (Y1 ++ (Y2 ++ Q))))) wr)
        have KR : Aside (j < m → m < t → ∀ W, Rw enc w0 b off (C ++ (X1 ++ (X2 ++ (Y1 ++ (Y2 ++ Q))))) W → Calls P 27 #[.slice (some ⟨b, off, none⟩) N cap, .int .i64 j, .int .i64 m, .int .i64 t, .func (.func g) #[] cb] W fun r w' => r = .returned (.tuple #[]) ∧ Rw enc w0 b off (C ++ (X1 ++ (Y1 ++ (X2 ++ (Y2 ++ Q))))) w') := by
          intro c1 c2 W hW
          have := rotate_ok HT.out HR.out (w := W) (cap := cap) (.func (.func g) #[] cb) hsz (C ++ X1) X2 Y1 (Y2 ++ Q) (by simp; omega) j m t (by simp; omega) (by omega) (by omega) (by intro h; subst h; simp at lx; omega) (by intro h; subst h; simp at ly r6; omega) (by simpa using hW)
          exact this.mono fun e w' h => ⟨h.1, by simpa using h.2⟩
        have K1 : Aside (a < j → j < mid → ∀ W, Rw enc w0 b off (C ++ (X1 ++ (Y1 ++ (X2 ++ (Y2 ++ Q))))) W → Calls P 26 #[.slice (some ⟨b, off, none⟩) N cap, .int .i64 a, .int .i64 j, .int .i64 mid, .func (.func g) #[] cb] W fun r w' => r = .returned (.tuple #[]) ∧ Rw enc w0 b off (C ++ (mrg (ltOf cf) X1 Y1 ++ (X2 ++ (Y2 ++ Q)))) w') := fun c1 c2 W hW =>
          HI.out W C X1 Y1 (X2 ++ (Y2 ++ Q)) (by omega) (by simp; omega) a j mid (by omega) (by omega) (by omega) (by omega) (by omega) d1.1 d2.1 hW
        have K2 : Aside (mid < t → t < e → ∀ W, Rw enc w0 b off (C ++ (mrg (ltOf cf) X1 Y1 ++ (X2 ++ (Y2 ++ Q)))) W → Calls P 26 #[.slice (some ⟨b, off, none⟩) N cap, .int .i64 mid, .int .i64 t, .int .i64 e, .func (.func g) #[] cb] W fun r w' => r = .returned (.tuple #[]) ∧ Rw enc w0 b off (C ++ (mrg (ltOf cf) X Y ++ Q)) w') := by
          intro c1 c2 W hW
          have := HI.out W (C ++ mrg (ltOf cf) X1 Y1) X2 Y2 Q (by omega) (by simp [mrg_len]; omega) mid t e (by simp [mrg_len]; omega) (by omega) (by omega) (by omega) (by omega) d1.2.1 d2.2.1 (by simpa using hW)
          exact this.mono fun e w' h => ⟨h.1, by rw [r9]; simpa using h.2⟩
        have N0 : Aside (¬ (j < m ∧ m < t) → ∀ W, Rw enc w0 b off (C ++ (X1 ++ (X2 ++ (Y1 ++ (Y2 ++ Q))))) W → Rw enc w0 b off (C ++ (X1 ++ (Y1 ++ (X2 ++ (Y2 ++ Q))))) W) := by
          intro c1 W hW
          rcases (by omega : X2.length = 0 ∨ Y1.length = 0) with h | h <;> obtain rfl := List.length_eq_zero_iff.1 h <;> simpa using hW
        have N1 : Aside (¬ (a < j ∧ j < mid) → ∀ W, Rw enc w0 b off (C ++ (X1 ++ (Y1 ++ (X2 ++ (Y2 ++ Q))))) W → Rw enc w0 b off (C ++ (mrg (ltOf cf) X1 Y1 ++ (X2 ++ (Y2 ++ Q)))) W) := by
          intro c1 W hW
          rcases (by omega : X1.length = 0 ∨ Y1.length = 0) with h | h <;> obtain rfl := List.length_eq_zero_iff.1 h <;> simpa using hW
        have N2 : Aside (¬ (mid < t ∧ t < e) → ∀ W, Rw enc w0 b off (C ++ (mrg (ltOf cf) X1 Y1 ++ (X2 ++ (Y2 ++ Q)))) W → Rw enc w0 b off (C ++ (mrg (ltOf cf) X Y ++ Q)) W) := by
          intro c1 W hW
          rw [r9]
          rcases (by omega : X2.length = 0 ∨ Y2.length = 0) with h | h <;> obtain rfl := List.length_eq_zero_iff.1 h <;> simpa using hW
        clear hp hN lx ly r1 r2 r5 r6 r9 asX asY d1 d2 T S1 HJ
        rcases (by omega : (j < m ∧ m < t) ∨ (j < m ∧ ¬ m < t) ∨ ¬ j < m) with ⟨c1, c2⟩ | ⟨c1, c2⟩ | c1
        · have c1z : (j : Int) < (m : Int) := by omega
          have c2z : (m : Int) < (t : Int) := by omega
          rcases (by omega : (a < j ∧ j < mid) ∨ (a < j ∧ ¬ j < mid) ∨ ¬ a < j) with ⟨c3, c4⟩ | ⟨c3, c4⟩ | c3
          · have c3z : (a : Int) < (j : Int) := by omega
            have c4z : (j : Int) < (mid : Int) := by omega
            rcases (by omega : (mid < t ∧ t < e) ∨ (mid < t ∧ ¬ t < e) ∨ ¬ mid < t) with ⟨c5, c6⟩ | ⟨c5, c6⟩ | c5
            · have c5z : (mid : Int) < (t : Int) := by omega
              have c6z : (t : Int) < (e : Int) := by omega
              have KR := Lib.hid (KR.out (by omega) (by omega))
              have K1 := Lib.hid (K1.out (by omega) (by omega))
              have K2 := Lib.hid (K2.out (by omega) (by omega))
              go_wp2_with (first | (go_at_fn 27; refine (KR.out _ L0.out).mono ?_; rintro r w1 ⟨rfl, hw⟩; have L1 := Lib.hid hw; clear hw) | (go_at_fn 26; refine (K1.out _ L1.out).mono ?_; rintro r w2 ⟨rfl, hw⟩; have L2 := Lib.hid hw; clear hw) | (go_at_fn 26; refine (K2.out _ L2.out).mono ?_; rintro r w3 ⟨rfl, hw⟩; have L3 := Lib.hid hw; clear hw))
              go_end0
              exact ⟨rfl, L3.out⟩
            · have c5z : (mid : Int) < (t : Int) := by omega
              have c6z : ¬ (t : Int) < (e : Int) := by omega
              have KR := Lib.hid (KR.out (by omega) (by omega))
              have K1 := Lib.hid (K1.out (by omega) (by omega))
              have N2 := Lib.hid (N2.out (by omega))
              go_wp2_with (first | (go_at_fn 27; refine (KR.out _ L0.out).mono ?_; rintro r w1 ⟨rfl, hw⟩; have L1 := Lib.hid hw; clear hw) | (go_at_fn 26; refine (K1.out _ L1.out).mono ?_; rintro r w2 ⟨rfl, hw⟩; have L2 := Lib.hid hw; clear hw))
              go_end0
              exact ⟨rfl, N2.out _ L2.out⟩
            · have c5z : ¬ (mid : Int) < (t : Int) := by omega
              have KR := Lib.hid (KR.out (by omega) (by omega))
              have K1 := Lib.hid (K1.out (by omega) (by omega))
              have N2 := Lib.hid (N2.out (by omega))
              go_wp2_with (first | (go_at_fn 27; refine (KR.out _ L0.out).mono ?_; rintro r w1 ⟨rfl, hw⟩; have L1 := Lib.hid hw; clear hw) | (go_at_fn 26; refine (K1.out _ L1.out).mono ?_; rintro r w2 ⟨rfl, hw⟩; have L2 := Lib.hid hw; clear hw))
              go_end0
              exact ⟨rfl, N2.out _ L2.out⟩
          · have c3z : (a : Int) < (j : Int) := by omega
            have c4z : ¬ (j : Int) < (mid : Int) := by omega
            rcases (by omega : (mid < t ∧ t < e) ∨ (mid < t ∧ ¬ t < e) ∨ ¬ mid < t) with ⟨c5, c6⟩ | ⟨c5, c6⟩ | c5
            · have c5z : (mid : Int) < (t : Int) := by omega
              have c6z : (t : Int) < (e : Int) := by omega
              have KR := Lib.hid (KR.out (by omega) (by omega))
              have N1 := Lib.hid (N1.out (by omega))
              have K2 := Lib.hid (K2.out (by omega) (by omega))
              go_wp2_with (first | (go_at_fn 27; refine (KR.out _ L0.out).mono ?_; rintro r w1 ⟨rfl, hw⟩; have L1 := Lib.hid (N1.out _ hw); clear hw) | (go_at_fn 26; refine (K2.out _ L1.out).mono ?_; rintro r w3 ⟨rfl, hw⟩; have L3 := Lib.hid hw; clear hw))
              go_end0
              exact ⟨rfl, L3.out⟩
            · have c5z : (mid : Int) < (t : Int) := by omega
              have c6z : ¬ (t : Int) < (e : Int) := by omega
              have KR := Lib.hid (KR.out (by omega) (by omega))
              have N1 := Lib.hid (N1.out (by omega))
              have N2 := Lib.hid (N2.out (by omega))
              go_wp2_with (first | (go_at_fn 27; refine (KR.out _ L0.out).mono ?_; rintro r w1 ⟨rfl, hw⟩; have L1 := Lib.hid (N1.out _ hw); clear hw))
              go_end0
              exact ⟨rfl, N2.out _ L1.out⟩
            · have c5z : ¬ (mid : Int) < (t : Int) := by omega
              have KR := Lib.hid (KR.out (by omega) (by omega))
              have N1 := Lib.hid (N1.out (by omega))
              have N2 := Lib.hid (N2.out (by omega))
              go_wp2_with (first | (go_at_fn 27; refine (KR.out _ L0.out).mono ?_; rintro r w1 ⟨rfl, hw⟩; have L1 := Lib.hid (N1.out _ hw); clear hw))
              go_end0
              exact ⟨rfl, N2.out _ L1.out⟩
          · have c3z : ¬ (a : Int) < (j : Int) := by omega
            rcases (by omega : (mid < t ∧ t < e) ∨ (mid < t ∧ ¬ t < e) ∨ ¬ mid < t) with ⟨c5, c6⟩ | ⟨c5, c6⟩ | c5
            · have c5z : (mid : Int) < (t : Int) := by omega
              have c6z : (t : Int) < (e : Int) := by omega
              have KR := Lib.hid (KR.out (by omega) (by omega))
              have N1 := Lib.hid (N1.out (by omega))
              have K2 := Lib.hid (K2.out (by omega) (by omega))
              go_wp2_with (first | (go_at_fn 27; refine (KR.out _ L0.out).mono ?_; rintro r w1 ⟨rfl, hw⟩; have L1 := Lib.hid (N1.out _ hw); clear hw) | (go_at_fn 26; refine (K2.out _ L1.out).mono ?_; rintro r w3 ⟨rfl, hw⟩; have L3 := Lib.hid hw; clear hw))
              go_end0
              exact ⟨rfl, L3.out⟩
            · have c5z : (mid : Int) < (t : Int) := by omega
              have c6z : ¬ (t : Int) < (e : Int) := by omega
              have KR := Lib.hid (KR.out (by omega) (by omega))
              have N1 := Lib.hid (N1.out (by omega))
              have N2 := Lib.hid (N2.out (by omega))
              go_wp2_with (first | (go_at_fn 27; refine (KR.out _ L0.out).mono ?_; rintro r w1 ⟨rfl, hw⟩; have L1 := Lib.hid (N1.out _ hw); clear hw))
              go_end0
              exact ⟨rfl, N2.out _ L1.out⟩
            · have c5z : ¬ (mid : Int) < (t : Int) := by omega
              have KR := Lib.hid (KR.out (by omega) (by omega))
              have N1 := Lib.hid (N1.out (by omega))
              have N2 := Lib.hid (N2.out (by omega))
              go_wp2_with (first | (go_at_fn 27; refine (KR.out _ L0.out).mono ?_; rintro r w1 ⟨rfl, hw⟩; have L1 := Lib.hid (N1.out _ hw); clear hw))
              go_end0
              exact ⟨rfl, N2.out _ L1.out⟩
        · have c1z : (j : Int) < (m : Int) := by omega
          have c2z : ¬ (m : Int) < (t : Int) := by omega
          rcases (by omega : (a < j ∧ j < mid) ∨ (a < j ∧ ¬ j < mid) ∨ ¬ a < j) with ⟨c3, c4⟩ | ⟨c3, c4⟩ | c3
          · have c3z : (a : Int) < (j : Int) := by omega
            have c4z : (j : Int) < (mid : Int) := by omega
            rcases (by omega : (mid < t ∧ t < e) ∨ (mid < t ∧ ¬ t < e) ∨ ¬ mid < t) with ⟨c5, c6⟩ | ⟨c5, c6⟩ | c5
            · have c5z : (mid : Int) < (t : Int) := by omega
              have c6z : (t : Int) < (e : Int) := by omega
              have L1 : Aside (Rw enc w0 b off (C ++ (X1 ++ (Y1 ++ (X2 ++ (Y2 ++ Q))))) wr) := N0.out (by omega) wr L0.out
              have K1 := Lib.hid (K1.out (by omega) (by omega))
              have K2 := Lib.hid (K2.out (by omega) (by omega))
              go_wp2_with (first | (go_at_fn 26; refine (K1.out _ L1.out).mono ?_; rintro r w2 ⟨rfl, hw⟩; have L2 := Lib.hid hw; clear hw) | (go_at_fn 26; refine (K2.out _ L2.out).mono ?_; rintro r w3 ⟨rfl, hw⟩; have L3 := Lib.hid hw; clear hw))
              go_end0
              exact ⟨rfl, L3.out⟩
            · have c5z : (mid : Int) < (t : Int) := by omega
              have c6z : ¬ (t : Int) < (e : Int) := by omega
              have L1 : Aside (Rw enc w0 b off (C ++ (X1 ++ (Y1 ++ (X2 ++ (Y2 ++ Q))))) wr) := N0.out (by omega) wr L0.out
              have K1 := Lib.hid (K1.out (by omega) (by omega))
              have N2 := Lib.hid (N2.out (by omega))
              go_wp2_with (first | (go_at_fn 26; refine (K1.out _ L1.out).mono ?_; rintro r w2 ⟨rfl, hw⟩; have L2 := Lib.hid hw; clear hw))
              go_end0
              exact ⟨rfl, N2.out _ L2.out⟩
            · have c5z : ¬ (mid : Int) < (t : Int) := by omega
              have L1 : Aside (Rw enc w0 b off (C ++ (X1 ++ (Y1 ++ (X2 ++ (Y2 ++ Q))))) wr) := N0.out (by omega) wr L0.out
              have K1 := Lib.hid (K1.out (by omega) (by omega))
              have N2 := Lib.hid (N2.out (by omega))
              go_wp2_with (first | (go_at_fn 26; refine (K1.out _ L1.out).mono ?_; rintro r w2 ⟨rfl, hw⟩; have L2 := Lib.hid hw; clear hw))
              go_end0
              exact ⟨rfl, N2.out _ L2.out⟩
          · have c3z : (a : Int) < (j : Int) := by omega
            have c4z : ¬ (j : Int) < (mid : Int) := by omega
            rcases (by omega : (mid < t ∧ t < e) ∨ (mid < t ∧ ¬ t < e) ∨ ¬ mid < t) with ⟨c5, c6⟩ | ⟨c5, c6⟩ | c5
            · have c5z : (mid : Int) < (t : Int) := by omega
              have c6z : (t : Int) < (e : Int) := by omega
              have L1 : Aside (Rw enc w0 b off (C ++ (X1 ++ (Y1 ++ (X2 ++ (Y2 ++ Q))))) wr) := N0.out (by omega) wr L0.out
              have L2 : Aside (Rw enc w0 b off (C ++ (mrg (ltOf cf) X1 Y1 ++ (X2 ++ (Y2 ++ Q)))) wr) := N1.out (by omega) wr L1.out
              have N1 := Lib.hid (N1.out (by omega))
              have K2 := Lib.hid (K2.out (by omega) (by omega))
              go_wp2_with (first | (go_at_fn 26; refine (K2.out _ L2.out).mono ?_; rintro r w3 ⟨rfl, hw⟩; have L3 := Lib.hid hw; clear hw))
              go_end0
              exact ⟨rfl, L3.out⟩
            · have c5z : (mid : Int) < (t : Int) := by omega
              have c6z : ¬ (t : Int) < (e : Int) := by omega
              have L1 : Aside (Rw enc w0 b off (C ++ (X1 ++ (Y1 ++ (X2 ++ (Y2 ++ Q))))) wr) := N0.out (by omega) wr L0.out
              have L2 : Aside (Rw enc w0 b off (C ++ (mrg (ltOf cf) X1 Y1 ++ (X2 ++ (Y2 ++ Q)))) wr) := N1.out (by omega) wr L1.out
              have L3 : Aside (Rw enc w0 b off (C ++ (mrg (ltOf cf) X Y ++ Q)) wr) := N2.out (by omega) wr L2.out
              have N1 := Lib.hid (N1.out (by omega))
              have N2 := Lib.hid (N2.out (by omega))
              go_wp2
              go_end0
              exact ⟨rfl, L3.out⟩
            · have c5z : ¬ (mid : Int) < (t : Int) := by omega
              have L1 : Aside (Rw enc w0 b off (C ++ (X1 ++ (Y1 ++ (X2 ++ (Y2 ++ Q))))) wr) := N0.out (by omega) wr L0.out
              have L2 : Aside (Rw enc w0 b off (C ++ (mrg (ltOf cf) X1 Y1 ++ (X2 ++ (Y2 ++ Q)))) wr) := N1.out (by omega) wr L1.out
              have L3 : Aside (Rw enc w0 b off (C ++ (mrg (ltOf cf) X Y ++ Q)) wr) := N2.out (by omega) wr L2.out
              have N1 := Lib.hid (N1.out (by omega))
              have N2 := Lib.hid (N2.out (by omega))
              go_wp2
              go_end0
              exact ⟨rfl, L3.out⟩
          · have c3z : ¬ (a : Int) < (j : Int) := by omega
            rcases (by omega : (mid < t ∧ t < e) ∨ (mid < t ∧ ¬ t < e) ∨ ¬ mid < t) with ⟨c5, c6⟩ | ⟨c5, c6⟩ | c5
            · have c5z : (mid : Int) < (t : Int) := by omega
              have c6z : (t : Int) < (e : Int) := by omega
              have L1 : Aside (Rw enc w0 b off (C ++ (X1 ++ (Y1 ++ (X2 ++ (Y2 ++ Q))))) wr) := N0.out (by omega) wr L0.out
              have L2 : Aside (Rw enc w0 b off (C ++ (mrg (ltOf cf) X1 Y1 ++ (X2 ++ (Y2 ++ Q)))) wr) := N1.out (by omega) wr L1.out
              have N1 := Lib.hid (N1.out (by omega))
              have K2 := Lib.hid (K2.out (by omega) (by omega))
              go_wp2_with (first | (go_at_fn 26; refine (K2.out _ L2.out).mono ?_; rintro r w3 ⟨rfl, hw⟩; have L3 := Lib.hid hw; clear hw))
              go_end0
              exact ⟨rfl, L3.out⟩
            · have c5z : (mid : Int) < (t : Int) := by omega
              have c6z : ¬ (t : Int) < (e : Int) := by omega
              have L1 : Aside (Rw enc w0 b off (C ++ (X1 ++ (Y1 ++ (X2 ++ (Y2 ++ Q))))) wr) := N0.out (by omega) wr L0.out
              have L2 : Aside (Rw enc w0 b off (C ++ (mrg (ltOf cf) X1 Y1 ++ (X2 ++ (Y2 ++ Q)))) wr) := N1.out (by omega) wr L1.out
              have L3 : Aside (Rw enc w0 b off (C ++ (mrg (ltOf cf) X Y ++ Q)) wr) := N2.out (by omega) wr L2.out
              have N1 := Lib.hid (N1.out (by omega))
              have N2 := Lib.hid (N2.out (by omega))
              go_wp2
              go_end0
              exact ⟨rfl, L3.out⟩
            · have c5z : ¬ (mid : Int) < (t : Int) := by omega
              have L1 : Aside (Rw enc w0 b off (C ++ (X1 ++ (Y1 ++ (X2 ++ (Y2 ++ Q))))) wr) := N0.out (by omega) wr L0.out
              have L2 : Aside (Rw enc w0 b off (C ++ (mrg (ltOf cf) X1 Y1 ++ (X2 ++ (Y2 ++ Q)))) wr) := N1.out (by omega) wr L1.out
              have L3 : Aside (Rw enc w0 b off (C ++ (mrg (ltOf cf) X Y ++ Q)) wr) := N2.out (by omega) wr L2.out
              have N1 := Lib.hid (N1.out (by omega))
              have N2 := Lib.hid (N2.out (by omega))
              go_wp2
              go_end0
              exact ⟨rfl, L3.out⟩
        · have c1z : ¬ (j : Int) < (m : Int) := by omega
          rcases (by omega : (a < j ∧ j < mid) ∨ (a < j ∧ ¬ j < mid) ∨ ¬ a < j) with ⟨c3, c4⟩ | ⟨c3, c4⟩ | c3
          · have c3z : (a : Int) < (j : Int) := by omega
            have c4z : (j : Int) < (mid : Int) := by omega
            rcases (by omega : (mid < t ∧ t < e) ∨ (mid < t ∧ ¬ t < e) ∨ ¬ mid < t) with ⟨c5, c6⟩ | ⟨c5, c6⟩ | c5
            · have c5z : (mid : Int) < (t : Int) := by omega
              have c6z : (t : Int) < (e : Int) := by omega
              have L1 : Aside (Rw enc w0 b off (C ++ (X1 ++ (Y1 ++ (X2 ++ (Y2 ++ Q))))) wr) := N0.out (by omega) wr L0.out
              have K1 := Lib.hid (K1.out (by omega) (by omega))
              have K2 := Lib.hid (K2.out (by omega) (by omega))
              go_wp2_with (first | (go_at_fn 26; refine (K1.out _ L1.out).mono ?_; rintro r w2 ⟨rfl, hw⟩; have L2 := Lib.hid hw; clear hw) | (go_at_fn 26; refine (K2.out _ L2.out).mono ?_; rintro r w3 ⟨rfl, hw⟩; have L3 := Lib.hid hw; clear hw))
              go_end0
              exact ⟨rfl, L3.out⟩
            · have c5z : (mid : Int) < (t : Int) := by omega
              have c6z : ¬ (t : Int) < (e : Int) := by omega
              have L1 : Aside (Rw enc w0 b off (C ++ (X1 ++ (Y1 ++ (X2 ++ (Y2 ++ Q))))) wr) := N0.out (by omega) wr L0.out
              have K1 := Lib.hid (K1.out (by omega) (by omega))
              have N2 := Lib.hid (N2.out (by omega))
              go_wp2_with (first | (go_at_fn 26; refine (K1.out _ L1.out).mono ?_; rintro r w2 ⟨rfl, hw⟩; have L2 := Lib.hid hw; clear hw))
              go_end0
              exact ⟨rfl, N2.out _ L2.out⟩
            · have c5z : ¬ (mid : Int) < (t : Int) := by omega
              have L1 : Aside (Rw enc w0 b off (C ++ (X1 ++ (Y1 ++ (X2 ++ (Y2 ++ Q))))) wr) := N0.out (by omega) wr L0.out
              have K1 := Lib.hid (K1.out (by omega) (by omega))
              have N2 := Lib.hid (N2.out (by omega))
              go_wp2_with (first | (go_at_fn 26; refine (K1.out _ L1.out).mono ?_; rintro r w2 ⟨rfl, hw⟩; have L2 := Lib.hid hw; clear hw))
              go_end0
              exact ⟨rfl, N2.out _ L2.out⟩
          · have c3z : (a : Int) < (j : Int) := by omega
            have c4z : ¬ (j : Int) < (mid : Int) := by omega
            rcases (by omega : (mid < t ∧ t < e) ∨ (mid < t ∧ ¬ t < e) ∨ ¬ mid < t) with ⟨c5, c6⟩ | ⟨c5, c6⟩ | c5
            · have c5z : (mid : Int) < (t : Int) := by omega
              have c6z : (t : Int) < (e : Int) := by omega
              have L1 : Aside (Rw enc w0 b off (C ++ (X1 ++ (Y1 ++ (X2 ++ (Y2 ++ Q))))) wr) := N0.out (by omega) wr L0.out
              have L2 : Aside (Rw enc w0 b off (C ++ (mrg (ltOf cf) X1 Y1 ++ (X2 ++ (Y2 ++ Q)))) wr) := N1.out (by omega) wr L1.out
              have N1 := Lib.hid (N1.out (by omega))
              have K2 := Lib.hid (K2.out (by omega) (by omega))
              go_wp2_with (first | (go_at_fn 26; refine (K2.out _ L2.out).mono ?_; rintro r w3 ⟨rfl, hw⟩; have L3 := Lib.hid hw; clear hw))
              go_end0
              exact ⟨rfl, L3.out⟩
            · have c5z : (mid : Int) < (t : Int) := by omega
              have c6z : ¬ (t : Int) < (e : Int) := by omega
              have L1 : Aside (Rw enc w0 b off (C ++ (X1 ++ (Y1 ++ (X2 ++ (Y2 ++ Q))))) wr) := N0.out (by omega) wr L0.out
              have L2 : Aside (Rw enc w0 b off (C ++ (mrg (ltOf cf) X1 Y1 ++ (X2 ++ (Y2 ++ Q)))) wr) := N1.out (by omega) wr L1.out
              have L3 : Aside (Rw enc w0 b off (C ++ (mrg (ltOf cf) X Y ++ Q)) wr) := N2.out (by omega) wr L2.out
              have N1 := Lib.hid (N1.out (by omega))
              have N2 := Lib.hid (N2.out (by omega))
              go_wp2
              go_end0
              exact ⟨rfl, L3.out⟩
            · have c5z : ¬ (mid : Int) < (t : Int) := by omega
              have L1 : Aside (Rw enc w0 b off (C ++ (X1 ++ (Y1 ++ (X2 ++ (Y2 ++ Q))))) wr) := N0.out (by omega) wr L0.out
              have L2 : Aside (Rw enc w0 b off (C ++ (mrg (ltOf cf) X1 Y1 ++ (X2 ++ (Y2 ++ Q)))) wr) := N1.out (by omega) wr L1.out
              have L3 : Aside (Rw enc w0 b off (C ++ (mrg (ltOf cf) X Y ++ Q)) wr) := N2.out (by omega) wr L2.out
              have N1 := Lib.hid (N1.out (by omega))
              have N2 := Lib.hid (N2.out (by omega))
              go_wp2
              go_end0
              exact ⟨rfl, L3.out⟩
          · have c3z : ¬ (a : Int) < (j : Int) := by omega
            rcases (by omega : (mid < t ∧ t < e) ∨ (mid < t ∧ ¬ t < e) ∨ ¬ mid < t) with ⟨c5, c6⟩ | ⟨c5, c6⟩ | c5
            · have c5z : (mid : Int) < (t : Int) := by omega
              have c6z : (t : Int) < (e : Int) := by omega
              have L1 : Aside (Rw enc w0 b off (C ++ (X1 ++ (Y1 ++ (X2 ++ (Y2 ++ Q))))) wr) := N0.out (by omega) wr L0.out
              have L2 : Aside (Rw enc w0 b off (C ++ (mrg (ltOf cf) X1 Y1 ++ (X2 ++ (Y2 ++ Q)))) wr) := N1.out (by omega) wr L1.out
              have N1 := Lib.hid (N1.out (by omega))
              have K2 := Lib.hid (K2.out (by omega) (by omega))
              go_wp2_with (first | (go_at_fn 26; refine (K2.out _ L2.out).mono ?_; rintro r w3 ⟨rfl, hw⟩; have L3 := Lib.hid hw; clear hw))
              go_end0
              exact ⟨rfl, L3.out⟩
            · have c5z : (mid : Int) < (t : Int) := by omega
              have c6z : ¬ (t : Int) < (e : Int) := by omega
              have L1 : Aside (Rw enc w0 b off (C ++ (X1 ++ (Y1 ++ (X2 ++ (Y2 ++ Q))))) wr) := N0.out (by omega) wr L0.out
              have L2 : Aside (Rw enc w0 b off (C ++ (mrg (ltOf cf) X1 Y1 ++ (X2 ++ (Y2 ++ Q)))) wr) := N1.out (by omega) wr L1.out
              have L3 : Aside (Rw enc w0 b off (C ++ (mrg (ltOf cf) X Y ++ Q)) wr) := N2.out (by omega) wr L2.out
              have N1 := Lib.hid (N1.out (by omega))
              have N2 := Lib.hid (N2.out (by omega))
              go_wp2
              go_end0
              exact ⟨rfl, L3.out⟩
            · have c5z : ¬ (mid : Int) < (t : Int) := by omega
              have L1 : Aside (Rw enc w0 b off (C ++ (X1 ++ (Y1 ++ (X2 ++ (Y2 ++ Q))))) wr) := N0.out (by omega) wr L0.out
              have L2 : Aside (Rw enc w0 b off (C ++ (mrg (ltOf cf) X1 Y1 ++ (X2 ++ (Y2 ++ Q)))) wr) := N1.out (by omega) wr L1.out
              have L3 : Aside (Rw enc w0 b off (C ++ (mrg (ltOf cf) X Y ++ Q)) wr) := N2.out (by omega) wr L2.out
              have N1 := Lib.hid (N1.out (by omega))
              have N2 := Lib.hid (N2.out (by omega))
              go_wp2
              go_end0
              exact ⟨rfl, L3.out⟩

/-- the contract of symMerge -/
theorem sym_ok (L : SP P) {cf : α → α → Int} (SW : SWO (ltOf cf)) {g : Nat} {cb : Array Value} {w0 : World} {b off N cap : Nat} (hcmp : Cmps P g cb enc cf w0 b off N) (eg : ∀ args w, (callFunc g args).run P w = .ok (.enter g args) w)
    (R : Rk enc w0 b off N) (hsz : N < 4611686018427387904) : ∀ F, SymAt P enc cf g cb w0 b off N cap F := by
  intro F
  induction F with
  | zero => intro w C X Y Q h _ a m e _ _ _ hx; omega
  | succ F ih =>
    intro w C X Y Q hF hN a m e hp hq hn hx hy aX aY S
    by_cases h1 : X.length = 1
    · obtain ⟨x, rfl⟩ := List.length_eq_one_iff.1 h1
      exact sym_left L SW hcmp eg R hsz C x Y Q hN a m e hp hq hn aY S
    by_cases h2 : Y.length = 1
    · obtain ⟨y, rfl⟩ := List.length_eq_one_iff.1 h2
      exact sym_right L SW hcmp eg R hsz C X y Q hN a m e hp hq hn (by omega) aX S
    exact sym_gen L SW hcmp eg R hsz ih C X Y Q hF hN a m e hp hq hn (by omega) (by omega) aX aY S
end Si
end Go.Proofs.Ytomdgeenmmgmaaa
