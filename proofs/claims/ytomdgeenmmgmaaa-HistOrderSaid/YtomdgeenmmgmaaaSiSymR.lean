/-
  slices.symMergeCmpFunc over a row of numbers, where the second part has one element: it is put in.
-/
import Derived.Test.YtomdgeenmmgmaaaSiSymL
namespace Go.Proofs.Ytomdgeenmmgmaaa
open Go.ChangeShapes Go.WideShapes Go.ChangeAt Go.RowKit Go.Sort Go.Lib Go.Shelf
namespace Si
open Srt
set_option linter.unusedVariables false
theorem lt_behind {α : Type} {lt : α → α → Bool} (S : SWO lt) {y z v : α} (h : lt v z = false) (k : lt y z = true) : lt y v = true := by
  cases e : lt y v with
  | true => rfl
  | false => rw [S.ntrans _ _ _ e h] at k; cases k

variable {P : Program} {α : Type} [Inhabited α] {enc : α → Value}

set_option maxHeartbeats 4000000 in
set_option maxRecDepth 1000000 in
theorem sym_right (L : SP P) {cf : α → α → Int} (SW : SWO (ltOf cf)) {g : Nat} {cb : Array Value} {w0 w : World} {b off N cap : Nat} (hcmp : Cmps P g cb enc cf w0 b off N) (eg : ∀ args w, (callFunc g args).run P w = .ok (.enter g args) w)
    (R : Rk enc w0 b off N) (hsz : N < 4611686018427387904) (C X : List α) (y : α) (Q : List α) (hN : (C ++ (X ++ (y :: Q))).length = N)
    (a m e : Nat) (hp : a = C.length) (hq : m = a + X.length) (hn : e = m + 1) (hX1 : 2 ≤ X.length) (hX : Asc (ltOf cf) X) (S : Rw enc w0 b off (C ++ (X ++ (y :: Q))) w) :
    Calls P 26 #[.slice (some ⟨b, off, none⟩) N cap, .int .i64 a, .int .i64 m, .int .i64 e, .func (.func g) #[] cb] w fun r w' =>
      r = .returned (.tuple #[]) ∧ Rw enc w0 b off (C ++ (mrg (ltOf cf) X [y] ++ Q)) w' := by
  have mixed := L.mixed; have t0 := L.t0; have a0 := L.a0; have z0 := L.z0; have v0 := L.v0; have t3 := L.t3; have a3 := L.a3; have z3 := L.z3; have v3 := L.v3; have t4 := L.t4; have a4 := L.a4; have z4 := L.z4; have v4 := L.v4; have t26 := L.t26; have a26 := L.a26; have z26 := L.z26; have v26 := L.v26; have t51 := L.t51; have a51 := L.a51; have z51 := L.z51; have v51 := L.v51; have t62 := L.t62; have a62 := L.a62; have z62 := L.z62; have v62 := L.v62; have u26 := run_underlying L.t26; have FG := L.fSym
  have u0 := run_underlying L.t0; have u3 := run_underlying L.t3; have u4 := run_underlying L.t4; have u62 := run_underlying L.t62
  have hcl0 := R.cells
  simp only [Value.cells] at hcl0
  have hst := R.hO.store P
  have S0 : Aside (Rw enc w0 b off (C ++ (X ++ (y :: Q))) w) := S
  have HC : Aside (Cmps P g cb enc cf w0 b off N) := hcmp
  have HW : Hid (SWO (ltOf cf)) := SW
  have HX : Hid (Asc (ltOf cf) X) := hX
  have HR : Hid (Rk enc w0 b off N) := R
  have HN : Hid (C.length + 1 + X.length + Q.length = N) := Lib.hid (by simp at hN; omega)
  have HP : Hid (a = C.length ∧ m = a + X.length ∧ e = m + 1) := ⟨hp, hq, hn⟩
  have w1 : IntKind.i64.wrap ((e : Int) - (m : Int)) = 1 := by rw [IntKind.wrap_i64]; omega
  have w2 : IntKind.i64.wrap ((m : Int) - (a : Int)) = ((m - a : Nat) : Int) := by rw [IntKind.wrap_i64]; have := HN.out; omega
  have w4 : (((m - a : Nat) : Int) == 1) = false := by rw [beq_eq_false_iff_ne]; omega
  have ham : a ≤ m := by omega
  have hmN : m < N := by have := HN.out; omega
  clear S hN R hp hq hn hX hX1 L hcmp SW
  go_enter FG, Try.ntmps26
  go_wp2
  clear w1 w2 w4
  go_loopg [14, 15] (m - a) (fun g s10 s11 wr => ∃ (i j : Nat), s10 = .int .i64 i ∧ s11 = .int .i64 j ∧ a ≤ i ∧ i ≤ j ∧ j ≤ m ∧ j - i ≤ g ∧ Aside (∃ X1 Xm X2, X = X1 ++ (Xm ++ X2) ∧ i = a + X1.length ∧ j = i + Xm.length ∧ (∀ x ∈ X1, ltOf cf y x = false) ∧ (∀ x ∈ X2, ltOf cf y x = true)) ∧ Aside (Rw enc w0 b off (C ++ (X ++ (y :: Q))) wr))
  case atStart => exact ⟨a, m, rfl, rfl, Nat.le_refl _, ham, Nat.le_refl _, Nat.le_refl _, (⟨[], X, [], by simp, by simp, HP.out.2.1, by simp, by simp⟩ : ∃ X1 Xm X2, X = X1 ++ (Xm ++ X2) ∧ a = a + X1.length ∧ m = a + Xm.length ∧ (∀ x ∈ X1, ltOf cf y x = false) ∧ (∀ x ∈ X2, ltOf cf y x = true)), S0⟩
  case round =>
    obtain ⟨i, j, rfl, rfl, hmi, hij, hje, hg, HI, S1⟩ := hrel
    clear S0
    by_cases hlt : i < j
    · have hltz : (i : Int) < (j : Int) := by omega
      obtain ⟨h, hh⟩ : ∃ h : Nat, h = (i + j) / 2 := ⟨_, rfl⟩
      have hhz : ((i : Int) + (j : Int)) / 2 = (h : Int) := by omega
      have hi1 : i ≤ h := by omega
      have hj1 : h < j := by omega
      have wa : IntKind.i64.wrap ((i : Int) + (j : Int)) = (i : Int) + (j : Int) := by rw [IntKind.wrap_i64]; omega
      have bh : (h : Int) < (N : Int) := by omega
      have ba : (m : Int) < (N : Int) := by omega
      have wh : IntKind.i64.wrap ((h : Int) + 1) = (h : Int) + 1 := by rw [IntKind.wrap_i64]; omega
      clear hh
      obtain ⟨X1, Xm, X2, q1, q2, q3, q4, q5⟩ := HI.out
      obtain ⟨U, z, V, r1, r2, -⟩ := split_at Xm (h - i) (by omega)
      have hp := HP.out
      have hN := HN.out
      have asc : Asc (ltOf cf) (U ++ z :: V) := by
        have := HX.out
        rw [q1, r1] at this
        exact (List.pairwise_append.1 (List.pairwise_append.1 this).2.1).1
      have e1 : C ++ (X ++ (y :: Q)) = (C ++ (X1 ++ U)) ++ z :: (V ++ X2 ++ (y :: Q)) := by rw [q1, r1]; simp
      have lh := S1.out.cl HR.out (by simp; omega) e1 h (by simp; omega)
      have la := S1.out.cl HR.out (by simp; omega) (by simp : C ++ (X ++ (y :: Q)) = (C ++ X) ++ y :: Q) m (by simp; omega)
      have hcg : ∀ n' os', Calls P g (#[enc y, enc z] ++ cb) (grow (wr.drewN n') os') fun e w' => e = .returned (.int .i64 (cf y z)) ∧ ∃ q os'', w' = grow ((grow (wr.drewN n') os').drewN q) os'' := fun n' os' => S1.out.cmp HC.out (by simp; omega) y z n' os'
      have am := asc_mid asc
      by_cases hv : cf y z < 0
      · have hd : decide (cf y z < 0) = true := decide_eq_true hv
        have HI2 : Aside (∃ X1 Xm X2, X = X1 ++ (Xm ++ X2) ∧ i = a + X1.length ∧ h = i + Xm.length ∧ (∀ x ∈ X1, ltOf cf y x = false) ∧ (∀ x ∈ X2, ltOf cf y x = true)) := by
          refine ⟨X1, U, z :: (V ++ X2), by rw [q1, r1]; simp, q2, by omega, q4, ?_⟩
          intro x hx
          rcases List.mem_cons.1 hx with rfl | hx
          · exact hd
          rcases List.mem_append.1 hx with hx | hx
          · exact lt_behind HW.out (am.2 x hx) hd
          · exact q5 x hx
        clear q1 q2 q3 q4 q5 r1 r2 hp hN asc e1 am HI
        go_wp2_with fail
        go_quiet_grown (first | (go_at_fn g; refine Calls.grown_of (hcg _ _)))
        have S2 : Aside (Rw enc w0 b off (C ++ (X ++ (y :: Q))) (grow (wr.drewN nq) osq)) := S1.out.grown nq osq
        clear lh la hcg S1
        generalize grow (wr.drewN nq) osq = w2 at S2 ⊢
        clear nq osq
        go_wp2
        go_roundg (h - i)
        case measure => omega
        case rel => exact ⟨i, h, rfl, rfl, by omega, by omega, by omega, Nat.le_refl _, HI2, S2⟩
      · have hd : decide (cf y z < 0) = false := decide_eq_false hv
        have HI2 : Aside (∃ X1 Xm X2, X = X1 ++ (Xm ++ X2) ∧ h + 1 = a + X1.length ∧ j = h + 1 + Xm.length ∧ (∀ x ∈ X1, ltOf cf y x = false) ∧ (∀ x ∈ X2, ltOf cf y x = true)) := by
          refine ⟨X1 ++ (U ++ [z]), V, X2, by rw [q1, r1]; simp, by simp; omega, by rw [r1] at q3; simp at q3; omega, ?_, q5⟩
          intro x hx
          rcases List.mem_append.1 hx with hx | hx
          · exact q4 x hx
          rcases List.mem_append.1 hx with hx | hx
          · exact HW.out.ntrans _ _ _ hd (am.1 x hx)
          · simp at hx; subst hx; exact hd
        clear q1 q2 q3 q4 q5 r1 r2 hp hN asc e1 am HI
        go_wp2_with fail
        go_quiet_grown (first | (go_at_fn g; refine Calls.grown_of (hcg _ _)))
        have S2 : Aside (Rw enc w0 b off (C ++ (X ++ (y :: Q))) (grow (wr.drewN nq) osq)) := S1.out.grown nq osq
        clear lh la hcg S1
        generalize grow (wr.drewN nq) osq = w2 at S2 ⊢
        clear nq osq
        go_wp2
        go_roundg (j - (h + 1))
        case measure => omega
        case rel => exact ⟨h + 1, j, by go_num, rfl, by omega, by omega, hje, Nat.le_refl _, HI2, S2⟩
    · have hltz : ¬ (i : Int) < (j : Int) := by omega
      obtain rfl : j = i := by omega
      obtain ⟨X1, Xm, X2, q1, q2, q3, q4, q5⟩ := HI.out
      obtain rfl : Xm = [] := List.length_eq_zero_iff.1 (by omega)
      simp only [List.nil_append] at q1
      have E1 : Hid (mrg (ltOf cf) X [y] = X1 ++ y :: X2) := Lib.hid (by rw [q1]; exact mrg_in X1 X2 y q4 q5)
      have S2 : Aside (Rw enc w0 b off (C ++ (X1 ++ (X2 ++ y :: ([] ++ Q)))) wr) := by
        have := S1.out
        rw [q1] at this
        exact (by simpa using this : Rw enc w0 b off (C ++ (X1 ++ (X2 ++ y :: ([] ++ Q)))) wr)
      have E2 : Hid (j = a + X1.length ∧ m = j + X2.length ∧ C.length + 1 + X1.length + X2.length + Q.length = N) := Lib.hid (by have h1 := HN.out; have h2 := HP.out; rw [q1] at h1 h2; simp at h1 h2; exact ⟨q2, by omega, by omega⟩)
      clear q1 q2 q3 q4 q5 S1 HI hlt hij HX HN
      go_wp2
      go_loopg [17] (m - a) (fun g s13 wr => ∃ (t : Nat) (U V : List α), s13 = .int .i64 t ∧ Hid (X2 = V ++ U ∧ t = j + V.length ∧ V.length ≤ g) ∧ Aside (Rw enc w0 b off (C ++ (X1 ++ (V ++ y :: (U ++ Q)))) wr))
      case atStart => exact ⟨m, [], X2, rfl, ⟨by simp, E2.out.2.1, by have := E2.out; omega⟩, S2⟩
      case round =>
        obtain ⟨t, U, V, rfl, HU, S3⟩ := hrel
        clear S2
        obtain ⟨u1, u2, u3⟩ := HU.out
        have ul := congrArg List.length u1
        rw [List.length_append] at ul
        have e2 := E2.out
        have hp := HP.out
        by_cases hV : V = []
        · subst hV
          have hz : ¬ (j : Int) < (t : Int) := by simp at u2; omega
          have S4 : Aside (Rw enc w0 b off (C ++ (mrg (ltOf cf) X [y] ++ Q)) wr) := (by rw [E1.out, u1]; simpa using S3.out : Rw enc w0 b off (C ++ (mrg (ltOf cf) X [y] ++ Q)) wr)
          clear u1 u2 u3 ul e2 hp S3
          go_wp2
          (try simp only [Exit.inBlock, Exit.then])
          refine bodyPost_ret (results_none rfl _ _ _) rfl ?_
          exact ⟨rfl, S4.out⟩
        · obtain ⟨V, z, rfl⟩ : ∃ V' z, V = V' ++ [z] := ⟨V.dropLast, V.getLast hV, (List.dropLast_concat_getLast hV).symm⟩
          obtain ⟨s, rfl⟩ : ∃ s, t = s + 1 := ⟨j + V.length, by simp at u2; omega⟩
          simp only [List.length_append, List.length_cons, List.length_nil] at u2 u3 ul
          have hz : (j : Int) < (s : Int) + 1 := by omega
          have wt : IntKind.i64.wrap ((s : Int) + 1 - 1) = (s : Int) := by rw [IntKind.wrap_i64]; omega
          have wt2 : (s : Int) + 1 - 1 = (s : Int) := by omega
          have ls : (C ++ (X1 ++ (V ++ [z] ++ y :: (U ++ Q)))).length = N := by simp; omega
          have f1 : C ++ (X1 ++ (V ++ [z] ++ y :: (U ++ Q))) = (C ++ X1 ++ V) ++ z :: ([] ++ y :: (U ++ Q)) := by simp
          have f2 : C ++ (X1 ++ (V ++ [z] ++ y :: (U ++ Q))) = (C ++ X1 ++ V ++ [z]) ++ y :: (U ++ Q) := by simp
          have i1 : s = (C ++ X1 ++ V).length := by simp; omega
          have i2 : s + 1 = (C ++ X1 ++ V ++ [z]).length := by simp; omega
          have i3 : s + 1 = (C ++ X1 ++ V).length + 1 + ([] : List α).length := by simp; omega
          have hbt : s + 1 < N := by omega
          obtain ⟨s1, hs1⟩ : ∃ s1, s1 = s + 1 := ⟨_, rfl⟩
          have S4 : Aside (Rw enc w0 b off (C ++ (X1 ++ (V ++ y :: ((z :: U) ++ Q)))) (((wr.setCell ⟨b, off + s1, none⟩ (enc z)).setCell ⟨b, off + s, none⟩ (enc y)).drew)) :=
            S3.out.swapped HR.out s1 s y z (at_of _ _ _ y _ f2 (hs1.trans i2)) (at_of _ _ _ z _ f1 i1) (by rw [ls]; omega) (by rw [ls]; omega) (by rw [hs1, f1, swp_mid' _ _ _ z y _ _ i1 i3]; simp)
          obtain ⟨la, fa⟩ := S3.out.c1 HR.out ls f1 s i1
          obtain ⟨lb, fb⟩ := S3.out.c1 HR.out ls f2 s1 (hs1.trans i2)
          obtain ⟨u, lc⟩ := S3.out.c2 HR.out ls s1 s (by omega) (by omega) (enc z)
          have HU2 : Hid (X2 = V ++ (z :: U) ∧ s = j + V.length ∧ V.length + (0 + 1) ≤ gk) := Lib.hid ⟨by rw [u1]; simp, by omega, u3⟩
          clear u1 u2 u3 ul e2 hp S3 ls f1 f2 i1 i2 i3 hV
          have ba : (s : Int) < (N : Int) := by omega
          have bb : (s : Int) + 1 < (N : Int) := by omega
          have pb : (0 : Int) ≤ (s : Int) + 1 := by omega
          have eb : ((s : Int) + 1).toNat = s1 := by omega
          clear hs1
          go_wp2_with fail
          go_big_region_o
          clear la lb lc fa fb eb
          generalize ((wr.setCell ⟨b, off + s1, none⟩ (enc z)).setCell ⟨b, off + s, none⟩ (enc y)).drew = w4 at S4 ⊢
          go_wp2
          go_roundg V.length
          case measure => have := HU2.out.2.2; omega
          case rel => exact ⟨s, z :: U, V, by go_num, ⟨HU2.out.1, HU2.out.2.1, Nat.le_refl _⟩, S4⟩
end Si
end Go.Proofs.Ytomdgeenmmgmaaa
