/-
  slices.symMergeCmpFunc over a row of numbers, where the one part has one element: it is put in.
-/
import Derived.Test.YtomdgeenmmgmaaaSiRot
namespace Go.Proofs.Ytomdgeenmmgmaaa
open Go.ChangeShapes Go.WideShapes Go.ChangeAt Go.RowKit Go.Sort Go.Lib Go.Shelf
namespace Si
open Srt
set_option linter.unusedVariables false
theorem lt_ahead {α : Type} {lt : α → α → Bool} (S : SWO lt) {u z x : α} (h : lt z u = false) (k : lt z x = true) : lt u x = true := by
  cases e : lt u x with
  | true => rfl
  | false => rw [S.ntrans _ _ _ h e] at k; cases k
theorem asc_mid {α : Type} {lt : α → α → Bool} {U V : List α} {z : α} (h : Asc lt (U ++ z :: V)) : (∀ u ∈ U, lt z u = false) ∧ ∀ v ∈ V, lt v z = false := by
  obtain ⟨_, h2, h3⟩ := List.pairwise_append.1 h
  exact ⟨fun u hu => h3 u hu z (by simp), (List.pairwise_cons.1 h2).1⟩

variable {P : Program} {α : Type} [Inhabited α] {enc : α → Value}

theorem split_at (l : List α) (i : Nat) (h : i < l.length) : ∃ U z V, l = U ++ z :: V ∧ U.length = i ∧ l[i]! = z :=
  ⟨l.take i, l[i], l.drop (i + 1), by simp, by rw [List.length_take]; omega, by simp [h]⟩
set_option maxHeartbeats 4000000 in
set_option maxRecDepth 1000000 in
theorem sym_left (L : SP P) {cf : α → α → Int} (SW : SWO (ltOf cf)) {g : Nat} {cb : Array Value} {w0 w : World} {b off N cap : Nat} (hcmp : Cmps P g cb enc cf w0 b off N) (eg : ∀ args w, (callFunc g args).run P w = .ok (.enter g args) w)
    (R : Rk enc w0 b off N) (hsz : N < 4611686018427387904) (C : List α) (x : α) (Y Q : List α) (hN : (C ++ (x :: (Y ++ Q))).length = N)
    (a m e : Nat) (hp : a = C.length) (hq : m = a + 1) (hn : e = m + Y.length) (hY : Asc (ltOf cf) Y) (S : Rw enc w0 b off (C ++ (x :: (Y ++ Q))) w) :
    Calls P 26 #[.slice (some ⟨b, off, none⟩) N cap, .int .i64 a, .int .i64 m, .int .i64 e, .func (.func g) #[] cb] w fun r w' =>
      r = .returned (.tuple #[]) ∧ Rw enc w0 b off (C ++ (mrg (ltOf cf) [x] Y ++ Q)) w' := by
  have mixed := L.mixed; have t0 := L.t0; have a0 := L.a0; have z0 := L.z0; have v0 := L.v0; have t3 := L.t3; have a3 := L.a3; have z3 := L.z3; have v3 := L.v3; have t4 := L.t4; have a4 := L.a4; have z4 := L.z4; have v4 := L.v4; have t26 := L.t26; have a26 := L.a26; have z26 := L.z26; have v26 := L.v26; have t51 := L.t51; have a51 := L.a51; have z51 := L.z51; have v51 := L.v51; have t62 := L.t62; have a62 := L.a62; have z62 := L.z62; have v62 := L.v62; have u26 := run_underlying L.t26; have FG := L.fSym
  have u0 := run_underlying L.t0; have u3 := run_underlying L.t3; have u4 := run_underlying L.t4; have u62 := run_underlying L.t62
  have hcl0 := R.cells
  simp only [Value.cells] at hcl0
  have hst := R.hO.store P
  have S0 : Aside (Rw enc w0 b off (C ++ (x :: (Y ++ Q))) w) := S
  have HC : Aside (Cmps P g cb enc cf w0 b off N) := hcmp
  have HW : Hid (SWO (ltOf cf)) := SW
  have HY : Hid (Asc (ltOf cf) Y) := hY
  have HR : Hid (Rk enc w0 b off N) := R
  have HN : Hid (C.length + 1 + Y.length + Q.length = N) := Lib.hid (by simp at hN; omega)
  have HP : Hid (a = C.length ∧ m = a + 1 ∧ e = m + Y.length) := ⟨hp, hq, hn⟩
  have w1 : IntKind.i64.wrap ((m : Int) - (a : Int)) = 1 := by rw [IntKind.wrap_i64]; omega
  have hme : m ≤ e := by omega
  have heN : e ≤ N := by have := HN.out; omega
  have haN : a < N := by have := HN.out; omega
  clear S hN R hp hq hn hY L hcmp SW
  go_enter FG, Try.ntmps26
  go_wp2
  clear w1
  go_loopg [10, 11] (e - m) (fun g s10 s11 wr => ∃ (i j : Nat), s10 = .int .i64 i ∧ s11 = .int .i64 j ∧ m ≤ i ∧ i ≤ j ∧ j ≤ e ∧ j - i ≤ g ∧ Aside (∃ Y1 Ym Y2, Y = Y1 ++ (Ym ++ Y2) ∧ i = m + Y1.length ∧ j = i + Ym.length ∧ (∀ y ∈ Y1, ltOf cf y x = true) ∧ (∀ y ∈ Y2, ltOf cf y x = false)) ∧ Aside (Rw enc w0 b off (C ++ (x :: (Y ++ Q))) wr))
  case atStart => exact ⟨m, e, rfl, rfl, Nat.le_refl _, hme, Nat.le_refl _, Nat.le_refl _, (⟨[], Y, [], by simp, by simp, HP.out.2.2, by simp, by simp⟩ : ∃ Y1 Ym Y2, Y = Y1 ++ (Ym ++ Y2) ∧ m = m + Y1.length ∧ e = m + Ym.length ∧ (∀ y ∈ Y1, ltOf cf y x = true) ∧ (∀ y ∈ Y2, ltOf cf y x = false)), S0⟩
  case round =>
    obtain ⟨i, j, rfl, rfl, hmi, hij, hje, hg, HI, S1⟩ := hrel
    clear S0
    by_cases hlt : i < j
    · have hltz : (i : Int) < (j : Int) := by omega
      obtain ⟨h, hh⟩ : ∃ h : Nat, h = (i + j) / 2 := ⟨_, rfl⟩
      have hhz : ((i : Int) + (j : Int)) / 2 = (h : Int) := by omega
      have hi1 : i ≤ h := by omega
      have hj1 : h < j := by omega
      have wa : IntKind.i64.wrap ((i : Int) + (j : Int)) = (i : Int) + (j : Int) := by rw [IntKind.wrap_i64]; omega
      have bh : (h : Int) < (N : Int) := by omega
      have ba : (a : Int) < (N : Int) := by omega
      have wh : IntKind.i64.wrap ((h : Int) + 1) = (h : Int) + 1 := by rw [IntKind.wrap_i64]; omega
      clear hh
      obtain ⟨Y1, Ym, Y2, q1, q2, q3, q4, q5⟩ := HI.out
      obtain ⟨U, z, V, r1, r2, -⟩ := split_at Ym (h - i) (by omega)
      have hp := HP.out
      have hN := HN.out
      have asc : Asc (ltOf cf) (U ++ z :: V) := by
        have := HY.out
        rw [q1, r1] at this
        exact (List.pairwise_append.1 (List.pairwise_append.1 this).2.1).1
      have e1 : C ++ (x :: (Y ++ Q)) = (C ++ x :: (Y1 ++ U)) ++ z :: (V ++ Y2 ++ Q) := by rw [q1, r1]; simp
      have lh := S1.out.cl HR.out (by simp; omega) e1 h (by simp; omega)
      have la := S1.out.cl HR.out (by simp; omega) (rfl : C ++ (x :: (Y ++ Q)) = C ++ x :: (Y ++ Q)) a (by omega)
      have hcg : ∀ n' os', Calls P g (#[enc z, enc x] ++ cb) (grow (wr.drewN n') os') fun e w' => e = .returned (.int .i64 (cf z x)) ∧ ∃ q os'', w' = grow ((grow (wr.drewN n') os').drewN q) os'' := fun n' os' => S1.out.cmp HC.out (by simp; omega) z x n' os'
      have am := asc_mid asc
      have KY : Hid (U ++ z :: V = Ym) := Lib.hid r1.symm
      by_cases hv : cf z x < 0
      · have hd : decide (cf z x < 0) = true := decide_eq_true hv
        have HI2 : Aside (∃ Y1 Ym Y2, Y = Y1 ++ (Ym ++ Y2) ∧ h + 1 = m + Y1.length ∧ j = h + 1 + Ym.length ∧ (∀ y ∈ Y1, ltOf cf y x = true) ∧ (∀ y ∈ Y2, ltOf cf y x = false)) := by
          refine ⟨Y1 ++ (U ++ [z]), V, Y2, by rw [q1, r1]; simp, by simp; omega, by rw [r1] at q3; simp at q3; omega, ?_, q5⟩
          intro y hy
          rcases List.mem_append.1 hy with hy | hy
          · exact q4 y hy
          rcases List.mem_append.1 hy with hy | hy
          · exact lt_ahead HW.out (am.1 y hy) hd
          · simp at hy; subst hy; exact hd
        clear q1 q2 q3 q4 q5 r1 r2 hp hN asc e1 am HI
        go_wp2_with fail
        go_quiet_grown (first | (go_at_fn g; refine Calls.grown_of (hcg _ _)))
        have S2 : Aside (Rw enc w0 b off (C ++ (x :: (Y ++ Q))) (grow (wr.drewN nq) osq)) := S1.out.grown nq osq
        clear lh la hcg S1
        generalize grow (wr.drewN nq) osq = w2 at S2 ⊢
        clear nq osq
        go_wp2
        go_roundg (j - (h + 1))
        case measure => omega
        case rel => exact ⟨h + 1, j, by go_num, rfl, by omega, by omega, hje, Nat.le_refl _, HI2, S2⟩
      · have hd : decide (cf z x < 0) = false := decide_eq_false hv
        have HI2 : Aside (∃ Y1 Ym Y2, Y = Y1 ++ (Ym ++ Y2) ∧ i = m + Y1.length ∧ h = i + Ym.length ∧ (∀ y ∈ Y1, ltOf cf y x = true) ∧ (∀ y ∈ Y2, ltOf cf y x = false)) := by
          refine ⟨Y1, U, z :: (V ++ Y2), by rw [q1, r1]; simp, q2, by omega, q4, ?_⟩
          intro y hy
          rcases List.mem_cons.1 hy with rfl | hy
          · exact hd
          rcases List.mem_append.1 hy with hy | hy
          · exact HW.out.ntrans _ _ _ (am.2 y hy) hd
          · exact q5 y hy
        clear q1 q2 q3 q4 q5 r1 r2 hp hN asc e1 am HI
        go_wp2_with fail
        go_quiet_grown (first | (go_at_fn g; refine Calls.grown_of (hcg _ _)))
        have S2 : Aside (Rw enc w0 b off (C ++ (x :: (Y ++ Q))) (grow (wr.drewN nq) osq)) := S1.out.grown nq osq
        clear lh la hcg S1
        generalize grow (wr.drewN nq) osq = w2 at S2 ⊢
        clear nq osq
        go_wp2
        go_roundg (h - i)
        case measure => omega
        case rel => exact ⟨i, h, rfl, rfl, by omega, by omega, by omega, Nat.le_refl _, HI2, S2⟩
    · have hltz : ¬ (i : Int) < (j : Int) := by omega
      obtain rfl : j = i := by omega
      have ww : IntKind.i64.wrap ((j : Int) - 1) = (j : Int) - 1 := by rw [IntKind.wrap_i64]; omega
      obtain ⟨Y1, Ym, Y2, q1, q2, q3, q4, q5⟩ := HI.out
      obtain rfl : Ym = [] := List.length_eq_zero_iff.1 (by omega)
      simp only [List.nil_append] at q1
      have E1 : Hid (mrg (ltOf cf) [x] Y = Y1 ++ x :: Y2) := Lib.hid (by rw [q1]; exact mrg_out Y1 Y2 x q4 q5)
      have S2 : Aside (Rw enc w0 b off (C ++ ([] ++ x :: (Y1 ++ (Y2 ++ Q)))) wr) := by
        have := S1.out
        rw [q1] at this
        exact (by simpa using this : Rw enc w0 b off (C ++ ([] ++ x :: (Y1 ++ (Y2 ++ Q)))) wr)
      have E2 : Hid (j = m + Y1.length ∧ C.length + 1 + Y1.length + Y2.length + Q.length = N) := Lib.hid (by refine ⟨q2, ?_⟩; have := HN.out; rw [q1] at this; simp at this; omega)
      clear q1 q2 q3 q4 q5 S1 HI hlt hij HY HN
      go_wp2
      go_loopg [13] (e - m) (fun g s13 wr => ∃ (t : Nat) (U V : List α), s13 = .int .i64 t ∧ Hid (Y1 = U ++ V ∧ t = a + U.length ∧ V.length ≤ g) ∧ Aside (Rw enc w0 b off (C ++ (U ++ x :: (V ++ (Y2 ++ Q)))) wr))
      case atStart => exact ⟨a, [], Y1, rfl, ⟨by simp, by simp, by have := E2.out; omega⟩, S2⟩
      case round =>
        obtain ⟨t, U, V, rfl, HU, S3⟩ := hrel
        clear S2
        obtain ⟨u1, u2, u3⟩ := HU.out
        have ul := congrArg List.length u1
        rw [List.length_append] at ul
        have e2 := E2.out
        have hp := HP.out
        cases V with
        | nil =>
          have hz : ¬ (t : Int) < (j : Int) - 1 := by simp at ul; omega
          have S4 : Aside (Rw enc w0 b off (C ++ (mrg (ltOf cf) [x] Y ++ Q)) wr) := (by rw [E1.out, u1]; simpa using S3.out : Rw enc w0 b off (C ++ (mrg (ltOf cf) [x] Y ++ Q)) wr)
          clear u1 u2 u3 ul e2 hp S3
          go_wp2
          (try simp only [Exit.inBlock, Exit.then])
          refine bodyPost_ret (results_none rfl _ _ _) rfl ?_
          exact ⟨rfl, S4.out⟩
        | cons y V =>
          have hz : (t : Int) < (j : Int) - 1 := by simp at ul; omega
          have wt : IntKind.i64.wrap ((t : Int) + 1) = (t : Int) + 1 := by rw [IntKind.wrap_i64]; omega
          have ls : (C ++ (U ++ x :: (y :: V ++ (Y2 ++ Q)))).length = N := by simp at ul ⊢; omega
          have f1 : C ++ (U ++ x :: (y :: V ++ (Y2 ++ Q))) = (C ++ U) ++ x :: ([] ++ y :: (V ++ (Y2 ++ Q))) := by simp
          have f2 : C ++ (U ++ x :: (y :: V ++ (Y2 ++ Q))) = (C ++ U ++ [x]) ++ y :: (V ++ (Y2 ++ Q)) := by simp
          have i1 : t = (C ++ U).length := by simp; omega
          have i2 : t + 1 = (C ++ U ++ [x]).length := by simp; omega
          have i3 : t + 1 = (C ++ U).length + 1 + ([] : List α).length := by simp; omega
          have hbt : t + 1 < N := by simp at ul; omega
          obtain ⟨s1, hs1⟩ : ∃ s1, s1 = t + 1 := ⟨_, rfl⟩
          have S4 : Aside (Rw enc w0 b off (C ++ ((U ++ [y]) ++ x :: (V ++ (Y2 ++ Q)))) (((wr.setCell ⟨b, off + t, none⟩ (enc y)).setCell ⟨b, off + s1, none⟩ (enc x)).drew)) :=
            S3.out.swapped HR.out t s1 x y (at_of _ _ _ x _ f1 i1) (at_of _ _ _ y _ f2 (hs1.trans i2)) (by rw [ls]; omega) (by rw [ls]; omega) (by rw [f1, swp_mid _ _ _ x y _ _ i1 (hs1.trans i3)]; simp)
          obtain ⟨la, fa⟩ := S3.out.c1 HR.out ls f1 t i1
          obtain ⟨lb, fb⟩ := S3.out.c1 HR.out ls f2 s1 (hs1.trans i2)
          obtain ⟨u, lc⟩ := S3.out.c2 HR.out ls t s1 (by omega) (by omega) (enc y)
          have HU2 : Hid (Y1 = (U ++ [y]) ++ V ∧ t + 1 = a + (U ++ [y]).length ∧ (y :: V).length ≤ gk) := Lib.hid ⟨by rw [u1]; simp, by simp; omega, u3⟩
          clear u1 u2 u3 ul e2 hp S3 ls f1 f2 i1 i2 i3
          have ba : (t : Int) < (N : Int) := by omega
          have bb : (t : Int) + 1 < (N : Int) := by omega
          have pb : (0 : Int) ≤ (t : Int) + 1 := by omega
          have eb : ((t : Int) + 1).toNat = s1 := by omega
          clear hs1
          go_wp2_with fail
          go_big_region_o
          clear la lb lc fa fb eb
          generalize ((wr.setCell ⟨b, off + t, none⟩ (enc y)).setCell ⟨b, off + s1, none⟩ (enc x)).drew = w4 at S4 ⊢
          go_wp2
          go_roundg V.length
          case measure => have := HU2.out.2.2; simp at this; omega
          case rel => exact ⟨t + 1, U ++ [y], V, by go_num, ⟨HU2.out.1, HU2.out.2.1, Nat.le_refl _⟩, S4⟩
end Si
end Go.Proofs.Ytomdgeenmmgmaaa
