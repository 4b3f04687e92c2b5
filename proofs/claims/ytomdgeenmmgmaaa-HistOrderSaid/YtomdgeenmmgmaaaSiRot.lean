/-
  Contract of slices.rotateCmpFunc over a row of numbers: two parts of it, one behind the other, change places.
-/
import Derived.Test.YtomdgeenmmgmaaaSiSwap
namespace Go.Proofs.Ytomdgeenmmgmaaa
open Go.ChangeShapes Go.WideShapes Go.ChangeAt Go.RowKit Go.Sort Go.Lib Go.Shelf
namespace Si
open Srt
set_option linter.unusedVariables false
variable {P : Program} {α : Type} [Inhabited α] {enc : α → Value}

set_option maxHeartbeats 4000000 in
set_option maxRecDepth 1000000 in
theorem rotate_ok (L : SP P) {w0 w : World} {b off N cap : Nat} (R : Rk enc w0 b off N) (fv : Value) (hsz : N < 4611686018427387904) (C X Y Q : List α) (hN : (C ++ (X ++ (Y ++ Q))).length = N)
    (a m e : Nat) (hp : a = C.length) (hq : m = a + X.length) (hn : e = m + Y.length) (hX : X ≠ []) (hY : Y ≠ []) (S : Rw enc w0 b off (C ++ (X ++ (Y ++ Q))) w) :
    Calls P 27 #[.slice (some ⟨b, off, none⟩) N cap, .int .i64 a, .int .i64 m, .int .i64 e, fv] w fun r w' =>
      r = .returned (.tuple #[]) ∧ Rw enc w0 b off (C ++ (Y ++ (X ++ Q))) w' := by
  have mixed := L.mixed; have t0 := L.t0; have a0 := L.a0; have z0 := L.z0; have v0 := L.v0; have t3 := L.t3; have a3 := L.a3; have z3 := L.z3; have v3 := L.v3; have t4 := L.t4; have a4 := L.a4; have z4 := L.z4; have v4 := L.v4; have t26 := L.t26; have a26 := L.a26; have z26 := L.z26; have v26 := L.v26; have eSwap := L.eSwap; have FG := L.fRot
  have HS : Hid (∀ (w : World) (fv : Value) (C A M B Q : List α), B.length = A.length → (C ++ (A ++ (M ++ (B ++ Q)))).length = N → ∀ (p q n : Nat), p = C.length → q = p + A.length + M.length → n = A.length → Rw enc w0 b off (C ++ (A ++ (M ++ (B ++ Q)))) w →
      Calls P 28 #[.slice (some ⟨b, off, none⟩) N cap, .int .i64 p, .int .i64 q, .int .i64 n, fv] w fun e w' => e = .returned (.tuple #[]) ∧ Rw enc w0 b off (C ++ (B ++ (M ++ (A ++ Q)))) w') :=
    fun w fv C A M B Q h1 h2 p q n h3 h4 h5 h6 => swapRange_ok L R fv hsz C A M B Q h1 h2 p q n h3 h4 h5 h6
  have S0 : Aside (Rw enc w0 b off (C ++ (X ++ (Y ++ Q))) w) := S
  have HN : Hid (C.length + X.length + Y.length + Q.length = N) := Lib.hid (by simp at hN; omega)
  have hx0 : 0 < X.length := List.length_pos_iff.2 hX
  have hy0 : 0 < Y.length := List.length_pos_iff.2 hY
  have HP : Hid (a = C.length ∧ m = a + X.length ∧ e = m + Y.length ∧ 0 < X.length ∧ 0 < Y.length) := ⟨hp, hq, hn, hx0, hy0⟩
  clear S hN R hp hq hn hX hY hx0 hy0 L
  have wi : IntKind.i64.wrap ((m : Int) - (a : Int)) = ((m - a : Nat) : Int) := by rw [IntKind.wrap_i64]; have := HP.out; have := HN.out; omega
  have wj : IntKind.i64.wrap ((e : Int) - (m : Int)) = ((e - m : Nat) : Int) := by rw [IntKind.wrap_i64]; have := HP.out; have := HN.out; omega
  go_enter FG, Try.ntmps27
  go_wp2
  clear wi wj
  go_loopg [10, 11] (X.length + Y.length) (fun g s10 s11 wr => ∃ (i j : Nat) (C' X' Y' Q' : List α), s10 = .int .i64 i ∧ s11 = .int .i64 j ∧ Hid (i = X'.length ∧ j = Y'.length ∧ m = C'.length + i ∧ 0 < i ∧ 0 < j ∧ m + j + Q'.length = N ∧ i + j ≤ g ∧ C' ++ (Y' ++ (X' ++ Q')) = C ++ (Y ++ (X ++ Q))) ∧ Aside (Rw enc w0 b off (C' ++ (X' ++ (Y' ++ Q'))) wr))
  case atStart =>
    obtain ⟨h1, h2, h3, h4, h5⟩ := HP.out
    exact ⟨m - a, e - m, C, X, Y, Q, rfl, rfl, ⟨by omega, by omega, by omega, by omega, by omega, by have := HN.out; omega, by omega, rfl⟩, S0⟩
  case round =>
    obtain ⟨i, j, C', X', Y', Q', rfl, rfl, HI, S1⟩ := hrel
    clear S0
    obtain ⟨q1, q2, q3, q4, q5, q6, q7, q8⟩ := HI.out
    have wm : IntKind.i64.wrap ((m : Int) - (i : Int)) = ((m - i : Nat) : Int) := by rw [IntKind.wrap_i64]; omega
    by_cases hij : i = j
    · subst hij
      have hs := HS.out wr fv C' X' [] Y' Q' (by omega) (by simp; omega) (m - i) m i (by omega) (by simp; omega) q1 (by simpa using S1.out)
      have S2 : Aside (C' ++ (Y' ++ (X' ++ Q')) = C ++ (Y ++ (X ++ Q))) := q8
      clear q1 q2 q3 q6 q8 S1 HS HP HI HN
      simp only [List.nil_append] at hs
      go_wp2_with (go_at_fn 28; refine hs.mono ?_; rintro r w1 ⟨rfl, hw1⟩)
      go_end0
      exact ⟨rfl, S2.out ▸ hw1⟩
    · by_cases hgt : j < i
      · have hgtz : (j : Int) < (i : Int) := by omega
        have hne : ¬ ((i : Int) = (j : Int)) := by omega
        have wd : IntKind.i64.wrap ((i : Int) - (j : Int)) = ((i - j : Nat) : Int) := by rw [IntKind.wrap_i64]; omega
        have hX : X' = X'.take j ++ X'.drop j := (List.take_append_drop j X').symm
        have hl1 : (X'.take j).length = j := by rw [List.length_take]; omega
        have hl2 : (X'.drop j).length = i - j := by rw [List.length_drop]; omega
        generalize X'.take j = X1 at hX hl1
        generalize X'.drop j = X2 at hX hl2
        subst hX
        have hs := HS.out wr fv C' X1 X2 Y' Q' (by omega) (by simp; omega) (m - i) m j (by omega) (by omega) (by omega) (by simpa using S1.out)
        have K2 : Aside (i - j = X2.length ∧ j = X1.length ∧ m = (C' ++ Y').length + (i - j) ∧ 0 < i - j ∧ 0 < j ∧ m + j + Q'.length = N ∧ i - j + j ≤ gk - 1 ∧ (C' ++ Y') ++ (X1 ++ (X2 ++ Q')) = C ++ (Y ++ (X ++ Q))) :=
          ⟨hl2.symm, hl1.symm, by simp; omega, by omega, q5, q6, by omega, by rw [← q8]; simp⟩
        clear q1 q2 q3 q6 q8 S1 HI hl1 hl2
        go_wp2_with (go_at_fn 28; refine hs.mono ?_; rintro r w1 ⟨rfl, hw1⟩)
        go_roundg (i - j + j)
        case measure => omega
        case rel => exact ⟨i - j, j, C' ++ Y', X2, X1, Q', rfl, rfl, ⟨K2.out.1, K2.out.2.1, K2.out.2.2.1, K2.out.2.2.2.1, K2.out.2.2.2.2.1, K2.out.2.2.2.2.2.1, Nat.le_refl _, K2.out.2.2.2.2.2.2.2⟩, (by simpa using hw1 : Rw enc w0 b off ((C' ++ Y') ++ (X2 ++ (X1 ++ Q'))) w1)⟩
      · have hgtz : ¬ (j : Int) < (i : Int) := by omega
        have hne : ¬ ((i : Int) = (j : Int)) := by omega
        have wd : IntKind.i64.wrap ((j : Int) - (i : Int)) = ((j - i : Nat) : Int) := by rw [IntKind.wrap_i64]; omega
        have wa : IntKind.i64.wrap ((m : Int) + (j : Int)) = (m : Int) + (j : Int) := by rw [IntKind.wrap_i64]; omega
        have wb : IntKind.i64.wrap ((m : Int) + (j : Int) - (i : Int)) = ((m + j - i : Nat) : Int) := by rw [IntKind.wrap_i64]; omega
        have hY : Y' = Y'.take (j - i) ++ Y'.drop (j - i) := (List.take_append_drop _ Y').symm
        have hl1 : (Y'.take (j - i)).length = j - i := by rw [List.length_take]; omega
        have hl2 : (Y'.drop (j - i)).length = i := by rw [List.length_drop]; omega
        generalize Y'.take (j - i) = Y1 at hY hl1
        generalize Y'.drop (j - i) = Y2 at hY hl2
        subst hY
        have hs := HS.out wr fv C' X' Y1 Y2 Q' (by omega) (by simp; omega) (m - i) (m + j - i) i (by omega) (by omega) (by omega) (by simpa using S1.out)
        have K2 : Aside (i = Y2.length ∧ j - i = Y1.length ∧ m = C'.length + i ∧ 0 < i ∧ 0 < j - i ∧ m + (j - i) + (X' ++ Q').length = N ∧ True ∧ C' ++ (Y1 ++ (Y2 ++ (X' ++ Q'))) = C ++ (Y ++ (X ++ Q))) :=
          ⟨hl2.symm, hl1.symm, by omega, by omega, by omega, by simp; omega, trivial, by rw [← q8]; simp⟩
        clear q1 q2 q3 q6 q8 S1 HI hl1 hl2
        go_wp2_with (go_at_fn 28; refine hs.mono ?_; rintro r w1 ⟨rfl, hw1⟩)
        go_roundg (i + (j - i))
        case measure => omega
        case rel => exact ⟨i, j - i, C', Y2, Y1, X' ++ Q', rfl, rfl, ⟨K2.out.1, K2.out.2.1, K2.out.2.2.1, K2.out.2.2.2.1, K2.out.2.2.2.2.1, K2.out.2.2.2.2.2.1, Nat.le_refl _, K2.out.2.2.2.2.2.2.2⟩, (by simpa using hw1 : Rw enc w0 b off (C' ++ (Y2 ++ (Y1 ++ (X' ++ Q')))) w1)⟩
end Si
end Go.Proofs.Ytomdgeenmmgmaaa
