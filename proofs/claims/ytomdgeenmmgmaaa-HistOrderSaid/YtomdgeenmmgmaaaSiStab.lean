/-
  Contracts of slices.insertionSortCmpFunc (by the shelf's walk), slices.stableCmpFunc and slices.SortStableFunc over a row of numbers: it is sorted, alike ones as they stand.
-/
import Derived.Test.YtomdgeenmmgmaaaSiSym
namespace Go.Proofs.Ytomdgeenmmgmaaa
open Go.ChangeShapes Go.WideShapes Go.ChangeAt Go.RowKit Go.Sort Go.Lib Go.Shelf
namespace Si
open Srt
set_option linter.unusedVariables false
section
variable {α : Type}
/-! ### the list, each block of s of it sorted -/
def bs (lt : α → α → Bool) (s : Nat) (l : List α) : List α := if h : 0 < s ∧ s < l.length then srt lt (l.take s) ++ bs lt s (l.drop s) else srt lt l
  termination_by l.length
  decreasing_by simp only [List.length_drop]; omega
theorem bs_small (lt : α → α → Bool) {s : Nat} {l : List α} (h : l.length ≤ s) : bs lt s l = srt lt l := by
  rw [bs, dif_neg (by omega)]
theorem bs_more (lt : α → α → Bool) {s : Nat} (hs : 0 < s) (T1 T2 : List α) (h : T1.length = s) : bs lt s (T1 ++ T2) = srt lt T1 ++ bs lt s T2 := by
  cases T2 with
  | nil => rw [List.append_nil, bs_small lt (by omega), bs_small lt (by simp)]; simp [srt_nil]
  | cons x T2 =>
    rw [bs, dif_pos ⟨hs, by simp; omega⟩, List.take_left' h, List.drop_left' h]
theorem bs_len (lt : α → α → Bool) (s : Nat) : ∀ (n : Nat) (l : List α), l.length ≤ n → (bs lt s l).length = l.length := by
  intro n
  induction n with
  | zero => intro l h; rw [bs_small lt (by omega), srt_len]
  | succ n ih =>
    intro l h
    rw [bs]
    split
    · next h1 => rw [List.length_append, srt_len, ih _ (by rw [List.length_drop]; omega), List.length_take, List.length_drop]; omega
    · rw [srt_len]

end
variable {P : Program} {α : Type} [Inhabited α] {enc : α → Value}

/-! ### the insertion sort of a part -/
def insRen : Go.Shelf.Ren := ⟨fun | 20 => 25 | n => n, fun | 0 => 0 | 3 => 3 | 4 => 4 | 22 => 25 | 24 => 3 | 25 => 38 | n => n, fun | n => n⟩
theorem insLay (L : SP P) : SlLaysF.n20 P insRen := {
  mixed := L.mixed
  f20 := ⟨Try.f25.name, by decide, L.fIns.trans (congrArg some (by kernel_rfl))⟩
  t0 := L.t0
  a0 := L.a0
  z0 := L.z0
  v0 := L.v0
  t3 := L.t3
  a3 := L.a3
  z3 := L.z3
  v3 := L.v3
  t4 := L.t4
  a4 := L.a4
  z4 := L.z4
  v4 := L.v4
  t22 := L.t26
  a22 := L.a26
  z22 := L.z26
  v22 := L.v26
  t25 := L.t51
  a25 := L.a51
  z25 := L.z51
  v25 := L.v51
  a24 := L.a3
  z24 := L.z3 }

theorem ins_ok (L : SP P) {cf : α → α → Int} (SW : SWO (ltOf cf)) {g : Nat} {cb : Array Value} {w0 w : World} {b off N cap : Nat} (hcmp : Cmps P g cb enc cf w0 b off N) (eg : ∀ args w, (callFunc g args).run P w = .ok (.enter g args) w)
    (R : Rk enc w0 b off N) (hsz : N < 4611686018427387904) (C X Q : List α) (hN : (C ++ (X ++ Q)).length = N)
    (a e : Nat) (hp : a = C.length) (hq : e = a + X.length) (S : Rw enc w0 b off (C ++ (X ++ Q)) w) :
    Calls P 25 #[.slice (some ⟨b, off, none⟩) N cap, .int .i64 a, .int .i64 e, .func (.func g) #[] cb] w fun r w' =>
      r = .returned (.tuple #[]) ∧ Rw enc w0 b off (C ++ (srt (ltOf cf) X ++ Q)) w' := by
  obtain ⟨d0, h0, R0⟩ := R.row
  have hs : d0.size = (C ++ (X ++ Q)).toArray.size := by rw [h0, List.size_toArray]; exact hN.symm
  have H := Any.insertionSortCmpFunc_s (insLay L) enc cf g cb b off cap a e d0 (C ++ (X ++ Q)).toArray w0 w eg (by rw [h0]; exact hcmp) R0 hs S (by omega) (by rw [List.size_toArray]; simp only [List.length_append] at hN ⊢; omega) (by rw [List.size_toArray, hN]; exact hsz)
  rw [List.size_toArray, hN] at H
  refine H.mono ?_
  rintro r w' ⟨rfl, S'⟩
  refine ⟨rfl, ?_⟩
  have e1 := insertion_list SW C X Q a e hp hq
  unfold Rw
  rw [← e1]
  exact S'

set_option maxHeartbeats 4000000 in
set_option maxRecDepth 1000000 in
theorem stable_ok (L : SP P) {cf : α → α → Int} (SW : SWO (ltOf cf)) {g : Nat} {cb : Array Value} {w0 w : World} {b off N cap : Nat} (hcmp : Cmps P g cb enc cf w0 b off N) (eg : ∀ args w, (callFunc g args).run P w = .ok (.enter g args) w)
    (R : Rk enc w0 b off N) (hsz : N < 1152921504606846976) (D : List α) (hN : D.length = N) (S : Rw enc w0 b off D w) :
    Calls P 23 #[.slice (some ⟨b, off, none⟩) N cap, .int .i64 N, .func (.func g) #[] cb] w fun r w' =>
      r = .returned (.tuple #[]) ∧ Rw enc w0 b off (srt (ltOf cf) D) w' := by
  have mixed := L.mixed; have t0 := L.t0; have a0 := L.a0; have z0 := L.z0; have v0 := L.v0; have t3 := L.t3; have a3 := L.a3; have z3 := L.z3; have v3 := L.v3; have t4 := L.t4; have a4 := L.a4; have z4 := L.z4; have v4 := L.v4; have t26 := L.t26; have a26 := L.a26; have z26 := L.z26; have v26 := L.v26; have t51 := L.t51; have a51 := L.a51; have z51 := L.z51; have v51 := L.v51; have eIns := L.eIns; have eSym := L.eSym; have FG := L.fStab
  have HI : Aside (∀ (w : World) (C X Q : List α), (C ++ (X ++ Q)).length = N → ∀ (a e : Nat), a = C.length → e = a + X.length → Rw enc w0 b off (C ++ (X ++ Q)) w →
      Calls P 25 #[.slice (some ⟨b, off, none⟩) N cap, .int .i64 a, .int .i64 e, .func (.func g) #[] cb] w fun r w' => r = .returned (.tuple #[]) ∧ Rw enc w0 b off (C ++ (srt (ltOf cf) X ++ Q)) w') :=
    fun w C X Q h1 a e h2 h3 h4 => ins_ok L SW hcmp eg R (by omega) C X Q h1 a e h2 h3 h4
  have HM : Aside (∀ F, SymAt P enc cf g cb w0 b off N cap F) := sym_ok L SW hcmp eg R (by omega)
  have HW : Hid (SWO (ltOf cf)) := SW
  have HN : Hid (D.length = N) := hN
  have S0 : Aside (Rw enc w0 b off D w) := S
  clear S hN R L hcmp SW
  go_enter FG, Try.ntmps23
  go_wp2
  go_loopg [7, 8] N (fun kx s7 s8 wr => ∃ (a : Nat) (O1 X O2 : List α), s7 = .int .i64 a ∧ s8 = .int .i64 ((a + 20 : Nat) : Int) ∧ a ≤ N ∧ N - a ≤ kx ∧ Hid (D = O1 ++ O2 ∧ O1.length = a ∧ X.length = a ∧ ∀ T, bs (ltOf cf) 20 (O1 ++ T) = X ++ bs (ltOf cf) 20 T) ∧ Aside (Rw enc w0 b off (X ++ O2) wr))
  case atStart => exact ⟨0, [], [], D, rfl, rfl, Nat.zero_le _, Nat.le_refl _, ⟨rfl, rfl, rfl, fun _ => rfl⟩, S0⟩
  case round =>
    obtain ⟨a, O1, X, O2, rfl, rfl, haN, hkx, HO, S1⟩ := hrel
    clear S0
    have ho := HO.out
    have hN := HN.out
    have hl := congrArg List.length ho.1
    rw [List.length_append] at hl
    by_cases hb : a + 20 ≤ N
    · have hbz : (a : Int) + 20 ≤ (N : Int) := by omega
      have hbz2 : ((a + 20 : Nat) : Int) ≤ (N : Int) := by omega
      have w1 : IntKind.i64.wrap (((a + 20 : Nat) : Int) + 20) = ((a + 20 + 20 : Nat) : Int) := by rw [IntKind.wrap_i64]; omega
      have hT : O2 = O2.take 20 ++ O2.drop 20 := (List.take_append_drop 20 O2).symm
      have lT : (O2.take 20).length = 20 := by rw [List.length_take]; omega
      generalize O2.take 20 = T at hT lT
      generalize O2.drop 20 = O3 at hT
      have hc := HI.out wr X T O3 (by rw [← hT]; simp; omega) a (a + 20) ho.2.2.1.symm (by omega) (by rw [← hT]; exact S1.out)
      have HO2 : Hid (D = (O1 ++ T) ++ O3 ∧ (O1 ++ T).length = a + 20 ∧ (X ++ srt (ltOf cf) T).length = a + 20 ∧ ∀ T', bs (ltOf cf) 20 ((O1 ++ T) ++ T') = (X ++ srt (ltOf cf) T) ++ bs (ltOf cf) 20 T') := by
        refine Lib.hid ⟨by rw [ho.1, hT]; simp, by simp; omega, by simp [srt_len]; omega, fun T' => ?_⟩
        rw [List.append_assoc, ho.2.2.2, bs_more _ (by decide) T T' lT, List.append_assoc]
      clear ho hN hl hT lT HO S1
      go_wp2_with (go_at_fn 25; refine hc.mono ?_; rintro r w1 ⟨rfl, hw⟩)
      go_roundg (N - (a + 20))
      case measure => omega
      case rel => exact ⟨a + 20, O1 ++ T, X ++ srt (ltOf cf) T, O3, by go_num, by go_num, by omega, Nat.le_refl _, HO2, (by simpa using hw : Rw enc w0 b off ((X ++ srt (ltOf cf) T) ++ O3) w1)⟩
    · have hbz : ¬ (a : Int) + 20 ≤ (N : Int) := by omega
      have hbz2 : ¬ ((a + 20 : Nat) : Int) ≤ (N : Int) := by omega
      have hc := HI.out wr X O2 [] (by simp; omega) a N ho.2.2.1.symm (by omega) (by simpa using S1.out)
      have S2 : Hid (X ++ (srt (ltOf cf) O2 ++ []) = bs (ltOf cf) 20 D) := Lib.hid (by rw [ho.1, ho.2.2.2, bs_small _ (by omega)]; simp)
      clear ho hl HO S1 hN
      go_wp2_with (go_at_fn 25; refine hc.mono ?_; rintro r w1 ⟨rfl, hw⟩)
      have S3 : Aside (Rw enc w0 b off (bs (ltOf cf) 20 D) w1) := S2.out ▸ hw
      clear hw S2
      go_loopg [6] N (fun kx s6 wr => ∃ s : Nat, s6 = .int .i64 s ∧ 20 ≤ s ∧ s ≤ 2 * N + 20 ∧ N - s ≤ kx ∧ Aside (Rw enc w0 b off (bs (ltOf cf) s D) wr))
      case atStart => exact ⟨20, rfl, by omega, by omega, by omega, S3⟩
      case round =>
        obtain ⟨s, rfl, hs1, hs2, hk2, S4⟩ := hrel
        clear S3
        by_cases hs : s < N
        · have hsz1 : (s : Int) < (N : Int) := by omega
          have w2 : IntKind.i64.wrap (2 * (s : Int)) = 2 * (s : Int) := by rw [IntKind.wrap_i64]; omega
          have w3 : IntKind.i64.wrap ((s : Int) * 2) = ((2 * s : Nat) : Int) := by rw [IntKind.wrap_i64]; omega
          go_wp2
          go_loopg [7, 8] N (fun kx s7 s8 wr => ∃ (a : Nat) (O1 X O2 : List α), s7 = .int .i64 a ∧ s8 = .int .i64 ((a + 2 * s : Nat) : Int) ∧ a ≤ N ∧ N - a ≤ kx ∧ Hid (D = O1 ++ O2 ∧ O1.length = a ∧ X.length = a ∧ ∀ T, bs (ltOf cf) (2 * s) (O1 ++ T) = X ++ bs (ltOf cf) (2 * s) T) ∧ Aside (Rw enc w0 b off (X ++ bs (ltOf cf) s O2) wr))
          case atStart => exact ⟨0, [], [], D, rfl, by go_num, Nat.zero_le _, Nat.le_refl _, ⟨rfl, rfl, rfl, fun _ => rfl⟩, S4⟩
          case round =>
            obtain ⟨a, O1, X, O2, rfl, rfl, haN, hkx, HO, S5⟩ := hrel
            clear S4
            have ho := HO.out
            have hN := HN.out
            have hl := congrArg List.length ho.1
            rw [List.length_append] at hl
            have w4 : IntKind.i64.wrap ((a : Int) + (s : Int)) = ((a + s : Nat) : Int) := by rw [IntKind.wrap_i64]; omega
            by_cases hb : a + 2 * s ≤ N
            · have hbz2 : ((a + 2 * s : Nat) : Int) ≤ (N : Int) := by omega
              have w5 : IntKind.i64.wrap (((a + 2 * s : Nat) : Int) + 2 * (s : Int)) = ((a + 2 * s + 2 * s : Nat) : Int) := by rw [IntKind.wrap_i64]; omega
              obtain ⟨T1, T, e1, l1, -⟩ := split_two O2 s (by omega)
              have lT := congrArg List.length e1
              rw [List.length_append] at lT
              obtain ⟨T2, O3, e2, l2, -⟩ := split_two T s (by omega)
              have lT2 := congrArg List.length e2
              rw [List.length_append] at lT2
              have eB : bs (ltOf cf) s O2 = srt (ltOf cf) T1 ++ (srt (ltOf cf) T2 ++ bs (ltOf cf) s O3) := by rw [e1, e2, bs_more _ (by omega) _ _ l1, bs_more _ (by omega) _ _ l2]
              have hc := HM.out (2 * s) wr X (srt (ltOf cf) T1) (srt (ltOf cf) T2) (bs (ltOf cf) s O3) (by rw [srt_len, srt_len]; omega) (by simp only [List.length_append, srt_len, bs_len _ _ _ _ (Nat.le_refl _)]; omega) a (a + s) (a + 2 * s) ho.2.2.1.symm (by rw [srt_len]; omega) (by rw [srt_len]; omega) (by rw [srt_len]; omega) (by rw [srt_len]; omega) (srt_asc HW.out _) (srt_asc HW.out _) (by rw [← eB]; exact S5.out)
              rw [← srt_append HW.out] at hc
              have HO2 : Hid (D = (O1 ++ (T1 ++ T2)) ++ O3 ∧ (O1 ++ (T1 ++ T2)).length = a + 2 * s ∧ (X ++ srt (ltOf cf) (T1 ++ T2)).length = a + 2 * s ∧ ∀ T', bs (ltOf cf) (2 * s) ((O1 ++ (T1 ++ T2)) ++ T') = (X ++ srt (ltOf cf) (T1 ++ T2)) ++ bs (ltOf cf) (2 * s) T') := by
                refine Lib.hid ⟨by rw [ho.1, e1, e2]; simp, by simp; omega, by rw [List.length_append, srt_len, List.length_append]; omega, fun T' => ?_⟩
                rw [List.append_assoc, ho.2.2.2, bs_more _ (by omega) (T1 ++ T2) T' (by rw [List.length_append]; omega), List.append_assoc]
              clear ho hN hl e1 e2 l1 l2 lT lT2 eB HO S5
              go_wp2_with (go_at_fn 26; refine hc.mono ?_; rintro r w1 ⟨rfl, hw⟩)
              go_roundg (N - (a + 2 * s))
              case measure => omega
              case rel => exact ⟨a + 2 * s, O1 ++ (T1 ++ T2), X ++ srt (ltOf cf) (T1 ++ T2), O3, by go_num, by go_num, by omega, Nat.le_refl _, HO2, (by simpa using hw : Rw enc w0 b off ((X ++ srt (ltOf cf) (T1 ++ T2)) ++ bs (ltOf cf) s O3) w1)⟩
            · have hbz2 : ¬ ((a + 2 * s : Nat) : Int) ≤ (N : Int) := by omega
              by_cases hm : a + s < N
              · have hmz : ((a + s : Nat) : Int) < (N : Int) := by omega
                obtain ⟨T1, T2, e1, l1, -⟩ := split_two O2 s (by omega)
                have lT := congrArg List.length e1
                rw [List.length_append] at lT
                have eB : bs (ltOf cf) s O2 = srt (ltOf cf) T1 ++ (srt (ltOf cf) T2 ++ []) := by rw [e1, bs_more _ (by omega) _ _ l1, bs_small _ (by omega)]; simp
                have hc := HM.out (2 * s) wr X (srt (ltOf cf) T1) (srt (ltOf cf) T2) [] (by rw [srt_len, srt_len]; omega) (by simp only [List.length_append, srt_len, List.length_nil]; omega) a (a + s) N ho.2.2.1.symm (by rw [srt_len]; omega) (by rw [srt_len]; omega) (by rw [srt_len]; omega) (by rw [srt_len]; omega) (srt_asc HW.out _) (srt_asc HW.out _) (by rw [← eB]; exact S5.out)
                rw [← srt_append HW.out] at hc
                have E2 : Hid (X ++ (srt (ltOf cf) (T1 ++ T2) ++ []) = bs (ltOf cf) (2 * s) D) := Lib.hid (by rw [ho.1, ho.2.2.2, bs_small _ (by omega), e1]; simp)
                clear ho hN hl e1 l1 lT eB HO S5
                go_wp2_with (go_at_fn 26; refine hc.mono ?_; rintro r w1 ⟨rfl, hw⟩)
                go_roundg (N - 2 * s)
                case measure => omega
                case rel => exact ⟨2 * s, by go_num, by omega, by omega, Nat.le_refl _, (E2.out ▸ hw : Rw enc w0 b off (bs (ltOf cf) (2 * s) D) w1)⟩
              · have hmz : ¬ ((a + s : Nat) : Int) < (N : Int) := by omega
                have S6 : Aside (Rw enc w0 b off (bs (ltOf cf) (2 * s) D) wr) := by
                  have := S5.out
                  rw [bs_small _ (by omega)] at this
                  show Rw enc w0 b off _ wr
                  rw [ho.1, ho.2.2.2, bs_small _ (by omega)]
                  exact this
                clear ho hN hl HO S5
                go_wp2
                go_roundg (N - 2 * s)
                case measure => omega
                case rel => exact ⟨2 * s, by go_num, by omega, by omega, Nat.le_refl _, S6⟩
        · have hsz1 : ¬ (s : Int) < (N : Int) := by omega
          have S5 : Aside (Rw enc w0 b off (srt (ltOf cf) D) wr) := by
            have := S4.out
            rw [bs_small _ (by have := HN.out; omega)] at this
            exact this
          clear S4
          go_wp2
          go_end0
          exact ⟨rfl, S5.out⟩
end Si
end Go.Proofs.Ytomdgeenmmgmaaa
