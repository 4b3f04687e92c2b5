/-
  Where a window's place is in a list of panes: pane.place, slices.BinarySearchFunc.
-/
import Derived.Test.YtnheehodgkagfaaPaneMath
import Derived.Test.YtnheehodgkagfaaTmrFirst
import Derived.Test.YtnheehodgkagfaaSpan
namespace Go.Proofs.Ytnheehodgkagfaa
open Go.ChangeShapes Go.WideShapes Go.ChangeAt Go.RowKit Small
set_option linter.unusedVariables false
namespace Pane

abbrev win (s e : Int) : Value := .agg #[.int .i64 s, .int .i64 e]
theorem cmp_lt {a b c d : Int} : Spn.cmpW a b c d < 0 ↔ (a < c ∨ (a = c ∧ b < d)) := by
  unfold Spn.cmpW Spn.cmp3
  repeat' split
  all_goals omega
theorem cmp_eq {a b c d : Int} : Spn.cmpW a b c d = 0 ↔ (a = c ∧ b = d) := by
  unfold Spn.cmpW Spn.cmp3
  repeat' split
  all_goals omega

set_option maxHeartbeats 800000 in
theorem close_ok (x : Pn) (s e : Int) (w : World) :
    Calls Try.prog 32 #[x.v, win s e] w fun r w' => r = .returned (.int .i64 (Spn.cmpW x.s x.e s e)) ∧ Below w.heap.size w w' := by
  have C := Lib.hid fun w : World => Spn.comp_ok x.s x.e s e w
  generalize Spn.cmpW x.s x.e s e = q at *
  obtain ⟨key, a, b, c, d, f, g⟩ := x
  simp only at C
  go_enter Try.func32, Try.ntmps32
  go_wp2_with fail
  refine (C.out _).mono ?_
  rintro r w1 ⟨rfl, k1⟩
  have K1 := Lib.hid k1
  clear k1
  go_wp2
  go_ret
  exact ⟨rfl, after (below2 _ _ _) K1.out⟩

set_option maxRecDepth 100000 in
set_option maxHeartbeats 4000000 in
theorem search_ok (v : Value) (L : List Pn) (b k : Nat) (s e : Int) (fd : Bool) (w : World) (H : Hid (Sl.Is Pn.k w v L b)) (hn : L.length ≤ 1000) (A : Hid (At L s e k)) (hf : Hid (fd = true ↔ ∃ x, L[k]? = some x ∧ Eq2 x s e)) :
    Calls Try.prog 31 #[v, win s e, .func (.func 32) #[] #[]] w fun r w' => r = .returned (.tuple #[.int .i64 k, .bool fd]) ∧ Below w.heap.size w w' := by
  obtain ⟨AD, cap, rfl⟩ := H.out.len
  have hk := A.out.le
  go_enter Try.func31, Try.ntmps31
  go_wp2_with fail
  have K0 := Lib.hid (below1 w (Obj.cells #[.int .i64 s, .int .i64 e] 26))
  have H0 := Lib.hid (H.out.next K0.out)
  have Z0 := Lib.hid (Lies.new w 26 [.int .i64 s, .int .i64 e])
  generalize w.alloc (Obj.cells #[.int .i64 s, .int .i64 e] 26) = w0 at *
  go_loopw [9, 10] (fun si sj wr => ∃ (i j : Nat), i ≤ k ∧ k ≤ j ∧ j ≤ L.length ∧ si = .int .i64 i ∧ sj = .int .i64 j ∧ Hid (Below w0.heap.size w0 wr)) (fun si sj _ => (intOf sj - intOf si).toNat)
  case atStart => exact ⟨0, L.length, by omega, hk, Nat.le_refl _, rfl, rfl, Lib.hid (Below.refl _ _)⟩
  case round =>
    obtain ⟨i, j, hi, hj, hjn, rfl, rfl, K⟩ := hrel
    by_cases hlt : i < j
    · obtain ⟨off, cap', he, h2, h3, h4, hcell⟩ := H0.out.some_ Pn.ok (by omega)
      obtain ⟨rfl, rfl⟩ : AD = some ⟨b, off, none⟩ ∧ cap = cap' := by simpa using he
      obtain ⟨m, hm, hm1, hm2⟩ : ∃ m : Nat, ((i : Int) + j) / 2 = m ∧ i ≤ m ∧ m < j := ⟨(i + j) / 2, by omega, by omega, by omega⟩
      obtain ⟨y, hy⟩ := at_some (L := L) (i := m) (by omega)
      have HY := Lib.hid hy
      obtain ⟨c0, c1, c2, c3, c4, c5, c6⟩ := Tmr.pane_cells hy hcell
      have z0 := Z0.out.cell (i := 0) rfl
      have z1 := Z0.out.cell (i := 1) rfl
      have w1 : IntKind.i64.wrap ((i : Int) + j) = (i : Int) + j := by rw [IntKind.wrap_i64]; omega
      have C := Lib.hid fun w : World => close_ok y s e w
      have Q := Lib.hid (cmp_lt (a := y.s) (b := y.e) (c := s) (d := e))
      have HM := Lib.hid hm
      clear hcell he hy h2 h3 h4 hm
      generalize Spn.cmpW y.s y.e s e = cv at *
      go_wp2_with fail
      rw [HM.out]
      have i0 : (m : Int) < L.length := by omega
      have f0 := Later.cell (cell_keep K.out c0)
      have f1 := Later.cell (cell_keep K.out c1)
      have f2 := Later.cell (cell_keep K.out c2)
      have f3 := Later.cell (cell_keep K.out c3)
      have f4 := Later.cell (cell_keep K.out c4)
      have f5 := Later.cell (cell_keep K.out c5)
      have f6 := Later.cell (cell_keep K.out c6)
      have g0 := Later.cell (cell_keep K.out z0)
      have g1 := Later.cell (cell_keep K.out z1)
      clear c0 c1 c2 c3 c4 c5 c6 z0 z1
      refine wp_region_later (by kernel_rfl) (by kernel_rfl) ?_
      repeat (go_big_quiet_step (first | (go_at_call 32; with_reducible exact Later.call _ (C.out _))))
      refine wpQuiet_nil ?_
      rintro _ ⟨u, rfl⟩
      have K2 := Lib.hid (after K.out u.below)
      clear f0 f1 f2 f3 f4 f5 f6 g0 g1
      generalize u.w = w2 at *
      by_cases hc : cv < 0
      · have hd : decide (cv < 0) = true := by simpa using hc
        go_wp2_with fail
        refine ⟨⟨m + 1, j, ?_, hj, hjn, by go_num, rfl, K2⟩, by simp [intOf]; omega⟩
        rcases Nat.lt_or_ge m k with q | q
        · omega
        · exact absurd (Q.out.1 hc) (A.out.hi m y q HY.out)
      · have hd : decide (cv < 0) = false := by simpa using hc
        go_wp2_with fail
        refine ⟨⟨i, m, hi, ?_, by omega, rfl, rfl, K2⟩, by simp [intOf]; omega⟩
        rcases Nat.lt_or_ge m k with q | q
        · exact absurd (Q.out.2 (A.out.lo m y q HY.out)) hc
        · exact q
    · obtain rfl : i = k := by omega
      obtain rfl : i = j := by omega
      by_cases hin : i < L.length
      · obtain ⟨off, cap', he, h2, h3, h4, hcell⟩ := H0.out.some_ Pn.ok (by omega)
        obtain ⟨rfl, rfl⟩ : AD = some ⟨b, off, none⟩ ∧ cap = cap' := by simpa using he
        obtain ⟨y, hy⟩ := at_some (L := L) (i := i) (by omega)
        obtain ⟨c0, c1, c2, c3, c4, c5, c6⟩ := Tmr.pane_cells hy hcell
        have z0 := Z0.out.cell (i := 0) rfl
        have z1 := Z0.out.cell (i := 1) rfl
        have C := Lib.hid fun w : World => close_ok y s e w
        have Q := Lib.hid (cmp_eq (a := y.s) (b := y.e) (c := s) (d := e))
        have hfd : Hid (fd = true ↔ Eq2 y s e) := Lib.hid (hf.out.trans ⟨fun ⟨x, h1, h2⟩ => by rw [hy] at h1; obtain rfl := Option.some.inj h1; exact h2, fun h => ⟨y, hy, h⟩⟩)
        clear hcell he hy h2 h3 h4 hf
        generalize Spn.cmpW y.s y.e s e = cv at *
        have hfd2 : (cv == 0) = fd := by
          rw [Bool.eq_iff_iff, hfd.out]
          simpa using Q.out
        have HF := Lib.hid hfd2
        clear hfd2 hfd Q
        have i0 : (i : Int) < L.length := by omega
        go_wp2_with fail
        have f0 := Later.cell (cell_keep K.out c0)
        have f1 := Later.cell (cell_keep K.out c1)
        have f2 := Later.cell (cell_keep K.out c2)
        have f3 := Later.cell (cell_keep K.out c3)
        have f4 := Later.cell (cell_keep K.out c4)
        have f5 := Later.cell (cell_keep K.out c5)
        have f6 := Later.cell (cell_keep K.out c6)
        have g0 := Later.cell (cell_keep K.out z0)
        have g1 := Later.cell (cell_keep K.out z1)
        clear c0 c1 c2 c3 c4 c5 c6 z0 z1
        refine wp_region_later (by kernel_rfl) (by kernel_rfl) ?_
        repeat (go_big_quiet_step (first | (go_at_call 32; with_reducible exact Later.call _ (C.out _))))
        refine wpQuiet_nil ?_
        rintro _ ⟨u, rfl⟩
        have K2 := Lib.hid (after K.out u.below)
        clear f0 f1 f2 f3 f4 f5 f6 g0 g1
        generalize u.w = w2 at *
        go_wp2
        go_ret2
        refine ⟨?_, after K0.out K2.out⟩
        rw [← HF.out]
        rfl
      · obtain rfl : i = L.length := by omega
        have hfd : fd = false := by
          cases fd
          · rfl
          · obtain ⟨x, h1, _⟩ := hf.out.1 rfl
            have := lt_of_at h1
            omega
        subst hfd
        go_wp2_with fail
        refine wp_region_later (by kernel_rfl) (by kernel_rfl) ?_
        repeat (go_big_quiet_step (fail))
        refine wpQuiet_nil ?_
        rintro _ ⟨u, rfl⟩
        have K2 := Lib.hid (after K.out u.below)
        generalize u.w = w2 at *
        go_wp2
        go_ret2
        exact ⟨rfl, after K0.out K2.out⟩

/-- where a window's place is -/
theorem place_ok (v : Value) (L : List Pn) (b k : Nat) (s e : Int) (fd : Bool) (w : World) (H : Hid (Sl.Is Pn.k w v L b)) (hn : L.length ≤ 1000) (A : Hid (At L s e k)) (hf : Hid (fd = true ↔ ∃ x, L[k]? = some x ∧ Eq2 x s e)) :
    Calls Try.prog 19 #[v, win s e] w fun r w' => r = .returned (.tuple #[.int .i64 k, .bool fd]) ∧ Below w.heap.size w w' := by
  go_enter Try.func19, Try.ntmps19
  go_wp2_with fail
  refine (search_ok v L b k s e fd _ (Lib.hid (H.out.next (below1 _ _))) hn A hf).mono ?_
  rintro r w1 ⟨rfl, k1⟩
  have K1 := Lib.hid (after (below1 _ _) k1)
  clear k1
  go_wp2
  go_ret2
  exact ⟨rfl, K1.out⟩
end Pane
end Go.Proofs.Ytnheehodgkagfaa
