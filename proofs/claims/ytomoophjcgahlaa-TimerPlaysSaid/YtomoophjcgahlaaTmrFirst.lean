/-
  Contracts of the layer-6 statements' own helpers: Pick, and first (the place of the least of some panes).
-/
import Derived.Test.YtomoophjcgahlaaPn
import Derived.Test.YtomoophjcgahlaaLater
namespace Go.Proofs.Ytomoophjcgahlaa
open Go.ChangeShapes Go.WideShapes Go.ChangeAt Go.RowKit Small
set_option linter.unusedVariables false
namespace Tmr

/-- the place of the least one; below 0: there is none -/
def IsFirst (L : List Pn) (i : Int) : Prop := (i = -1 ∧ L = []) ∨ ∃ k x, i = (k : Nat) ∧ L[k]? = some x ∧ ∀ y ∈ L, le x.tm y.tm
/-- .. of the first n -/
def FirstOf (L : List Pn) (n : Nat) (i : Int) : Prop := (i = -1 ∧ n = 0) ∨ ∃ k x, i = (k : Nat) ∧ k < n ∧ L[k]? = some x ∧ ∀ j y, j < n → L[j]? = some y → le x.tm y.tm

theorem FirstOf.zero {L : List Pn} {y : Pn} (hy : L[0]? = some y) : FirstOf L 1 0 := .inr ⟨0, y, rfl, by omega, hy, fun j z hj hz => by
  obtain rfl : j = 0 := by omega
  rw [hy] at hz
  obtain rfl := Option.some.inj hz
  exact le_refl _⟩
theorem FirstOf.stay {L : List Pn} {y x : Pn} {i k : Nat} (hy : L[i]? = some y) (hk : k < i) (hx : L[k]? = some x) (hle : ∀ j y, j < i → L[j]? = some y → le x.tm y.tm) (hl : lt y.tm x.tm = false) : FirstOf L (i + 1) k :=
  .inr ⟨k, x, rfl, by omega, hx, fun j z hj hz => by
    by_cases e : j = i
    · subst e
      rw [hy] at hz
      obtain rfl := Option.some.inj hz
      exact hl
    · exact hle j z (by omega) hz⟩
theorem FirstOf.step {L : List Pn} {y x : Pn} {i : Nat} (hy : L[i]? = some y) (hle : ∀ j y, j < i → L[j]? = some y → le x.tm y.tm) (hl : lt y.tm x.tm = true) : FirstOf L (i + 1) i :=
  .inr ⟨i, y, rfl, by omega, hy, fun j z hj hz => by
    by_cases e : j = i
    · subst e
      rw [hy] at hz
      obtain rfl := Option.some.inj hz
      exact le_refl _
    · exact le_trans (le_of_lt hl) (hle j z (by omega) hz)⟩

theorem pane_cells {w : World} {b off : Nat} {L : List Pn} {i : Nat} {x : Pn} (hx : L[i]? = some x) (hc : ∀ i x, L[i]? = some x → ∀ j u, (Pn.cl x)[j]? = some u → w.cell? ⟨b, off + (i * 7 + j), none⟩ = some u) :
    w.cell? ⟨b, off + i * 7, none⟩ = some (.string x.key) ∧ w.cell? ⟨b, off + i * 7 + 1, none⟩ = some (.int .i64 x.s) ∧ w.cell? ⟨b, off + i * 7 + 2, none⟩ = some (.int .i64 x.e) ∧ w.cell? ⟨b, off + i * 7 + 3, none⟩ = some (.int .i64 x.c) ∧
      w.cell? ⟨b, off + i * 7 + 4, none⟩ = some (.int .i64 x.m) ∧ w.cell? ⟨b, off + i * 7 + 5, none⟩ = some (.int .i64 x.l) ∧ w.cell? ⟨b, off + i * 7 + 6, none⟩ = some (.int .i64 x.u) := by
  have h := hc i x hx
  simp only [← Nat.add_assoc] at h
  exact ⟨h 0 _ rfl, h 1 _ rfl, h 2 _ rfl, h 3 _ rfl, h 4 _ rfl, h 5 _ rfl, h 6 _ rfl⟩

set_option maxHeartbeats 800000 in
theorem pick_ok (c n : Int) (w : World) (hc : (Lit.int .i64 c).wf = true) (hn : 0 < n) (hn2 : n ≤ 1000) : Calls Try.prog 8 #[.int .i64 c, .int .i64 n] w fun r w' => (∃ i : Nat, r = .returned (.int .i64 i) ∧ (i : Int) < n) ∧ w = w' := by
  obtain ⟨c0, c1⟩ := fit hc
  by_cases h : c < 0
  · have t1 : IntKind.i64.wrap (c + 1) = c + 1 := IntWalk.i64_in _ (by omega)
    have t2 : IntKind.i64.wrap (-(c + 1)) = -(c + 1) := IntWalk.i64_in _ (by omega)
    have n0 : ¬ n = 0 := by omega
    have n1 : (n == 0) = false := by simpa using n0
    have e : (-(c + 1)).tmod n = (-(c + 1)) % n := Int.tmod_eq_emod_of_nonneg (by omega)
    have e2 : -(c + 1).tmod n = (-(c + 1)) % n := by rw [← e, Int.neg_tmod]
    have e0 := Int.emod_nonneg (-(c + 1)) n0
    have e1 := Int.emod_lt_of_pos (-(c + 1)) hn
    obtain ⟨i, hi⟩ : ∃ i : Nat, (-(c + 1)) % n = i := ⟨((-(c + 1)) % n).toNat, by omega⟩
    have E := Lib.hid e2
    have HI := Lib.hid hi
    clear e e2 hi e0
    go_enter Try.func8, Try.ntmps8
    go_wp2
    go_ret
    exact ⟨⟨i, ret_int (by first | exact HI.out | rw [E.out, HI.out]), by rw [← HI.out]; exact e1⟩, rfl⟩
  · have h' : 0 ≤ c := by omega
    have n0 : ¬ n = 0 := by omega
    have n1 : (n == 0) = false := by simpa using n0
    have e : c.tmod n = c % n := Int.tmod_eq_emod_of_nonneg (by omega)
    have e0 := Int.emod_nonneg c n0
    have e1 := Int.emod_lt_of_pos c hn
    obtain ⟨i, hi⟩ : ∃ i : Nat, c % n = i := ⟨(c % n).toNat, by omega⟩
    have E := Lib.hid e
    have HI := Lib.hid hi
    clear e hi e0
    go_enter Try.func8, Try.ntmps8
    go_wp2
    go_ret
    exact ⟨⟨i, ret_int (by first | exact HI.out | rw [E.out, HI.out]), by rw [← HI.out]; exact e1⟩, rfl⟩

set_option maxRecDepth 100000 in
set_option maxHeartbeats 4000000 in
theorem first_ok (v : Value) (L : List Pn) (b : Nat) (w : World) (H : Hid (Sl.Is Pn.k w v L b)) (hn : L.length ≤ 1000) : Calls Try.prog 7 #[v] w fun r w' => (∃ i, r = .returned (.int .i64 i) ∧ IsFirst L i) ∧ Below w.heap.size w w' := by
  obtain ⟨A, cap, rfl⟩ := H.out.len
  go_enter Try.func7, Try.ntmps7
  go_wp2_with fail
  go_loopw [3, 4] (fun sb si wr => ∃ (i : Nat) (best : Int), i ≤ L.length ∧ si = .int .i64 i ∧ sb = .int .i64 best ∧ Hid (FirstOf L i best) ∧ Hid (Below w.heap.size w wr)) (fun sb si _ => L.length - (intOf si).toNat)
  case atStart => exact ⟨0, -1, by omega, rfl, rfl, Lib.hid (.inl ⟨rfl, rfl⟩), Lib.hid (Below.refl _ _)⟩
  case round =>
    obtain ⟨i, best, hin, rfl, rfl, HF, K⟩ := hrel
    by_cases hlt : i < L.length
    · obtain ⟨off, cap', he, h2, h3, h4, hcell⟩ := H.out.some_ Pn.ok (by omega)
      obtain ⟨y, hy⟩ : ∃ y, L[i]? = some y := ⟨L[i], by simp [hlt]⟩
      rcases HF.out with ⟨rfl, rfl⟩ | ⟨k, x, rfl, hk, hx, hle⟩
      · clear hcell h2 h3 h4 H
        go_wp2_with fail
        exact ⟨⟨1, 0, by omega, rfl, rfl, Lib.hid (FirstOf.zero hy), K⟩, by simp [intOf]; omega⟩
      · obtain ⟨c0, c1, c2, c3, c4, c5, c6⟩ := pane_cells hy hcell
        obtain ⟨d0, d1, d2, d3, d4, d5, d6⟩ := pane_cells hx hcell
        have HY := Lib.hid hy
        have HX := Lib.hid hx
        have HLE := Lib.hid hle
        clear hcell H hy hx hle
        have i0 : (k : Int) < L.length := by omega
        obtain ⟨rfl, rfl⟩ : A = some ⟨b, off, none⟩ ∧ cap = cap' := by simpa using he
        clear he
        go_wp2_with fail
        have f0 := Later.cell (cell_keep K.out c0)
        have f1 := Later.cell (cell_keep K.out c1)
        have f2 := Later.cell (cell_keep K.out c2)
        have f3 := Later.cell (cell_keep K.out c3)
        have f4 := Later.cell (cell_keep K.out c4)
        have f5 := Later.cell (cell_keep K.out c5)
        have f6 := Later.cell (cell_keep K.out c6)
        have g0 := Later.cell (cell_keep K.out d0)
        have g1 := Later.cell (cell_keep K.out d1)
        have g2 := Later.cell (cell_keep K.out d2)
        have g3 := Later.cell (cell_keep K.out d3)
        have g4 := Later.cell (cell_keep K.out d4)
        have g5 := Later.cell (cell_keep K.out d5)
        have g6 := Later.cell (cell_keep K.out d6)
        clear c0 c1 c2 c3 c4 c5 c6 d0 d1 d2 d3 d4 d5 d6
        refine wp_region_later (by kernel_rfl) (by kernel_rfl) ?_
        repeat (go_big_quiet_step (first | (go_at_call 15; with_reducible exact Later.call _ (Pn.less_ok y x _))))
        refine wpQuiet_nil ?_
        rintro _ ⟨u, rfl⟩
        have K2 := Lib.hid (after K.out u.below)
        clear f0 f1 f2 f3 f4 f5 f6 g0 g1 g2 g3 g4 g5 g6
        generalize u.w = w2 at *
        cases hl : lt y.tm x.tm
        · go_wp2_with fail
          exact ⟨⟨i + 1, k, by omega, by go_num, rfl, Lib.hid (FirstOf.stay HY.out hk HX.out HLE.out hl), K2⟩, by simp [intOf]; omega⟩
        · go_wp2_with fail
          exact ⟨⟨i + 1, i, by omega, by go_num, rfl, Lib.hid (FirstOf.step HY.out HLE.out hl), K2⟩, by simp [intOf]; omega⟩
    · obtain rfl : i = L.length := by omega
      go_wp2
      go_ret
      refine ⟨⟨best, rfl, ?_⟩, K.out⟩
      rcases HF.out with ⟨rfl, h⟩ | ⟨k, x, rfl, hk, hx, hle⟩
      · exact .inl ⟨rfl, List.length_eq_zero_iff.1 h⟩
      · exact .inr ⟨k, x, rfl, hx, fun y hy => by obtain ⟨j, hj⟩ := List.mem_iff_getElem?.1 hy; exact hle j y (List.getElem?_eq_some_iff.1 hj).1 hj⟩
end Tmr
end Go.Proofs.Ytomoophjcgahlaa
