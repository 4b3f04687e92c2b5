/-
  Contract of the heap's own method Swap: two change places, in the list and in the map.
-/
import Derived.Test.YtomoophjcgahlaaTmrSwap
namespace Go.Proofs.Ytomoophjcgahlaa
open Go.ChangeShapes Go.WideShapes Go.ChangeAt Go.RowKit
namespace Tmr
open Small
set_option linter.unusedVariables false

/-- the six cells written -/
abbrev stored (w : World) (r i j : Nat) (a b : Tm) : World :=
  ((((((w.setCell ⟨r, i * 3, none⟩ (.string b.key)).setCell ⟨r, i * 3 + 1, none⟩ (.int .i64 b.s)).setCell ⟨r, i * 3 + 2, none⟩ (.int .i64 b.e)).setCell ⟨r, j * 3, none⟩ (.string a.key)).setCell ⟨r, j * 3 + 1, none⟩ (.int .i64 a.s)).setCell ⟨r, j * 3 + 2, none⟩ (.int .i64 a.e)).drew

def Swapped (g m r n : Nat) (f : Nat → Tm) (w : World) (e : Ending) (w' : World) : Prop := e = .returned (.tuple #[]) ∧ ∃ v p, Qu w' g m r f n v p ∧ Mv g m r w w'

/-- what holds behind the six stores -/
theorem stored_ok {g m r n i j cap : Nat} {f : Nat → Tm} {p : Tm → Option Nat} {w W : World} (H : Qu w g m r f n (.slice (some ⟨r, 0, none⟩) n cap) p) (hi : i < n) (hj : j < n) (hW : W = stored w r i j (f i) (f j)) :
    Lies W g 52 [.slice (some ⟨r, 0, none⟩) n cap, .map (some m)] ∧ Rw W r cap n (sw f i j) ∧ Mp W m p n ∧ Mv g m r w W := by
  obtain ⟨cap', he, _, _, R⟩ := H.rw_ (by omega)
  obtain rfl : cap = cap' := by simpa using he
  have ng := H.ne_gr (by omega)
  have nm : m ≠ r := fun e => H.ne_rm (by omega) e.symm
  obtain ⟨W1, h1⟩ : ∃ W1, W1 = ((w.setCell ⟨r, i * 3, none⟩ (.string (f j).key)).setCell ⟨r, i * 3 + 1, none⟩ (.int .i64 (f j).s)).setCell ⟨r, i * 3 + 2, none⟩ (.int .i64 (f j).e) := ⟨_, rfl⟩
  have R1 := R.put3 (f j) hi
  have V1 := put3_mv w g m r (i * 3) (i * 3 + 1) (i * 3 + 2) (.string (f j).key) (.int .i64 (f j).s) (.int .i64 (f j).e)
  have B1 : ∀ k, k ≠ r → W1.heap[k]? = w.heap[k]? := fun k hk => by rw [h1]; exact put3_other w r _ _ _ _ _ _ hk
  unfold stored at hW
  rw [← h1] at R1 V1 hW
  clear h1
  obtain ⟨W2, h2⟩ : ∃ W2, W2 = ((W1.setCell ⟨r, j * 3, none⟩ (.string (f i).key)).setCell ⟨r, j * 3 + 1, none⟩ (.int .i64 (f i).s)).setCell ⟨r, j * 3 + 2, none⟩ (.int .i64 (f i).e) := ⟨_, rfl⟩
  have R2 := R1.put3 (f i) hj
  have V2 := put3_mv W1 g m r (j * 3) (j * 3 + 1) (j * 3 + 2) (.string (f i).key) (.int .i64 (f i).s) (.int .i64 (f i).e)
  have B2 : ∀ k, k ≠ r → W2.heap[k]? = W1.heap[k]? := fun k hk => by rw [h2]; exact put3_other W1 r _ _ _ _ _ _ hk
  rw [← h2] at R2 V2 hW
  clear h2
  rw [← sw_put] at R2
  subst hW
  exact ⟨((B2 g ng).trans (B1 g ng)).trans H.lies, R2.kept rfl, H.map.kept ((B2 m nm).trans (B1 m nm)), (V1.trans (.inl rfl) V2).then (Below.refl _ _).drew⟩

/-- what is behind the stores of Swap -/
theorem swap_tail {g m r n i j cap : Nat} {f : Nat → Tm} {p : Tm → Option Nat} {w W : World} (hi : i < n) (hj : j < n) (H : Hid (Qu w g m r f n (.slice (some ⟨r, 0, none⟩) n cap) p)) (w1 w2 : World)
    (L : Lies W g 52 [.slice (some ⟨r, 0, none⟩) n cap, .map (some m)]) (R : Rw W r cap n (sw f i j)) (V : Mv g m r w W) (nm : m ≠ g) (nr : m ≠ r)
    (g1 : W.grownBy w1 (some m)) (M1 : Mp w1 m (place1 p (f j) i) n) (g2 : w1.grownBy w2 (some m)) (M2 : Mp w2 m (place1 (place1 p (f j) i) (f i) j) n) :
    Swapped g m r n (sw f i j) w (.returned (.tuple #[])) w2 := by
  refine ⟨rfl, .slice (some ⟨r, 0, none⟩) n cap, _, ⟨?_, ?_, .inr rfl, M2, place_sw H.out.place hi hj, ?_, H.out.few⟩, ?_⟩
  · exact ((g2.block _ (Nat.lt_of_lt_of_le L.lt g1.size) (by simpa using nm.symm)).trans (g1.block _ L.lt (by simpa using nm.symm))).trans L
  · obtain ⟨cap', he, a, b, _⟩ := H.out.rw_ (by omega)
    obtain rfl : cap = cap' := by simpa using he
    exact (R.kept ((g2.block _ (Nat.lt_of_lt_of_le R.lt g1.size) (by simpa using nr.symm)).trans (g1.block _ R.lt (by simpa using nr.symm)))).own a b
  · intro k hk
    obtain ⟨k', h1, h2⟩ := ((same_sw f hi hj).2 (sw f i j k)).1 ⟨k, hk, rfl⟩
    rw [← h2]
    exact H.out.fits k' h1
  · exact (V.trans (.inl rfl) (Mv.of_grown g1 (fun k hk => .inr (.inl (by cases hk; rfl))))).trans (.inl rfl) (Mv.of_grown g2 (fun k hk => .inr (.inl (by cases hk; rfl))))

theorem upd_count {p : Tm → Option Nat} {x : Tm} {c : Nat} (h : p x ≠ none) : (if p x = none then c + 1 else c) = c := by simp [h]

set_option maxHeartbeats 3200000 in
theorem swap_ok {g m r n i j : Nat} {f : Nat → Tm} {v : Value} {p : Tm → Option Nat} (w : World) (H : Hid (Qu w g m r f n v p)) (hi : i < n) (hj : j < n) :
    Calls Try.prog 46 #[.pointer (some ⟨g, 0, none⟩), .int .i64 i, .int .i64 j] w (Swapped g m r n (sw f i j) w) := by
  obtain ⟨cap, rfl, _, _, R⟩ := H.out.rw_ (by omega)
  obtain ⟨x0, x1, x2⟩ := R.cells hi
  obtain ⟨y0, y1, y2⟩ := R.cells hj
  have few := H.out.few
  have c0 := H.out.lies.cell (i := 0) rfl
  have i0 : (0 : Int) ≤ i := by omega
  have j0 : (0 : Int) ≤ j := by omega
  have i1 : (i : Int) < n := by omega
  have j1 : (j : Int) < n := by omega
  have fz := R.frozen
  have RH := Lib.hid R
  clear R
  by_cases hij : i = j
  · obtain rfl := hij
    go_enter Try.func46, Try.ntmps46
    go_wp2_with fail
    go_region
    obtain ⟨W, hW⟩ : ∃ W, W = stored w r i i (f i) (f i) := ⟨_, rfl⟩
    change Exit.then _ _ _ _ (stored w r i i (f i) (f i))
    rw [← hW]
    obtain ⟨L, R, M, V⟩ := stored_ok H.out hi hj hW
    have nm : m ≠ g := fun e => H.out.ne_gm e.symm
    have nr : m ≠ r := fun e => H.out.ne_rm (by omega) e.symm
    clear hW x0 x1 x2 y0 y1 y2 c0 fz RH
    have c0 := L.cell (i := 0) rfl
    have c1 := L.cell (i := 1) rfl
    obtain ⟨x0, x1, x2⟩ := R.cells hi
    rw [sw_left] at x0 x1 x2
    have L := Lib.hid L
    have R := Lib.hid R
    have M := Lib.hid M
    have V := Lib.hid V
    have NM := Lib.hid nm
    have NR := Lib.hid nr
    clear nm nr
    go_wp2_with fail
    go_still_tail 12, (by kernel_rfl)
    have hp1 : p (f i) ≠ none := by rw [(H.out.place (f i) i).2 ⟨hj, rfl⟩]; simp
    have HP := Lib.hid hp1
    have hp2 : place1 p (f i) i (f i) ≠ none := by
      unfold place1
      split
      · simp
      · rw [(H.out.place (f i) i).2 ⟨hi, rfl⟩]; simp
    have HP2 := Lib.hid hp2
    clear hp1 hp2
    refine wpList_store rfl _ _ _ rfl (x := f i) (i := i) (m := m) rfl rfl rfl (M.out.kept rfl) (H.out.fits i hj) (by omega) few (place1_upd _ _ _) ?_
    intro w1 M1 g1
    rw [upd_count HP.out] at M1
    have G1 : Hid (W.grownBy w1 (some m)) := Lib.hid ⟨g1.os, g1.tape, g1.output, g1.size, g1.block⟩
    have M1 := Lib.hid M1
    clear g1 c0 c1 x0 x1 x2
    have c0 := (Lies.cell (w := w1) (G1.out.block _ L.out.lt (by simpa using NM.out.symm) |>.trans L.out) (i := 0) rfl)
    have c1 := (Lies.cell (w := w1) (G1.out.block _ L.out.lt (by simpa using NM.out.symm) |>.trans L.out) (i := 1) rfl)
    obtain ⟨x0, x1, x2⟩ := (R.out.kept (w' := w1) (G1.out.block _ R.out.lt (by simpa using NR.out.symm))).cells hj
    rw [sw_right] at x0 x1 x2
    go_wp2_with fail
    go_still_tail 12, (by kernel_rfl)
    refine wpList_store rfl _ _ _ rfl (x := f i) (i := i) (m := m) rfl rfl rfl (M1.out.kept rfl) (H.out.fits i hi) (by omega) few (place1_upd _ _ _) ?_
    intro w2 M2 g2
    rw [upd_count HP2.out] at M2
    have G2 : Hid (w1.grownBy w2 (some m)) := Lib.hid ⟨g2.os, g2.tape, g2.output, g2.size, g2.block⟩
    have M2 := Lib.hid M2
    clear g2 c0 c1 x0 x1 x2
    go_wp2
    exact bodyPost_ret (v := .tuple #[]) (by simp [results, Try.results46, go_sem]) rfl (swap_tail hi hj H w1 w2 L.out R.out V.out NM.out NR.out G1.out M1.out G2.out M2.out)
  · have e00 : ¬ j * 3 = i * 3 ∧ ¬ j * 3 = i * 3 + 1 ∧ ¬ j * 3 = i * 3 + 2 ∧ ¬ j * 3 + 1 = i * 3 ∧ ¬ j = i ∧ ¬ j * 3 + 1 = i * 3 + 2 ∧ ¬ j * 3 + 2 = i * 3 ∧ ¬ j * 3 + 2 = i * 3 + 1 := by omega
    obtain ⟨e00, e01, e02, e10, e11, e12, e20, e21⟩ := e00
    go_enter Try.func46, Try.ntmps46
    go_wp2_with fail
    go_region
    clear e00 e01 e02 e10 e12 e20 e21
    obtain ⟨W, hW⟩ : ∃ W, W = stored w r i j (f i) (f j) := ⟨_, rfl⟩
    change Exit.then _ _ _ _ (stored w r i j (f i) (f j))
    rw [← hW]
    obtain ⟨L, R, M, V⟩ := stored_ok H.out hi hj hW
    have nm : m ≠ g := fun e => H.out.ne_gm e.symm
    have nr : m ≠ r := fun e => H.out.ne_rm (by omega) e.symm
    clear hW x0 x1 x2 y0 y1 y2 c0 fz RH
    have c0 := L.cell (i := 0) rfl
    have c1 := L.cell (i := 1) rfl
    obtain ⟨x0, x1, x2⟩ := R.cells hi
    rw [sw_left] at x0 x1 x2
    have L := Lib.hid L
    have R := Lib.hid R
    have M := Lib.hid M
    have V := Lib.hid V
    have NM := Lib.hid nm
    have NR := Lib.hid nr
    clear nm nr
    go_wp2_with fail
    go_still_tail 12, (by kernel_rfl)
    have hp1 : p (f j) ≠ none := by rw [(H.out.place (f j) j).2 ⟨hj, rfl⟩]; simp
    have HP := Lib.hid hp1
    have hp2 : place1 p (f j) i (f i) ≠ none := by
      unfold place1
      split
      · simp
      · rw [(H.out.place (f i) i).2 ⟨hi, rfl⟩]; simp
    have HP2 := Lib.hid hp2
    clear hp1 hp2
    refine wpList_store rfl _ _ _ rfl (x := f j) (i := i) (m := m) rfl rfl rfl (M.out.kept rfl) (H.out.fits j hj) (by omega) few (place1_upd _ _ _) ?_
    intro w1 M1 g1
    rw [upd_count HP.out] at M1
    have G1 : Hid (W.grownBy w1 (some m)) := Lib.hid ⟨g1.os, g1.tape, g1.output, g1.size, g1.block⟩
    have M1 := Lib.hid M1
    clear g1 c0 c1 x0 x1 x2
    have c0 := (Lies.cell (w := w1) (G1.out.block _ L.out.lt (by simpa using NM.out.symm) |>.trans L.out) (i := 0) rfl)
    have c1 := (Lies.cell (w := w1) (G1.out.block _ L.out.lt (by simpa using NM.out.symm) |>.trans L.out) (i := 1) rfl)
    obtain ⟨x0, x1, x2⟩ := (R.out.kept (w' := w1) (G1.out.block _ R.out.lt (by simpa using NR.out.symm))).cells hj
    rw [sw_right] at x0 x1 x2
    go_wp2_with fail
    go_still_tail 12, (by kernel_rfl)
    refine wpList_store rfl _ _ _ rfl (x := f i) (i := j) (m := m) rfl rfl rfl (M1.out.kept rfl) (H.out.fits i hi) (by omega) few (place1_upd _ _ _) ?_
    intro w2 M2 g2
    rw [upd_count HP2.out] at M2
    have G2 : Hid (w1.grownBy w2 (some m)) := Lib.hid ⟨g2.os, g2.tape, g2.output, g2.size, g2.block⟩
    have M2 := Lib.hid M2
    clear g2 c0 c1 x0 x1 x2
    go_wp2
    exact bodyPost_ret (v := .tuple #[]) (by simp [results, Try.results46, go_sem]) rfl (swap_tail hi hj H w1 w2 L.out R.out V.out NM.out NR.out G1.out M1.out G2.out M2.out)
end Tmr
end Go.Proofs.Ytomoophjcgahlaa
