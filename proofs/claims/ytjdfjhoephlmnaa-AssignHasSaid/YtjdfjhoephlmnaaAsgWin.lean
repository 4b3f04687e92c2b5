/-
  Contracts of assign.windowFrom and assign.windowsFrom: windows of one length, one behind the other, in memory of their own; or the error, where one doesn't fit.
-/
import Derived.Test.YtjdfjhoephlmnaaAsgMay
import Derived.OwnWalk
import Derived.Laws.OwnMore
import Derived.LoopTactic
namespace Go.Proofs.Ytjdfjhoephlmnaa
open Go.ChangeShapes Go.WideShapes Go.ChangeAt Go.RowKit
namespace Asg
open Base
set_option linter.unusedVariables false

set_option maxHeartbeats 800000 in
theorem windowFrom_ok (a l z : Int) (w : World) (a0 : -9223372036854775808 ≤ a) (a1 : a ≤ 9223372036854775807) (l0 : 1 ≤ l) (l1 : l ≤ 9223372036854775807) (z0 : 0 ≤ z) (z1 : z ≤ 9223372036854775807) (h : a + l + z ≤ 9223372036854775807) :
    Calls Try.prog 22 #[.int .i64 a, .int .i64 l, .int .i64 z] w fun e w' => e = .returned (.tuple #[win a (a + l), .nilIface]) ∧ Below w.heap.size w w' := by
  go_enter Try.func22, Try.ntmps22
  go_wp2_with fail
  refine (Num.add_ok a l _ a0 a1 (by omega) l1 (by omega) (by omega)).mono ?_
  rintro e w' ⟨rfl, rfl⟩
  go_wp2_with fail
  refine (Num.add_ok (a + l) z _ (by omega) (by omega) (by omega) z1 (by omega) (by omega)).mono ?_
  rintro e w' ⟨rfl, rfl⟩
  go_wp2
  exact bodyPost_ret (v := .tuple #[win a (a + l), .nilIface]) (by simp [results, Try.results22, go_sem]) rfl ⟨rfl, below1 _ _⟩

set_option maxHeartbeats 800000 in
theorem windowFrom_bad (a l z : Int) (w : World) (a0 : -9223372036854775808 ≤ a) (a1 : a ≤ 9223372036854775807) (l0 : 1 ≤ l) (l1 : l ≤ 9223372036854775807) (z0 : 0 ≤ z) (z1 : z ≤ 9223372036854775807) (h : 9223372036854775807 < a + l + z) :
    Calls Try.prog 22 #[.int .i64 a, .int .i64 l, .int .i64 z] w fun e w' => e = .returned (.tuple #[win 0 0, .iface 31 (.int .i64 3)]) ∧ Below w.heap.size w w' := by
  by_cases h1 : a + l ≤ 9223372036854775807
  · go_enter Try.func22, Try.ntmps22
    go_wp2_with fail
    refine (Num.add_ok a l _ a0 a1 (by omega) l1 (by omega) h1).mono ?_
    rintro e w' ⟨rfl, rfl⟩
    go_wp2_with fail
    refine (Num.add_bad (a + l) z _ (by omega) (by omega) (by omega) z1 (.inr h)).mono ?_
    rintro e w' ⟨rfl, rfl⟩
    go_wp2
    exact bodyPost_ret (v := .tuple #[win 0 0, .iface 31 (.int .i64 3)]) (by simp [results, Try.results22, go_sem]) rfl ⟨rfl, below1 _ _⟩
  · have h2 : 9223372036854775807 < a + l := by omega
    have H2 := Lib.hid h2
    clear h1 h2 h
    go_enter Try.func22, Try.ntmps22
    go_wp2_with fail
    refine (Num.add_bad a l _ a0 a1 (by omega) l1 (.inr H2.out)).mono ?_
    rintro e w' ⟨rfl, rfl⟩
    go_wp2
    exact bodyPost_ret (v := .tuple #[win 0 0, .iface 31 (.int .i64 3)]) (by simp [results, Try.results22, go_sem]) rfl ⟨rfl, below1 _ _⟩

/-- the cells of n windows, from a on, each d behind the one ahead of it, l long -/
def cells (a d l : Int) : Nat → List Value
  | 0 => []
  | n + 1 => cells a d l n ++ [.int .i64 (a + n * d), .int .i64 (a + n * d + l)]

theorem cells_len (a d l : Int) (n : Nat) : (cells a d l n).length = n * 2 := by
  induction n with
  | zero => rfl
  | succ n ih => simp [cells, ih]; omega

theorem cells_at (a d l : Int) (n i : Nat) (h : i < n) : (cells a d l n)[i * 2]? = some (.int .i64 (a + i * d)) ∧ (cells a d l n)[i * 2 + 1]? = some (.int .i64 (a + i * d + l)) := by
  induction n with
  | zero => omega
  | succ n ih =>
    have hl := cells_len a d l n
    by_cases hi : i < n
    · obtain ⟨h0, h1⟩ := ih hi
      rw [cells, List.getElem?_append_left (by omega), List.getElem?_append_left (by omega)]
      exact ⟨h0, h1⟩
    · obtain rfl : i = n := by omega
      rw [cells, List.getElem?_append_right (by omega), List.getElem?_append_right (by omega), hl]
      simp

/-- a slice at the head of block g holds n windows, from a on, each d behind the one ahead of it, l long -/
def Wins (w : World) (g n : Nat) (a d l : Int) : Prop := ∀ i : Nat, i < n → w.cell? ⟨g, i * 2, none⟩ = some (.int .i64 (a + i * d)) ∧ w.cell? ⟨g, i * 2 + 1, none⟩ = some (.int .i64 (a + i * d + l))

theorem Wins.next {w w' : World} {g n : Nat} {a d l : Int} (k : Below w.heap.size w w') (h : Wins w g n a d l) : Wins w' g n a d l := fun i hi => ⟨cell_keep k (h i hi).1, cell_keep k (h i hi).2⟩

theorem Wins.of_own {w : World} {base g n c : Nat} {a d l : Int} {e : TypeId} (h : w.ownsRow base e 2 (.slice (some ⟨g, 0, none⟩) n c) n (cells a d l n)) : Wins w g n a d l := by
  intro i hi
  obtain ⟨h0, h1⟩ := cells_at a d l n i hi
  have x0 := h.cells (g := g) rfl _ _ h0
  have x1 := h.cells (g := g) rfl _ _ h1
  rw [Addr.add_lit, Nat.zero_add] at x0 x1
  exact ⟨x0, x1⟩

theorem Try.infoWin : (Try.prog.info? 38).map (fun i => (i.zero, i.size, i.bytes)) = some (some (.agg #[.int .i64 0, .int .i64 0]), 2, 16) := by kernel_rfl

/-- what windowsFrom comes to -/
def Made (w : World) (n : Nat) (a d l : Int) (e : Ending) (w' : World) : Prop :=
  ∃ g c : Nat, e = .returned (.tuple #[.slice (some ⟨g, 0, none⟩) n c, .nilIface]) ∧ Wins w' g n a d l ∧ Below w.heap.size w w'
def Fails (v : Value) (w : World) (e : Ending) (w' : World) : Prop := e = .returned (.tuple #[.slice none 0 0, v]) ∧ Below w.heap.size w w'

theorem own_next {w w' : World} {base : Nat} {e : TypeId} {size : Nat} {v : Value} {n : Nat} {xs : List Value} (k : Below w.heap.size w w') (h : w.ownsRow base e size v n xs) : w'.ownsRow base e size v n xs := by
  refine ⟨h.1, ?_⟩
  rcases h.2 with h0 | ⟨g, cap, cur, h1, h2, h3, h4⟩
  · exact .inl h0
  · refine .inr ⟨g, cap, cur, h1, h2, ?_, h4⟩
    have hg : g < w.heap.size := by
      rcases Nat.lt_or_ge g w.heap.size with hlt | hge
      · exact hlt
      · rw [Array.getElem?_eq_none hge] at h3; cases h3
    exact (k.block g hg).trans h3

theorem two_one (x y : Int) : ∀ u ∈ [Value.int .i64 x, Value.int .i64 y], u.oneCell' = true := by
  intro u hu
  simp at hu
  rcases hu with rfl | rfl <;> rfl

theorem two_cells (w1 : World) (x y : Int) : ∀ j u, [Value.int .i64 x, Value.int .i64 y][j]? = some u →
    ((w1.alloc (Obj.cells #[.int .i64 x, .int .i64 y] 38)).alloc (Obj.cells #[.int .i64 x, .int .i64 y] 38)).cell? ((⟨w1.heap.size + 1, 0, none⟩ : Addr).add j) = some u := by
  intro j u hu
  match j, hu with
  | 0, hu => simp at hu; subst hu; go_simp
  | 1, hu => simp at hu; subst hu; rw [Addr.add_lit]; go_simp

theorem own_step {w : World} {base n : Nat} {a d l : Int} {e : TypeId} {u : Value} (h : w.ownsRow base e 2 u (n + 1) (cells a d l n ++ [.int .i64 (a + n * d), .int .i64 (a + n * d + l)])) : w.ownsRow base e 2 u (n + 1) (cells a d l (n + 1)) := h

/-- the numbers that the rounds come to -/
theorem mul_bd (d : Int) (n i : Nat) (hd : 0 ≤ d) (hi : i < n) : 0 ≤ (i : Int) * d ∧ (i : Int) * d ≤ ((n : Int) - 1) * d :=
  ⟨Int.mul_nonneg (by omega) hd, Int.mul_le_mul_of_nonneg_right (by omega) hd⟩

set_option maxHeartbeats 1600000 in
theorem windowsFrom_ok (a d l z : Int) (n : Nat) (w : World) (n0 : 1 ≤ n) (n1 : n ≤ 16) (a0 : -9223372036854775808 ≤ a) (d0 : 0 ≤ d) (d1 : d ≤ 9223372036854775807) (l0 : 1 ≤ l) (l1 : l ≤ 9223372036854775807) (z0 : 0 ≤ z) (z1 : z ≤ 9223372036854775807)
    (m1 : Hid (((n : Int) - 1) * d ≤ 9223372036854775807)) (h : Hid (a + ((n : Int) - 1) * d + l + z ≤ 9223372036854775807)) :
    Calls Try.prog 13 #[.int .i64 a, .int .i64 d, .int .i64 n, .int .i64 l, .int .i64 z] w (Made w n a d l) := by
  obtain ⟨i0, hi, hz0, hz1, hz2⟩ := info_parts Try.infoWin
  go_enter Try.func13, Try.ntmps13
  go_wp2_with (at_make; refine wpList_make_own _ rfl _ _ 25 rfl w.heap.size 38 i0 (.agg #[.int .i64 0, .int .i64 0]) 2 Try.underlying25 hi hz0 hz1 _ _ _ n rfl rfl rfl ?b2 ?b3 (Nat.le_refl _) ?_)
  case b2 => rw [hz2]; omega
  case b3 => unfold maxLen; omega
  intro w0 hown0 hgrow0
  go_wp2
  go_loopw [12, 19] (fun out si wr => ∃ i : Nat, i ≤ n ∧ si = .int .i64 i ∧ out = .slice (some ⟨w.heap.size, 0, none⟩) i n ∧
      Hid (wr.ownsRow w.heap.size 38 2 (.slice (some ⟨w.heap.size, 0, none⟩) i n) i (cells a d l i)) ∧ Below w.heap.size w wr)
    (fun _ si _ => n - (intOf si).toNat)
  case atStart => exact ⟨0, Nat.zero_le _, rfl, rfl, Lib.hid hown0, (Below.refl _ _).grown hgrow0 (Nat.le_refl _) (fun k h => by cases h)⟩
  case round =>
    obtain ⟨i, hin, rfl, rfl, Hown, hnx⟩ := hrel
    by_cases hlt : i < n
    · have hb := mul_bd d n i d0 hlt
      have hm := m1.out
      have hh := h.out
      obtain ⟨b0, b1⟩ := hb
      have b2 : (i : Int) * d ≤ 9223372036854775807 := by omega
      have b3 : a + (i : Int) * d ≤ 9223372036854775807 := by omega
      have b4 : a + (i : Int) * d + l + z ≤ 9223372036854775807 := by omega
      clear hm hh b1
      go_wp2_with fail
      refine (windowFrom_ok (a + i * d) l z _ (by omega) b3 l0 l1 z0 z1 b4).mono ?_
      rintro e w1 ⟨rfl, k1⟩
      have O1 := Lib.hid (((own_next k1 Hown.out).alloc (Obj.cells #[.int .i64 (a + i * d), .int .i64 (a + i * d + l)] 38)).alloc (Obj.cells #[.int .i64 (a + i * d), .int .i64 (a + i * d + l)] 38))
      have Y := Lib.hid (two_cells w1 (a + i * d) (a + i * d + l))
      go_wp2_with (at_builtin; refine wpList_append_fits _ rfl (.tmp 36) (.tmp 38) 25 rfl w.heap.size 38 i0 2 Try.underlying25 hi hz1 w.heap.size i n (cells a d l i) rfl O1.out ⟨w1.heap.size + 1, 0, none⟩ 1 1 [.int .i64 (a + i * d), .int .i64 (a + i * d + l)] rfl rfl Y.out (two_one _ _) (by omega) ?_; intro w2 hown2 hgrow2; have O2 := Lib.hid hown2; clear hown2)
      go_roundw
      case rel =>
        have hs1 := hnx.size
        have hs2 := k1.size
        exact ⟨i + 1, by omega, by go_num, rfl, Lib.hid (own_step O2.out), ((after hnx k1).trans (below2 _ _ _ |>.mono (by omega))).grown hgrow2 (by simp; omega) (fun k hk => by cases hk; exact Nat.le_refl _)⟩
      case measure => simp [intOf]; omega
    · obtain rfl : i = n := by omega
      go_wp2
      go_ret2
      exact ⟨_, _, rfl, Wins.of_own Hown.out, hnx⟩

set_option maxHeartbeats 1600000 in
theorem windowsFrom_bad (a d l z : Int) (n : Nat) (w : World) (n0 : 1 ≤ n) (n1 : n ≤ 16) (a0 : -9223372036854775808 ≤ a) (d0 : 0 ≤ d) (d1 : d ≤ 9223372036854775807) (l0 : 1 ≤ l) (l1 : l ≤ 9223372036854775807) (z0 : 0 ≤ z) (z1 : z ≤ 9223372036854775807)
    (m1 : Hid (((n : Int) - 1) * d ≤ 9223372036854775807)) (m2 : Hid (a + ((n : Int) - 1) * d ≤ 9223372036854775807)) (h : Hid (9223372036854775807 < a + ((n : Int) - 1) * d + l + z)) :
    Calls Try.prog 13 #[.int .i64 a, .int .i64 d, .int .i64 n, .int .i64 l, .int .i64 z] w (Fails (.iface 31 (.int .i64 3)) w) := by
  obtain ⟨i0, hi, hz0, hz1, hz2⟩ := info_parts Try.infoWin
  go_enter Try.func13, Try.ntmps13
  go_wp2_with (at_make; refine wpList_make_own _ rfl _ _ 25 rfl w.heap.size 38 i0 (.agg #[.int .i64 0, .int .i64 0]) 2 Try.underlying25 hi hz0 hz1 _ _ _ n rfl rfl rfl ?b2 ?b3 (Nat.le_refl _) ?_)
  case b2 => rw [hz2]; omega
  case b3 => unfold maxLen; omega
  intro w0 hown0 hgrow0
  go_wp2
  go_loopw [12, 19] (fun out si wr => ∃ i : Nat, i < n ∧ si = .int .i64 i ∧ out = .slice (some ⟨w.heap.size, 0, none⟩) i n ∧
      Hid (wr.ownsRow w.heap.size 38 2 (.slice (some ⟨w.heap.size, 0, none⟩) i n) i (cells a d l i)) ∧ Below w.heap.size w wr)
    (fun _ si _ => n - (intOf si).toNat)
  case atStart => exact ⟨0, by omega, rfl, rfl, Lib.hid hown0, (Below.refl _ _).grown hgrow0 (Nat.le_refl _) (fun k h => by cases h)⟩
  case round =>
    obtain ⟨i, hlt, rfl, rfl, Hown, hnx⟩ := hrel
    have hb := mul_bd d n i d0 hlt
    have hm := m1.out
    have hm2 := m2.out
    have hh := h.out
    obtain ⟨b0, b1⟩ := hb
    have b2 : (i : Int) * d ≤ 9223372036854775807 := by omega
    have b3 : a + (i : Int) * d ≤ 9223372036854775807 := by omega
    by_cases b4 : a + (i : Int) * d + l + z ≤ 9223372036854775807
    · have b5 : i + 1 < n := by
        by_cases he : i + 1 = n
        · have e : (n : Int) - 1 = i := by omega
          rw [e] at hh; omega
        · omega
      clear hm hm2 hh b1
      go_wp2_with fail
      refine (windowFrom_ok (a + i * d) l z _ (by omega) b3 l0 l1 z0 z1 b4).mono ?_
      rintro e w1 ⟨rfl, k1⟩
      have O1 := Lib.hid (((own_next k1 Hown.out).alloc (Obj.cells #[.int .i64 (a + i * d), .int .i64 (a + i * d + l)] 38)).alloc (Obj.cells #[.int .i64 (a + i * d), .int .i64 (a + i * d + l)] 38))
      have Y := Lib.hid (two_cells w1 (a + i * d) (a + i * d + l))
      go_wp2_with (at_builtin; refine wpList_append_fits _ rfl (.tmp 36) (.tmp 38) 25 rfl w.heap.size 38 i0 2 Try.underlying25 hi hz1 w.heap.size i n (cells a d l i) rfl O1.out ⟨w1.heap.size + 1, 0, none⟩ 1 1 [.int .i64 (a + i * d), .int .i64 (a + i * d + l)] rfl rfl Y.out (two_one _ _) (by omega) ?_; intro w2 hown2 hgrow2; have O2 := Lib.hid hown2; clear hown2)
      go_roundw
      case rel =>
        have hs1 := hnx.size
        have hs2 := k1.size
        exact ⟨i + 1, b5, by go_num, rfl, Lib.hid (own_step O2.out), ((after hnx k1).trans (below2 _ _ _ |>.mono (by omega))).grown hgrow2 (by simp; omega) (fun k hk => by cases hk; exact Nat.le_refl _)⟩
      case measure => simp [intOf]; omega
    · have b5 := Lib.hid (show 9223372036854775807 < a + (i : Int) * d + l + z by omega)
      clear hm hm2 hh b1 b4
      go_wp2_with fail
      refine (windowFrom_bad (a + i * d) l z _ (by omega) b3 l0 l1 z0 z1 b5.out).mono ?_
      rintro e w1 ⟨rfl, k1⟩
      go_wp2
      go_ret2
      exact ⟨rfl, (after hnx k1).trans ((below1 _ _).mono (by have := hnx.size; have := k1.size; omega))⟩

theorem windowsFrom_made (a d l z N : Int) (n : Nat) (w : World) (hN : N = n) (n0 : 1 ≤ n) (n1 : n ≤ 16) (a0 : -9223372036854775808 ≤ a) (d0 : 0 ≤ d) (d1 : d ≤ 9223372036854775807) (l0 : 1 ≤ l) (l1 : l ≤ 9223372036854775807) (z0 : 0 ≤ z) (z1 : z ≤ 9223372036854775807)
    (m1 : Hid (((n : Int) - 1) * d ≤ 9223372036854775807)) (h : Hid (a + ((n : Int) - 1) * d + l + z ≤ 9223372036854775807)) :
    Calls Try.prog 13 #[.int .i64 a, .int .i64 d, .int .i64 N, .int .i64 l, .int .i64 z] w (Made w n a d l) := by
  subst hN
  exact windowsFrom_ok a d l z n w n0 n1 a0 d0 d1 l0 l1 z0 z1 m1 h
theorem windowsFrom_fails (a d l z N : Int) (n : Nat) (w : World) (hN : N = n) (n0 : 1 ≤ n) (n1 : n ≤ 16) (a0 : -9223372036854775808 ≤ a) (d0 : 0 ≤ d) (d1 : d ≤ 9223372036854775807) (l0 : 1 ≤ l) (l1 : l ≤ 9223372036854775807) (z0 : 0 ≤ z) (z1 : z ≤ 9223372036854775807)
    (m1 : Hid (((n : Int) - 1) * d ≤ 9223372036854775807)) (m2 : Hid (a + ((n : Int) - 1) * d ≤ 9223372036854775807)) (h : Hid (9223372036854775807 < a + ((n : Int) - 1) * d + l + z)) :
    Calls Try.prog 13 #[.int .i64 a, .int .i64 d, .int .i64 N, .int .i64 l, .int .i64 z] w (Fails (.iface 31 (.int .i64 3)) w) := by
  subst hN
  exact windowsFrom_bad a d l z n w n0 n1 a0 d0 d1 l0 l1 z0 z1 m1 m2 h
end Asg
end Go.Proofs.Ytjdfjhoephlmnaa
