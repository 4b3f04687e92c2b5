/-
  Contracts of the layer-7 statements' own helpers: easelref06.Of and Same, easellaw07.set and sums.
-/
import Derived.Test.YtmklkiklegkioaaGreatPaneAt
import Derived.Test.YtmklkiklegkioaaGreatRefSpan
import Derived.Test.YtmklkiklegkioaaGreatDrawn
import Derived.Test.YtmklkiklegkioaaGreatPaneList
namespace Go.Proofs.YtmklkiklegkioaaGreat
open Go.ChangeShapes Go.WideShapes Go.ChangeAt Go.RowKit Small
set_option linter.unusedVariables false
namespace Pane


set_option maxRecDepth 100000 in
set_option maxHeartbeats 4000000 in
theorem same_yes (l m : Value) (L : List Pn) (b c : Nat) (w : World) (H : Hid (Sl.Is Pn.k w l L b)) (G : Hid (Sl.Is Pn.k w m L c)) (hn : L.length ≤ 9000) :
    Calls Tryz.prog 17 #[l, m] w fun r w' => r = .returned (.bool true) ∧ Below w.heap.size w w' := by
  obtain ⟨AD, cap, hl⟩ := H.out.len
  obtain ⟨AE, cap2, hm⟩ := G.out.len
  subst hl hm
  go_enter Tryz.func17, Tryz.ntmps17
  go_wp2_with fail
  go_loopw [5] (fun si wr => ∃ (i : Nat), i ≤ L.length ∧ si = .int .i64 i ∧ Hid (Below w.heap.size w wr)) (fun si _ => L.length - (intOf si).toNat)
  case atStart => exact ⟨0, by omega, rfl, Lib.hid (Below.refl _ _)⟩
  case round =>
    obtain ⟨i, hi, rfl, K⟩ := hrel
    by_cases hlt : i < L.length
    · obtain ⟨off, cap', he, h2, h3, h4, hcell⟩ := H.out.some_ Pn.ok (by omega)
      obtain ⟨rfl, rfl⟩ : AD = some ⟨b, off, none⟩ ∧ cap = cap' := by simpa using he
      obtain ⟨off2, cap3, he2, h22, h23, h24, hcell2⟩ := G.out.some_ Pn.ok (by omega)
      obtain ⟨rfl, rfl⟩ : AE = some ⟨c, off2, none⟩ ∧ cap2 = cap3 := by simpa using he2
      obtain ⟨p, hp⟩ := at_some hlt
      obtain ⟨c0, c1, c2, c3, c4, c5, c6⟩ := Tmr.pane_cells hp hcell
      obtain ⟨d0, d1, d2, d3, d4, d5, d6⟩ := Tmr.pane_cells hp hcell2
      have i0 : (i : Int) < L.length := by omega
      have ne : ∀ w' : World, (binOp .neq 84 (.agg #[.string p.key, .int .i64 p.s, .int .i64 p.e, .int .i64 p.c, .int .i64 p.m, .int .i64 p.l, .int .i64 p.u]) (.agg #[.string p.key, .int .i64 p.s, .int .i64 p.e, .int .i64 p.c, .int .i64 p.m, .int .i64 p.l, .int .i64 p.u])).run Tryz.prog w' = .ok (.bool false) w' := fun w' => by
        simp [go_sem]
      clear hcell he h2 h3 h4 hp hcell2 he2 h22 h23 h24
      go_wp2_with fail
      have f0 := Later.cell (cell_keep K.out c0)
      have f1 := Later.cell (cell_keep K.out c1)
      have f2 := Later.cell (cell_keep K.out c2)
      have f3 := Later.cell (cell_keep K.out c3)
      have f4 := Later.cell (cell_keep K.out c4)
      have f5 := Later.cell (cell_keep K.out c5)
      have f6 := Later.cell (cell_keep K.out c6)
      have g0 := Later.cell (cell_keep K.out d0)
      have g1 := Later.cell (cell_keep K.out d1)
      have g2 := Later.cell (cell_keep K.out d2)
      have g3 := Later.cell (cell_keep K.out d3)
      have g4 := Later.cell (cell_keep K.out d4)
      have g5 := Later.cell (cell_keep K.out d5)
      have g6 := Later.cell (cell_keep K.out d6)
      clear c0 c1 c2 c3 c4 c5 c6 d0 d1 d2 d3 d4 d5 d6
      refine wp_region_later (by kernel_rfl) (by kernel_rfl) ?_
      repeat (go_big_quiet_step (fail))
      refine wpQuiet_nil ?_
      rintro _ ⟨u, rfl⟩
      have K2 := Lib.hid (after K.out u.below)
      clear f0 f1 f2 f3 f4 f5 f6 g0 g1 g2 g3 g4 g5 g6
      generalize u.w = w2 at *
      go_wp2_with fail
      exact ⟨⟨i + 1, by omega, by go_num, K2⟩, by simp [intOf]; omega⟩
    · obtain rfl : i = L.length := by omega
      go_wp2
      go_ret
      exact ⟨rfl, K.out⟩

theorem is_take {w : World} {b off cap : Nat} {L : List Pn} (h : Sl.Is Pn.k w (.slice (some ⟨b, off, none⟩) L.length cap) L b) {m : Nat} (hm : m ≤ L.length) : Sl.Is Pn.k w (.slice (some ⟨b, off, none⟩) m cap) (L.take m) b := by
  rcases h with ⟨q, _⟩ | ⟨off', cap', q, h2, h3, h4, h5⟩
  · simp at q
  · obtain ⟨rfl, rfl⟩ : off = off' ∧ cap = cap' := by simpa using q
    refine .inr ⟨off, cap, by rw [List.length_take, Nat.min_eq_left hm], by rw [List.length_take]; omega, h3, h4, fun j u hj => h5 j u ?_⟩
    rw [Sl.flat_take Pn.ok, List.getElem?_take] at hj
    split at hj
    · exact hj
    · cases hj
theorem is_drop {w : World} {b off cap : Nat} {L : List Pn} (h : Sl.Is Pn.k w (.slice (some ⟨b, off, none⟩) L.length cap) L b) {m : Nat} (hm : m ≤ L.length) : Sl.Is Pn.k w (.slice (some ⟨b, if cap = m then off else off + m * 7, none⟩) (L.length - m) (cap - m)) (L.drop m) b := by
  rcases h with ⟨q, _⟩ | ⟨off', cap', q, h2, h3, h4, h5⟩
  · simp at q
  · obtain ⟨rfl, rfl⟩ : off = off' ∧ cap = cap' := by simpa using q
    refine .inr ⟨_, cap - m, by rw [List.length_drop], by rw [List.length_drop]; omega, by omega, h4, fun j u hj => ?_⟩
    rw [Sl.flat_drop Pn.ok, List.getElem?_drop] at hj
    split
    · have hl : m * Pn.k.k + j < (Sl.flat Pn.k L).length := (List.getElem?_eq_some_iff.1 hj).1
      rw [Sl.flat_len Pn.ok] at hl
      have : L.length * Pn.k.k ≤ m * Pn.k.k := Nat.mul_le_mul_right _ (by omega)
      omega
    · rw [Nat.add_assoc]; exact h5 _ u hj
theorem own_base2 {base base' : Nat} {w : World} {v : Value} {L : List Pn} (h : Sl.Own Pn.k base w v L) (hb : base' ≤ base) : Sl.Own Pn.k base' w v L := by
  refine ⟨h.1, ?_⟩
  rcases h.2 with q | ⟨g, cap, cur, h1, h2, h3⟩
  · exact .inl q
  · exact .inr ⟨g, cap, cur, h1, by omega, h3⟩


def sumC (L : List Pn) : Int := (L.map (·.c)).sum
def sumM (L : List Pn) : Int := (L.map (·.m)).sum
theorem wrap_add (a b : Int) : wrap64 (wrap64 a + b) = wrap64 (a + b) := by unfold wrap64; omega

end Pane
end Go.Proofs.YtmklkiklegkioaaGreat
