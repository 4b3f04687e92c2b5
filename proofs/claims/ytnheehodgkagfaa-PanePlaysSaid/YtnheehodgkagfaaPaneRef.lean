/-
  Contracts of the layer-7 statements' own helpers: easelref06.Of and Same, easellaw07.set and sums.
-/
import Derived.Test.YtnheehodgkagfaaPanePlace
import Derived.Test.YtnheehodgkagfaaRefSpan
import Derived.Test.YtnheehodgkagfaaRelG
import Derived.Test.YtnheehodgkagfaaPaneFind
namespace Go.Proofs.Ytnheehodgkagfaa
open Go.ChangeShapes Go.WideShapes Go.ChangeAt Go.RowKit Small
set_option linter.unusedVariables false
namespace Pane

set_option maxRecDepth 100000 in
set_option maxHeartbeats 4000000 in
theorem of_ok (l : Value) (L : List Pn) (b : Nat) (key : ByteArray) (w : World) (H : Hid (Sl.Is Pn.k w l L b)) (hn : L.length ≤ 1000) (hk : Hid (∀ p ∈ L, p.key = key)) :
    Calls Try.prog 12 #[l, .string key] w fun r w' => ∃ v', r = .returned v' ∧ Sl.Own Pn.k w.heap.size w' v' L ∧ Below w.heap.size w w' := by
  obtain ⟨AD, cap, hl⟩ := H.out.len
  subst hl
  have hkk : (key.toList == key.toList) = true := by simp
  go_enter Try.func12, Try.ntmps12
  go_wp2_with fail
  go_loopw [5, 6] (fun sv si wr => ∃ (i : Nat), i ≤ L.length ∧ si = .int .i64 i ∧ Hid (Sl.Own Pn.k w.heap.size wr sv (L.take i)) ∧ Hid (Below w.heap.size w wr)) (fun _ si _ => L.length - (intOf si).toNat)
  case atStart => exact ⟨0, by omega, rfl, Lib.hid (Sl.Own.nil _ _ _), Lib.hid (Below.refl _ _)⟩
  case round =>
    obtain ⟨i, hi, rfl, O, K⟩ := hrel
    by_cases hlt : i < L.length
    · obtain ⟨off, cap', he, h2, h3, h4, hcell⟩ := H.out.some_ Pn.ok (by omega)
      obtain ⟨rfl, rfl⟩ : AD = some ⟨b, off, none⟩ ∧ cap = cap' := by simpa using he
      obtain ⟨p, hp⟩ := at_some hlt
      have hpk : p.key = key := hk.out p (List.mem_of_getElem? hp)
      obtain ⟨c0, c1, c2, c3, c4, c5, c6⟩ := Tmr.pane_cells hp hcell
      have HP := Lib.hid hp
      rw [hpk] at c0
      obtain ⟨pk, ps, pe, pc, pm, pl, pu⟩ := p
      simp only at hpk
      subst hpk
      have c0 := cell_keep K.out c0
      have c1 := cell_keep K.out c1
      have c2 := cell_keep K.out c2
      have c3 := cell_keep K.out c3
      have c4 := cell_keep K.out c4
      have c5 := cell_keep K.out c5
      have c6 := cell_keep K.out c6
      have i0 : (i : Int) < L.length := by omega
      have hw := Lib.hid K.out.size
      have ht : Hid ((L.take i).length = i) := Lib.hid (by rw [List.length_take]; omega)
      clear hcell he h2 h3 h4 hp
      go_wp2_with (at_builtin; refine wpList_plain rfl fun K' hK' => Sl.wp_append (K := Pn.k) Pn.ok (.tmp 20) (.tmp 25) rfl (base := w.heap.size) (l := L.take i) (l2 := [⟨pk, ps, pe, pc, pm, pl, pu⟩]) (by exact O.out.next (below1 _ _)) (by exact Sl.Is.one Pn.ok (x := ⟨pk, ps, pe, pc, pm, pl, pu⟩) (Lies.new _ _ _)) (by have := ht.out; simp only [List.length_singleton]; omega) (by have := hw.out; simp; omega) (fun v' w3 x1 x2 x3 => hK' _ _ ?_))
      have O2 := Lib.hid x1
      have K2 : Hid (Below w.heap.size w w3) := Lib.hid (((after K.out (below1 _ _))).grown x2 (by have := hw.out; simp; omega) (fun a ha => (O.out.lt a ha).1))
      clear x1 x2 x3
      go_wp2_with fail
      exact ⟨⟨i + 1, by omega, by go_num, Lib.hid (by rw [List.take_add_one, HP.out]; exact O2.out), K2⟩, by simp [intOf]; omega⟩
    · obtain rfl : i = L.length := by omega
      go_wp2
      go_ret
      exact ⟨_, rfl, by have := O.out; rwa [List.take_length] at this, K.out⟩

set_option maxRecDepth 100000 in
set_option maxHeartbeats 4000000 in
theorem same_yes (l m : Value) (L : List Pn) (b c : Nat) (w : World) (H : Hid (Sl.Is Pn.k w l L b)) (G : Hid (Sl.Is Pn.k w m L c)) (hn : L.length ≤ 1000) :
    Calls Try.prog 14 #[l, m] w fun r w' => r = .returned (.bool true) ∧ Below w.heap.size w w' := by
  obtain ⟨AD, cap, hl⟩ := H.out.len
  obtain ⟨AE, cap2, hm⟩ := G.out.len
  subst hl hm
  go_enter Try.func14, Try.ntmps14
  go_wp2_with fail
  go_loopw [5] (fun si wr => ∃ (i : Nat), i ≤ L.length ∧ si = .int .i64 i ∧ Hid (Below w.heap.size w wr)) (fun si _ => L.length - (intOf si).toNat)
  case atStart => exact ⟨0, by omega, rfl, Lib.hid (Below.refl _ _)⟩
  case round =>
    obtain ⟨i, hi, rfl, K⟩ := hrel
    by_cases hlt : i < L.length
    · obtain ⟨off, cap', he, h2, h3, h4, hcell⟩ := H.out.some_ Pn.ok (by omega)
      obtain ⟨rfl, rfl⟩ : AD = some ⟨b, off, none⟩ ∧ cap = cap' := by simpa using he
      obtain ⟨off2, cap3, he2, h22, h23, h24, hcell2⟩ := G.out.some_ Pn.ok (by omega)
      obtain ⟨rfl, rfl⟩ : AE = some ⟨c, off2, none⟩ ∧ cap2 = cap3 := by simpa using he2
      obtain ⟨p, hp⟩ := at_some hlt
      obtain ⟨c0, c1, c2, c3, c4, c5, c6⟩ := Tmr.pane_cells hp hcell
      obtain ⟨d0, d1, d2, d3, d4, d5, d6⟩ := Tmr.pane_cells hp hcell2
      have i0 : (i : Int) < L.length := by omega
      have ne : ∀ w' : World, (binOp .neq 33 (.agg #[.string p.key, .int .i64 p.s, .int .i64 p.e, .int .i64 p.c, .int .i64 p.m, .int .i64 p.l, .int .i64 p.u]) (.agg #[.string p.key, .int .i64 p.s, .int .i64 p.e, .int .i64 p.c, .int .i64 p.m, .int .i64 p.l, .int .i64 p.u])).run Try.prog w' = .ok (.bool false) w' := fun w' => by
        simp [go_sem]
      clear hcell he h2 h3 h4 hp hcell2 he2 h22 h23 h24
      go_wp2_with fail
      have f0 := Later.cell (cell_keep K.out c0)
      have f1 := Later.cell (cell_keep K.out c1)
      have f2 := Later.cell (cell_keep K.out c2)
      have f3 := Later.cell (cell_keep K.out c3)
      have f4 := Later.cell (cell_keep K.out c4)
      have f5 := Later.cell (cell_keep K.out c5)
      have f6 := Later.cell (cell_keep K.out c6)
      have g0 := Later.cell (cell_keep K.out d0)
      have g1 := Later.cell (cell_keep K.out d1)
      have g2 := Later.cell (cell_keep K.out d2)
      have g3 := Later.cell (cell_keep K.out d3)
      have g4 := Later.cell (cell_keep K.out d4)
      have g5 := Later.cell (cell_keep K.out d5)
      have g6 := Later.cell (cell_keep K.out d6)
      clear c0 c1 c2 c3 c4 c5 c6 d0 d1 d2 d3 d4 d5 d6
      refine wp_region_later (by kernel_rfl) (by kernel_rfl) ?_
      repeat (go_big_quiet_step (fail))
      refine wpQuiet_nil ?_
      rintro _ ⟨u, rfl⟩
      have K2 := Lib.hid (after K.out u.below)
      clear f0 f1 f2 f3 f4 f5 f6 g0 g1 g2 g3 g4 g5 g6
      generalize u.w = w2 at *
      go_wp2_with fail
      exact ⟨⟨i + 1, by omega, by go_num, K2⟩, by simp [intOf]; omega⟩
    · obtain rfl : i = L.length := by omega
      go_wp2
      go_ret
      exact ⟨rfl, K.out⟩

theorem is_take {w : World} {b off cap : Nat} {L : List Pn} (h : Sl.Is Pn.k w (.slice (some ⟨b, off, none⟩) L.length cap) L b) {m : Nat} (hm : m ≤ L.length) : Sl.Is Pn.k w (.slice (some ⟨b, off, none⟩) m cap) (L.take m) b := by
  rcases h with ⟨q, _⟩ | ⟨off', cap', q, h2, h3, h4, h5⟩
  · simp at q
  · obtain ⟨rfl, rfl⟩ : off = off' ∧ cap = cap' := by simpa using q
    refine .inr ⟨off, cap, by rw [List.length_take, Nat.min_eq_left hm], by rw [List.length_take]; omega, h3, h4, fun j u hj => h5 j u ?_⟩
    rw [Sl.flat_take Pn.ok, List.getElem?_take] at hj
    split at hj
    · exact hj
    · cases hj
theorem is_drop {w : World} {b off cap : Nat} {L : List Pn} (h : Sl.Is Pn.k w (.slice (some ⟨b, off, none⟩) L.length cap) L b) {m : Nat} (hm : m ≤ L.length) : Sl.Is Pn.k w (.slice (some ⟨b, if cap = m then off else off + m * 7, none⟩) (L.length - m) (cap - m)) (L.drop m) b := by
  rcases h with ⟨q, _⟩ | ⟨off', cap', q, h2, h3, h4, h5⟩
  · simp at q
  · obtain ⟨rfl, rfl⟩ : off = off' ∧ cap = cap' := by simpa using q
    refine .inr ⟨_, cap - m, by rw [List.length_drop], by rw [List.length_drop]; omega, by omega, h4, fun j u hj => ?_⟩
    rw [Sl.flat_drop Pn.ok, List.getElem?_drop] at hj
    split
    · have hl : m * Pn.k.k + j < (Sl.flat Pn.k L).length := (List.getElem?_eq_some_iff.1 hj).1
      rw [Sl.flat_len Pn.ok] at hl
      have : L.length * Pn.k.k ≤ m * Pn.k.k := Nat.mul_le_mul_right _ (by omega)
      omega
    · rw [Nat.add_assoc]; exact h5 _ u hj
theorem own_base2 {base base' : Nat} {w : World} {v : Value} {L : List Pn} (h : Sl.Own Pn.k base w v L) (hb : base' ≤ base) : Sl.Own Pn.k base' w v L := by
  refine ⟨h.1, ?_⟩
  rcases h.2 with q | ⟨g, cap, cur, h1, h2, h3⟩
  · exact .inl q
  · exact .inr ⟨g, cap, cur, h1, by omega, h3⟩

set_option maxRecDepth 100000 in
set_option maxHeartbeats 4000000 in
theorem set_ok (l : Value) (L : List Pn) (b k : Nat) (p : Pn) (w : World) (H : Hid (Sl.Is Pn.k w l L b)) (hn : L.length ≤ 1000) (A : Hid (At L p.s p.e k)) :
    Calls Try.prog 15 #[l, p.v] w fun r w' => ∃ v', r = .returned v' ∧ Sl.Own Pn.k w.heap.size w' v' (L.take k ++ p :: L.drop k) ∧ Below w.heap.size w w' := by
  obtain ⟨AD, cap, hl⟩ := H.out.len
  subst hl
  have hk := A.out.le
  go_enter Try.func15, Try.ntmps15
  go_wp2_with fail
  have K0 := Lib.hid (below1 w (Obj.cells p.cl.toArray 33))
  have Z0 := Lib.hid (Lies.new w 33 p.cl)
  change Hid (Below w.heap.size w (w.alloc (Obj.cells #[.string p.key, .int .i64 p.s, .int .i64 p.e, .int .i64 p.c, .int .i64 p.m, .int .i64 p.l, .int .i64 p.u] 33))) at K0
  change Hid (Lies (w.alloc (Obj.cells #[.string p.key, .int .i64 p.s, .int .i64 p.e, .int .i64 p.c, .int .i64 p.m, .int .i64 p.l, .int .i64 p.u] 33)) w.heap.size 33 p.cl) at Z0
  generalize w.alloc (Obj.cells #[.string p.key, .int .i64 p.s, .int .i64 p.e, .int .i64 p.c, .int .i64 p.m, .int .i64 p.l, .int .i64 p.u] 33) = w0 at *
  go_loopw [5, 6] (fun sa si wr => ∃ (i : Nat), i ≤ L.length ∧ sa = .int .i64 ((min i k : Nat) : Int) ∧ si = .int .i64 i ∧ Hid (Below w0.heap.size w0 wr)) (fun _ si _ => L.length - (intOf si).toNat)
  case atStart => exact ⟨0, by omega, by simp, rfl, Lib.hid (Below.refl _ _)⟩
  case round =>
    obtain ⟨i, hi, rfl, rfl, K⟩ := hrel
    by_cases hlt : i < L.length
    · obtain ⟨off, cap', he, h2, h3, h4, hcell⟩ := H.out.some_ Pn.ok (by omega)
      obtain ⟨rfl, rfl⟩ : AD = some ⟨b, off, none⟩ ∧ cap = cap' := by simpa using he
      obtain ⟨y, hy⟩ := at_some hlt
      obtain ⟨c0, c1, c2, c3, c4, c5, c6⟩ := Tmr.pane_cells hy hcell
      obtain ⟨d0, d1, d2, -⟩ : w0.cell? ⟨w.heap.size, 0, none⟩ = some (.string p.key) ∧ w0.cell? ⟨w.heap.size, 1, none⟩ = some (.int .i64 p.s) ∧ w0.cell? ⟨w.heap.size, 2, none⟩ = some (.int .i64 p.e) ∧ True := ⟨Z0.out.cell rfl, Z0.out.cell rfl, Z0.out.cell rfl, trivial⟩
      have HY := Lib.hid hy
      have i0 : (i : Int) < L.length := by omega
      have C := Lib.hid fun w : World => RefSpan.comp_ok y.s y.e p.s p.e w
      have Q := Lib.hid (cmp_lt (a := y.s) (b := y.e) (c := p.s) (d := p.e))
      generalize Spn.cmpW y.s y.e p.s p.e = cv at *
      clear hcell he h2 h3 h4 hy
      go_wp2_with fail
      have f1 := Later.cell (cell_keep (after K0.out K.out) c1)
      have f2 := Later.cell (cell_keep (after K0.out K.out) c2)
      have g1 := Later.cell (cell_keep K.out d1)
      have g2 := Later.cell (cell_keep K.out d2)
      clear c0 c1 c2 c3 c4 c5 c6 d0 d1 d2
      refine wp_region_later (by kernel_rfl) (by kernel_rfl) ?_
      repeat (go_big_quiet_step (first | (go_at_call 22; with_reducible exact Later.call _ (C.out _))))
      refine wpQuiet_nil ?_
      rintro _ ⟨u, rfl⟩
      have K2 := Lib.hid (after K.out u.below)
      clear f1 f2 g1 g2
      generalize u.w = w2 at *
      by_cases hc : cv < 0
      · have hd : decide (cv < 0) = true := by simpa using hc
        have hik : i < k := by
          rcases Nat.lt_or_ge i k with q | q
          · exact q
          · exact absurd (Q.out.1 hc) (A.out.hi i y q HY.out)
        have hm : Hid (((min (i + 1) k : Nat) : Int) = (i : Int) + 1) := Lib.hid (by omega)
        go_wp2_with fail
        exact ⟨⟨i + 1, by omega, by rw [hm.out], by go_num, K2⟩, by simp [intOf]; omega⟩
      · have hd : decide (cv < 0) = false := by simpa using hc
        have hik : k ≤ i := by
          rcases Nat.lt_or_ge i k with q | q
          · exact absurd (Q.out.2 (A.out.lo i y q HY.out)) hc
          · exact q
        have hm : Hid (min (i + 1) k = min i k) := Lib.hid (by omega)
        go_wp2_with fail
        exact ⟨⟨i + 1, by omega, by rw [hm.out], by go_num, K2⟩, by simp [intOf]; omega⟩
    · obtain rfl : i = L.length := by omega
      rw [show min L.length k = k by omega]
      have HR := Lib.hid (H.out.next (after K0.out K.out))
      have hsz := Lib.hid K.out.size
      have hsw := Lib.hid K0.out.size
      have hz := Lib.hid (Z0.out.next K.out)
      have hcl : Hid (L.length ≤ cap ∧ cap ≤ 9223372036854775807) := Lib.hid (by
        rcases H.out with ⟨q1, q2⟩ | ⟨off, cap', q1, q2, q3, _⟩
        · simp at q1; subst q2; simp; omega
        · simp at q1; unfold maxLen at q3; omega)
      have hc0 := hcl.out.1
      have hc1 := hcl.out.2
      rcases HR.out with ⟨q1, q2⟩ | ⟨off, cap', q1, -⟩
      · obtain ⟨rfl, -, rfl⟩ : AD = none ∧ L.length = 0 ∧ cap = 0 := by simpa using q1
        subst q2
        obtain rfl : k = 0 := by simpa using hk
        have TI : Hid (Sl.Is Pn.k wr (.slice none 0 0) (([] : List Pn).take 0) b) := Lib.hid (.inl ⟨rfl, rfl⟩)
        have DI : Hid (Sl.Is Pn.k wr (.slice none 0 0) (([] : List Pn).drop 0) b) := Lib.hid (.inl ⟨rfl, rfl⟩)
        simp only [List.length_nil] at hn ⊢
        have hlt2 : Hid ((([] : List Pn).take 0).length = 0) := Lib.hid rfl
        go_wp2_with (first
          | (at_builtin
             refine wpList_plain rfl fun K' hK' => Sl.wp_append_empty (K := Pn.k) Pn.ok (.tmp 25) (.tmp 28) rfl (b := wr.heap.size) (base := wr.heap.size) (l2 := ([] : List Pn).take 0) (b2 := b) rfl (heap_alloc_new _ _) (Nat.le_refl _) (by exact TI.out.next (below1 _ _)) (by have := hlt2.out; omega) (by simp) (fun u w2 x1 x2 => hK' _ _ ?_)
             have O2 := Lib.hid x1
             have K2 := Lib.hid (after (below1 _ _) x2)
             have D2 := Lib.hid (DI.out.next K2.out)
             have Z2 := Lib.hid (hz.out.next K2.out)
             have s2 := Lib.hid K2.out.size
             clear x1 x2
             obtain ⟨⟨z0, z1, z2, z3, z4, z5, z6⟩, -⟩ := seven Z2.out)
          | (at_builtin
             refine wpList_plain rfl fun K' hK' => Sl.wp_append (K := Pn.k) Pn.ok (.tmp 30) (.tmp 32) rfl (base := wr.heap.size) (l := ([] : List Pn).take 0) (l2 := [p]) (by exact O2.out.next (below1 _ _)) (by exact Sl.Is.one Pn.ok (x := p) (Lies.new _ _ _)) (by have := hlt2.out; simp only [List.length_singleton]; omega) (by have := s2.out; simp; omega) (fun v' w3 x1 x2 x3 => hK' _ _ ?_)
             have O3 := Lib.hid x1
             have K3 : Hid (Below wr.heap.size wr w3) := Lib.hid ((after K2.out (below1 _ _)).grown x2 (by have := s2.out; simp; omega) (fun a ha => (O2.out.lt a ha).1))
             have D3 := Lib.hid (DI.out.next K3.out)
             have s3 := Lib.hid K3.out.size
             clear x1 x2 x3 z0 z1 z2 z3 z4 z5 z6)
          | (at_builtin
             refine wpList_plain rfl fun K' hK' => Sl.wp_append (K := Pn.k) Pn.ok (.tmp 34) (.tmp 37) rfl (base := wr.heap.size) (l := ([] : List Pn).take 0 ++ [p]) (l2 := ([] : List Pn).drop 0) (b2 := b) (by exact O3.out) (by exact D3.out) (by have := hlt2.out; simp only [List.length_append, List.length_singleton, List.length_drop]; omega) (by exact s3.out) (fun v' w4 x1 x2 x3 => hK' _ _ ?_)
             have O4 := Lib.hid x1
             have K4 : Hid (Below wr.heap.size wr w4) := Lib.hid (K3.out.grown x2 s3.out (fun a ha => (O3.out.lt a ha).1))
             clear x1 x2 x3))
        go_ret
        refine ⟨_, rfl, ?_, (after K0.out K.out).trans (K4.out.mono (by have := hsz.out; have := hsw.out; omega))⟩
        have := O4.out
        rw [List.append_assoc] at this
        exact own_base2 this (by have := hsz.out; have := hsw.out; omega)
      · obtain ⟨rfl, rfl⟩ : AD = some ⟨b, off, none⟩ ∧ cap = cap' := by simpa using q1
        have TI := Lib.hid (is_take HR.out hk)
        by_cases hck : cap = k
        · obtain rfl : k = L.length := by omega
          obtain rfl : cap = L.length := hck
          have DI := Lib.hid (is_drop HR.out hk)
          rw [if_pos rfl, Nat.sub_self] at DI
          have hlt2 : Hid ((L.take L.length).length = L.length) := Lib.hid (by rw [List.length_take]; omega)
          go_wp2_with (first
            | (at_builtin
               refine wpList_plain rfl fun K' hK' => Sl.wp_append_empty (K := Pn.k) Pn.ok (.tmp 25) (.tmp 28) rfl (b := wr.heap.size) (base := wr.heap.size) (l2 := L.take L.length) (b2 := b) rfl (heap_alloc_new _ _) (Nat.le_refl _) (by exact TI.out.next (below1 _ _)) (by have := hlt2.out; omega) (by simp) (fun u w2 x1 x2 => hK' _ _ ?_)
               have O2 := Lib.hid x1
               have K2 := Lib.hid (after (below1 _ _) x2)
               have D2 := Lib.hid (DI.out.next K2.out)
               have Z2 := Lib.hid (hz.out.next K2.out)
               have s2 := Lib.hid K2.out.size
               clear x1 x2
               obtain ⟨⟨z0, z1, z2, z3, z4, z5, z6⟩, -⟩ := seven Z2.out)
            | (at_builtin
               refine wpList_plain rfl fun K' hK' => Sl.wp_append (K := Pn.k) Pn.ok (.tmp 30) (.tmp 32) rfl (base := wr.heap.size) (l := L.take L.length) (l2 := [p]) (by exact O2.out.next (below1 _ _)) (by exact Sl.Is.one Pn.ok (x := p) (Lies.new _ _ _)) (by have := hlt2.out; simp only [List.length_singleton]; omega) (by have := s2.out; simp; omega) (fun v' w3 x1 x2 x3 => hK' _ _ ?_)
               have O3 := Lib.hid x1
               have K3 : Hid (Below wr.heap.size wr w3) := Lib.hid ((after K2.out (below1 _ _)).grown x2 (by have := s2.out; simp; omega) (fun a ha => (O2.out.lt a ha).1))
               have D3 := Lib.hid (DI.out.next K3.out)
               have s3 := Lib.hid K3.out.size
               clear x1 x2 x3 z0 z1 z2 z3 z4 z5 z6)
            | (at_builtin
               refine wpList_plain rfl fun K' hK' => Sl.wp_append (K := Pn.k) Pn.ok (.tmp 34) (.tmp 37) rfl (base := wr.heap.size) (l := L.take L.length ++ [p]) (l2 := L.drop L.length) (b2 := b) (by exact O3.out) (by exact D3.out) (by have := hlt2.out; simp only [List.length_append, List.length_singleton, List.length_drop]; omega) (by exact s3.out) (fun v' w4 x1 x2 x3 => hK' _ _ ?_)
               have O4 := Lib.hid x1
               have K4 : Hid (Below wr.heap.size wr w4) := Lib.hid (K3.out.grown x2 s3.out (fun a ha => (O3.out.lt a ha).1))
               clear x1 x2 x3))
          go_ret
          refine ⟨_, rfl, ?_, (after K0.out K.out).trans (K4.out.mono (by have := hsz.out; have := hsw.out; omega))⟩
          have := O4.out
          rw [List.append_assoc] at this
          exact own_base2 this (by have := hsz.out; have := hsw.out; omega)
        · have DI := Lib.hid (is_drop HR.out hk)
          rw [if_neg hck] at DI
          have hlt2 : Hid ((L.take k).length = k) := Lib.hid (by rw [List.length_take]; omega)
          go_wp2_with (first
            | (at_builtin
               refine wpList_plain rfl fun K' hK' => Sl.wp_append_empty (K := Pn.k) Pn.ok (.tmp 25) (.tmp 28) rfl (b := wr.heap.size) (base := wr.heap.size) (l2 := L.take k) (b2 := b) rfl (heap_alloc_new _ _) (Nat.le_refl _) (by exact TI.out.next (below1 _ _)) (by have := hlt2.out; omega) (by simp) (fun u w2 x1 x2 => hK' _ _ ?_)
               have O2 := Lib.hid x1
               have K2 := Lib.hid (after (below1 _ _) x2)
               have D2 := Lib.hid (DI.out.next K2.out)
               have Z2 := Lib.hid (hz.out.next K2.out)
               have s2 := Lib.hid K2.out.size
               clear x1 x2
               obtain ⟨⟨z0, z1, z2, z3, z4, z5, z6⟩, -⟩ := seven Z2.out)
            | (at_builtin
               refine wpList_plain rfl fun K' hK' => Sl.wp_append (K := Pn.k) Pn.ok (.tmp 30) (.tmp 32) rfl (base := wr.heap.size) (l := L.take k) (l2 := [p]) (by exact O2.out.next (below1 _ _)) (by exact Sl.Is.one Pn.ok (x := p) (Lies.new _ _ _)) (by have := hlt2.out; simp only [List.length_singleton]; omega) (by have := s2.out; simp; omega) (fun v' w3 x1 x2 x3 => hK' _ _ ?_)
               have O3 := Lib.hid x1
               have K3 : Hid (Below wr.heap.size wr w3) := Lib.hid ((after K2.out (below1 _ _)).grown x2 (by have := s2.out; simp; omega) (fun a ha => (O2.out.lt a ha).1))
               have D3 := Lib.hid (DI.out.next K3.out)
               have s3 := Lib.hid K3.out.size
               clear x1 x2 x3 z0 z1 z2 z3 z4 z5 z6)
            | (at_builtin
               refine wpList_plain rfl fun K' hK' => Sl.wp_append (K := Pn.k) Pn.ok (.tmp 34) (.tmp 37) rfl (base := wr.heap.size) (l := L.take k ++ [p]) (l2 := L.drop k) (b2 := b) (by exact O3.out) (by exact D3.out) (by have := hlt2.out; simp only [List.length_append, List.length_singleton, List.length_drop]; omega) (by exact s3.out) (fun v' w4 x1 x2 x3 => hK' _ _ ?_)
               have O4 := Lib.hid x1
               have K4 : Hid (Below wr.heap.size wr w4) := Lib.hid (K3.out.grown x2 s3.out (fun a ha => (O3.out.lt a ha).1))
               clear x1 x2 x3))
          go_ret
          refine ⟨_, rfl, ?_, (after K0.out K.out).trans (K4.out.mono (by have := hsz.out; have := hsw.out; omega))⟩
          have := O4.out
          rw [List.append_assoc] at this
          exact own_base2 this (by have := hsz.out; have := hsw.out; omega)

def sumC (L : List Pn) : Int := (L.map (·.c)).sum
def sumM (L : List Pn) : Int := (L.map (·.m)).sum
theorem wrap_add (a b : Int) : wrap64 (wrap64 a + b) = wrap64 (a + b) := by unfold wrap64; omega

set_option maxRecDepth 100000 in
set_option maxHeartbeats 4000000 in
theorem sums_ok (l : Value) (L : List Pn) (b : Nat) (w : World) (H : Hid (Sl.Is Pn.k w l L b)) (hn : L.length ≤ 1000) :
    Calls Try.prog 18 #[l] w fun r w' => r = .returned (.tuple #[.int .i64 (wrap64 (sumC L)), .int .i64 (wrap64 (sumM L))]) ∧ Below w.heap.size w w' := by
  obtain ⟨AD, cap, hl⟩ := H.out.len
  subst hl
  go_enter Try.func18, Try.ntmps18
  go_wp2_with fail
  go_loopw [4, 5, 6] (fun sa sb si wr => ∃ (i : Nat) (a b : Int), i ≤ L.length ∧ sa = .int .i64 a ∧ sb = .int .i64 b ∧ si = .int .i64 i ∧ Hid (a = wrap64 (sumC (L.take i))) ∧ Hid (b = wrap64 (sumM (L.take i))) ∧ w = wr) (fun _ _ si _ => L.length - (intOf si).toNat)
  case atStart => exact ⟨0, 0, 0, by omega, rfl, rfl, rfl, Lib.hid (by simp [sumC, wrap64]), Lib.hid (by simp [sumM, wrap64]), rfl⟩
  case round =>
    obtain ⟨i, a, c, hi, rfl, rfl, rfl, HA, HC, rfl⟩ := hrel
    by_cases hlt : i < L.length
    · obtain ⟨off, cap', he, h2, h3, h4, hcell⟩ := H.out.some_ Pn.ok (by omega)
      obtain ⟨rfl, rfl⟩ : AD = some ⟨b, off, none⟩ ∧ cap = cap' := by simpa using he
      obtain ⟨p, hp⟩ := at_some hlt
      obtain ⟨c0, c1, c2, c3, c4, c5, c6⟩ := Tmr.pane_cells hp hcell
      have e1 : Hid (wrap64 (sumC (L.take (i + 1))) = wrap64 (a + p.c)) := Lib.hid (by rw [HA.out, wrap_add, List.take_add_one, hp]; simp [sumC])
      have e2 : Hid (wrap64 (sumM (L.take (i + 1))) = wrap64 (c + p.m)) := Lib.hid (by rw [HC.out, wrap_add, List.take_add_one, hp]; simp [sumM])
      have i0 : (i : Int) < L.length := by omega
      clear hcell he h2 h3 h4 hp
      go_wp2_with fail
      exact ⟨⟨i + 1, _, _, by omega, rfl, rfl, by go_num, Lib.hid e1.out.symm, Lib.hid e2.out.symm, trivial⟩, by simp [intOf]; omega⟩
    · obtain rfl : i = L.length := by omega
      rw [List.take_length] at HA HC
      go_wp2
      go_ret2
      exact ⟨by rw [← HA.out, ← HC.out]; rfl, Below.refl _ _⟩
end Pane
end Go.Proofs.Ytnheehodgkagfaa
