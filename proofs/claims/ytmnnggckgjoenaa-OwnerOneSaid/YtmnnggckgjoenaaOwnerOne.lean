/-
  OwnerOne: each group has one owner, that there is; versions never fall.
  (No premise: at every number of groups and of shards and every list of deeds.)
-/
import Derived.Test.YtmnnggckgjoenaaUp11
import Derived.Test.YtmnnggckgjoenaaDrawn
import Derived.Test.YtmnnggckgjoenaaLaid
namespace Go.Proofs.Ytmnnggckgjoenaa.ownerOne
open Go.ChangeShapes Go.WideShapes Go.ChangeAt Go.RowKit Small Foot Ow
set_option linter.unusedVariables false
set_option maxRecDepth 100000

/-- the table at b, that reads as M -/
structure St (w0 : World) (b : Nat) (s : Int) (M : List O) (w : World) : Prop where
  tab : Is w b s M
  far : w0.heap.size ≤ b
  below : Below w0.heap.size w0 w
section
variable {w0 w w' : World} {b : Nat} {s : Int} {M M' : List O}
theorem St.next (h : St w0 b s M w) (k : Below w.heap.size w w') : St w0 b s M w' := ⟨h.tab.next k, h.far, after h.below k⟩
theorem St.call (h : St w0 b s M w) (t : Is w' b s M') (k : Moves (Fp b) (Fp b) w w') : St w0 b s M' w' :=
  ⟨t, h.far, h.below.trans (k.below (fun i hi => Nat.le_trans h.far (Is.from b i hi)) h.below.size)⟩
end
/-- owners as they may be -/
def Good (M : List O) (s : Int) (n k : Nat) : Prop := M.length = n ∧ ∀ (i : Nat) (o : O), M[i]? = some o → 0 ≤ o.s ∧ o.s < s ∧ 0 ≤ o.v ∧ o.v ≤ k
theorem good_ini {s : Int} (hs : 1 ≤ s) (n : Nat) : Good (ini s n n) s n 0 := by
  refine ⟨ini_len _ _ _, fun i o h => ?_⟩
  have hi : i < n := by have := (List.getElem?_eq_some_iff.1 h).1; rwa [ini_len] at this
  rw [ini_at _ _ hi, if_pos hi] at h
  obtain rfl := Option.some.inj h
  exact ⟨Int.emod_nonneg _ (by omega), Int.emod_lt_of_pos _ (by omega), by simp, by simp⟩
theorem good_up {M : List O} {s : Int} {n k : Nat} (h : Good M s n k) : Good M s n (k + 1) := ⟨h.1, fun i o e => by have := h.2 i o e; omega⟩
theorem good_set {M : List O} {s : Int} {n k i : Nat} {x : O} (h : Good M s n k) (hx : 0 ≤ x.s ∧ x.s < s ∧ 0 ≤ x.v ∧ x.v ≤ (k + 1 : Nat)) : Good (M.set i x) s n (k + 1) := by
  refine ⟨by simp [h.1], fun j o e => ?_⟩
  rw [List.getElem?_set] at e
  split at e
  · split at e
    · obtain rfl := Option.some.inj e; exact hx
    · cases e
  · exact (good_up h).2 j o e
theorem set_at {M : List O} {i : Nat} (h : i < M.length) (x : O) : (M.set i x)[i]? = some x := List.getElem?_set_self h

/-- how many shards of those below t, and t as far as S, own each of n groups -/
def one (M : List O) (t : Int) (S : List Nat) (n : Nat) : List Int := (List.range n).map fun g => if (M[g]?.any fun o => decide (o.s < t)) || S.contains g then 1 else 0
abbrev Ns (w : World) (bm : Nat) (W : List Int) : Prop := Lies w bm 3 (W.map (Value.int .i64))
theorem one_len (M : List O) (t : Int) (S : List Nat) (n : Nat) : (one M t S n).length = n := by simp [one]
theorem one_ahead {M : List O} {t : Int} {S : List Nat} {n g : Nat} {o : O} (hg : g < n) (h : M[g]? = some o) (e : o.s = t) (hs : g ∉ S) : (one M t S n)[g]? = some 0 := by
  simp [one, hg, h, e, hs]
theorem one_step {M : List O} {t : Int} {S : List Nat} {n g : Nat} : (one M t S n).set g 1 = one M t (S ++ [g]) n := by
  apply List.ext_getElem?
  intro j
  rw [List.getElem?_set]
  by_cases e : g = j
  · subst e
    rw [if_pos rfl, one_len]
    by_cases hg : g < n
    · simp [one, hg]
    · rw [if_neg hg, List.getElem?_eq_none (by rw [one_len]; omega)]
  · rw [if_neg e]
    by_cases hj : j < n
    · have e' : ¬ j = g := fun q => e q.symm
      simp [one, hj, e']
    · rw [List.getElem?_eq_none (by rw [one_len]; omega), List.getElem?_eq_none (by rw [one_len]; omega)]
theorem one_next {M : List O} {t : Int} {n : Nat} : one M t (own M t n) n = one M (t + 1) [] n := by
  apply List.map_congr_left
  intro g hg
  have hg : g < n := List.mem_range.1 hg
  have e : (own M t n).contains g = M[g]?.any (·.s == t) := by
    rw [Bool.eq_iff_iff]
    simp [own, hg]
  rw [e]
  cases h : M[g]? with
  | none => simp
  | some o =>
    simp only [Option.any_some, List.contains_nil, Bool.or_false]
    by_cases q : o.s < t
    · have q2 : o.s < t + 1 := by omega
      simp [q, q2]
    · by_cases q1 : o.s = t
      · have q2 : o.s < t + 1 := by omega
        simp [q1]
        omega
      · have q2 : ¬ o.s < t + 1 := by omega
        simp [q, q1, q2]
theorem one_all {M : List O} {s : Int} {n k g : Nat} (h : Good M s n k) (hg : g < n) : (one M s [] n)[g]? = some 1 := by
  obtain ⟨o, ho⟩ : ∃ o, M[g]? = some o := ⟨_, List.getElem?_eq_getElem (by rw [h.1]; exact hg)⟩
  have := (h.2 g o ho).2.1
  simp [one, hg, ho, this]
theorem one_zero {M : List O} {s : Int} {n k : Nat} (h : Good M s n k) : (madeCells (Value.int .i64 0).cells (n * 1)).toList = (one M 0 [] n).map (Value.int .i64) := by
  apply List.ext_getElem?
  intro g
  by_cases hg : g < n
  · obtain ⟨o, ho⟩ : ∃ o, M[g]? = some o := ⟨_, List.getElem?_eq_getElem (by rw [h.1]; exact hg)⟩
    have q : ¬ o.s < 0 := by have := (h.2 g o ho).1; omega
    simp [one, hg, ho, q, madeCells, Value.cells, Nat.mod_one]
  · rw [List.getElem?_eq_none (by simp [madeCells]; omega), List.getElem?_eq_none (by rw [List.length_map, one_len]; omega)]
theorem own_nodup (M : List O) (t : Int) (n : Nat) : (own M t n).Nodup := List.Pairwise.filter _ List.nodup_range
theorem own_new {M : List O} {t : Int} {n k g : Nat} (h : (own M t n)[k]? = some g) : g ∉ (own M t n).take k := by
  intro q
  obtain ⟨j, hj, hq⟩ := List.mem_take_iff_getElem.1 q
  have hn := own_nodup M t n
  obtain ⟨hk, he⟩ := List.getElem?_eq_some_iff.1 h
  exact List.pairwise_iff_getElem.1 hn j k (by omega) hk (by omega) (hq.trans he.symm)
theorem own_of {M : List O} {t : Int} {n k g : Nat} (h : (own M t n)[k]? = some g) : g < n ∧ ∃ o, M[g]? = some o ∧ o.s = t := by
  have q := List.mem_of_getElem? h
  simp only [own, List.mem_filter, List.mem_range] at q
  refine ⟨q.1, ?_⟩
  cases e : M[g]? with
  | none => rw [e] at q; simp at q
  | some o => rw [e] at q; exact ⟨o, rfl, by simpa using q.2⟩

theorem infoInt : (Try.prog.info? 3).map (fun i => (i.zero, i.size, i.bytes)) = some (some (.int .i64 0), 1, 8) := by kernel_rfl
theorem below_drewN (w : World) (n : Nat) : Below w.heap.size w (w.drewN n) := by
  induction n with
  | zero => exact Below.refl _ _
  | succ n ih => exact ih.drew

set_option maxHeartbeats 16000000 in
theorem walk (groups : Int) (hgroups : (Lit.int .i64 groups).wf = true) (shards : Int) (hshards : (Lit.int .i64 shards).wf = true) (x : Option Addr × Nat × Nat × (Nat → Deed)) (w : World) (hx : Opens.IsRows dl 3 DFits w x) :
    Calls Try.prog 4 #[.int .i64 groups, .int .i64 shards, .slice x.1 x.2.1 x.2.2.1] w fun r w' => r = .returned (.bool true) ∧ Below w.heap.size w w' := by
  obtain ⟨AL, ln, cp, f⟩ := x
  obtain ⟨hm, hf, hc⟩ := hx
  simp only at hm hf hc ⊢
  have HC := Lib.hid hc
  clear hf hc
  go_enter Try.func4, Try.ntmps4
  go_wp2_with fail
  refine (up_ok w).mono ?_
  rintro r w1 ⟨rfl, k1⟩
  have K1 := Lib.hid k1
  clear k1
  go_wp2_with fail
  by_cases hr : groups < 1 ∨ 16 < groups ∨ shards < 1 ∨ 8 < shards
  · refine (new_no groups shards w1 hr).mono ?_
    rintro r w2 ⟨rfl, k2⟩
    have K2 := Lib.hid (after K1.out k2)
    clear k2 hr
    go_wp2
    go_ret
    exact ⟨rfl, K2.out⟩
  have s1 : 1 ≤ shards := by omega
  have s2 : shards ≤ 8 := by omega
  obtain ⟨n, rfl⟩ : ∃ n : Nat, groups = n := ⟨groups.toNat, by omega⟩
  have n1 : 1 ≤ n := by omega
  have n2 : n ≤ 16 := by omega
  clear hr
  refine (new_ok n shards w1 n1 n2 s1 s2).mono ?_
  rintro r w2 ⟨rfl, b2, k2⟩
  have T : Hid (St w w1.heap.size shards (ini shards n n) w2) := Lib.hid ⟨b2, K1.out.size, after K1.out k2⟩
  generalize w1.heap.size = b at *
  clear b2 k2 K1
  by_cases hn : 100 < ln
  · have hnz : (100 : Int) < (ln : Int) := by omega
    have KB := Lib.hid T.out.below
    go_wp2
    go_ret
    exact ⟨rfl, KB.out⟩
  have hnz : ¬ (100 : Int) < (ln : Int) := by omega
  clear hn
  have G0 := Lib.hid (good_ini s1 n)
  generalize ini shards n n = M0 at *
  go_wp2_with fail
  go_loopw [10] (fun si wr => ∃ (jx : Nat) (M : List O), jx ≤ ln ∧ si = .int .i64 jx ∧ Hid (Good M shards n jx) ∧ Hid (St w b shards M wr)) (fun si _ => ln - (intOf si).toNat)
  case atStart => exact ⟨0, M0, by omega, rfl, G0, T⟩
  case round =>
    clear T G0
    obtain ⟨jx, M, hi, rfl, G, T⟩ := hrel
    by_cases hlt : jx < ln
    · obtain ⟨lb, lo, rfl, hcell⟩ := HC.out (by omega)
      have c0 := hcell jx hlt 0 _ rfl
      have c1 := hcell jx hlt 1 _ rfl
      have c2 := hcell jx hlt 2 _ rfl
      rw [Nat.add_zero] at c0
      rw [← Nat.add_assoc] at c1 c2
      obtain ⟨y, hy⟩ : ∃ y, y = f jx := ⟨_, rfl⟩
      rw [← hy] at c0 c1 c2
      clear hy hcell
      obtain ⟨p, g, sh⟩ := y
      simp only at c0 c1 c2
      have i0 : (jx : Int) < (ln : Int) := by omega
      have C0 := Lib.hid c0
      have C1 := Lib.hid c1
      have C2 := Lib.hid c2
      clear c0 c1 c2
      have c1 := cell_keep T.out.below C1.out
      cases p with
      | true =>
        by_cases hin : g < 0 ∨ (n : Int) ≤ g
        · have HX : Hid (g < 0 ∨ (M.length : Int) ≤ g) := Lib.hid (by have := G.out.1; omega)
          clear hin
          go_wp2_with fail
          refine (of_no (Lib.hid T.out.tab) HX.out).mono ?_
          rintro e w5 ⟨rfl, k5⟩
          have T6 := Lib.hid (T.out.next (after k5 (below1 w5 (Obj.cells #[.int .i64 0, .int .i64 0, .bool false] 32))))
          have D6 : Hid (Lies (w5.alloc (Obj.cells #[.int .i64 0, .int .i64 0, .bool false] 32)) w5.heap.size 32 [.int .i64 0, .int .i64 0, .bool false]) := Lib.hid (Lies.new _ _ _)
          have HB : Hid (b + 1 < w5.heap.size) := Lib.hid (Nat.lt_of_lt_of_le T.out.tab.lies.lt k5.size)
          have c0 := cell_keep T6.out.below C0.out
          have c1 := cell_keep T6.out.below C1.out
          have c2 := cell_keep T6.out.below C2.out
          clear k5 T
          go_wp2_with fail
          generalize w5.alloc (Obj.cells #[.int .i64 0, .int .i64 0, .bool false] 32) = w6 at *
          generalize w5.heap.size = bd at *
          have e1 := Later.cell c1
          have e2 := Later.cell c2
          clear c0 c1 c2
          refine wp_region_later_tail 11 (by kernel_rfl) (by kernel_rfl) ?_
          simp only [List.take_succ_cons, List.take_zero, List.drop_succ_cons, List.drop_zero]
          repeat (go_big_quiet_step (fail))
          refine wpQuiet_nil ?_
          rintro _ ⟨u, rfl⟩
          clear e1 e2
          have T7 := Lib.hid (T6.out.next u.below)
          have D7 := Lib.hid (D6.out.next u.below)
          generalize u.w = w7 at *
          clear T6 D6
          go_wp2_with fail
          refine (publish_none (Lib.hid T7.out.tab) HX.out).mono ?_
          rintro e w8 ⟨rfl, rfl⟩
          have T8 := T7
          have D8 := D7
          clear T7 D7
          have c1 := cell_keep T8.out.below C1.out
          go_wp2_with fail
          refine (of_no (Lib.hid T8.out.tab) HX.out).mono ?_
          rintro e w9 ⟨rfl, k9⟩
          have T10 := Lib.hid (T8.out.next (after k9 (below1 w9 (Obj.cells #[.int .i64 0, .int .i64 0, .bool false] 32))))
          have D10 := Lib.hid (D8.out.next (after k9 (below1 w9 (Obj.cells #[.int .i64 0, .int .i64 0, .bool false] 32))))
          have f0 := D10.out.cell (i := 0) rfl
          have f1 := D10.out.cell (i := 1) rfl
          clear c1 k9 T8 D8
          go_wp2_with fail
          exact ⟨⟨jx + 1, M, by omega, by go_num, Lib.hid (good_up G.out), T10⟩, by first | (simp [intOf]; done) | (simp [intOf]; omega)⟩
        obtain ⟨i, rfl⟩ : ∃ i : Nat, g = i := ⟨g.toNat, by omega⟩
        obtain ⟨o, ho⟩ : ∃ o, M[i]? = some o := ⟨_, List.getElem?_eq_getElem (by have := G.out.1; omega)⟩
        have HI : Hid (i < M.length) := Lib.hid (by have := G.out.1; omega)
        clear hin
        by_cases hs : sh < 0 ∨ shards ≤ sh
        · go_wp2_with fail
          refine (of_yes (Lib.hid T.out.tab) ho).mono ?_
          rintro e w5 ⟨rfl, k5⟩
          have T6 := Lib.hid (T.out.next (after k5 (below1 w5 (Obj.cells #[.int .i64 o.s, .int .i64 o.v, .bool o.m] 32))))
          have D6 : Hid (Lies (w5.alloc (Obj.cells #[.int .i64 o.s, .int .i64 o.v, .bool o.m] 32)) w5.heap.size 32 [.int .i64 o.s, .int .i64 o.v, .bool o.m]) := Lib.hid (Lies.new _ _ _)
          have HB : Hid (b + 1 < w5.heap.size) := Lib.hid (Nat.lt_of_lt_of_le T.out.tab.lies.lt k5.size)
          have c0 := cell_keep T6.out.below C0.out
          have c1 := cell_keep T6.out.below C1.out
          have c2 := cell_keep T6.out.below C2.out
          clear k5 T
          go_wp2_with fail
          generalize w5.alloc (Obj.cells #[.int .i64 o.s, .int .i64 o.v, .bool o.m] 32) = w6 at *
          generalize w5.heap.size = bd at *
          have e1 := Later.cell c1
          have e2 := Later.cell c2
          clear c0 c1 c2
          refine wp_region_later_tail 11 (by kernel_rfl) (by kernel_rfl) ?_
          simp only [List.take_succ_cons, List.take_zero, List.drop_succ_cons, List.drop_zero]
          repeat (go_big_quiet_step (fail))
          refine wpQuiet_nil ?_
          rintro _ ⟨u, rfl⟩
          clear e1 e2
          have T7 := Lib.hid (T6.out.next u.below)
          have D7 := Lib.hid (D6.out.next u.below)
          generalize u.w = w7 at *
          clear T6 D6
          go_wp2_with fail
          refine (publish_arg (Lib.hid T7.out.tab) HI.out hs).mono ?_
          rintro e w8 ⟨rfl, rfl⟩
          have T8 := T7
          have D8 := D7
          clear T7 D7
          have c1 := cell_keep T8.out.below C1.out
          go_wp2_with fail
          refine (of_yes (Lib.hid T8.out.tab) ho).mono ?_
          rintro e w9 ⟨rfl, k9⟩
          have T10 := Lib.hid (T8.out.next (after k9 (below1 w9 (Obj.cells #[.int .i64 o.s, .int .i64 o.v, .bool o.m] 32))))
          have D10 := Lib.hid (D8.out.next (after k9 (below1 w9 (Obj.cells #[.int .i64 o.s, .int .i64 o.v, .bool o.m] 32))))
          have f0 := D10.out.cell (i := 0) rfl
          have f1 := D10.out.cell (i := 1) rfl
          clear c1 k9 T8 D8
          go_wp2_with fail
          exact ⟨⟨jx + 1, M, by omega, by go_num, Lib.hid (good_up G.out), T10⟩, by first | (simp [intOf]; done) | (simp [intOf]; omega)⟩
        have HS : Hid (0 ≤ sh ∧ sh < shards) := Lib.hid (by omega)
        clear hs
        cases hmv : o.m with
        | false =>
          go_wp2_with fail
          refine (of_yes (Lib.hid T.out.tab) ho).mono ?_
          rintro e w5 ⟨rfl, k5⟩
          have T6 := Lib.hid (T.out.next (after k5 (below1 w5 (Obj.cells #[.int .i64 o.s, .int .i64 o.v, .bool false] 32))))
          have D6 : Hid (Lies (w5.alloc (Obj.cells #[.int .i64 o.s, .int .i64 o.v, .bool false] 32)) w5.heap.size 32 [.int .i64 o.s, .int .i64 o.v, .bool false]) := Lib.hid (Lies.new _ _ _)
          have HB : Hid (b + 1 < w5.heap.size) := Lib.hid (Nat.lt_of_lt_of_le T.out.tab.lies.lt k5.size)
          have c0 := cell_keep T6.out.below C0.out
          have c1 := cell_keep T6.out.below C1.out
          have c2 := cell_keep T6.out.below C2.out
          clear k5 T
          go_wp2_with fail
          generalize w5.alloc (Obj.cells #[.int .i64 o.s, .int .i64 o.v, .bool false] 32) = w6 at *
          generalize w5.heap.size = bd at *
          have e1 := Later.cell c1
          have e2 := Later.cell c2
          clear c0 c1 c2
          refine wp_region_later_tail 11 (by kernel_rfl) (by kernel_rfl) ?_
          simp only [List.take_succ_cons, List.take_zero, List.drop_succ_cons, List.drop_zero]
          repeat (go_big_quiet_step (fail))
          refine wpQuiet_nil ?_
          rintro _ ⟨u, rfl⟩
          clear e1 e2
          have T7 := Lib.hid (T6.out.next u.below)
          have D7 := Lib.hid (D6.out.next u.below)
          generalize u.w = w7 at *
          clear T6 D6
          go_wp2_with fail
          refine (publish_busy (Lib.hid T7.out.tab) ho hmv HS.out.1 HS.out.2).mono ?_
          rintro e w8 ⟨rfl, rfl⟩
          have T8 := T7
          have D8 := D7
          clear T7 D7
          have c1 := cell_keep T8.out.below C1.out
          go_wp2_with fail
          refine (of_yes (Lib.hid T8.out.tab) ho).mono ?_
          rintro e w9 ⟨rfl, k9⟩
          have T10 := Lib.hid (T8.out.next (after k9 (below1 w9 (Obj.cells #[.int .i64 o.s, .int .i64 o.v, .bool false] 32))))
          have D10 := Lib.hid (D8.out.next (after k9 (below1 w9 (Obj.cells #[.int .i64 o.s, .int .i64 o.v, .bool false] 32))))
          have f0 := D10.out.cell (i := 0) rfl
          have f1 := D10.out.cell (i := 1) rfl
          clear c1 k9 T8 D8
          go_wp2_with fail
          exact ⟨⟨jx + 1, M, by omega, by go_num, Lib.hid (good_up G.out), T10⟩, by first | (simp [intOf]; done) | (simp [intOf]; omega)⟩
        | true =>
          have V := Lib.hid (G.out.2 i o ho)
          have HL := Lib.hid hlt
          go_wp2_with fail
          refine (of_yes (Lib.hid T.out.tab) ho).mono ?_
          rintro e w5 ⟨rfl, k5⟩
          have T6 := Lib.hid (T.out.next (after k5 (below1 w5 (Obj.cells #[.int .i64 o.s, .int .i64 o.v, .bool true] 32))))
          have D6 : Hid (Lies (w5.alloc (Obj.cells #[.int .i64 o.s, .int .i64 o.v, .bool true] 32)) w5.heap.size 32 [.int .i64 o.s, .int .i64 o.v, .bool true]) := Lib.hid (Lies.new _ _ _)
          have HB : Hid (b + 1 < w5.heap.size) := Lib.hid (Nat.lt_of_lt_of_le T.out.tab.lies.lt k5.size)
          have c0 := cell_keep T6.out.below C0.out
          have c1 := cell_keep T6.out.below C1.out
          have c2 := cell_keep T6.out.below C2.out
          clear k5 T
          go_wp2_with fail
          generalize w5.alloc (Obj.cells #[.int .i64 o.s, .int .i64 o.v, .bool true] 32) = w6 at *
          generalize w5.heap.size = bd at *
          have e1 := Later.cell c1
          have e2 := Later.cell c2
          clear c0 c1 c2
          refine wp_region_later_tail 11 (by kernel_rfl) (by kernel_rfl) ?_
          simp only [List.take_succ_cons, List.take_zero, List.drop_succ_cons, List.drop_zero]
          repeat (go_big_quiet_step (fail))
          refine wpQuiet_nil ?_
          rintro _ ⟨u, rfl⟩
          clear e1 e2
          have T7 := Lib.hid (T6.out.next u.below)
          have D7 := Lib.hid (D6.out.next u.below)
          generalize u.w = w7 at *
          clear T6 D6
          go_wp2_with fail
          refine (publish_ok (Lib.hid T7.out.tab) ho hmv HS.out.1 HS.out.2 V.out.2.2.1 (by have := V.out.2.2.2; have := HL.out; omega)).mono ?_
          rintro e w8 ⟨rfl, b8, m8⟩
          have T8 := Lib.hid (T7.out.call b8 m8)
          have D8 := Lib.hid (m8.lies (fun q => by have := HB.out; rcases q with q | q <;> omega) D7.out)
          have G8 := Lib.hid (good_set (i := i) (x := ⟨sh, o.v + 1, false⟩) G.out ⟨HS.out.1, HS.out.2, by have := V.out; simp only; omega, by have := V.out; simp only; omega⟩)
          clear b8 m8 T7 D7
          have c1 := cell_keep T8.out.below C1.out
          go_wp2_with fail
          refine (of_yes (Lib.hid T8.out.tab) (o := ⟨sh, o.v + 1, false⟩) (set_at HI.out _)).mono ?_
          rintro e w9 ⟨rfl, k9⟩
          have T10 := Lib.hid (T8.out.next (after k9 (below1 w9 (Obj.cells #[.int .i64 sh, .int .i64 (o.v + 1), .bool false] 32))))
          have D10 := Lib.hid (D8.out.next (after k9 (below1 w9 (Obj.cells #[.int .i64 sh, .int .i64 (o.v + 1), .bool false] 32))))
          have f0 := D10.out.cell (i := 0) rfl
          have f1 := D10.out.cell (i := 1) rfl
          clear c1 k9 T8 D8
          have t1 : IntKind.i64.wrap (o.v + 1) = o.v + 1 := IntWalk.i64_in _ (by have := V.out; have := HL.out; omega)
          have t2 : ¬ o.v + 1 < o.v := by omega
          by_cases es : sh = o.s
          · subst es
            go_wp2_with fail
            exact ⟨⟨jx + 1, _, by omega, by go_num, G8, T10⟩, by first | (simp [intOf]; done) | (simp [intOf]; omega)⟩
          · have es' : (sh == o.s) = false := by simpa using es
            go_wp2_with fail
            exact ⟨⟨jx + 1, _, by omega, by go_num, G8, T10⟩, by first | (simp [intOf]; done) | (simp [intOf]; omega)⟩
      | false =>
        by_cases hin : g < 0 ∨ (n : Int) ≤ g
        · have HX : Hid (g < 0 ∨ (M.length : Int) ≤ g) := Lib.hid (by have := G.out.1; omega)
          clear hin
          go_wp2_with fail
          refine (of_no (Lib.hid T.out.tab) HX.out).mono ?_
          rintro e w5 ⟨rfl, k5⟩
          have T6 := Lib.hid (T.out.next (after k5 (below1 w5 (Obj.cells #[.int .i64 0, .int .i64 0, .bool false] 32))))
          have D6 : Hid (Lies (w5.alloc (Obj.cells #[.int .i64 0, .int .i64 0, .bool false] 32)) w5.heap.size 32 [.int .i64 0, .int .i64 0, .bool false]) := Lib.hid (Lies.new _ _ _)
          have HB : Hid (b + 1 < w5.heap.size) := Lib.hid (Nat.lt_of_lt_of_le T.out.tab.lies.lt k5.size)
          have c0 := cell_keep T6.out.below C0.out
          have c1 := cell_keep T6.out.below C1.out
          have c2 := cell_keep T6.out.below C2.out
          clear k5 T
          go_wp2_with fail
          generalize w5.alloc (Obj.cells #[.int .i64 0, .int .i64 0, .bool false] 32) = w6 at *
          generalize w5.heap.size = bd at *
          clear c0 c1 c2
          have T7 := T6
          have D7 := D6
          clear T6 D6
          refine (freeze_none (Lib.hid T7.out.tab) HX.out).mono ?_
          rintro e w8 ⟨rfl, rfl⟩
          have T8 := T7
          have D8 := D7
          clear T7 D7
          have c1 := cell_keep T8.out.below C1.out
          go_wp2_with fail
          refine (of_no (Lib.hid T8.out.tab) HX.out).mono ?_
          rintro e w9 ⟨rfl, k9⟩
          have T10 := Lib.hid (T8.out.next (after k9 (below1 w9 (Obj.cells #[.int .i64 0, .int .i64 0, .bool false] 32))))
          have D10 := Lib.hid (D8.out.next (after k9 (below1 w9 (Obj.cells #[.int .i64 0, .int .i64 0, .bool false] 32))))
          have f0 := D10.out.cell (i := 0) rfl
          have f1 := D10.out.cell (i := 1) rfl
          clear c1 k9 T8 D8
          go_wp2_with fail
          exact ⟨⟨jx + 1, M, by omega, by go_num, Lib.hid (good_up G.out), T10⟩, by first | (simp [intOf]; done) | (simp [intOf]; omega)⟩
        obtain ⟨i, rfl⟩ : ∃ i : Nat, g = i := ⟨g.toNat, by omega⟩
        obtain ⟨o, ho⟩ : ∃ o, M[i]? = some o := ⟨_, List.getElem?_eq_getElem (by have := G.out.1; omega)⟩
        have HI : Hid (i < M.length) := Lib.hid (by have := G.out.1; omega)
        clear hin
        have V := Lib.hid (G.out.2 i o ho)
        cases hmv : o.m with
        | true =>
          go_wp2_with fail
          refine (of_yes (Lib.hid T.out.tab) ho).mono ?_
          rintro e w5 ⟨rfl, k5⟩
          have T6 := Lib.hid (T.out.next (after k5 (below1 w5 (Obj.cells #[.int .i64 o.s, .int .i64 o.v, .bool true] 32))))
          have D6 : Hid (Lies (w5.alloc (Obj.cells #[.int .i64 o.s, .int .i64 o.v, .bool true] 32)) w5.heap.size 32 [.int .i64 o.s, .int .i64 o.v, .bool true]) := Lib.hid (Lies.new _ _ _)
          have HB : Hid (b + 1 < w5.heap.size) := Lib.hid (Nat.lt_of_lt_of_le T.out.tab.lies.lt k5.size)
          have c0 := cell_keep T6.out.below C0.out
          have c1 := cell_keep T6.out.below C1.out
          have c2 := cell_keep T6.out.below C2.out
          clear k5 T
          go_wp2_with fail
          generalize w5.alloc (Obj.cells #[.int .i64 o.s, .int .i64 o.v, .bool true] 32) = w6 at *
          generalize w5.heap.size = bd at *
          clear c0 c1 c2
          have T7 := T6
          have D7 := D6
          clear T6 D6
          refine (freeze_busy (Lib.hid T7.out.tab) ho hmv).mono ?_
          rintro e w8 ⟨rfl, rfl⟩
          have T8 := T7
          have D8 := D7
          clear T7 D7
          have c1 := cell_keep T8.out.below C1.out
          go_wp2_with fail
          refine (of_yes (Lib.hid T8.out.tab) ho).mono ?_
          rintro e w9 ⟨rfl, k9⟩
          have T10 := Lib.hid (T8.out.next (after k9 (below1 w9 (Obj.cells #[.int .i64 o.s, .int .i64 o.v, .bool true] 32))))
          have D10 := Lib.hid (D8.out.next (after k9 (below1 w9 (Obj.cells #[.int .i64 o.s, .int .i64 o.v, .bool true] 32))))
          have f0 := D10.out.cell (i := 0) rfl
          have f1 := D10.out.cell (i := 1) rfl
          clear c1 k9 T8 D8
          go_wp2_with fail
          exact ⟨⟨jx + 1, M, by omega, by go_num, Lib.hid (good_up G.out), T10⟩, by first | (simp [intOf]; done) | (simp [intOf]; omega)⟩
        | false =>
          go_wp2_with fail
          refine (of_yes (Lib.hid T.out.tab) ho).mono ?_
          rintro e w5 ⟨rfl, k5⟩
          have T6 := Lib.hid (T.out.next (after k5 (below1 w5 (Obj.cells #[.int .i64 o.s, .int .i64 o.v, .bool false] 32))))
          have D6 : Hid (Lies (w5.alloc (Obj.cells #[.int .i64 o.s, .int .i64 o.v, .bool false] 32)) w5.heap.size 32 [.int .i64 o.s, .int .i64 o.v, .bool false]) := Lib.hid (Lies.new _ _ _)
          have HB : Hid (b + 1 < w5.heap.size) := Lib.hid (Nat.lt_of_lt_of_le T.out.tab.lies.lt k5.size)
          have c0 := cell_keep T6.out.below C0.out
          have c1 := cell_keep T6.out.below C1.out
          have c2 := cell_keep T6.out.below C2.out
          clear k5 T
          go_wp2_with fail
          generalize w5.alloc (Obj.cells #[.int .i64 o.s, .int .i64 o.v, .bool false] 32) = w6 at *
          generalize w5.heap.size = bd at *
          clear c0 c1 c2
          have T7 := T6
          have D7 := D6
          clear T6 D6
          refine (freeze_ok (Lib.hid T7.out.tab) ho hmv).mono ?_
          rintro e w8 ⟨rfl, b8, m8⟩
          have T8 := Lib.hid (T7.out.call b8 m8)
          have D8 := Lib.hid (m8.lies (fun q => by have := HB.out; rcases q with q | q <;> omega) D7.out)
          have G8 := Lib.hid (good_set (i := i) (x := ⟨o.s, o.v, true⟩) G.out (by have := V.out; simp only; omega))
          clear b8 m8 T7 D7
          have c1 := cell_keep T8.out.below C1.out
          go_wp2_with fail
          refine (of_yes (Lib.hid T8.out.tab) (o := ⟨o.s, o.v, true⟩) (set_at HI.out _)).mono ?_
          rintro e w9 ⟨rfl, k9⟩
          have T10 := Lib.hid (T8.out.next (after k9 (below1 w9 (Obj.cells #[.int .i64 o.s, .int .i64 o.v, .bool true] 32))))
          have D10 := Lib.hid (D8.out.next (after k9 (below1 w9 (Obj.cells #[.int .i64 o.s, .int .i64 o.v, .bool true] 32))))
          have f0 := D10.out.cell (i := 0) rfl
          have f1 := D10.out.cell (i := 1) rfl
          clear c1 k9 T8 D8
          go_wp2_with fail
          exact ⟨⟨jx + 1, _, by omega, by go_num, G8, T10⟩, by first | (simp [intOf]; done) | (simp [intOf]; omega)⟩
    · obtain rfl : ln = jx := by omega
      clear HC
      obtain ⟨i9, hi9, hz0, hz1, hz2⟩ := info_parts infoInt
      have GL := Lib.hid G.out.1
      go_wp2_with (at_make; refine wpList_make_lies _ rfl _ _ 40 rfl 3 i9 (.int .i64 0) 1 8 Try.underlying40 hi9 hz0 hz1 hz2 n rfl rfl (by omega) (by unfold maxLen; omega) ?_)
      intro w3 l3 k3 z3
      have T3 := Lib.hid (T.out.next k3)
      have N3 : Hid (Ns w3 wr.heap.size (one M 0 [] n)) := Lib.hid (by unfold Ns; rw [← one_zero G.out, Nat.mul_one]; exact l3)
      have HB : Hid (b + 1 < wr.heap.size ∧ w.heap.size ≤ wr.heap.size) := Lib.hid ⟨T.out.tab.lies.lt, T.out.below.size⟩
      generalize wr.heap.size = bm at *
      clear l3 k3 z3 T hz0 hz1 hz2 hi9 i9 wr
      go_wp2_with fail
      go_loopw [16] (fun st wr => ∃ t : Nat, (t : Int) ≤ shards ∧ st = .int .i64 t ∧ Hid (St w b shards M wr) ∧ Hid (Ns wr bm (one M t [] n))) (fun st _ => (shards - intOf st).toNat)
      case atStart => exact ⟨0, by omega, rfl, T3, N3⟩
      case round =>
        clear T3 N3 w3
        obtain ⟨t, t0, rfl, T, N⟩ := hrel
        by_cases ht : (t : Int) < shards
        · go_wp2_with fail
          refine (groups_ok (t := t) (Lib.hid T.out.tab) (by have := GL.out; omega)).mono ?_
          rw [GL.out]
          rintro r w5 ⟨A0, c, rfl, l5, k5⟩
          have T5 := Lib.hid (T.out.next k5)
          have N5 : Hid (Ns w5 bm (one M t ((own M t n).take 0) n)) := Lib.hid (N.out.next k5)
          obtain ⟨bl, hbl, il⟩ := l5.is
          have IL := Lib.hid il
          have HBL : Hid (bm < bl) := Lib.hid (Nat.lt_of_lt_of_le N.out.lt hbl)
          obtain ⟨ll, hll⟩ : ∃ ll, ll = (own M t n).length := ⟨_, rfl⟩
          rw [← hll] at il ⊢
          have HL := Lib.hid hll
          clear hll l5 k5 T N il hbl
          go_wp2_with fail
          go_loopw [18] (fun sk wr => ∃ k : Nat, k ≤ ll ∧ sk = .int .i64 k ∧ Hid (St w b shards M wr) ∧ Hid (Ns wr bm (one M t ((own M t n).take k) n)) ∧ Hid (Sl.Is Gk wr (.slice A0 (own M t n).length c) (own M t n) bl)) (fun sk _ => ll - (intOf sk).toNat)
          case atStart => exact ⟨0, by omega, rfl, T5, N5, IL⟩
          case round =>
            clear T5 N5 IL w5
            obtain ⟨k, hk, rfl, T, N, I⟩ := hrel
            by_cases hkl : k < ll
            · have k1 : (k : Int) < (ll : Int) := by omega
              have k2 : (k : Int) ≤ 100 := by have := own_len M t n; rw [← HL.out] at this; omega
              obtain ⟨g, hx⟩ : ∃ g, (own M t n)[k]? = some g := ⟨_, List.getElem?_eq_getElem (by have := HL.out; omega)⟩
              obtain ⟨hg, o, ho, e⟩ := own_of hx
              obtain ⟨off, cp9, he, -, -, -, hcell⟩ := I.out.some_ gok (by rw [← HL.out]; omega)
              have I := I
              rw [← HL.out] at he
              obtain ⟨rfl, rfl⟩ : A0 = some ⟨bl, off, none⟩ ∧ c = cp9 := by simpa using he
              have e0 := hcell k g hx 0 _ rfl
              simp only [Nat.mul_one, Nat.add_zero] at e0
              have e1 : wr.cell? ⟨bm, g, none⟩ = some (.int .i64 0) := N.out.cell (by rw [List.getElem?_map, one_ahead hg ho e (own_new hx)]; rfl)
              have f1 : wr.frozen? ⟨bm, g, none⟩ = false := N.out.open_ g
              have g0 : (0 : Int) ≤ (g : Int) := by omega
              have g1 : (g : Int) < (n : Int) := by omega
              have T9 : Hid (St w b shards M (wr.setCell ⟨bm, g, none⟩ (.int .i64 1))) := Lib.hid ⟨⟨T.out.tab.lies.far (by have := HB.out.1; simp; omega) _, T.out.tab.rows.far (by have := HB.out.1; simp; omega) _⟩, T.out.far, T.out.below.setCell HB.out.2 _⟩
              have N9 : Hid (Ns (wr.setCell ⟨bm, g, none⟩ (.int .i64 1)) bm (one M t ((own M t n).take (k + 1)) n)) := Lib.hid (by
                have q := N.out.put g (.int .i64 1)
                rw [← List.map_set, one_step] at q
                rw [List.take_add_one, hx]
                exact q)
              have I9 : Hid (Sl.Is Gk (wr.setCell ⟨bm, g, none⟩ (.int .i64 1)) (.slice (some ⟨bl, off, none⟩) (own M t n).length c) (own M t n) bl) := Lib.hid (I.out.keep (Below.heap_setCell _ _ _ _ (by have := HBL.out; simp; omega)) (by simp))
              clear T N I hcell he hx
              go_wp2_with fail
              exact ⟨⟨k + 1, by omega, by go_num, T9, N9, I9⟩, by first | (simp [intOf]; done) | (simp [intOf]; omega)⟩
            · obtain rfl : ll = k := by omega
              have N9 : Hid (Ns wr bm (one M (t + 1 : Nat) [] n)) := Lib.hid (by
                have q := N.out
                rw [HL.out, List.take_length, one_next] at q
                exact q)
              clear N I
              go_wp2_with fail
              exact ⟨⟨t + 1, by omega, by go_num, T, N9⟩, by first | (simp [intOf]; done) | (simp [intOf]; omega)⟩
        · have ht : shards ≤ (t : Int) := by omega
          have N9 : Hid (Ns wr bm (one M shards [] n)) := Lib.hid (by
            have q := N.out
            rw [show (t : Int) = shards by omega] at q
            exact q)
          have KB := Lib.hid T.out.below
          clear T N
          go_wp2_with fail
          go_loop [19] (fun sg => ∃ g : Nat, g ≤ n ∧ sg = .int .i64 g) (fun sg => n - (intOf sg).toNat)
          case atStart => exact ⟨0, by omega, rfl⟩
          case round =>
            obtain ⟨g, hg, rfl⟩ := hrel
            by_cases hgn : g < n
            · have g1 : (g : Int) < (n : Int) := by omega
              have e1 : wr.cell? ⟨bm, g, none⟩ = some (.int .i64 1) := N9.out.cell (by rw [List.getElem?_map, one_all G.out hgn]; rfl)
              go_wp2_with fail
              exact ⟨⟨g + 1, by omega, by go_num⟩, by first | (simp [intOf]; done) | (simp [intOf]; omega)⟩
            · have g1 : ¬ (g : Int) < (n : Int) := by omega
              go_wp2
              go_ret
              exact ⟨rfl, KB.out⟩

theorem own : ownKnob Try.prog.godebug = none := by kernel_rfl

set_option maxRecDepth 100000 in
theorem lifted (os : Os) (started : os.Started) (H : Type) (enc : TypeId × Value → H) :
    ReturnsInHanded {} Try.checked os 4 .any (Rows.ownerOneSpec.pre6 enc Try.prog Try.f4 Rows.ownerOneRow.domain false) (Rows.ownerOneSpec.post enc Try.prog Try.f4 false true false false) := by
  refine returnsInHanded_of_change (C := Try.checked) own started (by kernel_rfl) Try.func4
    (ChangeSpec.witness6 (enc := enc) (C := Try.checked) false ⟨#[], #[.int .i64 0, .int .i64 0, .slice none 0 0], []⟩ 8 (by kernel_rfl) (by kernel_rfl) (by kernel_rfl) (by kernel_rfl)) ?_
  intro W base args ds gs before hval0 hW hcnd _
  have hval : ∀ (j : Nat) t v, Try.f4.params[j]? = some t → args[j]? = some v → Value.okWide Try.prog W .any base t v := hval0
  have hW' := hW
  obtain ⟨p, q, hA0, hV, rfl, hfz, hnd⟩ := hW
  have hA : DataW.TrodAll enc Try.prog W 0 (fun _ => true) true Try.f4.params.toList args.toList ds p := hA0
  rw [Try.params4] at hA hval
  obtain ⟨v0, vs0, d0, ds0, p0, q0, hargs, rfl, rfl, h0, r0⟩ := trodAll_cons hA
  obtain ⟨v1, vs1, d1, ds1, p1, q1, rfl, rfl, rfl, h1, r1⟩ := trodAll_cons r0
  obtain ⟨v2, vs2, d2, ds2, p2, q2, rfl, rfl, rfl, h2, r2⟩ := trodAll_cons r1
  obtain ⟨rfl, rfl, rfl⟩ := trodAll_nil r2
  obtain rfl : args = #[v0, v1, v2] := by cases args; simp_all
  obtain ⟨rfl, rfl⟩ := trodVars_none hV
  obtain ⟨a0, rfl, rfl, rfl, w0⟩ := open_int Try.underlying3 (hval 0 3 v0 rfl rfl) h0
  obtain ⟨a1, rfl, rfl, rfl, w1⟩ := open_int Try.underlying3 (hval 1 3 v1 rfl rfl) h1
  obtain ⟨a2, rfl, w2⟩ := Opens.open_deeds (hval 2 22 v2 rfl rfl) h2
  clear hA0 hval0
  refine (walk a0 w0 a1 w1 a2 W w2).mono fun e W' ⟨he, hg⟩ => ?_
  subst he
  exact ⟨_, rfl, Laid.post Laid.laidOut (by kernel_rfl) rfl (by kernel_rfl) Try.underlying4 hW' ⟨rfl, rfl, rfl⟩ hg⟩

theorem over : Rows.ownerOneRow.holds Try.pinned (OpenSpec.ofChange Rows.ownerOneSpec) :=
  OpenClaim.holds_of_wide 4 Try.f4 rfl rfl rfl rfl rfl rfl rfl ⟨rfl, rfl, rfl, rfl, rfl⟩ rfl rfl rfl rfl rfl (by kernel_rfl) Try.func4 (by kernel_rfl)
    (of_decide_eq_true (by kernel_rfl)) (by unfold Func.isWrapper; first | (rw [if_pos (by decide +kernel)]; kernel_rfl) | (rw [if_neg (by decide +kernel)]; exact ⟨rfl, rfl⟩))
    (fun os started H enc _ => lifted os started H enc)

/-- ████ THE STATEMENT ████ -/
theorem proved : Rows.OwnerOneSaid :=
  over
#print axioms proved
end Go.Proofs.Ytmnnggckgjoenaa.ownerOne
