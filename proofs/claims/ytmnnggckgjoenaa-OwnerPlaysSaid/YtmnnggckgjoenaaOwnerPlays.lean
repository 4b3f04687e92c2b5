/-
  OwnerPlays: what any groups come to that are frozen, and published, one behind the other: each answer, and all owners.
  (No premise: at every number of groups and of shards and every list of deeds.)
-/
import Derived.Test.YtmnnggckgjoenaaUp11
import Derived.Test.YtmnnggckgjoenaaDrawn
import Derived.Test.YtmnnggckgjoenaaLaid
namespace Go.Proofs.Ytmnnggckgjoenaa.ownerPlays
open Go.ChangeShapes Go.WideShapes Go.ChangeAt Go.RowKit Small Foot Ow
set_option linter.unusedVariables false
set_option maxRecDepth 100000

/-- the table at b, that reads as M, and the law's own list at bm, that reads as N -/
structure St (w0 : World) (b bm : Nat) (s : Int) (M N : List O) (w : World) : Prop where
  tab : Is w b s M
  own : Ow.Rows w bm N
  ne : ¬ Fp b bm
  far : w0.heap.size ≤ b ∧ w0.heap.size ≤ bm
  below : Below w0.heap.size w0 w
section
variable {w0 w w' : World} {b bm : Nat} {s : Int} {M M' N N' : List O}
theorem St.next (h : St w0 b bm s M N w) (k : Below w.heap.size w w') : St w0 b bm s M N w' := ⟨h.tab.next k, h.own.next k, h.ne, h.far, after h.below k⟩
theorem St.call (h : St w0 b bm s M N w) (t : Is w' b s M') (k : Moves (Fp b) (Fp b) w w') : St w0 b bm s M' N w' :=
  ⟨t, (k.block bm h.own.lt h.ne).trans h.own, h.ne, h.far, h.below.trans (k.below (fun i hi => Nat.le_trans h.far.1 (Is.from b i hi)) h.below.size)⟩
theorem St.mine (h : St w0 b bm s M N w) (r : Ow.Rows w' bm N') (k : ∀ i, i ≠ bm → w'.heap[i]? = w.heap[i]?) (e : Below w0.heap.size w w') : St w0 b bm s M N' w' :=
  ⟨⟨(k _ (fun e => h.ne (.inr e.symm))).trans h.tab.lies, (k _ (fun e => h.ne (.inl e.symm))).trans h.tab.rows⟩, r, h.ne, h.far, h.below.trans e⟩
end
/-- owners as they may be -/
def Good (M : List O) (s : Int) (n k : Nat) : Prop := M.length = n ∧ ∀ (i : Nat) (o : O), M[i]? = some o → 0 ≤ o.s ∧ o.s < s ∧ 0 ≤ o.v ∧ o.v ≤ k
theorem good_ini {s : Int} (hs : 1 ≤ s) (n : Nat) : Good (ini s n n) s n 0 := by
  refine ⟨ini_len _ _ _, fun i o h => ?_⟩
  have hi : i < n := by have := (List.getElem?_eq_some_iff.1 h).1; rwa [ini_len] at this
  rw [ini_at _ _ hi, if_pos hi] at h
  obtain rfl := Option.some.inj h
  exact ⟨Int.emod_nonneg _ (by omega), Int.emod_lt_of_pos _ (by omega), by simp, by simp⟩
theorem good_up {M : List O} {s : Int} {n k : Nat} (h : Good M s n k) : Good M s n (k + 1) := ⟨h.1, fun i o e => by have := h.2 i o e; omega⟩
theorem good_set {M : List O} {s : Int} {n k i : Nat} {x : O} (h : Good M s n k) (hx : 0 ≤ x.s ∧ x.s < s ∧ 0 ≤ x.v ∧ x.v ≤ (k + 1 : Nat)) : Good (M.set i x) s n (k + 1) := by
  refine ⟨by simp [h.1], fun j o e => ?_⟩
  rw [List.getElem?_set] at e
  split at e
  · split at e
    · obtain rfl := Option.some.inj e; exact hx
    · cases e
  · exact (good_up h).2 j o e
theorem set_same {M : List O} {i : Nat} {o : O} (h : M[i]? = some o) (hm : o.m = true) : M.set i ⟨o.s, o.v, true⟩ = M := by
  obtain ⟨s, v, m⟩ := o
  simp only at hm
  subst hm
  apply List.ext_getElem?
  intro j
  by_cases e : i = j
  · subst e
    rw [List.getElem?_set_self (List.getElem?_eq_some_iff.1 h).1, h]
  · rw [List.getElem?_set_ne e]
theorem below_drewN (w : World) (n : Nat) : Below w.heap.size w (w.drewN n) := by
  induction n with
  | zero => exact Below.refl _ _
  | succ n ih => exact ih.drew
theorem own_pre (M : List O) (t : Int) {k n : Nat} (h : k ≤ n) : own M t k <+: own M t n := by
  obtain ⟨d, rfl⟩ : ∃ d, n = k + d := ⟨n - k, by omega⟩
  unfold own
  rw [List.range_add, List.filter_append]
  exact List.prefix_append _ _
theorem own_next {M : List O} {t : Int} {k n : Nat} {o : O} (h : M[k]? = some o) (e : o.s = t) (hk : k < n) : (own M t n)[(own M t k).length]? = some k := by
  obtain ⟨r, hr⟩ := own_pre M t (show k + 1 ≤ n by omega)
  rw [← hr, own_yes h e]
  simp

set_option maxHeartbeats 16000000 in
theorem walk (groups : Int) (hgroups : (Lit.int .i64 groups).wf = true) (shards : Int) (hshards : (Lit.int .i64 shards).wf = true) (x : Option Addr × Nat × Nat × (Nat → Deed)) (w : World) (hx : Opens.IsRows dl 3 DFits w x) :
    Calls Try.prog 3 #[.int .i64 groups, .int .i64 shards, .slice x.1 x.2.1 x.2.2.1] w fun r w' => r = .returned (.bool true) ∧ Below w.heap.size w w' := by
  obtain ⟨AL, ln, cp, f⟩ := x
  obtain ⟨hm, hf, hc⟩ := hx
  simp only at hm hf hc ⊢
  have HF := Lib.hid hf
  have HC := Lib.hid hc
  clear hf hc
  go_enter Try.func3, Try.ntmps3
  go_wp2_with fail
  refine (up_ok w).mono ?_
  rintro r w1 ⟨rfl, k1⟩
  have K1 := Lib.hid k1
  clear k1
  go_wp2_with fail
  by_cases hr : groups < 1 ∨ 16 < groups ∨ shards < 1 ∨ 8 < shards
  · refine (new_no groups shards w1 hr).mono ?_
    rintro r w2 ⟨rfl, k2⟩
    have K2 := Lib.hid (after K1.out k2)
    have q1 := Errs.eql_code w2 1 1
    clear k2
    by_cases h0 : groups < 1
    · clear hr
      go_wp2
      go_ret
      exact ⟨rfl, K2.out⟩
    by_cases h1 : 16 < groups
    · clear hr
      go_wp2
      go_ret
      exact ⟨rfl, K2.out⟩
    by_cases h2 : shards < 1
    · clear hr
      go_wp2
      go_ret
      exact ⟨rfl, K2.out⟩
    have h3 : 8 < shards := by omega
    clear hr
    go_wp2
    go_ret
    exact ⟨rfl, K2.out⟩
  have s1 : 1 ≤ shards := by omega
  have s2 : shards ≤ 8 := by omega
  obtain ⟨n, rfl⟩ : ∃ n : Nat, groups = n := ⟨groups.toNat, by omega⟩
  have n1 : 1 ≤ n := by omega
  have n2 : n ≤ 16 := by omega
  have q1 : ¬ (n : Int) < 1 := by omega
  have q2 : ¬ 16 < (n : Int) := by omega
  have q3 : ¬ shards < 1 := by omega
  have q4 : ¬ 8 < shards := by omega
  clear hr
  refine (new_ok n shards w1 n1 n2 s1 s2).mono ?_
  rintro r w2 ⟨rfl, b2, k2⟩
  have B2 := Lib.hid b2
  have K2 := Lib.hid (after K1.out k2)
  have F1 := Lib.hid K1.out.size
  generalize w1.heap.size = b at *
  clear b2 k2 K1
  by_cases hn : 100 < ln
  · have hnz : (100 : Int) < (ln : Int) := by omega
    go_wp2
    go_ret
    exact ⟨rfl, K2.out⟩
  have hnz : ¬ (100 : Int) < (ln : Int) := by omega
  clear hn
  obtain ⟨i0, hi, hz0, hz1, hz2⟩ := info_parts infoOwn
  go_wp2_with (at_make; refine wpList_make_lies _ rfl _ _ 30 rfl 32 i0 (av ⟨0, 0, false⟩) 3 24 Try.underlying30 hi hz0 hz1 hz2 n rfl rfl (by omega) (by unfold maxLen; omega) ?_)
  intro w3 l3 k3 z3
  have T3 : Hid (St w b w2.heap.size shards (ini shards n n) (ini shards 0 n) w3) := Lib.hid ⟨B2.out.next k3, by unfold Ow.Rows; rw [← made]; exact l3, fun q => by
    have h1 := B2.out.lies.lt
    rcases q with q | q <;> omega, ⟨F1.out, by have := B2.out.lies.lt; have := F1.out; omega⟩, after K2.out k3⟩
  generalize w2.heap.size = bm at *
  clear l3 k3 z3 B2 K2 hz0 hz1 hz2 hi i0 F1
  go_wp2_with fail
  go_loopw [11] (fun si wr => ∃ k : Nat, k ≤ n ∧ si = .int .i64 k ∧ Hid (St w b bm shards (ini shards n n) (ini shards k n) wr)) (fun si _ => n - (intOf si).toNat)
  case atStart => exact ⟨0, by omega, rfl, T3⟩
  case round =>
    clear T3
    obtain ⟨k, hk, rfl, T⟩ := hrel
    by_cases hlt : k < n
    · have i0 : (k : Int) < (n : Int) := by omega
      have c0 := (T.out.own.at (ini_at shards k hlt)).1
      have fz := (T.out.own.open' k).1
      go_wp2_with fail
      refine ⟨⟨k + 1, by omega, by go_num, Lib.hid (T.out.mine ?_ (fun j hj => Below.heap_setCell _ _ _ _ hj) ((Below.refl _ _).setCell T.out.far.2 _))⟩, by first | (simp [intOf]; done) | (simp [intOf]; omega)⟩
      have := T.out.own.put0 (ini_at shards k hlt) ((k : Int) % shards)
      rw [ini_set shards hlt] at this
      exact this
    · obtain rfl : n = k := by omega
      have G0 := Lib.hid (good_ini s1 n)
      generalize ini shards n n = M0 at *
      go_wp2_with fail
      go_loopw [12] (fun si wr => ∃ (jx : Nat) (M : List O), jx ≤ ln ∧ si = .int .i64 jx ∧ Hid (Good M shards n jx) ∧ Hid (St w b bm shards M M wr)) (fun si _ => ln - (intOf si).toNat)
      case atStart => exact ⟨0, M0, by omega, rfl, G0, T⟩
      case round =>
        clear T G0
        obtain ⟨jx, M, hi, rfl, G, T⟩ := hrel
        by_cases hlt : jx < ln
        · obtain ⟨lb, lo, rfl, hcell⟩ := HC.out (by omega)
          have c0 := hcell jx hlt 0 _ rfl
          have c1 := hcell jx hlt 1 _ rfl
          have c2 := hcell jx hlt 2 _ rfl
          rw [Nat.add_zero] at c0
          rw [← Nat.add_assoc] at c1 c2
          have fx := Lib.hid (HF.out jx hlt)
          obtain ⟨y, hy⟩ : ∃ y, y = f jx := ⟨_, rfl⟩
          rw [← hy] at c0 c1 c2 fx
          clear hy hcell
          obtain ⟨p, g, sh⟩ := y
          have c0 := cell_keep T.out.below c0
          have c1 := cell_keep T.out.below c1
          have c2 := cell_keep T.out.below c2
          have i0 : (jx : Int) < (ln : Int) := by omega
          simp only at c0 c1 c2
          clear fx
          cases p with
          | true =>
            by_cases hin : g < 0 ∨ (n : Int) ≤ g
            · by_cases g2 : g < 0
              · have T5 := Lib.hid (T.out.next (below1 wr (Obj.cells #[.bool true, .int .i64 g, .int .i64 sh] 34)))
                have HX : Hid (g < 0 ∨ (M.length : Int) ≤ g) := Lib.hid (by have := G.out.1; omega)
                go_wp2_with fail
                refine (publish_none (Lib.hid T5.out.tab) HX.out).mono ?_
                rintro e w5 ⟨rfl, rfl⟩
                go_wp2_with fail
                refine (Errs.code_of 6 _ (by omega) (by omega)).mono ?_
                rintro e w6 ⟨rfl, rfl⟩
                go_wp2_with fail
                exact ⟨⟨jx + 1, M, by omega, by go_num, Lib.hid (good_up G.out), T5⟩, by first | (simp [intOf]; done) | (simp [intOf]; omega)⟩
              · have T5 := Lib.hid (T.out.next (below1 wr (Obj.cells #[.bool true, .int .i64 g, .int .i64 sh] 34)))
                have HX : Hid (g < 0 ∨ (M.length : Int) ≤ g) := Lib.hid (by have := G.out.1; omega)
                have g3 : 0 ≤ g := by omega
                have g4 : ¬ g < (n : Int) := by omega
                go_wp2_with fail
                refine (publish_none (Lib.hid T5.out.tab) HX.out).mono ?_
                rintro e w5 ⟨rfl, rfl⟩
                go_wp2_with fail
                refine (Errs.code_of 6 _ (by omega) (by omega)).mono ?_
                rintro e w6 ⟨rfl, rfl⟩
                go_wp2_with fail
                exact ⟨⟨jx + 1, M, by omega, by go_num, Lib.hid (good_up G.out), T5⟩, by first | (simp [intOf]; done) | (simp [intOf]; omega)⟩
            obtain ⟨i, rfl⟩ : ∃ i : Nat, g = i := ⟨g.toNat, by omega⟩
            have g1 : (i : Int) < (n : Int) := by omega
            clear hin
            have g0 : (0 : Int) ≤ (i : Int) := by omega
            obtain ⟨o, ho⟩ : ∃ o, M[i]? = some o := ⟨_, List.getElem?_eq_getElem (by have := G.out.1; omega)⟩
            have HI : Hid (i < M.length) := Lib.hid (by have := G.out.1; omega)
            have T5 := Lib.hid (T.out.next (below1 wr (Obj.cells #[.bool true, .int .i64 i, .int .i64 sh] 34)))
            by_cases hs : sh < 0 ∨ shards ≤ sh
            · have HS := Lib.hid hs
              by_cases hs0 : sh < 0
              · clear hs
                go_wp2_with fail
                refine (publish_arg (Lib.hid T5.out.tab) HI.out HS.out).mono ?_
                rintro e w5 ⟨rfl, rfl⟩
                go_wp2_with fail
                refine (Errs.code_of 1 _ (by omega) (by omega)).mono ?_
                rintro e w6 ⟨rfl, rfl⟩
                go_wp2_with fail
                exact ⟨⟨jx + 1, M, by omega, by go_num, Lib.hid (good_up G.out), T5⟩, by first | (simp [intOf]; done) | (simp [intOf]; omega)⟩
              · have hs1 : shards ≤ sh := by omega
                clear hs
                go_wp2_with fail
                refine (publish_arg (Lib.hid T5.out.tab) HI.out HS.out).mono ?_
                rintro e w5 ⟨rfl, rfl⟩
                go_wp2_with fail
                refine (Errs.code_of 1 _ (by omega) (by omega)).mono ?_
                rintro e w6 ⟨rfl, rfl⟩
                go_wp2_with fail
                exact ⟨⟨jx + 1, M, by omega, by go_num, Lib.hid (good_up G.out), T5⟩, by first | (simp [intOf]; done) | (simp [intOf]; omega)⟩
            have hs0 : ¬ sh < 0 := by omega
            have hs1 : ¬ shards ≤ sh := by omega
            have HS : Hid (0 ≤ sh ∧ sh < shards) := Lib.hid (by omega)
            clear hs
            obtain ⟨d0, d1, d2⟩ := T5.out.own.at ho
            cases hmv : o.m with
            | false =>
              rw [hmv] at d2
              go_wp2_with fail
              refine (publish_busy (Lib.hid T5.out.tab) ho hmv HS.out.1 HS.out.2).mono ?_
              rintro e w5 ⟨rfl, rfl⟩
              clear d0 d1 d2
              go_wp2_with fail
              refine (Errs.code_of 7 _ (by omega) (by omega)).mono ?_
              rintro e w6 ⟨rfl, rfl⟩
              go_wp2_with fail
              exact ⟨⟨jx + 1, M, by omega, by go_num, Lib.hid (good_up G.out), T5⟩, by first | (simp [intOf]; done) | (simp [intOf]; omega)⟩
            | true =>
              rw [hmv] at d2
              have V := Lib.hid (G.out.2 i o ho)
              have HL := Lib.hid hlt
              have t1 : IntKind.i64.wrap (o.v + 1) = o.v + 1 := IntWalk.i64_in _ (by have := V.out; omega)
              have D5 : Hid (Lies (wr.alloc (Obj.cells #[.bool true, .int .i64 i, .int .i64 sh] 34)) wr.heap.size 34 [.bool true, .int .i64 i, .int .i64 sh]) := Lib.hid (Lies.new _ _ _)
              have HB := Lib.hid T.out.own.lt
              clear T c0 c1 c2 d0
              go_wp2_with fail
              have e1 := Later.cell (D5.out.cell (i := 1) rfl)
              have e2 := Later.cell (D5.out.cell (i := 2) rfl)
              have e3 := Later.cell d1
              clear d1 d2
              generalize wr.alloc (Obj.cells #[.bool true, .int .i64 i, .int .i64 sh] 34) = w5 at *
              generalize wr.heap.size = bd at *
              refine wp_region_later_tail 14 (by kernel_rfl) (by kernel_rfl) ?_
              simp only [List.take_succ_cons, List.take_zero, List.drop_succ_cons, List.drop_zero]
              repeat (go_big_quiet_step (fail))
              refine wpQuiet_nil ?_
              rintro _ ⟨u, rfl⟩
              clear e1 e2 e3
              have T6 := Lib.hid (T5.out.next u.below)
              have D6 := Lib.hid (D5.out.next u.below)
              generalize u.w = w6 at *
              clear T5 D5
              obtain ⟨f0, f1, f2⟩ := T6.out.own.open' i
              obtain ⟨d0, d1, d2⟩ := T6.out.own.at ho
              have hbd : ¬ bd = bm := by have := HB.out; omega
              have D7 := Lib.hid (((D6.out.far (p := ⟨bm, i * 3, none⟩) hbd (.int .i64 sh)).far (p := ⟨bm, i * 3 + 1, none⟩) hbd (.int .i64 (o.v + 1))).far (p := ⟨bm, i * 3 + 2, none⟩) hbd (.bool false))
              have e1 := D7.out.cell (i := 1) rfl
              have e2 := D7.out.cell (i := 2) rfl
              have T7 := Lib.hid (T6.out.mine (T6.out.own.put HI.out ⟨sh, o.v + 1, false⟩) (fun j hj => by rw [Below.heap_setCell _ _ _ _ (by exact hj), Below.heap_setCell _ _ _ _ (by exact hj), Below.heap_setCell _ _ _ _ (by exact hj)]) ((((Below.refl _ _).setCell T6.out.far.2 _).setCell T6.out.far.2 _).setCell T6.out.far.2 _))
              go_wp2_with fail
              clear e1 e2 d0 d1 d2 f0 f1 f2 T6 D6 D7
              generalize ((w6.setCell ⟨bm, i * 3, none⟩ (.int .i64 sh)).setCell ⟨bm, i * 3 + 1, none⟩ (.int .i64 (o.v + 1))).setCell ⟨bm, i * 3 + 2, none⟩ (.bool false) = w7 at *
              refine (publish_ok (Lib.hid T7.out.tab) ho hmv HS.out.1 HS.out.2 V.out.2.2.1 (by have := V.out.2.2.2; have := HL.out; omega)).mono ?_
              rintro e w8 ⟨rfl, b8, m8⟩
              have T8 := Lib.hid (T7.out.call b8 m8)
              have G8 := Lib.hid (good_set (i := i) (x := ⟨sh, o.v + 1, false⟩) G.out ⟨HS.out.1, HS.out.2, by have := V.out; simp only; omega, by have := V.out; simp only; omega⟩)
              clear b8 m8 T7 G t1
              generalize M.set i ⟨sh, o.v + 1, false⟩ = M8 at *
              go_wp2_with fail
              refine (Errs.code_nil w8).mono ?_
              rintro e w9 ⟨rfl, rfl⟩
              go_wp2_with fail
              exact ⟨⟨jx + 1, M8, by omega, by go_num, G8, T8⟩, by first | (simp [intOf]; done) | (simp [intOf]; omega)⟩
          | false =>
            by_cases hin : g < 0 ∨ (n : Int) ≤ g
            · by_cases g2 : g < 0
              · have T5 := Lib.hid (T.out.next (below1 wr (Obj.cells #[.bool false, .int .i64 g, .int .i64 sh] 34)))
                have HX : Hid (g < 0 ∨ (M.length : Int) ≤ g) := Lib.hid (by have := G.out.1; omega)
                go_wp2_with fail
                refine (freeze_none (Lib.hid T5.out.tab) HX.out).mono ?_
                rintro e w5 ⟨rfl, rfl⟩
                go_wp2_with fail
                refine (Errs.code_of 6 _ (by omega) (by omega)).mono ?_
                rintro e w6 ⟨rfl, rfl⟩
                go_wp2_with fail
                exact ⟨⟨jx + 1, M, by omega, by go_num, Lib.hid (good_up G.out), T5⟩, by first | (simp [intOf]; done) | (simp [intOf]; omega)⟩
              · have T5 := Lib.hid (T.out.next (below1 wr (Obj.cells #[.bool false, .int .i64 g, .int .i64 sh] 34)))
                have HX : Hid (g < 0 ∨ (M.length : Int) ≤ g) := Lib.hid (by have := G.out.1; omega)
                have g3 : 0 ≤ g := by omega
                have g4 : ¬ g < (n : Int) := by omega
                go_wp2_with fail
                refine (freeze_none (Lib.hid T5.out.tab) HX.out).mono ?_
                rintro e w5 ⟨rfl, rfl⟩
                go_wp2_with fail
                refine (Errs.code_of 6 _ (by omega) (by omega)).mono ?_
                rintro e w6 ⟨rfl, rfl⟩
                go_wp2_with fail
                exact ⟨⟨jx + 1, M, by omega, by go_num, Lib.hid (good_up G.out), T5⟩, by first | (simp [intOf]; done) | (simp [intOf]; omega)⟩
            obtain ⟨i, rfl⟩ : ∃ i : Nat, g = i := ⟨g.toNat, by omega⟩
            have g1 : (i : Int) < (n : Int) := by omega
            clear hin
            have g0 : (0 : Int) ≤ (i : Int) := by omega
            obtain ⟨o, ho⟩ : ∃ o, M[i]? = some o := ⟨_, List.getElem?_eq_getElem (by have := G.out.1; omega)⟩
            have HI : Hid (i < M.length) := Lib.hid (by have := G.out.1; omega)
            have T5 := Lib.hid (T.out.next (below1 wr (Obj.cells #[.bool false, .int .i64 i, .int .i64 sh] 34)))
            have D5 : Hid (Lies (wr.alloc (Obj.cells #[.bool false, .int .i64 i, .int .i64 sh] 34)) wr.heap.size 34 [.bool false, .int .i64 i, .int .i64 sh]) := Lib.hid (Lies.new _ _ _)
            have HB := Lib.hid T.out.own.lt
            obtain ⟨d0, d1, d2⟩ := T5.out.own.at ho
            obtain ⟨f0, f1, f2⟩ := T5.out.own.open' i
            have hbd : ¬ wr.heap.size = bm := by have := HB.out; omega
            have e1 := (D5.out.far (p := ⟨bm, i * 3 + 2, none⟩) hbd (.bool true)).cell (i := 1) rfl
            have T6 := Lib.hid (T5.out.mine (T5.out.own.put2 ho true) (fun j hj => Below.heap_setCell _ _ _ _ hj) ((Below.refl _ _).setCell T5.out.far.2 _))
            clear d0 d1 f0 f1 D5 T5
            cases hmv : o.m with
            | true =>
              rw [hmv] at d2
              rw [set_same ho hmv] at T6
              go_wp2_with fail
              clear d2 f2 e1 c0 c1 c2
              refine (freeze_busy (Lib.hid T6.out.tab) ho hmv).mono ?_
              rintro e w5 ⟨rfl, rfl⟩
              go_wp2_with fail
              refine (Errs.code_of 7 _ (by omega) (by omega)).mono ?_
              rintro e w6 ⟨rfl, rfl⟩
              go_wp2_with fail
              exact ⟨⟨jx + 1, M, by omega, by go_num, Lib.hid (good_up G.out), T6⟩, by first | (simp [intOf]; done) | (simp [intOf]; omega)⟩
            | false =>
              rw [hmv] at d2
              have V := Lib.hid (G.out.2 i o ho)
              go_wp2_with fail
              clear d2 f2 e1 c0 c1 c2
              refine (freeze_ok (Lib.hid T6.out.tab) ho hmv).mono ?_
              rintro e w8 ⟨rfl, b8, m8⟩
              have T8 := Lib.hid (T6.out.call b8 m8)
              have G8 := Lib.hid (good_set (i := i) (x := ⟨o.s, o.v, true⟩) G.out (by have := V.out; simp only; omega))
              clear b8 m8 T6 G V
              generalize M.set i ⟨o.s, o.v, true⟩ = M8 at *
              go_wp2_with fail
              refine (Errs.code_nil w8).mono ?_
              rintro e w9 ⟨rfl, rfl⟩
              go_wp2_with fail
              exact ⟨⟨jx + 1, M8, by omega, by go_num, G8, T8⟩, by first | (simp [intOf]; done) | (simp [intOf]; omega)⟩
        · obtain rfl : ln = jx := by omega
          clear HF HC
          go_wp2_with fail
          go_loopw [16] (fun si wr => ∃ z : Int, -1 ≤ z ∧ z ≤ n + 1 ∧ si = .int .i64 z ∧ Hid (St w b bm shards M M wr)) (fun si _ => ((n : Int) + 1 - intOf si).toNat)
          case atStart => exact ⟨-1, by omega, by omega, rfl, T⟩
          case round =>
            clear T
            obtain ⟨z, z0, z1, rfl, T⟩ := hrel
            by_cases hz : z ≤ (n : Int)
            · by_cases hz2 : z < 0
              · have zb : z + 1 ≤ (n : Int) + 1 := by omega
                go_wp2_with fail
                refine (of_no (Lib.hid T.out.tab) (.inl hz2)).mono ?_
                rintro e w5 ⟨rfl, k5⟩
                have T5 := Lib.hid (T.out.next (after k5 (below1 w5 (Obj.cells #[.int .i64 0, .int .i64 0, .bool false] 32))))
                clear k5 T
                go_wp2_with fail
                exact ⟨⟨z + 1, by omega, by omega, by go_num, T5⟩, by first | (simp [intOf]; done) | (simp [intOf]; omega)⟩
              by_cases hz3 : z = (n : Int)
              · subst hz3
                have GL := Lib.hid G.out.1
                go_wp2_with fail
                refine (of_no (Lib.hid T.out.tab) (.inr (by have := GL.out; omega))).mono ?_
                rintro e w5 ⟨rfl, k5⟩
                have T5 := Lib.hid (T.out.next (after k5 (below1 w5 (Obj.cells #[.int .i64 0, .int .i64 0, .bool false] 32))))
                clear k5 T
                go_wp2_with fail
                exact ⟨⟨(n : Int) + 1, by omega, by omega, by go_num, T5⟩, by first | (simp [intOf]; done) | (simp [intOf]; omega)⟩
              obtain ⟨i, rfl⟩ : ∃ i : Nat, z = i := ⟨z.toNat, by omega⟩
              have g1 : (i : Int) < (n : Int) := by omega
              have g3 : ((i : Int) == (n : Int)) = false := by simp; omega
              have g0 : (0 : Int) ≤ (i : Int) := by omega
              obtain ⟨o, ho⟩ : ∃ o, M[i]? = some o := ⟨_, List.getElem?_eq_getElem (by have := G.out.1; omega)⟩
              have HI : Hid (i < M.length) := Lib.hid (by have := G.out.1; omega)
              go_wp2_with fail
              refine (of_yes (Lib.hid T.out.tab) ho).mono ?_
              rintro e w5 ⟨rfl, k5⟩
              have T5 := Lib.hid (T.out.next (after k5 (below1 w5 (Obj.cells #[.int .i64 o.s, .int .i64 o.v, .bool o.m] 32))))
              have D5 : Hid (Lies (w5.alloc (Obj.cells #[.int .i64 o.s, .int .i64 o.v, .bool o.m] 32)) w5.heap.size 32 [.int .i64 o.s, .int .i64 o.v, .bool o.m]) := Lib.hid (Lies.new _ _ _)
              clear k5 T
              go_wp2_with fail
              generalize w5.alloc (Obj.cells #[.int .i64 o.s, .int .i64 o.v, .bool o.m] 32) = w6 at *
              generalize w5.heap.size = bd at *
              have e0 := D5.out.cell (i := 0) rfl
              have e1 := D5.out.cell (i := 1) rfl
              have e2 := D5.out.cell (i := 2) rfl
              obtain ⟨d0, d1, d2⟩ := T5.out.own.at ho
              go_quiet (fail)
              generalize hw7 : w6.drewN _ = w7
              have T7 : Hid (St w b bm shards M M w7) := Lib.hid (T5.out.next (by rw [← hw7]; exact below_drewN _ _))
              clear hw7 e0 e1 e2 d0 d1 d2 T5 D5
              go_wp2_with fail
              exact ⟨⟨(i : Int) + 1, by omega, by omega, by go_num, T7⟩, by first | (simp [intOf]; done) | (simp [intOf]; omega)⟩
            · have hz : (n : Int) < z := by omega
              have GL := Lib.hid G.out.1
              go_wp2_with fail
              clear z0 z1
              go_loopw [19] (fun si wr => ∃ t : Int, -1 ≤ t ∧ t ≤ shards + 1 ∧ si = .int .i64 t ∧ Hid (St w b bm shards M M wr)) (fun si _ => (shards + 1 - intOf si).toNat)
              case atStart => exact ⟨-1, by omega, by omega, rfl, T⟩
              case round =>
                clear T hz
                obtain ⟨t, t0, t1, rfl, T⟩ := hrel
                by_cases ht : t ≤ shards
                · go_wp2_with fail
                  refine (groups_ok (t := t) (Lib.hid T.out.tab) (by have := GL.out; omega)).mono ?_
                  rw [GL.out]
                  rintro r w5 ⟨A, c, rfl, l5, k5⟩
                  have T5 := Lib.hid (T.out.next k5)
                  obtain ⟨bl, -, il⟩ := l5.is
                  have IL := Lib.hid il
                  obtain ⟨ll, hll⟩ : ∃ ll, ll = (own M t n).length := ⟨_, rfl⟩
                  rw [← hll] at il ⊢
                  have HL := Lib.hid hll
                  clear hll l5 k5 T il
                  go_wp2_with fail
                  go_loop [21, 22] (fun sn sg => ∃ k a : Nat, k ≤ n ∧ sg = .int .i64 k ∧ sn = .int .i64 a ∧ Hid (a = (own M t k).length)) (fun _ sg => n - (intOf sg).toNat)
                  case atStart => exact ⟨0, 0, by omega, rfl, rfl, Lib.hid rfl⟩
                  case round =>
                    obtain ⟨k, a, hk, rfl, rfl, HA⟩ := hrel
                    by_cases hkn : k < n
                    · have k1 : (k : Int) < (n : Int) := by omega
                      obtain ⟨o, ho⟩ : ∃ o, M[k]? = some o := ⟨_, List.getElem?_eq_getElem (by have := GL.out; omega)⟩
                      have d0 := (T5.out.own.at ho).1
                      by_cases e : o.s = t
                      · have hx := own_next ho e hkn
                        have hy := own_yes ho e
                        have hlt : a < ll := by
                          have := (List.getElem?_eq_some_iff.1 hx).1
                          rw [HA.out, HL.out]; exact this
                        rw [← HA.out] at hx
                        obtain ⟨off, cp, he, -, -, -, hcell⟩ := IL.out.some_ gok (by rw [← HL.out]; omega)
                        rw [← HL.out] at he
                        obtain ⟨rfl, rfl⟩ : A = some ⟨bl, off, none⟩ ∧ c = cp := by simpa using he
                        have e0 := hcell a k hx 0 _ rfl
                        simp only [Nat.mul_one, Nat.add_zero] at e0
                        have a1 : (a : Int) < (ll : Int) := by omega
                        have HY : Hid (a + 1 = (own M t (k + 1)).length) := Lib.hid (by rw [hy, HA.out]; simp)
                        have ak : a ≤ k := by rw [HA.out]; exact own_len _ _ _
                        have ai : (a : Int) ≤ 100 := by omega
                        clear hx hy he hcell
                        go_wp2_with fail
                        exact ⟨⟨k + 1, a + 1, by omega, by go_num, by go_num, HY⟩, by first | (simp [intOf]; done) | (simp [intOf]; omega)⟩
                      · have HY : Hid (a = (own M t (k + 1)).length) := Lib.hid (by rw [own_no ho e]; exact HA.out)
                        have hz : (o.s == t) = false := by simpa using e
                        go_wp2_with fail
                        exact ⟨⟨k + 1, a, by omega, by go_num, rfl, HY⟩, by first | (simp [intOf]; done) | (simp [intOf]; omega)⟩
                    · obtain rfl : n = k := by omega
                      obtain rfl : a = ll := HA.out.trans HL.out.symm
                      go_wp2_with fail
                      exact ⟨⟨t + 1, by omega, by omega, by go_num, T5⟩, by first | (simp [intOf]; done) | (simp [intOf]; omega)⟩
                · have ht : shards < t := by omega
                  have KB := Lib.hid T.out.below
                  go_wp2_with fail
                  refine (shards_ok (Lib.hid T.out.tab)).mono ?_
                  rintro r w5 ⟨rfl, rfl⟩
                  go_wp2
                  go_ret
                  exact ⟨rfl, KB.out⟩

theorem own : ownKnob Try.prog.godebug = none := by kernel_rfl

set_option maxRecDepth 100000 in
theorem lifted (os : Os) (started : os.Started) (H : Type) (enc : TypeId × Value → H) :
    ReturnsInHanded {} Try.checked os 3 .any (Rows.ownerPlaysSpec.pre6 enc Try.prog Try.f3 Rows.ownerPlaysRow.domain false) (Rows.ownerPlaysSpec.post enc Try.prog Try.f3 false true false false) := by
  refine returnsInHanded_of_change (C := Try.checked) own started (by kernel_rfl) Try.func3
    (ChangeSpec.witness6 (enc := enc) (C := Try.checked) false ⟨#[], #[.int .i64 0, .int .i64 0, .slice none 0 0], []⟩ 8 (by kernel_rfl) (by kernel_rfl) (by kernel_rfl) (by kernel_rfl)) ?_
  intro W base args ds gs before hval0 hW hcnd _
  have hval : ∀ (j : Nat) t v, Try.f3.params[j]? = some t → args[j]? = some v → Value.okWide Try.prog W .any base t v := hval0
  have hW' := hW
  obtain ⟨p, q, hA0, hV, rfl, hfz, hnd⟩ := hW
  have hA : DataW.TrodAll enc Try.prog W 0 (fun _ => true) true Try.f3.params.toList args.toList ds p := hA0
  rw [Try.params3] at hA hval
  obtain ⟨v0, vs0, d0, ds0, p0, q0, hargs, rfl, rfl, h0, r0⟩ := trodAll_cons hA
  obtain ⟨v1, vs1, d1, ds1, p1, q1, rfl, rfl, rfl, h1, r1⟩ := trodAll_cons r0
  obtain ⟨v2, vs2, d2, ds2, p2, q2, rfl, rfl, rfl, h2, r2⟩ := trodAll_cons r1
  obtain ⟨rfl, rfl, rfl⟩ := trodAll_nil r2
  obtain rfl : args = #[v0, v1, v2] := by cases args; simp_all
  obtain ⟨rfl, rfl⟩ := trodVars_none hV
  obtain ⟨a0, rfl, rfl, rfl, w0⟩ := open_int Try.underlying3 (hval 0 3 v0 rfl rfl) h0
  obtain ⟨a1, rfl, rfl, rfl, w1⟩ := open_int Try.underlying3 (hval 1 3 v1 rfl rfl) h1
  obtain ⟨a2, rfl, w2⟩ := Opens.open_deeds (hval 2 22 v2 rfl rfl) h2
  clear hA0 hval0
  refine (walk a0 w0 a1 w1 a2 W w2).mono fun e W' ⟨he, hg⟩ => ?_
  subst he
  exact ⟨_, rfl, Laid.post Laid.laidOut (by kernel_rfl) rfl (by kernel_rfl) Try.underlying4 hW' ⟨rfl, rfl, rfl⟩ hg⟩

theorem over : Rows.ownerPlaysRow.holds Try.pinned (OpenSpec.ofChange Rows.ownerPlaysSpec) :=
  OpenClaim.holds_of_wide 3 Try.f3 rfl rfl rfl rfl rfl rfl rfl ⟨rfl, rfl, rfl, rfl, rfl⟩ rfl rfl rfl rfl rfl (by kernel_rfl) Try.func3 (by kernel_rfl)
    (of_decide_eq_true (by kernel_rfl)) (by unfold Func.isWrapper; first | (rw [if_pos (by decide +kernel)]; kernel_rfl) | (rw [if_neg (by decide +kernel)]; exact ⟨rfl, rfl⟩))
    (fun os started H enc _ => lifted os started H enc)

/-- ████ THE STATEMENT ████ -/
theorem proved : Rows.OwnerPlaysSaid :=
  over
#print axioms proved
end Go.Proofs.Ytmnnggckgjoenaa.ownerPlays
