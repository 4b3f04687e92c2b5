/-
  slices.Clone over panes, and outlog.Sorted: a list of the call's own that reads as the one that was handed in, sorted, alike ones as they stand.
-/
import Derived.Test.YtdmplcnnoabkaaaOutCmp
import Derived.Lib.SliceRun
import Derived.Deep.RegionLaw
namespace Go.Proofs.Ytdmplcnnoabkaaa
open Go.ChangeShapes Go.WideShapes Go.ChangeAt Go.RowKit Go.Sort Go.Lib
namespace Out
open Small Srt
set_option linter.unusedVariables false
set_option maxRecDepth 100000

/-- a slice that reads as the list L; where there is none in it, it may be whatever slice of no elements -/
def Rd (w : World) (v : Value) (L : List Pn) : Prop := (∃ b, Sl.Is Pn.k w v L b) ∨ (L = [] ∧ ∃ a cap, v = .slice (some a) 0 cap)
theorem Rd.len {w : World} {v : Value} {L : List Pn} (h : Rd w v L) : ∃ A cap, v = .slice A L.length cap := by
  rcases h with ⟨b, h⟩ | ⟨rfl, a, cap, rfl⟩
  · exact h.len
  · exact ⟨some a, cap, rfl⟩
theorem Rd.some_ {w : World} {v : Value} {L : List Pn} (h : Rd w v L) (h0 : 0 < L.length) : ∃ b off cap, v = .slice (some ⟨b, off, none⟩) L.length cap ∧ L.length ≤ cap ∧ cap ≤ maxLen ∧ b < w.heap.size ∧ ∀ i x, L[i]? = some x → ∀ j u, (Pn.cl x)[j]? = some u → w.cell? ⟨b, off + (i * 7 + j), none⟩ = some u := by
  rcases h with ⟨b, h⟩ | ⟨rfl, _⟩
  · exact ⟨b, h.some_ Pn.ok h0⟩
  · simp at h0
theorem Rd.next {w w' : World} {v : Value} {L : List Pn} (h : Rd w v L) (k : Below w.heap.size w w') : Rd w' v L := by
  rcases h with ⟨b, h⟩ | h
  · exact .inl ⟨b, h.next k⟩
  · exact .inr h
theorem Rd.below {w w' : World} {v : Value} {L : List Pn} (h : Rd w v L) (k : Below w.heap.size w w') : Rd w' v L := h.next k
theorem Rd.own {w : World} {v : Value} {L : List Pn} {base : Nat} (h : Sl.Own Pn.k base w v L) : Rd w v L := by
  obtain ⟨b, _, h⟩ := h.is
  exact .inl ⟨b, h⟩

theorem run_append_0 (ty : TypeId) {w : World} {v : Value} {L : List Pn} {base : Nat} (a : Addr) (cap : Nat) (h : Sl.Own Pn.k base w v L) (hn : L.length ≤ 1048576) (hb : base ≤ w.heap.size) :
    ∃ v' w', (Builtin.append_ #[Pn.k.t, Pn.k.t] ty #[v, .slice (some a) 0 cap]).run Try.prog w = .ok v' w' ∧ Sl.Own Pn.k base w' v' L ∧ w.grownBy w' v.ownBlock ∧ (v'.ownBlock = v.ownBlock ∨ v'.ownBlock = some w.heap.size) := by
  have O := Pn.ok
  obtain ⟨i0, hi, hz0, hz1, hz2⟩ := info_parts O.info
  have hsm := O.small
  obtain ⟨v', w', hr, q1, q2, _, q3⟩ := run_append_own_at (P := Try.prog) w base Pn.k.t ty Pn.k.e i0 Pn.k.zero Pn.k.k Pn.k.bytes O.under hi hz0 hz1 hz2 O.zs O.pos v _ _ h a 0 cap [] (by simp)
    (fun j u hj => by simp at hj) (fun u hu => by simp at hu) (by unfold maxLen; omega) (Nat.le_trans (Nat.mul_le_mul (show L.length + 0 ≤ 1048576 by omega) hsm) (by decide)) hb
  exact ⟨v', w', hr, by rw [List.append_nil] at q1; exact q1, q2, q3⟩
theorem run_append_rd (ty : TypeId) {w : World} {v x : Value} {L X : List Pn} {base : Nat} (h : Sl.Own Pn.k base w v L) (hx : Rd w x X) (hn : L.length + X.length ≤ 1048576) (hb : base ≤ w.heap.size) :
    ∃ v' w', (Builtin.append_ #[Pn.k.t, Pn.k.t] ty #[v, x]).run Try.prog w = .ok v' w' ∧ Sl.Own Pn.k base w' v' (L ++ X) ∧ w.grownBy w' v.ownBlock ∧ (v'.ownBlock = v.ownBlock ∨ v'.ownBlock = some w.heap.size) := by
  rcases hx with ⟨b, hx⟩ | ⟨rfl, a, cap, rfl⟩
  · exact Sl.run_append Pn.ok ty h hx hn hb
  · rw [List.append_nil]
    exact run_append_0 ty a cap h (by omega) hb
theorem wp_append_0 {w : World} {o : Oper} {a : Act} {Kc : Act → World → Prop} {Q : Exit → Act → World → Prop} {b cap : Nat} {ad : Addr} (s x : Operand) (hop : o.op = Op.call { callee := Callee.builtin Builtin.append, args := #[s, x], argTypes := #[Pn.k.t, Pn.k.t] })
    (hs : a.eval s = .slice (some ⟨b, 0, none⟩) 0 0) (hx : a.eval x = .slice (some ad) 0 cap) (hK : Kc (a.put o.dst (.slice (some ⟨b, 0, none⟩) 0 0)) w) : o.wp Try.prog a w Kc Q := by
  obtain ⟨i0, hi, hz0, hz1, hz2⟩ := info_parts Pn.ok.info
  have hf := run_firstCells_some (P := Try.prog) w i0.size 0 ad 0 cap [] (by simp) (by simp)
  have hr : (Builtin.append_ #[Pn.k.t, Pn.k.t] o.type #[.slice (some ⟨b, 0, none⟩) 0 0, .slice (some ad) 0 cap]).run Try.prog w = .ok (.slice (some ⟨b, 0, none⟩) 0 0) w := by
    simp [Builtin.append_, run_underlying Pn.ok.under, sizeOf, typeInfo, hi, Builtin.lenOf, hf, storeCells, Result.andThen]
  unfold Oper.wp
  simp [execOp, hop, resolve, invoke, builtin, hs, hx, hr, Result.andThen]
  exact hK

set_option maxHeartbeats 800000 in
theorem clone_is (v : Value) (L : List Pn) (b : Nat) (w : World) (H : Hid (Sl.Is Pn.k w v L b)) (hn : L.length ≤ 1000) :
    Calls Try.prog 17 #[v] w fun r w' => ∃ v', r = .returned v' ∧ Sl.Own Pn.k w.heap.size w' v' L ∧ Below w.heap.size w w' := by
  rcases H.out with ⟨rfl, rfl⟩ | ⟨off, cap, rfl, h2, h3, h4, h5⟩
  · clear H
    go_enter Try.func17, Try.ntmps17
    have e0 : ∀ w, (binOp .eql 26 (.slice none 0 0) (.slice none 0 0)).run Try.prog w = .ok (.bool true) w := fun w => Lib.run_eql_slice_nil w _ _ _ _ _ _ _ Try.underlying26
    go_wp2
    go_ret
    exact ⟨_, rfl, Sl.Own.nil _ _ _, Below.refl _ _⟩
  · clear h2 h3 h4 h5
    go_enter Try.func17, Try.ntmps17
    have e0 : ∀ w, (binOp .eql 26 (.slice (some ⟨b, off, none⟩) L.length cap) (.slice none 0 0)).run Try.prog w = .ok (.bool false) w := fun w => Lib.run_eql_slice_nil w _ _ _ _ _ _ _ Try.underlying26
    go_wp2_with (at_builtin; refine wpList_plain rfl fun K' hK' => Sl.wp_append_empty (K := Pn.k) Pn.ok (.tmp 5) (.tmp 6) rfl (b := w.heap.size) (base := w.heap.size) (l2 := L) (b2 := b) rfl (heap_alloc_new _ _) (Nat.le_refl _) (by exact H.out.next (below1 _ _)) (by omega) (by simp) (fun u w8 x1 x2 => hK' _ _ ?_))
    have B := Lib.hid (after (below1 _ _) x2)
    have X1 := Lib.hid x1
    clear x1 x2 
    go_wp2
    go_ret
    exact ⟨_, rfl, X1.out, B.out⟩
set_option maxHeartbeats 800000 in
theorem clone_0 (a : Addr) (cap : Nat) (w : World) :
    Calls Try.prog 17 #[.slice (some a) 0 cap] w fun r w' => ∃ v', r = .returned v' ∧ Sl.Own Pn.k w.heap.size w' v' [] ∧ Below w.heap.size w w' := by
  go_enter Try.func17, Try.ntmps17
  have e0 : ∀ w, (binOp .eql 26 (.slice (some a) 0 cap) (.slice none 0 0)).run Try.prog w = .ok (.bool false) w := fun w => Lib.run_eql_slice_nil w _ _ _ _ _ _ _ Try.underlying26
  go_wp2_with (at_builtin; refine wpList_plain rfl fun K' hK' => wp_append_0 (.tmp 5) (.tmp 6) rfl (b := w.heap.size) (ad := a) (cap := cap) rfl rfl (hK' _ _ ?_))
  go_ret
  exact ⟨_, rfl, Sl.Own.empty (heap_alloc_new _ _) (Nat.le_refl _), below1 _ _⟩
theorem clone_ok (v : Value) (L : List Pn) (w : World) (H : Hid (Rd w v L)) (hn : L.length ≤ 1000) :
    Calls Try.prog 17 #[v] w fun r w' => ∃ v', r = .returned v' ∧ Sl.Own Pn.k w.heap.size w' v' L ∧ Below w.heap.size w w' := by
  rcases H.out with ⟨b, h⟩ | ⟨rfl, a, cap, rfl⟩
  · exact clone_is v L b w (Lib.hid h) hn
  · exact clone_0 a cap w

/-! ### a list as a row -/
theorem flat_get : ∀ (l : List Pn) (t : Nat), t < l.length * 7 → (Sl.flat Pn.k l)[t]? = some ((Pn.cl l[t / 7]!)[t % 7]!)
  | [], t, h => by simp at h
  | x :: l, t, h => by
    have e : Sl.flat Pn.k (x :: l) = x.cl ++ Sl.flat Pn.k l := rfl
    rw [e]
    by_cases ht : t < 7
    · rw [List.getElem?_append_left (by simpa using ht), Nat.div_eq_of_lt ht, Nat.mod_eq_of_lt ht]
      have : t < (Pn.cl x).length := by simpa using ht
      simp only [List.getElem!_cons_zero]
      rw [List.getElem!_eq_getElem?_getD, List.getElem?_eq_getElem this]
      rfl
    · rw [List.getElem?_append_right (by simp; omega)]
      have h1 : t / 7 = (t - 7) / 7 + 1 := by omega
      have h2 : t % 7 = (t - 7) % 7 := by omega
      have := flat_get l (t - 7) (by simp at h; omega)
      rw [h1, h2, List.getElem!_cons_succ]
      exact this
theorem flatK_at (l : List Pn) (t : Nat) (h : t < l.length * 7) : (Sl.flat Pn.k l)[t]? = some ((flatK Pn.cl 7 l.toArray)[t]!) := by
  rw [flat_get l t h, get_flatK _ _ _ _ (by simpa using h)]
  simp
theorem holds_own {base b cap : Nat} {w : World} {L : List Pn} {cur : Array Value} (h1 : w.heap[b]? = some (.cells cur 32 (0, 0))) (h2 : cur.toList.take (L.length * 7) = Sl.flat Pn.k L) : HoldsK Pn.cl 7 w b 0 L.toArray := by
  intro j hj
  have hj' : j < L.length * 7 := by simpa using hj
  have e := flatK_at L j hj'
  rw [← h2, List.getElem?_take, if_pos hj'] at e
  refine ⟨?_, by simp [World.frozen?, h1]⟩
  rw [Nat.zero_add, cell_of_row w b j cur _ (0, 0) h1]
  simpa using e
theorem is_holds {b cap : Nat} {w : World} {L : List Pn} (h : HoldsK Pn.cl 7 w b 0 L.toArray) (hc : L.length ≤ cap) (hm : cap ≤ maxLen) (hb : b < w.heap.size) : Sl.Is Pn.k w (.slice (some ⟨b, 0, none⟩) L.length cap) L b := by
  refine .inr ⟨0, cap, rfl, hc, hm, hb, fun j u hj => ?_⟩
  have hj' : j < L.length * 7 := by
    have := (List.getElem?_eq_some_iff.1 hj).1
    rw [Sl.flat_len Pn.ok] at this
    exact this
  have := (h j (by simpa using hj')).1
  rw [flatK_at L j hj'] at hj
  rw [this]
  exact hj
theorem rw_below {w0 w : World} {b off base : Nat} {l : List Pn} (h : Rw Pn.cl 7 w0 b off l w) (hb : base ≤ b) (hs : base ≤ w0.heap.size) : Below base w0 w := by
  obtain ⟨n, os, rfl⟩ := h
  refine ⟨rfl, rfl, rfl, ?_, fun i hi => ?_⟩
  · simp [sortWorldK, size_putRowK, Sort.ahead]
  · unfold sortWorldK
    rw [heap_grow_old _ _ (by rw [size_putRowK]; show i < w0.heap.size; omega)]
    show (w0.heap.modify b _)[i]? = _
    rw [Array.getElem?_modify, if_neg (by omega)]

theorem eC : ∀ args w, (callFunc 20 args).run Try.prog w = .ok (.enter 20 args) w := fun args w => enters Try.func20 (by kernel_rfl) rfl _ _
theorem cmps : Cmps Try.prog 20 #[] Pn.cl pc := fun x y W => comp_ok x y W

set_option maxHeartbeats 800000 in
theorem stab_nil (v : Value) (w : World) (fv : Value) : Calls Try.prog 21 #[v, .int .i64 0, fv] w fun r w' => r = .returned (.tuple #[]) ∧ w' = w := by
  have ins : ∀ w : World, Calls Try.prog 26 #[v, .int .i64 0, .int .i64 0, fv] w fun r w' => r = .returned (.tuple #[]) ∧ w' = w := by
    intro w
    go_enter Try.func26, Try.ntmps26
    go_wp2
    refine wp_loop_rounds 1 ?_
    rw [rounds_succ]
    go_wp2
    go_end0
    exact ⟨rfl, rfl⟩
  go_enter Try.func21, Try.ntmps21
  go_wp2
  refine wp_loop_rounds 1 ?_
  rw [rounds_succ]
  go_wp2_with fail
  refine (ins w).mono ?_
  rintro r w1 ⟨rfl, rfl⟩
  go_wp2
  refine wp_loop_rounds 1 ?_
  rw [rounds_succ]
  go_wp2
  go_end0
  exact ⟨rfl, rfl⟩

/-- a list of the call's own, sorted -/
theorem stab_own (v : Value) (L : List Pn) (base : Nat) (w : World) (H : Sl.Own Pn.k base w v L) (hb : base ≤ w.heap.size) (hn : L.length ≤ 1000) :
    Calls Try.prog 21 #[v, .int .i64 L.length, .func (.func 20) #[] #[]] w fun r w' => r = .returned (.tuple #[]) ∧ (∃ b, base ≤ b ∧ Sl.Is Pn.k w' v (srt ah L) b) ∧ Below base w w' := by
  by_cases h0 : L = []
  · subst h0
    refine (stab_nil v w _).mono ?_
    rintro r w1 ⟨rfl, rfl⟩
    obtain ⟨b, hb, h⟩ := H.is
    exact ⟨rfl, ⟨b, hb, h⟩, Below.refl _ _⟩
  · obtain ⟨_, h | ⟨g, cap, cur, rfl, h2, h3, h4, h5, h6, h7⟩⟩ := H
    · exact absurd (List.length_eq_zero_iff.1 h.2) h0
    · have hh : HoldsK Pn.cl 7 w g 0 L.toArray := holds_own (base := base) (cap := cap) h3 h7
      have hg : g < w.heap.size := Nat.lt_of_not_le fun q => by rw [Array.getElem?_eq_none q] at h3; cases h3
      have R0 : RowK Pn.cl 7 w g 0 L.toArray := ⟨fun _ => rfl, fun x => Pn.ok.one x, hh, hg⟩
      have R : Rk Pn.cl 7 w g 0 L.length := ⟨L.toArray, by simp, R0⟩
      refine (stable_ok sp swo cmps eC R (by omega) L rfl (SWK.start hh)).mono ?_
      rintro r w' ⟨rfl, hw⟩
      refine ⟨rfl, ⟨g, h2, ?_⟩, rw_below hw h2 hb⟩
      have := is_holds (cap := cap) (SWK.holds hw hg hh (by simp [srt_len])) (by rw [srt_len]; exact h4) h5 (SWK.lt hw hg)
      rw [srt_len] at this
      exact this

set_option maxHeartbeats 800000 in
theorem sortf_ok (v : Value) (L : List Pn) (base : Nat) (w : World) (H : Hid (Sl.Own Pn.k base w v L)) (hb : base ≤ w.heap.size) (hn : L.length ≤ 1000) :
    Calls Try.prog 19 #[v, .func (.func 20) #[] #[]] w fun r w' => r = .returned (.tuple #[]) ∧ (∃ b, base ≤ b ∧ Sl.Is Pn.k w' v (srt ah L) b) ∧ Below base w w' := by
  obtain ⟨a, cap, rfl⟩ : ∃ a cap, v = .slice a L.length cap := by obtain ⟨b, _, h⟩ := H.out.is; exact h.len
  have hc := stab_own _ L base w H.out hb hn
  go_enter Try.func19, Try.ntmps19
  go_wp2_with fail
  refine hc.mono ?_
  rintro r w1 ⟨rfl, h⟩
  go_wp2
  go_end0
  exact ⟨rfl, h⟩

set_option maxHeartbeats 800000 in
/-- outlog.Sorted -/
theorem sorted_ok (v : Value) (L : List Pn) (w : World) (H : Hid (Rd w v L)) (hn : L.length ≤ 1000) :
    Calls Try.prog 15 #[v] w fun r w' => ∃ v' b', r = .returned v' ∧ w.heap.size ≤ b' ∧ Sl.Is Pn.k w' v' (srt ah L) b' ∧ Below w.heap.size w w' := by
  go_enter Try.func15, Try.ntmps15
  go_wp2_with fail
  refine (clone_ok v L w H hn).mono ?_
  rintro r w1 ⟨v1, rfl, o1, k1⟩
  have O1 := Lib.hid o1
  have K1 := Lib.hid k1
  clear o1 k1
  go_wp2_with fail
  refine (sortf_ok v1 L w.heap.size w1 O1 K1.out.size hn).mono ?_
  rintro r w2 ⟨rfl, ⟨b2, hb2, i2⟩, k2⟩
  have I2 := Lib.hid i2
  have K2 := Lib.hid (K1.out.trans k2)
  clear i2 k2
  go_wp2
  go_ret
  exact ⟨_, b2, rfl, hb2, I2.out, K2.out⟩
end Out
end Go.Proofs.Ytdmplcnnoabkaaa
