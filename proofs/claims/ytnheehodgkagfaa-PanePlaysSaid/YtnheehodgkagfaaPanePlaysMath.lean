/-
  PanePlays: what Put and Merge make of a list is what the law makes of it by definition.
-/
import Derived.Test.YtnheehodgkagfaaPanePlaysSt
import Derived.Test.YtnheehodgkagfaaPanePut
import Derived.Test.YtnheehodgkagfaaPaneMerge
namespace Go.Proofs.Ytnheehodgkagfaa.panePlays
open Go.ChangeShapes Go.WideShapes Go.ChangeAt Go.RowKit Small Pane
set_option linter.unusedVariables false

theorem no_hit {L : List Pn} {s e : Int} (h : ∀ y ∈ L, ¬ Eq2 y s e) : restH false s e L = L ∧ metH false s e L = [] := by
  refine ⟨List.filter_eq_self.2 fun y hy => ?_, List.filter_eq_nil_iff.2 fun y hy => ?_⟩
  · have : decide (Eq2 y s e) = false := decide_eq_false (h y hy)
    simp [hits, this]
  · have : decide (Eq2 y s e) = false := decide_eq_false (h y hy)
    simp [hits, this]
theorem split_at {L : List Pn} {k : Nat} {x : Pn} (hx : L[k]? = some x) : L = L.take k ++ x :: L.drop (k + 1) := by
  obtain ⟨h1, h2⟩ := List.getElem?_eq_some_iff.1 hx
  conv => lhs; rw [← List.take_append_drop k L, List.drop_eq_getElem_cons h1, h2]
theorem one_hit {L : List Pn} (h : Rises L) {s e : Int} {k : Nat} (a : At L s e k) {x : Pn} (hx : L[k]? = some x) (he : Eq2 x s e) : restH false s e L = L.take k ++ L.drop (k + 1) ∧ metH false s e L = [x] := by
  refine ⟨filter_cut h a hx he _ fun y hy => by simp [hits]; omega, ?_⟩
  have ht : (L.take k).filter (hits false s e) = [] := List.filter_eq_nil_iff.2 fun y hy => by
    obtain ⟨i, hi⟩ := List.mem_iff_getElem?.1 hy
    rw [List.getElem?_take] at hi
    split at hi
    · have := a.lo i y (by assumption) hi
      simp only [Ah] at this
      simp only [hits, Eq2]
      simp
      omega
    · cases hi
  have hd : (L.drop (k + 1)).filter (hits false s e) = [] := List.filter_eq_nil_iff.2 fun y hy => by
    obtain ⟨i, hi⟩ := List.mem_iff_getElem?.1 hy
    rw [List.getElem?_drop] at hi
    have := h.at (i := k) (j := k + 1 + i) (by omega) hx hi
    simp only [Ah, Eq2] at this he
    simp only [hits, Eq2]
    simp
    omega
  have hq : hits false s e x = true := by simp [hits, he]
  have e1 : metH false s e L = (L.take k ++ x :: L.drop (k + 1)).filter (hits false s e) := congrArg (List.filter (hits false s e)) (split_at hx)
  rw [e1, List.filter_append, ht, List.filter_cons, hq, hd]
  rfl
theorem not_found {L : List Pn} (h : Rises L) {s e : Int} {k : Nat} (a : At L s e k) (hn : ∀ x, L[k]? = some x → ¬ Eq2 x s e) : ∀ y ∈ L, ¬ Eq2 y s e := fun y hy he => hn y (a.found h hy he) he
theorem fold_key (M : List Pn) (x : Pn) : (M.foldl join2 x).key = x.key := by
  induction M generalizing x with
  | nil => rfl
  | cons p M ih => rw [List.foldl_cons, ih]
theorem ins_len (R : List Pn) (k : Nat) (X : Pn) : (R.take k ++ X :: R.drop k).length = R.length + 1 := by
  simp only [List.length_append, List.length_take, List.length_cons, List.length_drop]; omega
theorem ins_key {R : List Pn} {k : Nat} {X : Pn} {key : ByteArray} (h : ∀ p ∈ R, p.key = key) (hX : X.key = key) : ∀ p ∈ R.take k ++ X :: R.drop k, p.key = key := fun p hp => by
  rcases List.mem_append.1 hp with q | q
  · exact h p (List.mem_of_mem_take q)
  · rcases List.mem_cons.1 q with rfl | q
    · exact hX
    · exact h p (List.mem_of_mem_drop q)
/-- what is to be known of a round that puts: X is what is put, R the rest, k its place -/
structure Makes (key : ByteArray) (n : Nat) (R : List Pn) (X : Pn) (k : Nat) : Prop where
  at_ : At R X.s X.e k
  rises : Rises (R.take k ++ X :: R.drop k)
  key : ∀ p ∈ R.take k ++ X :: R.drop k, p.key = key
  len : (R.take k ++ X :: R.drop k).length ≤ n + 1
theorem put_all {L : List Pn} {key : ByteArray} {s e : Int} {k : Nat} (v : Int) (RL : Rises L) (KL : ∀ p ∈ L, p.key = key) (A : At L s e k) (hn : L.length ≤ 1000) (X : Pn) (hX : X = (metH false s e L).foldl join2 (one key s e v)) :
    Makes key L.length (restH false s e L) X k ∧ ∀ (l : Value) (b : Nat) (w : World), Hid (Sl.Is Pn.k w l L b) →
      Calls Try.prog 17 #[l, .string key, win s e, .int .i64 v] w fun r w' => ∃ v', r = .returned v' ∧ Sl.Own Pn.k w.heap.size w' v' ((restH false s e L).take k ++ X :: (restH false s e L).drop k) ∧ Below w.heap.size w w' := by
  have hXk : X.key = key := by rw [hX, fold_key]
  by_cases h : ∃ p, L[k]? = some p ∧ Eq2 p s e
  · obtain ⟨p, h1, h2⟩ := h
    obtain ⟨r1, r2⟩ := one_hit RL A h1 h2
    have hk := lt_of_at h1
    have hpk : p.key = key := KL p (List.mem_of_getElem? h1)
    obtain ⟨e1, e2⟩ := h2
    have hc : Agg.mrg (Agg.one4 v) (ag p) = Agg.mrg (ag p) (Agg.one4 v) := Agg.mrg_comm fun q _ => absurd q (by simp [Agg.one4])
    have hXX : X = mk p.key p.s p.e (Agg.mrg (ag p) (Agg.one4 v)) := by
      rw [hX, r2, ← hc]
      show join2 (one key s e v) p = _
      unfold join2
      have h3 : min (one key s e v).s p.s = p.s := by show _ = _; simp only; omega
      have h4 : max (one key s e v).e p.e = p.e := by show _ = _; simp only; omega
      rw [h3, h4, hpk]
      rfl
    have hXs : X.s = s := by rw [hXX]; exact e1
    have hXe : X.e = e := by rw [hXX]; exact e2
    have hW : (restH false s e L).take k ++ X :: (restH false s e L).drop k = L.set k X := by rw [r1]; exact set_cut hk X
    have hkk : ∀ p ∈ restH false s e L, p.key = key := fun q hq => KL q (List.mem_filter.1 hq).1
    refine ⟨⟨by rw [r1, hXs, hXe]; exact at_cut A hk, ?_, ins_key hkk hXk, by rw [hW, List.length_set]; omega⟩, fun l b w H => ?_⟩
    · rw [r1]
      refine rises_ins (rises_cut RL k) (by rw [hXs, hXe]; exact at_cut A hk) fun x hx he => ?_
      have hx' : x ∈ restH false s e L := by rw [r1]; exact hx
      have := (List.mem_filter.1 hx').2
      simp only [Eq2, hXs, hXe] at he
      simp [hits, Eq2, he] at this
    · rw [hW, hXX]
      exact put_yes l L b k key s e v p w H hn (Lib.hid A) (Lib.hid h1) (Lib.hid ⟨e1, e2⟩)
  · have hno : ∀ x, L[k]? = some x → ¬ Eq2 x s e := fun x h1 h2 => h ⟨x, h1, h2⟩
    obtain ⟨r1, r2⟩ := no_hit (not_found RL A hno)
    have hXX : X = one key s e v := by rw [hX, r2]; rfl
    subst hXX
    rw [r1]
    exact ⟨⟨A, rises_ins RL A (not_found RL A hno), ins_key KL hXk, by rw [ins_len]; omega⟩, fun l b w H => put_no l L b k key s e v w H hn (Lib.hid A) (Lib.hid hno)⟩
theorem mrg_all {L : List Pn} {key : ByteArray} {s e : Int} (v : Int) (RL : Rises L) (KL : ∀ p ∈ L, p.key = key) (hn : L.length ≤ 1000) (X : Pn) (hX : X = (metH true s e L).foldl join2 (one key s e v))
    (NO : ∀ (j : Nat) y, (restH true s e L)[j]? = some y → ¬ Eq2 y X.s X.e) :
    ∃ k, Makes key L.length (restH true s e L) X k ∧ ∀ (l : Value) (b : Nat) (w : World), Hid (Sl.Is Pn.k w l L b) →
      Calls Try.prog 16 #[l, .string key, win s e, .int .i64 v] w fun r w' => ∃ v' vg, r = .returned (.tuple #[v', vg, win X.s X.e]) ∧ Sl.Own Pn.k w.heap.size w' v' ((restH true s e L).take k ++ X :: (restH true s e L).drop k) ∧ Sl.Own Wn.k w.heap.size w' vg (wo (wins (metH true s e L)) (X.s, X.e)) ∧ Below w.heap.size w w' := by
  have hXk : X.key = key := by rw [hX, fold_key]
  have RR : Rises (restH true s e L) := RL.sub List.filter_sublist
  obtain ⟨k, A⟩ := At.ex RR X.s X.e
  have hlen : (restH true s e L).length ≤ L.length := List.length_filter_le _ _
  refine ⟨k, ⟨A, rises_ins RR A fun x hx he => ?_, ins_key (fun p hp => KL p (List.mem_filter.1 hp).1) hXk, by rw [ins_len]; omega⟩, fun l b w H => ?_⟩
  · obtain ⟨j, hj⟩ := List.mem_iff_getElem?.1 hx
    exact NO j x hj he
  · refine merge_ok l L b k key s e v X w H hn (Lib.hid hX) (Lib.hid A) (Lib.hid fun hm y hy he => ?_)
    have hR : restH true s e L = L := List.filter_eq_self.2 fun z hz => by
      have : meets s e z = false := by
        cases q : meets s e z
        · rfl
        · exact absurd (hm ▸ List.mem_filter.2 ⟨hz, q⟩ : z ∈ ([] : List Pn)) (by simp)
      show (!(if true then meets s e z else _)) = true
      rw [if_pos rfl, this]
      rfl
    have hm' : metH true s e L = [] := hm
    rw [hm'] at hX
    have hX' : X = one key s e v := hX
    rw [hR] at NO
    refine NO k y hy ?_
    rw [hX']
    exact he
end Go.Proofs.Ytnheehodgkagfaa.panePlays
