/-
  No value gets lost, and windows that are merged in stay apart: plain mathematics of lists of panes.
  Lists of panes by how many values lie in them, whatever the values: what Put and Merge do to it.
-/
import Derived.Test.YtmklkiklegkioaaGreatPaneMerge
import Derived.Test.YtmklkiklegkioaaGreatPaneRef
namespace Go.Proofs.YtmklkiklegkioaaGreat
open Go.ChangeShapes Go.WideShapes Go.ChangeAt Go.RowKit Small
set_option linter.unusedVariables false
namespace Pane

theorem sumC_app (A B : List Pn) : sumC (A ++ B) = sumC A + sumC B := by simp [sumC, List.sum_append]
theorem sumM_app (A B : List Pn) : sumM (A ++ B) = sumM A + sumM B := by simp [sumM, List.sum_append]
theorem sumC_cons (p : Pn) (B : List Pn) : sumC (p :: B) = p.c + sumC B := by simp [sumC]
theorem sumM_cons (p : Pn) (B : List Pn) : sumM (p :: B) = p.m + sumM B := by simp [sumM]
theorem sumC_cut (L : List Pn) (k : Nat) : sumC (L.take k) + sumC (L.drop k) = sumC L := by rw [← sumC_app, List.take_append_drop]
theorem sumM_cut (L : List Pn) (k : Nat) : sumM (L.take k) + sumM (L.drop k) = sumM L := by rw [← sumM_app, List.take_append_drop]
theorem sum_pos {L : List Pn} (h : ∀ p ∈ L, 1 ≤ p.c) : (L.length : Int) ≤ sumC L ∧ ∀ p ∈ L, p.c ≤ sumC L := by
  induction L with
  | nil => simp [sumC]
  | cons x L ih =>
    obtain ⟨a, b⟩ := ih fun p hp => h p (List.mem_cons_of_mem _ hp)
    have hx := h x (List.mem_cons_self ..)
    rw [sumC_cons]
    refine ⟨by simp; omega, fun p hp => ?_⟩
    rcases List.mem_cons.1 hp with rfl | hp
    · omega
    · have := b p hp
      omega
theorem split_at {L : List Pn} {k : Nat} {p : Pn} (hp : L[k]? = some p) : L = L.take k ++ p :: L.drop (k + 1) := by
  obtain ⟨h1, h2⟩ := List.getElem?_eq_some_iff.1 hp
  conv => lhs; rw [← List.take_append_drop k L, List.drop_eq_getElem_cons h1, h2]
theorem set_split {L : List Pn} {k : Nat} {p q : Pn} (hp : L[k]? = some p) : L.set k q = L.take k ++ q :: L.drop (k + 1) := by
  rw [← set_cut (lt_of_at hp) q]
  have hl : (L.take k).length = k := by rw [List.length_take]; have := lt_of_at hp; omega
  rw [List.take_left' hl, List.drop_left' hl]

/-- n values v lie in it -/
structure Good (L : List Pn) (n : Nat) (v : Int) : Prop where
  rises : Rises L
  pos : ∀ p ∈ L, 1 ≤ p.c
  cnt : sumC L = n
  sum : wrap64 (sumM L) = wrap64 (n * v)
theorem Good.len {L : List Pn} {n : Nat} {v : Int} (h : Good L n v) : L.length ≤ n := by
  have := (sum_pos h.pos).1
  rw [h.cnt] at this
  omega
theorem Good.nil (v : Int) : Good [] 0 v := ⟨List.Pairwise.nil, by simp, rfl, by simp [sumM]⟩

theorem mrg_both {x y : Agg.A4} (hx : 1 ≤ x.c) (hy : 1 ≤ y.c) : Agg.mrg x y = ⟨wrap64 (x.c + y.c), wrap64 (x.s + y.s), min x.l y.l, max x.u y.u⟩ := by
  unfold Agg.mrg
  rw [if_neg (by omega), if_neg (by omega)]
theorem wrap_small {a : Int} (h0 : 0 ≤ a) (h1 : a ≤ 100000) : wrap64 a = a := by unfold wrap64; omega
theorem wrap_sub {a b : Int} (h : wrap64 a = wrap64 b) (c : Int) : wrap64 (a + c) = wrap64 (b + c) := by rw [← wrap_add a c, h, wrap_add]
theorem succ_mul' (n : Nat) (v : Int) : ((n + 1 : Nat) : Int) * v = n * v + v := by rw [Int.natCast_add, Int.add_mul]; simp

theorem good_put_no {L : List Pn} {n k : Nat} {v s e : Int} (key : ByteArray) (h : Good L n v) (a : At L s e k) (hx : ∀ x ∈ L, ¬ Eq2 x s e) : Good (L.take k ++ one key s e v :: L.drop k) (n + 1) v := by
  refine ⟨rises_ins h.rises (p := one key s e v) a hx, fun p hp => ?_, ?_, ?_⟩
  · rcases List.mem_append.1 hp with hp | hp
    · exact h.pos p (List.mem_of_mem_take hp)
    · rcases List.mem_cons.1 hp with rfl | hp
      · exact Int.le_refl _
      · exact h.pos p (List.mem_of_mem_drop hp)
  · rw [sumC_app, sumC_cons]
    have := sumC_cut L k
    have := h.cnt
    simp only
    omega
  · rw [sumM_app, sumM_cons, succ_mul']
    have e1 := sumM_cut L k
    rw [show sumM (L.take k) + ((one key s e v).m + sumM (L.drop k)) = sumM L + v by simp only; omega]
    exact wrap_sub h.sum v
theorem good_put_yes {L : List Pn} {n k : Nat} {v s e : Int} {p : Pn} (h : Good L n v) (a : At L s e k) (hp : L[k]? = some p) (he : Eq2 p s e) (hn : n ≤ 9000) : Good (L.set k (mk p.key p.s p.e (Agg.mrg (ag p) (Agg.one4 v)))) (n + 1) v := by
  have hpm := List.mem_of_getElem? hp
  have p1 := h.pos p hpm
  have p2 := (sum_pos h.pos).2 p hpm
  rw [h.cnt] at p2
  have hm : Agg.mrg (ag p) (Agg.one4 v) = ⟨p.c + 1, wrap64 (p.m + v), min p.l v, max p.u v⟩ := by
    rw [mrg_both p1 (by simp [Agg.one4])]
    simp only [Agg.one4]
    rw [wrap_small (by omega) (by omega)]
  have e0 := split_at hp
  have e1 := set_split (q := mk p.key p.s p.e (Agg.mrg (ag p) (Agg.one4 v))) hp
  rw [hm] at e1 ⊢
  have c0 : sumC L = sumC (L.take k) + (p.c + sumC (L.drop (k + 1))) := by rw [← sumC_cons, ← sumC_app, ← e0]
  have m0 : sumM L = sumM (L.take k) + (p.m + sumM (L.drop (k + 1))) := by rw [← sumM_cons, ← sumM_app, ← e0]
  have hc := h.cnt
  refine ⟨?_, fun q hq => ?_, ?_, ?_⟩
  · have hc1 := rises_cut h.rises k
    have ha := at_cut a (lt_of_at hp)
    have hk := lt_of_at hp
    have := rises_ins (p := mk p.key p.s p.e ⟨p.c + 1, wrap64 (p.m + v), min p.l v, max p.u v⟩) hc1 (by simpa [mk, he.1, he.2] using ha) (fun x hx q => by
      have hnn := filter_cut h.rises a hp he (fun y => !decide (Eq2 y s e)) (fun y _ => by rw [Bool.not_eq_true', decide_eq_false_iff_not])
      rw [← hnn] at hx
      have := (List.mem_filter.1 hx).2
      simp only [he.1, he.2] at q
      rw [Bool.not_eq_true', decide_eq_false_iff_not] at this
      exact this q)
    rwa [set_cut hk] at this
  · rw [e1] at hq
    rcases List.mem_append.1 hq with hq | hq
    · exact h.pos q (List.mem_of_mem_take hq)
    · rcases List.mem_cons.1 hq with rfl | hq
      · simp only; omega
      · exact h.pos q (List.mem_of_mem_drop hq)
  · rw [e1, sumC_app, sumC_cons]
    simp only
    omega
  · rw [e1, sumM_app, sumM_cons, succ_mul']
    simp only
    rw [show sumM (L.take k) + (wrap64 (p.m + v) + sumM (L.drop (k + 1))) = wrap64 (p.m + v) + (sumM (L.take k) + sumM (L.drop (k + 1))) by omega, wrap_add,
      show p.m + v + (sumM (L.take k) + sumM (L.drop (k + 1))) = sumM L + v by omega]
    exact wrap_sub h.sum v

/-- no two meet -/
structure Apart (L : List Pn) : Prop where
  may : ∀ p ∈ L, p.s < p.e
  apart : L.Pairwise fun p q => p.e ≤ q.s

/-- what comes of joining all of them to one -/
theorem fold_join (T : List Pn) : ∀ (x : Pn), 1 ≤ x.c → (∀ p ∈ T, 1 ≤ p.c) → x.c + sumC T ≤ 9000 →
    (T.foldl join2 x).c = x.c + sumC T ∧ wrap64 (T.foldl join2 x).m = wrap64 (x.m + sumM T) ∧ (T.foldl join2 x).key = x.key ∧ (T.foldl join2 x).s ≤ x.s ∧ x.e ≤ (T.foldl join2 x).e ∧
      (∀ B, B ≤ x.s → (∀ q ∈ T, B ≤ q.s) → B ≤ (T.foldl join2 x).s) ∧ (∀ B, x.e ≤ B → (∀ q ∈ T, q.e ≤ B) → (T.foldl join2 x).e ≤ B) := by
  induction T with
  | nil => intro x h1 h2 h3; simp [sumC, sumM]
  | cons p T ih =>
    intro x h1 h2 h3
    have hp := h2 p (List.mem_cons_self ..)
    have hT : ∀ q ∈ T, 1 ≤ q.c := fun q hq => h2 q (List.mem_cons_of_mem _ hq)
    rw [sumC_cons] at h3
    have h0 := (sum_pos hT).1
    have hj : join2 x p = ⟨x.key, min x.s p.s, max x.e p.e, x.c + p.c, wrap64 (x.m + p.m), min x.l p.l, max x.u p.u⟩ := by
      unfold join2
      rw [mrg_both (x := ag x) (y := ag p) h1 hp]
      simp only [mk]
      rw [wrap_small (by omega) (by omega)]
    rw [List.foldl_cons, hj]
    obtain ⟨a1, a2, a3, a4, a5, a6, a7⟩ := ih ⟨x.key, min x.s p.s, max x.e p.e, x.c + p.c, wrap64 (x.m + p.m), min x.l p.l, max x.u p.u⟩ (by simp only; omega) hT (by simp only; omega)
    simp only at a1 a2 a3 a4 a5 a6 a7
    refine ⟨by rw [a1, sumC_cons]; omega, by rw [a2, sumM_cons, wrap_add, Int.add_assoc], a3, by omega, by omega, fun B hB hq => ?_, fun B hB hq => ?_⟩
    · exact a6 B (by have := hq p (List.mem_cons_self ..); omega) fun q hqT => hq q (List.mem_cons_of_mem _ hqT)
    · exact a7 B (by have := hq p (List.mem_cons_self ..); omega) fun q hqT => hq q (List.mem_cons_of_mem _ hqT)

theorem part_sum (f : Pn → Bool) (L : List Pn) : sumC (L.filter fun p => !f p) + sumC (L.filter f) = sumC L ∧ sumM (L.filter fun p => !f p) + sumM (L.filter f) = sumM L := by
  induction L with
  | nil => simp [sumC, sumM]
  | cons p L ih =>
    simp only [List.filter_cons]
    cases h : f p
    · simp only [Bool.not_false, if_true, sumC_cons, sumM_cons]
      have := ih.1
      have := ih.2
      constructor
      · simp; omega
      · simp; omega
    · simp only [Bool.not_true, if_true, sumC_cons, sumM_cons]
      have := ih.1
      have := ih.2
      constructor
      · simp; omega
      · simp; omega

theorem Apart.two {L : List Pn} (h : Apart L) {p q : Pn} (hp : p ∈ L) (hq : q ∈ L) (hne : p ≠ q) : p.e ≤ q.s ∨ q.e ≤ p.s := by
  obtain ⟨i, hi⟩ := List.mem_iff_getElem?.1 hp
  obtain ⟨j, hj⟩ := List.mem_iff_getElem?.1 hq
  obtain ⟨h1, rfl⟩ := List.getElem?_eq_some_iff.1 hi
  obtain ⟨h2, rfl⟩ := List.getElem?_eq_some_iff.1 hj
  have hij : i ≠ j := fun e => hne (by subst e; rfl)
  rcases Nat.lt_or_ge i j with q | q
  · exact .inl (List.pairwise_iff_getElem.1 h.apart i j h1 h2 q)
  · exact .inr (List.pairwise_iff_getElem.1 h.apart j i h2 h1 (by omega))

/-- those that don't meet it lie apart from all that comes of it -/
theorem rest_apart {L : List Pn} {n : Nat} {v s e : Int} (key : ByteArray) (g : Good L n v) (h : Apart L) (hse : s < e) (hn : n ≤ 8900) {p : Pn} (hp : p ∈ restOf s e L) :
    p.e ≤ (joined s e (one key s e v) L).s ∨ (joined s e (one key s e v) L).e ≤ p.s := by
  obtain ⟨hpL, hpm⟩ := List.mem_filter.1 hp
  have hpv := h.may p hpL
  have hpm : ¬ (max p.s s < min p.e e) := by simpa using hpm
  have hpos : ∀ q ∈ metOf s e L, 1 ≤ q.c := fun q hq => g.pos q (List.mem_filter.1 hq).1
  have hsum : sumC (restOf s e L) + sumC (metOf s e L) = sumC L := (part_sum (meets s e) L).1
  have hr : ((restOf s e L).length : Int) ≤ sumC (restOf s e L) := (sum_pos (L := L.filter fun p => !meets s e p) fun q hq => g.pos q (List.mem_filter.1 hq).1).1
  have hcnt := g.cnt
  obtain ⟨a1, a2, a3, a4, a5, a6, a7⟩ := fold_join (metOf s e L) (one key s e v) (by simp only; omega) hpos (by simp only; omega)
  simp only [one] at a4 a5 a6 a7
  have each : ∀ q ∈ metOf s e L, (p.e ≤ q.s ∨ q.e ≤ p.s) ∧ max q.s s < min q.e e := fun q hq => by
    obtain ⟨hqL, hqm⟩ := List.mem_filter.1 hq
    have hqm : max q.s s < min q.e e := by simpa using hqm
    exact ⟨h.two hpL hqL (fun e => hpm (e ▸ hqm)), hqm⟩
  by_cases hl : p.e ≤ s
  · exact .inl (a6 p.e hl fun q hq => by have := each q hq; omega)
  · exact .inr (a7 p.s (by omega) fun q hq => by have := each q hq; omega)

theorem good_merge {L : List Pn} {n k : Nat} {v s e : Int} (key : ByteArray) (g : Good L n v) (h : Apart L) (hse : s < e) (hn : n ≤ 8900) (x : Pn) (hx : x = joined s e (one key s e v) L) (a : At (restOf s e L) x.s x.e k) :
    Good ((restOf s e L).take k ++ x :: (restOf s e L).drop k) (n + 1) v ∧ Apart ((restOf s e L).take k ++ x :: (restOf s e L).drop k) := by
  have hpos : ∀ q ∈ metOf s e L, 1 ≤ q.c := fun q hq => g.pos q (List.mem_filter.1 hq).1
  have hposr : ∀ q ∈ restOf s e L, 1 ≤ q.c := fun q hq => g.pos q (List.mem_filter.1 hq).1
  have hsum : sumC (restOf s e L) + sumC (metOf s e L) = sumC L := (part_sum (meets s e) L).1
  have hsumM : sumM (restOf s e L) + sumM (metOf s e L) = sumM L := (part_sum (meets s e) L).2
  have hr := (sum_pos hposr).1
  have hcnt := g.cnt
  obtain ⟨a1, a2, a3, a4, a5, a6, a7⟩ := fold_join (metOf s e L) (one key s e v) (by simp only; omega) hpos (by simp only; omega)
  have hj : (metOf s e L).foldl join2 (one key s e v) = x := hx.symm
  rw [hj] at a1 a2 a3 a4 a5 a6 a7
  simp only at a1 a2 a4 a5
  have hap : ∀ p ∈ restOf s e L, p.e ≤ x.s ∨ x.e ≤ p.s := fun p hp => by rw [hx]; exact rest_apart key g h hse hn hp
  have hmay : ∀ p ∈ restOf s e L, p.s < p.e := fun p hp => h.may p (List.mem_filter.1 hp).1
  have hxv : x.s < x.e := by omega
  have hR : Rises (restOf s e L) := g.rises.sub List.filter_sublist
  have hA : (restOf s e L).Pairwise fun p q => p.e ≤ q.s := List.Pairwise.sublist List.filter_sublist h.apart
  have hnx : ∀ p ∈ restOf s e L, ¬ Eq2 p x.s x.e := fun p hp q => by
    have := hap p hp
    have := hmay p hp
    simp only [Eq2] at q
    omega
  have c0 := sumC_cut (restOf s e L) k
  have m0 := sumM_cut (restOf s e L) k
  refine ⟨⟨rises_ins hR a hnx, fun p hp => ?_, ?_, ?_⟩, ⟨fun p hp => ?_, ?_⟩⟩
  · rcases List.mem_append.1 hp with hp | hp
    · exact hposr p (List.mem_of_mem_take hp)
    · rcases List.mem_cons.1 hp with rfl | hp
      · have := (sum_pos hpos).1; omega
      · exact hposr p (List.mem_of_mem_drop hp)
  · rw [sumC_app, sumC_cons]
    omega
  · rw [sumM_app, sumM_cons, succ_mul', show sumM ((restOf s e L).take k) + (x.m + sumM ((restOf s e L).drop k)) = x.m + sumM (restOf s e L) by omega, wrap_sub a2,
      show v + sumM (metOf s e L) + sumM (restOf s e L) = sumM L + v by omega]
    exact wrap_sub g.sum v
  · rcases List.mem_append.1 hp with hp | hp
    · exact hmay p (List.mem_of_mem_take hp)
    · rcases List.mem_cons.1 hp with rfl | hp
      · exact hxv
      · exact hmay p (List.mem_of_mem_drop hp)
  · have hw := hA
    rw [← List.take_append_drop k (restOf s e L)] at hw
    obtain ⟨w1, w2, w3⟩ := List.pairwise_append.1 hw
    have ht : ∀ p ∈ (restOf s e L).take k, p.e ≤ x.s := fun p hp => by
      have hpR := List.mem_of_mem_take hp
      obtain ⟨i, hi⟩ := List.mem_iff_getElem?.1 hp
      rw [List.getElem?_take] at hi
      split at hi
      · have h1 := a.lo i p (by assumption) hi
        have h2 := hap p hpR
        have h3 := hmay p hpR
        simp only [Ah] at h1
        omega
      · cases hi
    have hd : ∀ p ∈ (restOf s e L).drop k, x.e ≤ p.s := fun p hp => by
      have hpR := List.mem_of_mem_drop hp
      obtain ⟨i, hi⟩ := List.mem_iff_getElem?.1 hp
      rw [List.getElem?_drop] at hi
      have h1 := a.hi _ p (by omega) hi
      have h2 := hap p hpR
      have h3 := hmay p hpR
      simp only [Ah] at h1
      omega
    refine List.pairwise_append.2 ⟨w1, List.pairwise_cons.2 ⟨hd, w2⟩, fun p hp q hq => ?_⟩
    rcases List.mem_cons.1 hq with rfl | hq
    · exact ht p hp
    · exact w3 p hp q hq
end Pane
end Go.Proofs.YtmklkiklegkioaaGreat

namespace Go.Proofs.YtmklkiklegkioaaGreat
open Go.ChangeShapes Go.WideShapes Go.ChangeAt Go.RowKit Small
set_option linter.unusedVariables false
set_option linter.unusedSimpArgs false
namespace Pane
/-- n values lie in it -/
structure Cnt (L : List Pn) (n : Nat) : Prop where
  rises : Rises L
  pos : ∀ p ∈ L, 1 ≤ p.c
  cnt : sumC L = n
theorem Cnt.nil : Cnt [] 0 := ⟨List.Pairwise.nil, by simp, rfl⟩
theorem Cnt.len {L : List Pn} {n : Nat} (h : Cnt L n) : L.length ≤ n := by
  have := (sum_pos h.pos).1
  rw [h.cnt] at this
  omega
theorem cnt_put_no {L : List Pn} {n k : Nat} {v s e : Int} (key : ByteArray) (h : Cnt L n) (a : At L s e k) (hx : ∀ x ∈ L, ¬ Eq2 x s e) : Cnt (L.take k ++ one key s e v :: L.drop k) (n + 1) := by
  refine ⟨rises_ins h.rises (p := one key s e v) a hx, fun p hp => ?_, ?_⟩
  · rcases List.mem_append.1 hp with hp | hp
    · exact h.pos p (List.mem_of_mem_take hp)
    · rcases List.mem_cons.1 hp with rfl | hp
      · exact Int.le_refl _
      · exact h.pos p (List.mem_of_mem_drop hp)
  · rw [sumC_app, sumC_cons]
    have := sumC_cut L k
    have := h.cnt
    simp only
    omega
theorem cnt_put_yes {L : List Pn} {n k : Nat} {v s e : Int} {p : Pn} (h : Cnt L n) (a : At L s e k) (hp : L[k]? = some p) (he : Eq2 p s e) (hn : n ≤ 9000) : Cnt (L.set k (mk p.key p.s p.e (Agg.mrg (ag p) (Agg.one4 v)))) (n + 1) := by
  have hpm := List.mem_of_getElem? hp
  have p1 := h.pos p hpm
  have p2 := (sum_pos h.pos).2 p hpm
  rw [h.cnt] at p2
  have hm : Agg.mrg (ag p) (Agg.one4 v) = ⟨p.c + 1, wrap64 (p.m + v), min p.l v, max p.u v⟩ := by
    rw [mrg_both p1 (by simp [Agg.one4])]
    simp only [Agg.one4]
    rw [wrap_small (by omega) (by omega)]
  have e0 := split_at hp
  have e1 := set_split (q := mk p.key p.s p.e (Agg.mrg (ag p) (Agg.one4 v))) hp
  rw [hm] at e1 ⊢
  have c0 : sumC L = sumC (L.take k) + (p.c + sumC (L.drop (k + 1))) := by rw [← sumC_cons, ← sumC_app, ← e0]
  have hc := h.cnt
  refine ⟨?_, fun q hq => ?_, ?_⟩
  · have hc1 := rises_cut h.rises k
    have ha := at_cut a (lt_of_at hp)
    have hk := lt_of_at hp
    have := rises_ins (p := mk p.key p.s p.e ⟨p.c + 1, wrap64 (p.m + v), min p.l v, max p.u v⟩) hc1 (by simpa [mk, he.1, he.2] using ha) (fun x hx q => by
      have hnn := filter_cut h.rises a hp he (fun y => !decide (Eq2 y s e)) (fun y _ => by rw [Bool.not_eq_true', decide_eq_false_iff_not])
      rw [← hnn] at hx
      have := (List.mem_filter.1 hx).2
      simp only [he.1, he.2] at q
      rw [Bool.not_eq_true', decide_eq_false_iff_not] at this
      exact this q)
    rwa [set_cut hk] at this
  · rw [e1] at hq
    rcases List.mem_append.1 hq with hq | hq
    · exact h.pos q (List.mem_of_mem_take hq)
    · rcases List.mem_cons.1 hq with rfl | hq
      · simp only; omega
      · exact h.pos q (List.mem_of_mem_drop hq)
  · rw [e1, sumC_app, sumC_cons]
    simp only
    omega

theorem rest_apart2 {L : List Pn} {n : Nat} {v s e : Int} (key : ByteArray) (g : Cnt L n) (h : Apart L) (hse : s < e) (hn : n ≤ 8900) {p : Pn} (hp : p ∈ restOf s e L) :
    p.e ≤ (joined s e (one key s e v) L).s ∨ (joined s e (one key s e v) L).e ≤ p.s := by
  obtain ⟨hpL, hpm⟩ := List.mem_filter.1 hp
  have hpv := h.may p hpL
  have hpm : ¬ (max p.s s < min p.e e) := by simpa using hpm
  have hpos : ∀ q ∈ metOf s e L, 1 ≤ q.c := fun q hq => g.pos q (List.mem_filter.1 hq).1
  have hsum : sumC (restOf s e L) + sumC (metOf s e L) = sumC L := (part_sum (meets s e) L).1
  have hr : ((restOf s e L).length : Int) ≤ sumC (restOf s e L) := (sum_pos (L := L.filter fun p => !meets s e p) fun q hq => g.pos q (List.mem_filter.1 hq).1).1
  have hcnt := g.cnt
  obtain ⟨a1, a2, a3, a4, a5, a6, a7⟩ := fold_join (metOf s e L) (one key s e v) (by simp only; omega) hpos (by simp only; omega)
  simp only [one] at a4 a5 a6 a7
  have each : ∀ q ∈ metOf s e L, (p.e ≤ q.s ∨ q.e ≤ p.s) ∧ max q.s s < min q.e e := fun q hq => by
    obtain ⟨hqL, hqm⟩ := List.mem_filter.1 hq
    have hqm : max q.s s < min q.e e := by simpa using hqm
    exact ⟨h.two hpL hqL (fun e => hpm (e ▸ hqm)), hqm⟩
  by_cases hl : p.e ≤ s
  · exact .inl (a6 p.e hl fun q hq => by have := each q hq; omega)
  · exact .inr (a7 p.s (by omega) fun q hq => by have := each q hq; omega)

theorem cnt_merge {L : List Pn} {n k : Nat} {v s e : Int} (key : ByteArray) (g : Cnt L n) (h : Apart L) (hse : s < e) (hn : n ≤ 8900) (x : Pn) (hx : x = joined s e (one key s e v) L) (a : At (restOf s e L) x.s x.e k) :
    Cnt ((restOf s e L).take k ++ x :: (restOf s e L).drop k) (n + 1) ∧ Apart ((restOf s e L).take k ++ x :: (restOf s e L).drop k) := by
  have hpos : ∀ q ∈ metOf s e L, 1 ≤ q.c := fun q hq => g.pos q (List.mem_filter.1 hq).1
  have hposr : ∀ q ∈ restOf s e L, 1 ≤ q.c := fun q hq => g.pos q (List.mem_filter.1 hq).1
  have hsum : sumC (restOf s e L) + sumC (metOf s e L) = sumC L := (part_sum (meets s e) L).1
  have hr := (sum_pos hposr).1
  have hcnt := g.cnt
  obtain ⟨a1, a2, a3, a4, a5, a6, a7⟩ := fold_join (metOf s e L) (one key s e v) (by simp only; omega) hpos (by simp only; omega)
  have hj : (metOf s e L).foldl join2 (one key s e v) = x := hx.symm
  rw [hj] at a1 a2 a3 a4 a5 a6 a7
  simp only at a1 a2 a4 a5
  have hap : ∀ p ∈ restOf s e L, p.e ≤ x.s ∨ x.e ≤ p.s := fun p hp => by rw [hx]; exact rest_apart2 key g h hse hn hp
  have hmay : ∀ p ∈ restOf s e L, p.s < p.e := fun p hp => h.may p (List.mem_filter.1 hp).1
  have hxv : x.s < x.e := by omega
  have hR : Rises (restOf s e L) := g.rises.sub List.filter_sublist
  have hA : (restOf s e L).Pairwise fun p q => p.e ≤ q.s := List.Pairwise.sublist List.filter_sublist h.apart
  have hnx : ∀ p ∈ restOf s e L, ¬ Eq2 p x.s x.e := fun p hp q => by
    have := hap p hp
    have := hmay p hp
    simp only [Eq2] at q
    omega
  have c0 := sumC_cut (restOf s e L) k
  refine ⟨⟨rises_ins hR a hnx, fun p hp => ?_, ?_⟩, ⟨fun p hp => ?_, ?_⟩⟩
  · rcases List.mem_append.1 hp with hp | hp
    · exact hposr p (List.mem_of_mem_take hp)
    · rcases List.mem_cons.1 hp with rfl | hp
      · have := (sum_pos hpos).1; omega
      · exact hposr p (List.mem_of_mem_drop hp)
  · rw [sumC_app, sumC_cons]
    omega
  · rcases List.mem_append.1 hp with hp | hp
    · exact hmay p (List.mem_of_mem_take hp)
    · rcases List.mem_cons.1 hp with rfl | hp
      · exact hxv
      · exact hmay p (List.mem_of_mem_drop hp)
  · have hw := hA
    rw [← List.take_append_drop k (restOf s e L)] at hw
    obtain ⟨w1, w2, w3⟩ := List.pairwise_append.1 hw
    have ht : ∀ p ∈ (restOf s e L).take k, p.e ≤ x.s := fun p hp => by
      have hpR := List.mem_of_mem_take hp
      obtain ⟨i, hi⟩ := List.mem_iff_getElem?.1 hp
      rw [List.getElem?_take] at hi
      split at hi
      · have h1 := a.lo i p (by assumption) hi
        have h2 := hap p hpR
        have h3 := hmay p hpR
        simp only [Ah] at h1
        omega
      · cases hi
    have hd : ∀ p ∈ (restOf s e L).drop k, x.e ≤ p.s := fun p hp => by
      have hpR := List.mem_of_mem_drop hp
      obtain ⟨i, hi⟩ := List.mem_iff_getElem?.1 hp
      rw [List.getElem?_drop] at hi
      have h1 := a.hi _ p (by omega) hi
      have h2 := hap p hpR
      have h3 := hmay p hpR
      simp only [Ah] at h1
      omega
    refine List.pairwise_append.2 ⟨w1, List.pairwise_cons.2 ⟨hd, w2⟩, fun p hp q hq => ?_⟩
    rcases List.mem_cons.1 hq with rfl | hq
    · exact ht p hp
    · exact w3 p hp q hq
end Pane
end Go.Proofs.YtmklkiklegkioaaGreat
