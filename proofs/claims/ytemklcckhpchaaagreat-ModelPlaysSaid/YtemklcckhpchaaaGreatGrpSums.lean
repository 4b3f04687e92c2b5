/-
  Lists of panes by how many values lie in them, whatever the values: what Put and Merge do to it.
-/
import Derived.Test.YtemklcckhpchaaaGreatPaneSum
namespace Go.Proofs.YtemklcckhpchaaaGreat
open Go.ChangeShapes Go.WideShapes Go.ChangeAt Go.RowKit Small
set_option linter.unusedVariables false
set_option linter.unusedSimpArgs false
namespace Pane
/-- n values lie in it -/
structure Cnt (L : List Pn) (n : Nat) : Prop where
  rises : Rises L
  pos : ∀ p ∈ L, 1 ≤ p.c
  cnt : sumC L = n
theorem Cnt.nil : Cnt [] 0 := ⟨List.Pairwise.nil, by simp, rfl⟩
theorem Cnt.len {L : List Pn} {n : Nat} (h : Cnt L n) : L.length ≤ n := by
  have := (sum_pos h.pos).1
  rw [h.cnt] at this
  omega
theorem cnt_put_no {L : List Pn} {n k : Nat} {v s e : Int} (key : ByteArray) (h : Cnt L n) (a : At L s e k) (hx : ∀ x ∈ L, ¬ Eq2 x s e) : Cnt (L.take k ++ one key s e v :: L.drop k) (n + 1) := by
  refine ⟨rises_ins h.rises (p := one key s e v) a hx, fun p hp => ?_, ?_⟩
  · rcases List.mem_append.1 hp with hp | hp
    · exact h.pos p (List.mem_of_mem_take hp)
    · rcases List.mem_cons.1 hp with rfl | hp
      · exact Int.le_refl _
      · exact h.pos p (List.mem_of_mem_drop hp)
  · rw [sumC_app, sumC_cons]
    have := sumC_cut L k
    have := h.cnt
    simp only
    omega
theorem cnt_put_yes {L : List Pn} {n k : Nat} {v s e : Int} {p : Pn} (h : Cnt L n) (a : At L s e k) (hp : L[k]? = some p) (he : Eq2 p s e) (hn : n ≤ 9000) : Cnt (L.set k (mk p.key p.s p.e (Agg.mrg (ag p) (Agg.one4 v)))) (n + 1) := by
  have hpm := List.mem_of_getElem? hp
  have p1 := h.pos p hpm
  have p2 := (sum_pos h.pos).2 p hpm
  rw [h.cnt] at p2
  have hm : Agg.mrg (ag p) (Agg.one4 v) = ⟨p.c + 1, wrap64 (p.m + v), min p.l v, max p.u v⟩ := by
    rw [mrg_both p1 (by simp [Agg.one4])]
    simp only [Agg.one4]
    rw [wrap_small (by omega) (by omega)]
  have e0 := split_at hp
  have e1 := set_split (q := mk p.key p.s p.e (Agg.mrg (ag p) (Agg.one4 v))) hp
  rw [hm] at e1 ⊢
  have c0 : sumC L = sumC (L.take k) + (p.c + sumC (L.drop (k + 1))) := by rw [← sumC_cons, ← sumC_app, ← e0]
  have hc := h.cnt
  refine ⟨?_, fun q hq => ?_, ?_⟩
  · have hc1 := rises_cut h.rises k
    have ha := at_cut a (lt_of_at hp)
    have hk := lt_of_at hp
    have := rises_ins (p := mk p.key p.s p.e ⟨p.c + 1, wrap64 (p.m + v), min p.l v, max p.u v⟩) hc1 (by simpa [mk, he.1, he.2] using ha) (fun x hx q => by
      have hnn := filter_cut h.rises a hp he (fun y => !decide (Eq2 y s e)) (fun y _ => by rw [Bool.not_eq_true', decide_eq_false_iff_not])
      rw [← hnn] at hx
      have := (List.mem_filter.1 hx).2
      simp only [he.1, he.2] at q
      rw [Bool.not_eq_true', decide_eq_false_iff_not] at this
      exact this q)
    rwa [set_cut hk] at this
  · rw [e1] at hq
    rcases List.mem_append.1 hq with hq | hq
    · exact h.pos q (List.mem_of_mem_take hq)
    · rcases List.mem_cons.1 hq with rfl | hq
      · simp only; omega
      · exact h.pos q (List.mem_of_mem_drop hq)
  · rw [e1, sumC_app, sumC_cons]
    simp only
    omega

theorem rest_apart2 {L : List Pn} {n : Nat} {v s e : Int} (key : ByteArray) (g : Cnt L n) (h : Apart L) (hse : s < e) (hn : n ≤ 8900) {p : Pn} (hp : p ∈ restOf s e L) :
    p.e ≤ (joined s e (one key s e v) L).s ∨ (joined s e (one key s e v) L).e ≤ p.s := by
  obtain ⟨hpL, hpm⟩ := List.mem_filter.1 hp
  have hpv := h.may p hpL
  have hpm : ¬ (max p.s s < min p.e e) := by simpa using hpm
  have hpos : ∀ q ∈ metOf s e L, 1 ≤ q.c := fun q hq => g.pos q (List.mem_filter.1 hq).1
  have hsum : sumC (restOf s e L) + sumC (metOf s e L) = sumC L := (part_sum (meets s e) L).1
  have hr : ((restOf s e L).length : Int) ≤ sumC (restOf s e L) := (sum_pos (L := L.filter fun p => !meets s e p) fun q hq => g.pos q (List.mem_filter.1 hq).1).1
  have hcnt := g.cnt
  obtain ⟨a1, a2, a3, a4, a5, a6, a7⟩ := fold_join (metOf s e L) (one key s e v) (by simp only; omega) hpos (by simp only; omega)
  simp only [one] at a4 a5 a6 a7
  have each : ∀ q ∈ metOf s e L, (p.e ≤ q.s ∨ q.e ≤ p.s) ∧ max q.s s < min q.e e := fun q hq => by
    obtain ⟨hqL, hqm⟩ := List.mem_filter.1 hq
    have hqm : max q.s s < min q.e e := by simpa using hqm
    exact ⟨h.two hpL hqL (fun e => hpm (e ▸ hqm)), hqm⟩
  by_cases hl : p.e ≤ s
  · exact .inl (a6 p.e hl fun q hq => by have := each q hq; omega)
  · exact .inr (a7 p.s (by omega) fun q hq => by have := each q hq; omega)

theorem cnt_merge {L : List Pn} {n k : Nat} {v s e : Int} (key : ByteArray) (g : Cnt L n) (h : Apart L) (hse : s < e) (hn : n ≤ 8900) (x : Pn) (hx : x = joined s e (one key s e v) L) (a : At (restOf s e L) x.s x.e k) :
    Cnt ((restOf s e L).take k ++ x :: (restOf s e L).drop k) (n + 1) ∧ Apart ((restOf s e L).take k ++ x :: (restOf s e L).drop k) := by
  have hpos : ∀ q ∈ metOf s e L, 1 ≤ q.c := fun q hq => g.pos q (List.mem_filter.1 hq).1
  have hposr : ∀ q ∈ restOf s e L, 1 ≤ q.c := fun q hq => g.pos q (List.mem_filter.1 hq).1
  have hsum : sumC (restOf s e L) + sumC (metOf s e L) = sumC L := (part_sum (meets s e) L).1
  have hr := (sum_pos hposr).1
  have hcnt := g.cnt
  obtain ⟨a1, a2, a3, a4, a5, a6, a7⟩ := fold_join (metOf s e L) (one key s e v) (by simp only; omega) hpos (by simp only; omega)
  have hj : (metOf s e L).foldl join2 (one key s e v) = x := hx.symm
  rw [hj] at a1 a2 a3 a4 a5 a6 a7
  simp only at a1 a2 a4 a5
  have hap : ∀ p ∈ restOf s e L, p.e ≤ x.s ∨ x.e ≤ p.s := fun p hp => by rw [hx]; exact rest_apart2 key g h hse hn hp
  have hmay : ∀ p ∈ restOf s e L, p.s < p.e := fun p hp => h.may p (List.mem_filter.1 hp).1
  have hxv : x.s < x.e := by omega
  have hR : Rises (restOf s e L) := g.rises.sub List.filter_sublist
  have hA : (restOf s e L).Pairwise fun p q => p.e ≤ q.s := List.Pairwise.sublist List.filter_sublist h.apart
  have hnx : ∀ p ∈ restOf s e L, ¬ Eq2 p x.s x.e := fun p hp q => by
    have := hap p hp
    have := hmay p hp
    simp only [Eq2] at q
    omega
  have c0 := sumC_cut (restOf s e L) k
  refine ⟨⟨rises_ins hR a hnx, fun p hp => ?_, ?_⟩, ⟨fun p hp => ?_, ?_⟩⟩
  · rcases List.mem_append.1 hp with hp | hp
    · exact hposr p (List.mem_of_mem_take hp)
    · rcases List.mem_cons.1 hp with rfl | hp
      · have := (sum_pos hpos).1; omega
      · exact hposr p (List.mem_of_mem_drop hp)
  · rw [sumC_app, sumC_cons]
    omega
  · rcases List.mem_append.1 hp with hp | hp
    · exact hmay p (List.mem_of_mem_take hp)
    · rcases List.mem_cons.1 hp with rfl | hp
      · exact hxv
      · exact hmay p (List.mem_of_mem_drop hp)
  · have hw := hA
    rw [← List.take_append_drop k (restOf s e L)] at hw
    obtain ⟨w1, w2, w3⟩ := List.pairwise_append.1 hw
    have ht : ∀ p ∈ (restOf s e L).take k, p.e ≤ x.s := fun p hp => by
      have hpR := List.mem_of_mem_take hp
      obtain ⟨i, hi⟩ := List.mem_iff_getElem?.1 hp
      rw [List.getElem?_take] at hi
      split at hi
      · have h1 := a.lo i p (by assumption) hi
        have h2 := hap p hpR
        have h3 := hmay p hpR
        simp only [Ah] at h1
        omega
      · cases hi
    have hd : ∀ p ∈ (restOf s e L).drop k, x.e ≤ p.s := fun p hp => by
      have hpR := List.mem_of_mem_drop hp
      obtain ⟨i, hi⟩ := List.mem_iff_getElem?.1 hp
      rw [List.getElem?_drop] at hi
      have h1 := a.hi _ p (by omega) hi
      have h2 := hap p hpR
      have h3 := hmay p hpR
      simp only [Ah] at h1
      omega
    refine List.pairwise_append.2 ⟨w1, List.pairwise_cons.2 ⟨hd, w2⟩, fun p hp q hq => ?_⟩
    rcases List.mem_cons.1 hq with rfl | hq
    · exact ht p hp
    · exact w3 p hp q hq
end Pane
end Go.Proofs.YtemklcckhpchaaaGreat
