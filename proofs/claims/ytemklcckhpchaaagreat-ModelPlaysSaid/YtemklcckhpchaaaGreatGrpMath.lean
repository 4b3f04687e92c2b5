/-
  What comes of Settle and of Take: what goes out rises, once; counts; what is left isn't over. Plain mathematics.
-/
import Derived.Test.YtemklcckhpchaaaGreatGrpTake
import Derived.Test.YtemklcckhpchaaaGreatRefFine
namespace Go.Proofs.YtemklcckhpchaaaGreat
open Go.ChangeShapes Go.WideShapes Go.ChangeAt Go.RowKit
namespace Grp
open Small Foot Pane
set_option linter.unusedVariables false

section
variable {kind late mark : Int} {S S' : Lists} {O : List Pn} {N : Nat}
theorem Fine.outs (h : Fine S) (o : Outs late mark S O S') : Fine S' := by
  induction o with
  | none => exact h
  | more _ _ _ _ ih => exact ih.cut _ _
/-- what is left was there -/
theorem Outs.sub (o : Outs late mark S O S') : ∀ x q, q ∈ S' x → q ∈ S x := by
  induction o with
  | none => exact fun x q h => h
  | @more O1 S1 p k h hp ho hl ih =>
    intro x q hq
    by_cases e : x = p.key
    · subst e; rw [set_same] at hq; exact ih _ q (cut_mem hq)
    · rw [set_other _ _ e] at hq; exact ih x q hq
/-- what goes out was there, and is over -/
theorem Outs.mem (o : Outs late mark S O S') (h : Fine S) : ∀ p ∈ O, p ∈ S p.key ∧ p.e + late ≤ mark := by
  induction o with
  | none => exact fun p hp => by cases hp
  | @more O1 S1 p k h1 hp ho hl ih =>
    intro q hq
    rcases List.mem_append.1 hq with hq | hq
    · exact ih q hq
    · obtain rfl := List.mem_singleton.1 hq
      exact ⟨h1.sub _ _ (List.mem_of_getElem? hp), ho⟩
/-- what goes out is no longer there, and ends no later than what is -/
theorem Outs.ahead (o : Outs late mark S O S') (h : Fine S) : ∀ p ∈ O, ∀ x q, q ∈ S' x → FineTwo p q := by
  induction o with
  | none => exact fun p hp => by cases hp
  | @more O1 S1 p k h1 hp ho hl ih =>
    have F1 := h.outs h1
    intro o hO x q hq
    have hq1 : q ∈ S1 x := by
      by_cases e : x = p.key
      · subst e; rw [set_same] at hq; exact cut_mem hq
      · rw [set_other _ _ e] at hq; exact hq
    rcases List.mem_append.1 hO with hO | hO
    · exact ih o hO x q hq1
    · obtain rfl := List.mem_singleton.1 hO
      intro hk
      have hd : duesOf (S1.set o.key ((S1 o.key).take k ++ (S1 o.key).drop (k + 1))) (tmOf q) :=
        ⟨q, by rw [show (tmOf q).key = x from F1.key x q hq1]; exact hq, rfl, rfl⟩
      have hne := ((dues_cut F1 hp _).2 hd).1
      refine ⟨Tmr.le_end (hl x q hq1), fun e => hne ?_⟩
      rw [tm_ext]
      exact ⟨hk.symm, e.1.symm, e.2.symm⟩
theorem Outs.fine (o : Outs late mark S O S') (h : Fine S) : O.Pairwise FineTwo := by
  induction o with
  | none => exact List.Pairwise.nil
  | @more O1 S1 p k h1 hp ho hl ih =>
    refine List.pairwise_append.2 ⟨ih, List.pairwise_singleton _ _, fun a ha b hb => ?_⟩
    obtain rfl := List.mem_singleton.1 hb
    exact h1.ahead h a ha _ _ (List.mem_of_getElem? hp)
/-- but for one key there are no panes -/
def Only (key : ByteArray) (S : Lists) : Prop := ∀ x, x ≠ key → S x = []
theorem Outs.only {key : ByteArray} (o : Outs late mark S O S') (h : Only key S) : Only key S' := fun x hx => by
  cases hs : S' x with
  | nil => rfl
  | cons q L =>
    have := o.sub x q (by rw [hs]; simp)
    rw [h x hx] at this
    cases this
theorem Outs.count {key : ByteArray} (o : Outs late mark S O S') (h : Only key S) : sumC O + sumC (S' key) = sumC (S key) := by
  induction o with
  | none => simp [sumC]
  | @more O1 S1 p k h1 hp ho hl ih =>
    have hk : p.key = key := by
      by_cases e : p.key = key
      · exact e
      · rw [h1.only h _ e] at hp; simp at hp
    subst hk
    have e := split_at hp
    have c0 : sumC (S1 p.key) = sumC ((S1 p.key).take k) + (p.c + sumC ((S1 p.key).drop (k + 1))) := by rw [← sumC_cons, ← sumC_app, ← e]
    rw [set_same, sumC_app, sumC_app, sumC_cons]
    have : sumC ([] : List Pn) = 0 := rfl
    omega
end
/-- what a value that is put in does to a list -/
theorem put1_cnt {kind s e v : Int} {key : ByteArray} {L L' : List Pn} {n : Nat} (h : Put1 kind key s e v L L') (c : Cnt L n) (ap : kind = 2 → Apart L) (hse : s < e) (hn : n ≤ 8900) : Cnt L' (n + 1) ∧ (kind = 2 → Apart L') := by
  rcases h with ⟨h2, k, a, rfl⟩ | ⟨h2, k, a, ⟨p, hp, he, rfl⟩ | ⟨hno, rfl⟩⟩
  · obtain ⟨h3, h4⟩ := cnt_merge (v := v) key c (ap h2) hse hn _ rfl a
    exact ⟨h3, fun _ => h4⟩
  · exact ⟨cnt_put_yes c a hp he (by omega), fun q => absurd q h2⟩
  · exact ⟨cnt_put_no key c a fun x hx he => hno x (a.found c.rises hx he) he, fun q => absurd q h2⟩
theorem put1_key {kind s e v : Int} {key : ByteArray} {L L' : List Pn} {n : Nat} (h : Put1 kind key s e v L L') (c : Cnt L n) (hn : n ≤ 8900) (hk : ∀ p ∈ L, p.key = key) : ∀ p ∈ L', p.key = key := by
  intro q hq
  rcases h with ⟨h2, k, a, rfl⟩ | ⟨h2, k, a, ⟨p, hp, he, rfl⟩ | ⟨hno, rfl⟩⟩
  · rcases mem_ins.1 hq with rfl | hq
    · have hpos : ∀ q ∈ metOf s e L, 1 ≤ q.c := fun q hq => c.pos q (List.mem_filter.1 hq).1
      have hs0 : sumC (restOf s e L) + sumC (metOf s e L) = sumC L := (part_sum (meets s e) L).1
      have hr0 := (sum_pos (L := restOf s e L) fun q hq => c.pos q (List.mem_filter.1 hq).1).1
      have := c.cnt
      exact (fold_join (metOf s e L) (one key s e v) (by simp only; omega) hpos (by simp only; omega)).2.2.1
    · exact hk q (List.mem_filter.1 hq).1
  · rw [Pane.set_split hp] at hq
    rcases List.mem_append.1 hq with hq | hq
    · exact hk q (List.mem_of_mem_take hq)
    · rcases List.mem_cons.1 hq with rfl | hq
      · exact hk p (List.mem_of_getElem? hp)
      · exact hk q (List.mem_of_mem_drop hq)
  · rcases mem_ins.1 hq with rfl | hq
    · rfl
    · exact hk q hq
/-- what is put into what isn't over isn't over -/
theorem put1_late {kind s e v late mark : Int} {key : ByteArray} {L L' : List Pn} {n : Nat} (h : Put1 kind key s e v L L') (c : Cnt L n) (hn : n ≤ 8900) (ho : ¬ e + late ≤ mark) (hL : ∀ q ∈ L, ¬ q.e + late ≤ mark) : ∀ q ∈ L', ¬ q.e + late ≤ mark := by
  intro q hq
  rcases h with ⟨h2, k, a, rfl⟩ | ⟨h2, k, a, ⟨p, hp, he, rfl⟩ | ⟨hno, rfl⟩⟩
  · rcases mem_ins.1 hq with rfl | hq
    · have hpos : ∀ q ∈ metOf s e L, 1 ≤ q.c := fun q hq => c.pos q (List.mem_filter.1 hq).1
      have hs0 : sumC (restOf s e L) + sumC (metOf s e L) = sumC L := (part_sum (meets s e) L).1
      have hr0 := (sum_pos (L := restOf s e L) fun q hq => c.pos q (List.mem_filter.1 hq).1).1
      have := c.cnt
      have := (fold_join (metOf s e L) (one key s e v) (by simp only; omega) hpos (by simp only; omega)).2.2.2.2.1
      simp only [joined] at this ⊢
      omega
    · exact hL q (List.mem_filter.1 hq).1
  · rw [Pane.set_split hp] at hq
    rcases List.mem_append.1 hq with hq | hq
    · exact hL q (List.mem_of_mem_take hq)
    · rcases List.mem_cons.1 hq with rfl | hq
      · exact hL p (List.mem_of_getElem? hp)
      · exact hL q (List.mem_of_mem_drop hq)
  · rcases mem_ins.1 hq with rfl | hq
    · exact ho
    · exact hL q hq
theorem put1_ok {kind s e v : Int} {key : ByteArray} {S : Lists} {L' : List Pn} {N : Nat} (h : Put1 kind key s e v (S key) L') (O : Ok kind S N) (hse : s < e) (hN : N ≤ 8900) : Ok kind (S.set key L') (N + 1) := by
  obtain ⟨n, c, hn⟩ := O.cnt key
  obtain ⟨c1, a1⟩ := put1_cnt h c (fun q => O.apart q key) hse (by omega)
  exact ok_set O c1 (by omega) (put1_key h c (by omega) (O.key key)) a1
/-- how many of the first i windows aren't over -/
def live (a d l late mark : Int) : Nat → Nat
  | 0 => 0
  | i + 1 => live a d l late mark i + if a + i * d + l + late ≤ mark then 0 else 1
section
variable {kind v late mark a d l : Int} {key : ByteArray} {S S' : Lists} {i c N : Nat}
theorem Tk.live (t : Tk kind key v late mark a d l S i c S') : c = live a d l late mark i := by
  induction t with
  | zero => rfl
  | over _ ho ih => simp only [Grp.live]; rw [if_pos ho, ← ih]; rfl
  | put _ ho _ ih => simp only [Grp.live]; rw [if_neg ho, ← ih]
theorem Tk.ok (t : Tk kind key v late mark a d l S i c S') (O : Ok kind S N) (hl : 1 ≤ l) (hN : N + i ≤ 8900) : Ok kind S' (N + c) := by
  induction t with
  | zero => exact O
  | over _ _ ih => exact ih (by omega)
  | @put i c S1 L1 t1 _ hp ih => exact put1_ok (N := N + c) hp (ih (by omega)) (by omega) (by have := t1.le; omega)
theorem Tk.only (t : Tk kind key v late mark a d l S i c S') (h : Only key S) : Only key S' := by
  induction t with
  | zero => exact h
  | over _ _ ih => exact ih
  | put _ _ _ ih => exact fun x hx => by rw [set_other _ _ hx]; exact ih x hx
theorem Tk.count (t : Tk kind key v late mark a d l S i c S') (O : Ok kind S N) (hl : 1 ≤ l) (hN : N + i ≤ 8900) : sumC (S' key) = sumC (S key) + c := by
  induction t with
  | zero => simp
  | over _ _ ih => exact ih (by omega)
  | @put i c S1 L1 t1 _ hp ih =>
    have O1 := t1.ok O hl (by omega)
    obtain ⟨n, c1, hn⟩ := O1.cnt key
    have c2 := (put1_cnt hp c1 (fun q => O1.apart q key) (by omega) (by have := t1.le; omega)).1.cnt
    have := c1.cnt
    have := ih (by omega)
    rw [set_same]
    omega
theorem Tk.noneOver (t : Tk kind key v late mark a d l S i c S') (O : Ok kind S N) (hl : 1 ≤ l) (hN : N + i ≤ 8900) (h : NoneOver late mark S) : NoneOver late mark S' := by
  induction t with
  | zero => exact h
  | over _ _ ih => exact ih (by omega)
  | @put i c S1 L1 t1 ho hp ih =>
    have O1 := t1.ok O hl (by omega)
    obtain ⟨n, c1, hn⟩ := O1.cnt key
    intro x q hq
    by_cases e : x = key
    · subst e
      rw [set_same] at hq
      exact put1_late hp c1 (by have := t1.le; omega) ho (fun q hq => ih (by omega) _ q hq) q hq
    · rw [set_other _ _ e] at hq
      exact ih (by omega) x q hq
end
end Grp
end Go.Proofs.YtemklcckhpchaaaGreat
