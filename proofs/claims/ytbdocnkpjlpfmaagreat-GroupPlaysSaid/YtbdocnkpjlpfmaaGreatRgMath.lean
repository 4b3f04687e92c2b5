/-
  The document's list of panes of all keys, and the lists of each key: the one stands for the other, whatever is done. Plain mathematics.
-/
import Derived.Test.YtbdocnkpjlpfmaaGreatRgTake
import Derived.Test.YtbdocnkpjlpfmaaGreatRgPanes
import Derived.Test.YtbdocnkpjlpfmaaGreatRgKeys
namespace Go.Proofs.YtbdocnkpjlpfmaaGreat
open Go.ChangeShapes Go.WideShapes Go.ChangeAt Go.RowKit
namespace Rg
open Small Foot Pane Grp
set_option linter.unusedVariables false

/-- the list has just the panes of all keys -/
def Rep (S : Lists) (R : List Pn) : Prop := ∀ x, (ofKey x R).Perm (S x)
section
variable {S : Lists} {R : List Pn}
theorem Rep.mem (h : Rep S R) {p : Pn} : p ∈ R ↔ p ∈ S p.key := by
  rw [← (h p.key).mem_iff, List.mem_filter]
  simp
theorem Rep.apart (h : Rep S R) (F : Fine S) (x : ByteArray) : (ofKey x R).Pairwise fun p q => ¬ Eq2 p q.s q.e := by
  refine (h x).symm.pairwise ((F.rises x).imp fun {p q} hpq e => ?_) fun {p q} hpq e => hpq ⟨e.1.symm, e.2.symm⟩
  simp only [Ah, Eq2] at *
  omega
theorem Rep.nodup (h : Rep S R) (F : Fine S) : (R.map tmOf).Nodup := by
  refine List.pairwise_map.2 (List.pairwise_iff_forall_sublist.2 fun {p q} hs e => ?_)
  have hk : p.key = q.key := congrArg Tmr.Tm.key e
  have h1 := (h.apart F q.key).forall_sublist (a := p) (b := q) (by
    have := hs.filter fun p : Pn => decide (p.key = q.key)
    simpa [hk] using this)
  exact h1 ⟨congrArg Tmr.Tm.s e, congrArg Tmr.Tm.e e⟩
/-- there are just as many timers -/
theorem Rep.count {w : World} {g m tg n cnt : Nat} {cf : C8} {f : ByteArray → Option Value} {FT Bk : Nat → Prop} (h : Rep S R) (H : Gq w g m tg cf S (duesOf S) n cnt f FT Bk) (F : Fine S) : n = R.length := by
  obtain ⟨m', r, hf, hr, t, v, p, q, hh, hm⟩ := H.ts
  have nd : ((List.range n).map t).Nodup := by
    refine List.pairwise_map.2 ((List.nodup_range (n := n)).imp_of_mem fun {a b} ha hb hab e => hab ?_)
    exact q.inj (List.mem_range.1 ha) (List.mem_range.1 hb) e
  have iff : ∀ y, y ∈ R.map tmOf ↔ y ∈ (List.range n).map t := fun y => by
    have e1 : y ∈ R.map tmOf ↔ duesOf S y := by
      rw [List.mem_map]
      constructor
      · rintro ⟨p, hp, rfl⟩
        exact ⟨p, h.mem.1 hp, rfl, rfl⟩
      · rintro ⟨p, hp, h1, h2⟩
        have hk := F.key _ p hp
        refine ⟨p, h.mem.2 (by rw [hk]; exact hp), ?_⟩
        exact (tm_ext.2 ⟨hk.symm, h1.symm, h2.symm⟩).symm
    rw [e1, hm y, List.mem_map]
    constructor
    · rintro ⟨k, hk, e⟩; exact ⟨k, List.mem_range.2 hk, e⟩
    · rintro ⟨k, hk, e⟩; exact ⟨k, List.mem_range.1 hk, e⟩
  have l1 := List.Nodup.length_le_of_subset (h.nodup F) (fun y hy => (iff y).1 hy)
  have l2 := List.Nodup.length_le_of_subset nd (fun y hy => (iff y).2 hy)
  simp only [List.length_map, List.length_range] at l1 l2
  omega
theorem perm_cut {L : List Pn} {k : Nat} {p : Pn} (hp : L[k]? = some p) : L.Perm (p :: (L.take k ++ L.drop (k + 1))) := by
  conv => lhs; rw [Grp.split_at hp]
  exact List.perm_middle
theorem Rep.cut (h : Rep S R) {p : Pn} {k j : Nat} (hk : (S p.key)[k]? = some p) (hj : R[j]? = some p) : Rep (S.set p.key ((S p.key).take k ++ (S p.key).drop (k + 1))) (R.take j ++ R.drop (j + 1)) := by
  intro x
  have h1 := (perm_cut hj).filter fun q : Pn => decide (q.key = x)
  by_cases e : x = p.key
  · subst e
    rw [set_same]
    simp only [List.filter_cons, decide_true, if_true] at h1
    exact ((h1.symm.trans (h p.key)).trans (perm_cut hk)).cons_inv
  · rw [set_other _ _ e]
    rw [List.filter_cons, if_neg (by simpa using fun q => e q.symm)] at h1
    exact h1.symm.trans (h x)
/-- the first one that goes out is one -/
theorem out_one {late mark : Int} {p q : Pn} {k j : Nat} (h : Rep S R) (F : Fine S) (hp : (S p.key)[k]? = some p) (ho : p.e + late ≤ mark) (hl : ∀ x r, r ∈ S x → Tmr.le (tmOf p) (tmOf r)) (hq : R[j]? = some q) (hoq : q.e + late ≤ mark) (hlq : ∀ r, r ∈ R → r.e + late ≤ mark → Tmr.le (tmOf q) (tmOf r)) : p = q := by
  have hpS := List.mem_of_getElem? hp
  have hpR : p ∈ R := h.mem.2 hpS
  have hqS : q ∈ S q.key := h.mem.1 (List.mem_of_getElem? hq)
  have e : tmOf p = tmOf q := Tmr.le_antisymm (hl _ q hqS) (hlq p hpR ho)
  have hk : p.key = q.key := congrArg Tmr.Tm.key e
  exact one_win (F.rises p.key) hpS (by rw [hk]; exact hqS) (congrArg Tmr.Tm.s e) (congrArg Tmr.Tm.e e)
theorem outs_len {late mark : Int} {S1 : Lists} {R1 O O' : List Pn} (h : Rep S R) (F : Fine S) : ∀ n, ∀ {O O' : List Pn} {S1 : Lists} {R1 : List Pn}, O.length = n → O'.length = n → Outs late mark S O S1 → ROuts late mark R O' R1 → O = O' ∧ Rep S1 R1
  | 0, O, O', S1, R1, h1, h2, o, r => by
    cases o with
    | none =>
      cases r with
      | none => exact ⟨rfl, h⟩
      | more _ _ _ _ => simp at h2
    | more _ _ _ _ => simp at h1
  | n + 1, O, O', S1, R1, h1, h2, o, r => by
    cases o with
    | none => simp at h1
    | @more O1 S2 p k o hp ho hl =>
      cases r with
      | none => simp at h2
      | @more O2 R2 q j r hq hoq hlq =>
        obtain ⟨rfl, h3⟩ := outs_len (S1 := S2) (R1 := R2) (O := O1) (O' := O2) h F n (by simpa using h1) (by simpa using h2) o r
        obtain rfl := out_one h3 (F.outs o) hp ho hl hq hoq hlq
        exact ⟨rfl, h3.cut hp hq⟩
theorem ROuts.pre {late mark : Int} {R1 O : List Pn} (r : ROuts late mark R O R1) : ∀ n, n < O.length → ∃ R2 p, ROuts late mark R (O.take n) R2 ∧ p ∈ R2 ∧ p.e + late ≤ mark := by
  induction r with
  | none => intro n hn; simp at hn
  | @more O1 R2 p k r hp ho hl ih =>
    intro n hn
    rw [List.length_append, List.length_singleton] at hn
    by_cases e : n = O1.length
    · subst e
      exact ⟨R2, p, by rw [List.take_left]; exact r, List.mem_of_getElem? hp, ho⟩
    · obtain ⟨R3, q, h1, h2, h3⟩ := ih n (by omega)
      exact ⟨R3, q, by rw [List.take_append_of_le_length (by omega)]; exact h1, h2, h3⟩
theorem Outs.pre {late mark : Int} {S1 : Lists} {O : List Pn} (r : Outs late mark S O S1) : ∀ n, n < O.length → ∃ S2 p, Outs late mark S (O.take n) S2 ∧ p ∈ S2 p.key ∧ p.e + late ≤ mark := by
  induction r with
  | none => intro n hn; simp at hn
  | @more O1 S2 p k r hp ho hl ih =>
    intro n hn
    rw [List.length_append, List.length_singleton] at hn
    by_cases e : n = O1.length
    · subst e
      exact ⟨S2, p, by rw [List.take_left]; exact r, List.mem_of_getElem? hp, ho⟩
    · obtain ⟨R3, q, h1, h2, h3⟩ := ih n (by omega)
      exact ⟨R3, q, by rw [List.take_append_of_le_length (by omega)]; exact h1, h2, h3⟩
/-- what goes out of both is one list -/
theorem settled {late mark : Int} {S1 : Lists} {R1 O O' : List Pn} (h : Rep S R) (F : Fine S) (o : Outs late mark S O S1) (r : ROuts late mark R O' R1) (no : NoneOver late mark S1) (nr : ∀ q, q ∈ R1 → ¬ q.e + late ≤ mark) : O = O' ∧ Rep S1 R1 := by
  rcases Nat.lt_trichotomy O.length O'.length with q | q | q
  · obtain ⟨R2, p, h1, h2, h3⟩ := r.pre O.length q
    obtain ⟨-, h4⟩ := outs_len (S1 := S1) (R1 := R2) (O := O) (O' := O'.take O.length) h F O.length rfl (by rw [List.length_take]; omega) o h1
    exact absurd h3 (no _ p (h4.mem.1 h2))
  · exact outs_len (S1 := S1) (R1 := R1) (O := O) (O' := O') h F O.length rfl q.symm o r
  · obtain ⟨S2, p, h1, h2, h3⟩ := Outs.pre o O'.length q
    obtain ⟨-, h4⟩ := outs_len (S1 := S2) (R1 := R1) (O := O.take O'.length) (O' := O') h F O'.length (by rw [List.length_take]; omega) rfl h1 r
    exact absurd h3 (nr p (h4.mem.2 h2))
end
/-- in whatever order they are joined -/
theorem join2_pos {x p : Pn} (hx : 1 ≤ x.c) (hp : 1 ≤ p.c) (h : x.c + p.c ≤ 1000) : join2 x p = ⟨x.key, min x.s p.s, max x.e p.e, x.c + p.c, wrap64 (x.m + p.m), min x.l p.l, max x.u p.u⟩ := by
  unfold join2
  rw [mrg_both (x := ag x) (y := ag p) hx hp]
  simp only [mk]
  rw [Pane.wrap_small (by omega) (by omega)]
theorem sumC_perm {T T' : List Pn} (h : T.Perm T') : sumC T = sumC T' := by
  induction h with
  | nil => rfl
  | cons a _ ih => rw [sumC_cons, sumC_cons, ih]
  | swap a b l => rw [sumC_cons, sumC_cons, sumC_cons, sumC_cons]; omega
  | trans _ _ i1 i2 => exact i1.trans i2
theorem fold_perm {T T' : List Pn} (h : T.Perm T') : ∀ x : Pn, 1 ≤ x.c → (∀ p ∈ T, 1 ≤ p.c) → x.c + sumC T ≤ 1000 → T.foldl join2 x = T'.foldl join2 x := by
  induction h with
  | nil => intros; rfl
  | @cons a l1 l2 hp ih =>
    intro x h1 h2 h3
    have ha := h2 a (by simp)
    have hT : ∀ q ∈ l1, 1 ≤ q.c := fun q hq => h2 q (by simp [hq])
    have h0 := (sum_pos hT).1
    rw [sumC_cons] at h3
    rw [List.foldl_cons, List.foldl_cons]
    refine ih _ ?_ hT ?_
    · rw [join2_pos h1 ha (by omega)]; simp only; omega
    · rw [join2_pos h1 ha (by omega)]; simp only; omega
  | swap a b l =>
    intro x h1 h2 h3
    have ha := h2 a (by simp)
    have hb := h2 b (by simp)
    have hT : ∀ q ∈ l, 1 ≤ q.c := fun q hq => h2 q (by simp [hq])
    have h0 := (sum_pos hT).1
    rw [sumC_cons, sumC_cons] at h3
    rw [List.foldl_cons, List.foldl_cons, List.foldl_cons, List.foldl_cons]
    congr 1
    rw [join2_pos h1 hb (by omega), join2_pos h1 ha (by omega), join2_pos (by simp only; omega) ha (by simp only; omega), join2_pos (by simp only; omega) hb (by simp only; omega)]
    simp only [Pn.mk.injEq, true_and]
    refine ⟨by omega, by omega, by omega, ?_, by omega, by omega⟩
    unfold wrap64
    omega
  | @trans l1 l2 l3 p1 p2 i1 i2 =>
    intro x h1 h2 h3
    have hc := sumC_perm p1
    exact (i1 x h1 h2 h3).trans (i2 x h1 (fun p hp => h2 p (p1.mem_iff.2 hp)) (by omega))
/-- a value is put into both -/
theorem Rep.put {kind s e v : Int} {key : ByteArray} {S : Lists} {R : List Pn} {L' : List Pn} {N : Nat} (h : Rep S R) (O : Ok kind S N) (hN : N ≤ 900) (hse : s < e) (hp : Put1 kind key s e v (S key) L') : Rep (S.set key L') (putR kind key s e v R) := by
  obtain ⟨n, c, hn⟩ := O.cnt key
  have hkS := O.key key
  have hkm : (made kind key s e v R).key = key := by
    have hc : ∀ q ∈ R.filter (hit kind key s e), 1 ≤ q.c := fun q hq => by
      have := h.mem.1 (List.mem_filter.1 hq).1
      obtain ⟨n', c', -⟩ := O.cnt q.key
      exact c'.pos q this
    have e1 : R.filter (hit kind key s e) = (ofKey key R).filter (same kind s e) := by
      rw [ofKey, List.filter_filter]
      congr 1
      funext p
      simp [hit, Bool.and_comm]
    have hs : sumC (R.filter (hit kind key s e)) ≤ n := by
      rw [e1, sumC_perm ((h key).filter _)]
      have h1 : sumC ((S key).filter fun p => !same kind s e p) + sumC ((S key).filter (same kind s e)) = sumC (S key) := (part_sum (same kind s e) (S key)).1
      have h2 := (sum_pos (L := (S key).filter fun p => !same kind s e p) fun q hq => c.pos q (List.mem_filter.1 hq).1).1
      have := c.cnt
      omega
    exact (fold_join (R.filter (hit kind key s e)) (Pane.one key s e v) (by simp only; omega) hc (by simp only; omega)).2.2.1
  intro x
  by_cases ex : x = key
  · subst ex
    rw [set_same]
    have eR : ofKey x (putR kind x s e v R) = (ofKey x R).filter (fun p => !same kind s e p) ++ [made kind x s e v R] := by
      simp only [ofKey, putR, List.filter_append, List.filter_cons, List.filter_nil, hkm, decide_true, if_true, rest, List.filter_filter]
      congr 1
      refine List.filter_congr fun p hp => ?_
      by_cases q : p.key = x <;> simp [hit, q]
    have eM : made kind x s e v R = ((S x).filter (same kind s e)).foldl join2 (Pane.one x s e v) := by
      have e1 : R.filter (hit kind x s e) = (ofKey x R).filter (same kind s e) := by
        rw [ofKey, List.filter_filter]
        congr 1
        funext p
        simp [hit, Bool.and_comm]
      rw [made, e1]
      have h1 : sumC ((S x).filter fun p => !same kind s e p) + sumC ((S x).filter (same kind s e)) = sumC (S x) := (part_sum (same kind s e) (S x)).1
      have h2 := (sum_pos (L := (S x).filter fun p => !same kind s e p) fun q hq => c.pos q (List.mem_filter.1 hq).1).1
      have hc := c.cnt
      have hs := sumC_perm ((h x).filter (same kind s e))
      exact fold_perm ((h x).filter _) _ (by simp only; omega) (fun p hp => c.pos p ((h x).mem_iff.1 (List.mem_filter.1 hp).1)) (by simp only; omega)
    rw [eR, eM]
    refine ((h x).filter _ |>.append_right _).trans ?_
    rcases hp with ⟨h2, k, a, rfl⟩ | ⟨h2, k, a, ⟨p, hpk, he, rfl⟩ | ⟨hno, rfl⟩⟩
    · have q1 : (S x).filter (fun p => !same kind s e p) = restOf s e (S x) := by
        show (S x).filter _ = (S x).filter _
        congr 1
        funext p
        rw [same, if_pos h2]
      have q2 : (S x).filter (same kind s e) = metOf s e (S x) := by
        show (S x).filter _ = (S x).filter _
        congr 1
        funext p
        rw [same, if_pos h2]
      rw [q1, q2]
      refine (List.perm_append_singleton _ _).trans ?_
      refine List.Perm.trans ?_ List.perm_middle.symm
      rw [List.take_append_drop]
    · have q1 : (S x).filter (fun p => !same kind s e p) = (S x).take k ++ (S x).drop (k + 1) := filter_cut c.rises a hpk he _ fun y _ => by rw [same, if_neg h2, Bool.not_eq_true', decide_eq_false_iff_not]
      have q2 : (S x).filter (same kind s e) = [p] := by
        have hpm := List.mem_of_getElem? hpk
        have h3 : ∀ y ∈ (S x).take k ++ (S x).drop (k + 1), same kind s e y = false := fun y hy => by
          rw [← q1] at hy
          simpa using (List.mem_filter.1 hy).2
        have h4 : same kind s e p = true := by rw [same, if_neg h2]; simpa using he
        conv => lhs; rw [Grp.split_at hpk]
        rw [List.filter_append, List.filter_cons, h4, if_pos rfl]
        have z1 : ((S x).take k).filter (same kind s e) = [] := List.filter_eq_nil_iff.2 fun y hy => by rw [h3 y (List.mem_append_left _ hy)]; simp
        have z2 : ((S x).drop (k + 1)).filter (same kind s e) = [] := List.filter_eq_nil_iff.2 fun y hy => by rw [h3 y (List.mem_append_right _ hy)]; simp
        rw [z1, z2]
        rfl
      rw [q1, q2, Pane.set_split hpk]
      have hm : [p].foldl join2 (Pane.one x s e v) = mk p.key p.s p.e (Agg.mrg (ag p) (Agg.one4 v)) := by
        have hc : Agg.mrg (Agg.one4 v) (ag p) = Agg.mrg (ag p) (Agg.one4 v) := Agg.mrg_comm fun q _ => absurd q (by simp [Agg.one4])
        show mk x (min s p.s) (max e p.e) (Agg.mrg (Agg.one4 v) (ag p)) = _
        rw [hc, hkS p (List.mem_of_getElem? hpk), he.1, he.2, Int.min_self, Int.max_self]
      rw [hm]
      refine (List.perm_append_singleton _ _).trans ?_
      exact List.perm_middle.symm
    · have hnn : ∀ y ∈ S x, same kind s e y = false := fun y hy => by
        rw [same, if_neg h2]
        exact decide_eq_false fun q => hno y (a.found c.rises hy q) q
      have q1 : (S x).filter (fun p => !same kind s e p) = S x := List.filter_eq_self.2 fun y hy => by rw [hnn y hy]; rfl
      have q2 : (S x).filter (same kind s e) = [] := List.filter_eq_nil_iff.2 fun y hy => by rw [hnn y hy]; simp
      rw [q1, q2, List.foldl_nil]
      refine (List.perm_append_singleton _ _).trans ?_
      refine List.Perm.trans ?_ List.perm_middle.symm
      rw [List.take_append_drop]
  · rw [set_other _ _ ex]
    have eR : ofKey x (putR kind key s e v R) = ofKey x R := by
      simp only [ofKey, putR, List.filter_append, List.filter_cons, List.filter_nil, hkm, rest, List.filter_filter]
      rw [if_neg (by simpa using fun q => ex q.symm), List.append_nil]
      refine List.filter_congr fun p hp => ?_
      by_cases q : p.key = x
      · have : p.key ≠ key := fun r => ex (q.symm.trans r)
        simp [hit, q, ex]
      · simp [q]
    rw [eR]
    exact h x
/-- both go on alike, window by window -/
theorem Rep.taken {kind v late mark a d l : Int} {key : ByteArray} {S : Lists} {R : List Pn} {N : Nat} (h : Rep S R) (O : Ok kind S N) (hl : 1 ≤ l) : ∀ i {c : Nat} {S' : Lists}, N + i ≤ 900 → Tk kind key v late mark a d l S i c S' → Rep S' (tk kind key v late mark a d l R i) := by
  intro i
  induction i with
  | zero => intro c S' hN t; cases t; exact h
  | succ i ih =>
    intro c S' hN t
    cases t with
    | over t ho => simp only [tk]; rw [if_pos ho]; exact ih (by omega) t
    | @put _ c1 S1 L1 t ho hp =>
      simp only [tk]
      rw [if_neg ho]
      exact (ih (by omega) t).put (t.ok O hl (by omega)) (by have := t.le; omega) (by omega) hp
/-- all keys -/
theorem Rep.keys {S : Lists} {R : List Pn} {ks ks' : List ByteArray} (h : Rep S R) (F : Fine S) (k : KeysOf S ks) (k' : KSt R R.length ks') : ks = ks' := by
  refine up_one k.up k'.up fun x => ?_
  rw [k.mem, k'.mem, List.take_length]
  constructor
  · intro hx
    obtain ⟨p, hp⟩ := List.exists_mem_of_ne_nil _ hx
    have hk := F.key x p hp
    exact ⟨p, h.mem.2 (by rw [hk]; exact hp), hk⟩
  · rintro ⟨p, hp, rfl⟩ e
    have := h.mem.1 hp
    rw [e] at this
    cases this
/-- a key's panes -/
theorem Rep.panes {S : Lists} {R P : List Pn} {key : ByteArray} (h : Rep S R) (F : Fine S) (hP : P.Perm (ofKey key R)) (up : Rises P) : P = S key := by
  refine List.Perm.eq_of_pairwise (le := fun p q : Pn => p = q ∨ Ah p q.s q.e) (fun p q _ _ h1 h2 => ?_) (up.imp fun h => .inr h) ((F.rises key).imp fun h => .inr h) (hP.trans (h key))
  rcases h1 with r | r
  · exact r
  · rcases h2 with q | q
    · exact q.symm
    · simp only [Ah] at r q
      omega
end Rg
end Go.Proofs.YtbdocnkpjlpfmaaGreat
