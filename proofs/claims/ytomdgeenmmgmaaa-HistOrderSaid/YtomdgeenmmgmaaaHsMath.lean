/-
  Histories, as plain mathematics: events, which may be, which is ahead of which, the order of points, and whether a history is fine, as the program asks it and as the document does.
-/
import Derived.Test.YtomdgeenmmgmaaaSrtMath
import Derived.Test.YtomdgeenmmgmaaaSmall
namespace Go.Proofs.Ytomdgeenmmgmaaa
open Go.Sort
set_option linter.unusedVariables false
/-- an event: Client, N, Begin, Point, End, and the cells of its call and its reply -/
structure Ev where
  c : Int
  n : Int
  b : Int
  p : Int
  q : Int
  v2 : Value
  v3 : Value
  v4 : Value
  v5 : Value
  v6 : Value
  v7 : Value
  v8 : Value
  v9 : Value
  v10 : Value
  one : ∀ v ∈ [v2, v3, v4, v5, v6, v7, v8, v9, v10], v.oneCell' = true
instance : Inhabited Ev := ⟨⟨0, 0, 0, 0, 0, .int .i64 0, .string ⟨#[]⟩, .int .i64 0, .int .i64 0, .int .i64 0, .int .i64 0, .int .i64 0, .int .i64 0, .slice none 0 0, by simp [Value.oneCell']⟩⟩
namespace Hs
open Srt
/-- one is ahead of another one -/
def ah (a b : Ev) : Bool := decide (0 < a.q) && decide (a.q < b.b)
def mp (a : Ev) : Bool := decide (a.p = 0) || decide (a.b ≤ a.p)
def me (a : Ev) : Bool := decide (a.q = 0) || (decide (a.p ≠ 0) && decide (a.p ≤ a.q))
/-- it may not be, whatever the others are -/
def bad (a : Ev) : Bool := decide (a.c < 0) || decide (a.n < 0) || decide (a.b < 1) || !mp a || !me a
/-- b may be the next one of a's client -/
def nx (a b : Ev) : Bool := decide (b.n = IntKind.i64.wrap (a.n + 1)) && ah a b
/-- the numbers are such as there are -/
def Fit (a : Ev) : Prop := (Lit.int .i64 a.n).wf = true ∧ (Lit.int .i64 a.c).wf = true ∧ (Lit.int .i64 a.b).wf = true ∧ (Lit.int .i64 a.p).wf = true ∧ (Lit.int .i64 a.q).wf = true
/-- the i-th one -/
def E (L : List Ev) (i : Nat) : Ev := L[i]!
/-- the i-th place -/
def O (o : List Nat) (i : Nat) : Nat := o[i]!
theorem E_at {L : List Ev} {i : Nat} (h : i < L.length) : E L i = L[i] := by unfold E; rw [List.getElem!_eq_getElem?_getD, List.getElem?_eq_getElem h]; rfl
theorem O_at {o : List Nat} {i : Nat} (h : i < o.length) : O o i = o[i] := by unfold O; rw [List.getElem!_eq_getElem?_getD, List.getElem?_eq_getElem h]; rfl
def lt (L : List Ev) (i j : Nat) : Bool := decide ((E L i).p < (E L j).p)
/-- those of the first k that have a point -/
def pts (L : List Ev) (k : Nat) : List Nat := (List.range k).filter (fun i => decide ((E L i).p ≠ 0))
/-- those of the first k that have a point, by rising points -/
def ord (L : List Ev) (k : Nat) : List Nat := srt (lt L) (pts L k)
theorem swo (L : List Ev) : SWO (lt L) where
  irrefl := fun x => by simp [lt]
  trans := fun x y z h k => by simp only [lt, decide_eq_true_eq] at *; omega
  ntrans := fun x y z h k => by simp only [lt, decide_eq_false_iff_not] at *; omega

theorem pts_succ (L : List Ev) (k : Nat) : pts L (k + 1) = pts L k ++ (if (E L k).p ≠ 0 then [k] else []) := by
  simp only [pts, List.range_succ, List.filter_append]
  congr 1
  by_cases h : (E L k).p ≠ 0 <;> simp [h]
theorem mem_pts {L : List Ev} {k i : Nat} : i ∈ pts L k ↔ i < k ∧ (E L i).p ≠ 0 := by simp [pts]
theorem pts_nodup (L : List Ev) (k : Nat) : (pts L k).Nodup := List.Pairwise.filter _ List.nodup_range
theorem ord_zero (L : List Ev) : ord L 0 = [] := rfl
theorem ord_no {L : List Ev} {k : Nat} (h : (E L k).p = 0) : ord L (k + 1) = ord L k := by
  rw [ord, pts_succ, if_neg (by simp [h]), List.append_nil]; rfl
theorem ord_yes {L : List Ev} {k : Nat} (h : (E L k).p ≠ 0) : ord L (k + 1) = mrg (lt L) (ord L k) [k] := by
  rw [ord, pts_succ, if_pos h, srt_append (swo L), srt_one]; rfl
theorem mem_ord {L : List Ev} {k i : Nat} : i ∈ ord L k ↔ i < k ∧ (E L i).p ≠ 0 := by rw [ord, mem_srt, mem_pts]
theorem ord_nodup (L : List Ev) (k : Nat) : (ord L k).Nodup := (srt_perm _).nodup_iff.2 (pts_nodup L k)
theorem ord_len (L : List Ev) (k : Nat) : (ord L k).length = (pts L k).length := srt_len _
theorem ord_asc (L : List Ev) (k : Nat) : Asc (lt L) (ord L k) := srt_asc (swo L) _
theorem pts_le (L : List Ev) (k : Nat) : (pts L k).length ≤ k := by
  have := List.length_filter_le (fun i => decide ((E L i).p ≠ 0)) (List.range k)
  simpa [pts] using this
theorem ord_le (L : List Ev) (k : Nat) : (ord L k).length ≤ k := by rw [ord_len]; exact pts_le L k

/-! ### fine, as the program asks it -/
def Alone (L : List Ev) : Prop := ∀ e ∈ L, bad e = false
/-- no two neighbours of a list of places have one point -/
def Nb (L : List Ev) (o : List Nat) : Prop := ∀ i, i + 1 < o.length → (E L (O o (i))).p ≠ (E L (O o (i + 1))).p
/-- each of the first k stands behind the one ahead of it of its client -/
def Turn (L : List Ev) (k : Nat) : Prop := ∀ i, i < k → ((∀ j, j < i → (E L j).c ≠ (E L i).c) → (E L i).n = 0) ∧
  (∀ j, j < i → (E L j).c = (E L i).c → (∀ t, j < t → t < i → (E L t).c ≠ (E L i).c) → nx (E L j) (E L i) = true)
def Fine (L : List Ev) : Prop := Alone L ∧ Nb L (ord L L.length) ∧ Turn L L.length
/-! ### and as the document does -/
def bad2 (a : Ev) : Bool := decide (a.c < 0) || decide (a.n < 0) || decide (a.b < 1) || decide (a.p < 0) || decide (a.q < 0)
def bad3 (a : Ev) : Bool := (decide (0 < a.p) && decide (a.p < a.b)) || (decide (0 < a.q) && (decide (a.p = 0) || decide (a.q < a.p)))
def cnt (L : List Ev) (i k : Nat) : Nat := ((List.range k).filter (fun j => decide ((E L j).c = (E L i).c))).length
/-- what is asked of the k-th beside the i-th -/
def Pr (L : List Ev) (i k : Nat) : Prop := ¬ (0 < (E L i).p ∧ (E L k).p = (E L i).p) ∧ ((E L k).c = (E L i).c → (E L k).q ≠ 0 ∧ (E L k).q < (E L i).b)
def At (L : List Ev) (i : Nat) : Prop := bad2 (E L i) = false ∧ bad3 (E L i) = false ∧ (∀ k, k < i → Pr L i k) ∧ (E L i).n = cnt L i i
def Doc (L : List Ev) (k : Nat) : Prop := ∀ i, i < k → At L i

theorem cnt_succ (L : List Ev) (i k : Nat) : cnt L i (k + 1) = cnt L i k + (if (E L k).c = (E L i).c then 1 else 0) := by
  simp only [cnt, List.range_succ, List.filter_append, List.length_append]
  by_cases h : (E L k).c = (E L i).c <;> simp [h]
theorem cnt_le (L : List Ev) (i k : Nat) : cnt L i k ≤ k := by
  have := List.length_filter_le (fun j => decide ((E L j).c = (E L i).c)) (List.range k)
  simpa [cnt] using this
theorem cnt_none {L : List Ev} {i : Nat} : ∀ {k : Nat}, (∀ j, j < k → (E L j).c ≠ (E L i).c) → cnt L i k = 0
  | 0, _ => rfl
  | k + 1, h => by rw [cnt_succ, cnt_none (fun j hj => h j (by omega)), if_neg (h k (by omega))]
theorem cnt_last {L : List Ev} {i j : Nat} (hc : (E L j).c = (E L i).c) : ∀ {k : Nat}, j < k → (∀ t, j < t → t < k → (E L t).c ≠ (E L i).c) → cnt L i k = cnt L j j + 1
  | k + 1, hj, h => by
    rw [cnt_succ]
    by_cases e : j = k
    · subst e
      rw [if_pos hc]
      simp only [cnt, hc]
    · rw [cnt_last hc (by omega) (fun t h1 h2 => h t h1 (by omega)), if_neg (h k (by omega) (by omega))]
/-- the last one of the first k that has a property -/
theorem last_of {P : Nat → Prop} : ∀ {k : Nat}, (∃ j, j < k ∧ P j) → ∃ j, j < k ∧ P j ∧ ∀ t, j < t → t < k → ¬ P t
  | 0, h => by obtain ⟨j, hj, _⟩ := h; omega
  | k + 1, h => by
    by_cases e : P k
    · exact ⟨k, by omega, e, fun t h1 h2 => by omega⟩
    · have : ∃ j, j < k ∧ P j := by
        obtain ⟨j, h1, h2⟩ := h
        have : j ≠ k := fun q => e (q ▸ h2)
        exact ⟨j, by omega, h2⟩
      obtain ⟨j, h1, h2, h3⟩ := last_of this
      refine ⟨j, by omega, h2, fun t h4 h5 => ?_⟩
      by_cases q : t = k
      · rw [q]; exact e
      · exact h3 t h4 (by omega)

theorem bad_no {a : Ev} : bad a = false ↔ 0 ≤ a.c ∧ 0 ≤ a.n ∧ 1 ≤ a.b ∧ (a.p = 0 ∨ a.b ≤ a.p) ∧ (a.q = 0 ∨ a.p ≠ 0 ∧ a.p ≤ a.q) := by
  simp only [bad, mp, me, Bool.or_eq_false_iff, Bool.not_eq_false', decide_eq_false_iff_not, Bool.or_eq_true, decide_eq_true_eq, Bool.and_eq_true]
  constructor <;> (intro h; omega)
theorem bad_doc {a : Ev} : bad a = false ↔ bad2 a = false ∧ bad3 a = false := by
  rw [bad_no]
  simp only [bad2, bad3, Bool.or_eq_false_iff, Bool.and_eq_false_iff, decide_eq_false_iff_not]
  constructor
  · intro h; omega
  · intro h; omega
theorem ah_yes {a b : Ev} : ah a b = true ↔ 0 < a.q ∧ a.q < b.b := by simp [ah]
theorem get_mem {L : List Ev} {i : Nat} (h : i < L.length) : E L i ∈ L := by
  rw [E_at h]; exact List.getElem_mem h
theorem wf64 {a : Int} (h : (Lit.int .i64 a).wf = true) : -9223372036854775808 ≤ a ∧ a ≤ 9223372036854775807 := Small.fit h
theorem nx_yes {a b : Ev} (h : Fit a) (h' : Fit b) (hb : 0 ≤ b.n) (ha : 0 ≤ a.n) : nx a b = true ↔ b.n = a.n + 1 ∧ ah a b = true := by
  have := wf64 h.1
  have := wf64 h'.1
  simp only [nx, Bool.and_eq_true, decide_eq_true_eq]
  rw [IntKind.wrap_i64]
  constructor
  · rintro ⟨h1, h2⟩; exact ⟨by omega, h2⟩
  · rintro ⟨h1, h2⟩; exact ⟨by omega, h2⟩

theorem get_ord {L : List Ev} {k i : Nat} (h : i < (ord L k).length) : O (ord L k) (i) ∈ ord L k := by
  rw [O_at h]; exact List.getElem_mem h
theorem ord_rises {L : List Ev} {k : Nat} {i j : Nat} (hij : i < j) (hj : j < (ord L k).length) : (E L (O (ord L k) (i))).p ≤ (E L (O (ord L k) (j))).p := by
  have := List.pairwise_iff_getElem.1 (ord_asc L k) i j (by omega) hj hij
  simp only [lt, decide_eq_false_iff_not] at this
  rw [O_at (by omega : i < (ord L k).length), O_at hj]
  omega
theorem ord_apart {L : List Ev} {k : Nat} {i j : Nat} (hij : i < j) (hj : j < (ord L k).length) : O (ord L k) (i) ≠ O (ord L k) (j) := by
  have := List.pairwise_iff_getElem.1 (ord_nodup L k) i j (by omega) hj hij
  rw [O_at (by omega : i < (ord L k).length), O_at hj]
  exact this
theorem nb_strict {L : List Ev} {k : Nat} (h : Nb L (ord L k)) : ∀ {d i : Nat}, i + d + 1 < (ord L k).length → (E L (O (ord L k) (i))).p < (E L (O (ord L k) (i + d + 1))).p
  | 0, i, hl => by
    have h1 := h i hl
    have h2 := ord_rises (L := L) (k := k) (i := i) (j := i + 1) (by omega) hl
    simp only [Nat.add_zero]
    omega
  | d + 1, i, hl => by
    have h1 := nb_strict h (d := d) (i := i) (by omega)
    have h2 := ord_rises (L := L) (k := k) (i := i + d + 1) (j := i + (d + 1) + 1) (by omega) hl
    omega
/-- where no neighbours have one point, no two have -/
theorem nb_apart {L : List Ev} {k : Nat} (h : Nb L (ord L k)) {a b : Nat} (ha : a ∈ ord L k) (hb : b ∈ ord L k) (hab : a ≠ b) : (E L a).p ≠ (E L b).p := by
  obtain ⟨i, hi, rfl⟩ := List.getElem_of_mem ha
  obtain ⟨j, hj, rfl⟩ := List.getElem_of_mem hb
  have e : ∀ t (ht : t < (ord L k).length), O (ord L k) (t) = (ord L k)[t] := fun t ht => O_at ht
  rcases Nat.lt_trichotomy i j with q | rfl | q
  · have := nb_strict h (d := j - i - 1) (i := i) (by omega)
    rw [show i + (j - i - 1) + 1 = j by omega, e i hi, e j hj] at this
    omega
  · exact absurd rfl hab
  · have := nb_strict h (d := i - j - 1) (i := j) (by omega)
    rw [show j + (i - j - 1) + 1 = i by omega, e i hi, e j hj] at this
    omega

/-- the program's way of asking is the document's -/
theorem fine_doc {L : List Ev} (hf : ∀ e ∈ L, Fit e) : Fine L ↔ Doc L L.length := by
  constructor
  · rintro ⟨hA, hN, hT⟩
    have al : ∀ i, i < L.length → 0 ≤ (E L i).c ∧ 0 ≤ (E L i).n ∧ 1 ≤ (E L i).b ∧ ((E L i).p = 0 ∨ (E L i).b ≤ (E L i).p) ∧ ((E L i).q = 0 ∨ (E L i).p ≠ 0 ∧ (E L i).p ≤ (E L i).q) := fun i hi => bad_no.1 (hA _ (get_mem hi))
    have main : ∀ i, i < L.length → (∀ k, k < i → (E L k).c = (E L i).c → 0 < (E L k).q ∧ (E L k).q < (E L i).b) ∧ (E L i).n = cnt L i i := by
      intro i
      induction i using Nat.strongRecOn with
      | ind i ih =>
        intro hi
        by_cases ex : ∃ j, j < i ∧ (E L j).c = (E L i).c
        · obtain ⟨j, h1, h2, h3⟩ := last_of ex
          have q := (nx_yes (hf _ (get_mem (by omega : j < L.length))) (hf _ (get_mem hi)) (al i hi).2.1 (al j (by omega)).2.1).1 ((hT i hi).2 j h1 h2 h3)
          obtain ⟨q1, q2⟩ := q
          obtain ⟨q3, q4⟩ := ah_yes.1 q2
          obtain ⟨i1, i2⟩ := ih j h1 (by omega)
          refine ⟨fun k hk hc => ?_, by rw [q1, i2, cnt_last h2 h1 h3]; omega⟩
          rcases Nat.lt_trichotomy k j with r | rfl | r
          · have := i1 k r (by rw [hc, h2])
            have := al j (by omega)
            omega
          · exact ⟨q3, q4⟩
          · exact absurd hc (h3 k r hk)
        · have no : ∀ j, j < i → (E L j).c ≠ (E L i).c := fun j hj hc => ex ⟨j, hj, hc⟩
          exact ⟨fun k hk hc => absurd hc (no k hk), by rw [(hT i hi).1 no, cnt_none no]; rfl⟩
    intro i hi
    have b := bad_doc.1 (hA _ (get_mem hi))
    refine ⟨b.1, b.2, fun k hk => ⟨?_, fun hc => ?_⟩, (main i hi).2⟩
    · rintro ⟨h1, h2⟩
      exact nb_apart hN (mem_ord.2 ⟨by omega, by omega⟩) (mem_ord.2 ⟨hi, by omega⟩) (by omega : k ≠ i) h2
    · have := (main i hi).1 k hk hc
      omega
  · intro h
    have al : ∀ i, i < L.length → bad (E L i) = false := fun i hi => bad_doc.2 ⟨(h i hi).1, (h i hi).2.1⟩
    have hA : Alone L := fun e he => by
      obtain ⟨i, hi, rfl⟩ := List.getElem_of_mem he
      have := al i hi
      rwa [E_at hi] at this
    refine ⟨hA, fun i hi => ?_, fun i hi => ⟨fun no => ?_, fun j hj hc no => ?_⟩⟩
    · have m1 := mem_ord.1 (get_ord (L := L) (k := L.length) (i := i) (by omega))
      have m2 := mem_ord.1 (get_ord (L := L) (k := L.length) (i := i + 1) hi)
      have ne := ord_apart (L := L) (k := L.length) (i := i) (j := i + 1) (by omega) hi
      generalize O (ord L L.length) (i) = a at *
      generalize O (ord L L.length) (i + 1) = b at *
      intro e
      have a1 := bad_no.1 (al a m1.1)
      have a2 := bad_no.1 (al b m2.1)
      rcases Nat.lt_or_gt_of_ne ne with q | q
      · exact ((h b m2.1).2.2.1 a q).1 ⟨by omega, e⟩
      · exact ((h a m1.1).2.2.1 b q).1 ⟨by omega, e.symm⟩
    · rw [(h i hi).2.2.2, cnt_none no]; rfl
    · have a1 := bad_no.1 (al j (by omega))
      have a2 := bad_no.1 (al i hi)
      refine (nx_yes (hf _ (get_mem (by omega : j < L.length))) (hf _ (get_mem hi)) a2.2.1 a1.2.1).2 ⟨?_, ah_yes.2 ?_⟩
      · rw [(h i hi).2.2.2, (h j (by omega)).2.2.2, cnt_last hc hj no]; omega
      · have := ((h i hi).2.2.1 j hj).2 hc
        omega

/-- of a fine history one that is ahead of another one doesn't stand behind it -/
theorem fine_ahead {L : List Ev} (h : Alone L) {i j : Nat} (hij : i < j) (hj : j < (ord L L.length).length) : ah (E L (O (ord L L.length) j)) (E L (O (ord L L.length) i)) = false := by
  have m1 := mem_ord.1 (get_ord (L := L) (k := L.length) (i := i) (by omega))
  have m2 := mem_ord.1 (get_ord (L := L) (k := L.length) (i := j) hj)
  have r := ord_rises (L := L) (k := L.length) hij hj
  have a1 := bad_no.1 (h _ (get_mem m1.1))
  have a2 := bad_no.1 (h _ (get_mem m2.1))
  cases e : ah (E L (O (ord L L.length) j)) (E L (O (ord L L.length) i)) with
  | false => rfl
  | true =>
    have := ah_yes.1 e
    omega
theorem get_take {L : List Ev} {n i : Nat} (h : i < n) : E (L.take n) i = E L i := by
  unfold E
  simp only [List.getElem!_eq_getElem?_getD, List.getElem?_take]
  rw [if_pos h]
theorem doc_take {L : List Ev} {n : Nat} (hn : n ≤ L.length) (h : Doc L L.length) : Doc (L.take n) (L.take n).length := by
  intro i hi
  have hi' : i < n := by rw [List.length_take] at hi; omega
  have := h i (by omega)
  unfold At Pr cnt at *
  rw [get_take hi']
  refine ⟨this.1, this.2.1, fun k hk => ?_, ?_⟩
  · rw [get_take (by omega : k < n)]; exact this.2.2.1 k hk
  · rw [this.2.2.2]
    congr 2
    refine List.filter_congr fun j hj => ?_
    rw [get_take (by have := List.mem_range.1 hj; omega : j < n)]
/-- without its last one it is fine, too -/
theorem fine_take {L : List Ev} (hf : ∀ e ∈ L, Fit e) {n : Nat} (hn : n ≤ L.length) (h : Fine L) : Fine (L.take n) :=
  (fine_doc (fun e he => hf e (List.mem_of_mem_take he))).2 (doc_take hn ((fine_doc hf).1 h))

/-- of each client, the last one of the first k -/
def las (L : List Ev) : Nat → Int → Option Nat
  | 0 => fun _ => none
  | k + 1 => fun x => if x = (E L k).c then some k else las L k x
theorem las_none {L : List Ev} {x : Int} : ∀ {k : Nat}, las L k x = none → ∀ j, j < k → (E L j).c ≠ x
  | 0, _, j, hj => by omega
  | k + 1, h, j, hj => by
    simp only [las] at h
    split at h
    · cases h
    · next e =>
      by_cases q : j = k
      · subst q; exact fun r => e r.symm
      · exact las_none h j (by omega)
theorem las_some {L : List Ev} {x : Int} {j : Nat} : ∀ {k : Nat}, las L k x = some j → j < k ∧ (E L j).c = x ∧ ∀ t, j < t → t < k → (E L t).c ≠ x
  | 0, h => by cases h
  | k + 1, h => by
    simp only [las] at h
    split at h
    · next e =>
      cases h
      exact ⟨by omega, e.symm, fun t h1 h2 => by omega⟩
    · next e =>
      obtain ⟨h1, h2, h3⟩ := las_some h
      refine ⟨by omega, h2, fun t h4 h5 => ?_⟩
      by_cases q : t = k
      · subst q; exact fun r => e r.symm
      · exact h3 t h4 (by omega)
/-- one more stands behind the one ahead of it, by what was kept -/
theorem turn_none {L : List Ev} {k : Nat} (h : Turn L k) (hl : las L k (E L k).c = none) : Turn L (k + 1) ↔ (E L k).n = 0 := by
  constructor
  · intro H
    exact (H k (by omega)).1 fun j hj => las_none hl j hj
  · intro hn i hi
    by_cases e : i = k
    · subst e
      exact ⟨fun _ => hn, fun j hj hc _ => absurd hc (las_none hl j hj)⟩
    · exact h i (by omega)
theorem turn_some {L : List Ev} {k j : Nat} (h : Turn L k) (hl : las L k (E L k).c = some j) : Turn L (k + 1) ↔ nx (E L j) (E L k) = true := by
  obtain ⟨h1, h2, h3⟩ := las_some hl
  constructor
  · intro H
    exact (H k (by omega)).2 j h1 h2 h3
  · intro hn i hi
    by_cases e : i = k
    · subst e
      refine ⟨fun no => absurd h2 (no j h1), fun j' hj' hc no => ?_⟩
      have : j' = j := by
        rcases Nat.lt_trichotomy j' j with q | q | q
        · exact absurd h2 (no j q h1)
        · exact q
        · exact absurd hc (h3 j' q hj')
      rw [this]; exact hn
    · exact h i (by omega)
theorem turn_less {L : List Ev} {k m : Nat} (h : Turn L m) (hk : k ≤ m) : Turn L k := fun i hi => h i (by omega)
/-- one that has a point is put in where those ahead of it have no greater one, and those behind it have -/
theorem put_in {L : List Ev} {k : Nat} (A B : List Nat) (he : ord L k = A ++ B) (h : (E L k).p ≠ 0) (h1 : ∀ a, A.getLast? = some a → (E L a).p ≤ (E L k).p) (h2 : ∀ b ∈ B, (E L k).p < (E L b).p) :
    ord L (k + 1) = A ++ k :: B := by
  rw [ord_yes h, he]
  refine mrg_in A B k (fun a ha => ?_) (fun b hb => by simp only [lt, decide_eq_true_eq]; exact h2 b hb)
  have hA : A ≠ [] := fun q => by rw [q] at ha; cases ha
  obtain ⟨A', z, rfl⟩ : ∃ A' z, A = A' ++ [z] := ⟨A.dropLast, A.getLast hA, (List.dropLast_concat_getLast hA).symm⟩
  have hz := h1 z (by simp)
  have asc := ord_asc L k
  rw [he, List.append_assoc] at asc
  simp only [lt, decide_eq_false_iff_not]
  rcases List.mem_append.1 ha with ha | ha
  · have := (List.pairwise_append.1 asc).2.2 a ha z (by simp)
    simp only [lt, decide_eq_false_iff_not] at this
    omega
  · simp at ha; subst ha; omega
end Hs
end Go.Proofs.Ytomdgeenmmgmaaa
