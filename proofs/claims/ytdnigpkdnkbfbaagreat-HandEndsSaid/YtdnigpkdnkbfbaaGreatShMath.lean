/-
  A model's group of all keys, and groups by numbers: what goes out of a key is what goes out of its group; what a call comes to is told by its key alone.
-/
import Derived.Test.YtdnigpkdnkbfbaaGreatMdAll
import Derived.Test.YtdnigpkdnkbfbaaGreatShSettle
namespace Go.Proofs.YtdnigpkdnkbfbaaGreat
open Go.ChangeShapes Go.WideShapes Go.ChangeAt Go.RowKit
set_option linter.unusedVariables false
namespace Sh
open Small Foot Pane Grp Ca Md

/-- is a pane over -/
abbrev ov (z mark : Int) (p : Pn) : Bool := decide (p.e + z ≤ mark)
abbrev ofK (x : ByteArray) (L : List Pn) : List Pn := L.filter fun p => decide (p.key = x)
abbrev tle (p q : Pn) : Prop := Tmr.le (tmOf p) (tmOf q)
section
variable {z mark mark' : Int} {S S' : Lists} {O : List Pn}
/-- what goes out, and what stays, by keys -/
theorem outs_by (o : Outs z mark S O S') (F : Fine S) : (∀ x, (S' x).filter (fun p => !ov z mark p) = (S x).filter fun p => !ov z mark p) ∧ (∀ x, (ofK x O ++ (S' x).filter (ov z mark)).Perm ((S x).filter (ov z mark))) ∧ O.Pairwise tle ∧ (∀ p ∈ O, p ∈ S p.key ∧ ov z mark p = true) ∧ (∀ p ∈ O, ∀ x q, q ∈ S' x → tle p q) ∧ Fine S' := by
  induction o with
  | none => exact ⟨fun _ => rfl, fun _ => List.Perm.refl _, List.Pairwise.nil, fun p h => (by cases h), fun p h => (by cases h), F⟩
  | @more O1 S1 p k h hp ho hl ih =>
    obtain ⟨i1, i2, i3, i4, i5, i6⟩ := ih
    have hpm : p ∈ S1 p.key := List.mem_of_getElem? hp
    have hkl := (List.getElem?_eq_some_iff.1 hp).1
    have hov : ov z mark p = true := by simpa using ho
    have split : S1 p.key = (S1 p.key).take k ++ p :: (S1 p.key).drop (k + 1) := by
      obtain ⟨h1, h2⟩ := List.getElem?_eq_some_iff.1 hp
      conv => lhs; rw [← List.take_append_drop k (S1 p.key), List.drop_eq_getElem_cons h1, h2]
    refine ⟨fun x => ?_, fun x => ?_, List.pairwise_append.2 ⟨i3, List.pairwise_singleton _ _, fun a ha b hb => ?_⟩, fun q hq => ?_, fun q hq x y hy => ?_, i6.cut _ _⟩
    · by_cases e : x = p.key
      · subst e
        rw [set_same, ← i1, List.filter_append]
        conv => rhs; rw [split, List.filter_append, List.filter_cons]
        simp [hov]
      · rw [set_other _ _ e]; exact i1 x
    · have hk : ofK x (O1 ++ [p]) = ofK x O1 ++ (if p.key = x then [p] else []) := by
        rw [ofK, List.filter_append]
        congr 1
        by_cases e : p.key = x <;> simp [e]
      rw [hk]
      by_cases e : x = p.key
      · subst e
        rw [set_same, if_pos rfl]
        refine List.Perm.trans ?_ (i2 p.key)
        rw [List.append_assoc]
        refine List.Perm.append_left _ ?_
        conv => rhs; rw [split]
        rw [List.filter_append, List.filter_append, List.filter_cons, if_pos hov]
        rw [List.singleton_append]
        exact List.perm_middle.symm
      · rw [set_other _ _ e, if_neg (fun q => e q.symm), List.append_nil]; exact i2 x
    · simp only [List.mem_singleton] at hb
      subst hb
      exact i5 a ha _ _ hpm
    · rcases List.mem_append.1 hq with hq | hq
      · exact i4 q hq
      · simp only [List.mem_singleton] at hq
        subst hq
        exact ⟨(h.sub _ _ hpm), hov⟩
    · have hy' : y ∈ S1 x := by
        by_cases e : x = p.key
        · subst e; rw [set_same] at hy; exact cut_mem hy
        · rw [set_other _ _ e] at hy; exact hy
      rcases List.mem_append.1 hq with hq | hq
      · exact i5 q hq x y hy'
      · simp only [List.mem_singleton] at hq
        subst hq
        exact hl x y hy'
/-- .. and where none is over any more -/
theorem outs_all (o : Outs z mark S O S') (no : NoneOver z mark S') (F : Fine S) : (∀ x, S' x = (S x).filter fun p => !ov z mark p) ∧ (∀ x, (ofK x O).Perm ((S x).filter (ov z mark))) ∧ O.Pairwise tle ∧ ∀ p ∈ O, p ∈ S p.key := by
  obtain ⟨i1, i2, i3, i4, -, -⟩ := outs_by o F
  have h0 : ∀ x, (S' x).filter (fun p => !ov z mark p) = S' x := fun x => List.filter_eq_self.2 fun p hp => by simpa using no x p hp
  have h1 : ∀ x, (S' x).filter (ov z mark) = [] := fun x => List.filter_eq_nil_iff.2 fun p hp => by simpa using no x p hp
  exact ⟨fun x => by rw [← i1, h0], fun x => by have := i2 x; rwa [h1, List.append_nil] at this, i3, fun p hp => (i4 p hp).1⟩
/-- panes of a key that are over, in their order -/
def Pend (z mark : Int) (L X : List Pn) : Prop := X.Perm (L.filter (ov z mark)) ∧ X.Pairwise tle
theorem Pend.uniq {L X Y : List Pn} (h : Pend z mark L X) (k : Pend z mark L Y) (up : Rises L) : X = Y := by
  refine List.Perm.eq_of_pairwise (le := tle) (fun a b ha hb h1 h2 => ?_) h.2 k.2 (h.1.trans k.1.symm)
  have e := Tmr.le_antisymm h1 h2
  have ma : a ∈ L := (List.mem_filter.1 (h.1.mem_iff.1 ha)).1
  have mb : b ∈ L := (List.mem_filter.1 (k.1.mem_iff.1 hb)).1
  have e1 := congrArg Tmr.Tm.s e
  have e2 := congrArg Tmr.Tm.e e
  simp only at e1 e2
  obtain ⟨i, hi⟩ := List.mem_iff_getElem?.1 ma
  obtain ⟨j, hj⟩ := List.mem_iff_getElem?.1 mb
  obtain ⟨i1, i2⟩ := List.getElem?_eq_some_iff.1 hi
  obtain ⟨j1, j2⟩ := List.getElem?_eq_some_iff.1 hj
  rcases Nat.lt_trichotomy i j with q | q | q
  · have := List.pairwise_iff_getElem.1 up i j i1 j1 q
    rw [i2, j2] at this
    simp only [Ah] at this
    omega
  · subst q
    rw [i2] at j2
    exact j2
  · have := List.pairwise_iff_getElem.1 up j i j1 i1 q
    rw [i2, j2] at this
    simp only [Ah] at this
    omega
theorem Pend.nil {L : List Pn} (h : ∀ p ∈ L, ¬ p.e + z ≤ mark) : Pend z mark L [] := ⟨by rw [List.filter_eq_nil_iff.2 fun p hp => by simpa using h p hp], List.Pairwise.nil⟩
/-- what goes out of a key are those of it that are over, in their order -/
theorem outs_pend (o : Outs z mark S O S') (no : NoneOver z mark S') (F : Fine S) (x : ByteArray) : Pend z mark (S x) (ofK x O) :=
  ⟨(outs_all o no F).2.1 x, (outs_all o no F).2.2.1.filter _⟩
end

/-! ### what a record comes to is told by its key's panes -/
section
variable {kind v late mark a d l s e : Int} {key : ByteArray}
theorem put1_det {L L1 L2 : List Pn} (h : Put1 kind key s e v L L1) (k : Put1 kind key s e v L L2) : L1 = L2 := by
  rcases h with ⟨hk, i, hi, rfl⟩ | ⟨hk, i, hi, h⟩
  · rcases k with ⟨-, j, hj, rfl⟩ | ⟨hk', -⟩
    · obtain rfl := hi.uniq hj; rfl
    · exact absurd hk hk'
  · rcases k with ⟨hk', -⟩ | ⟨-, j, hj, k⟩
    · exact absurd hk' hk
    · obtain rfl := hi.uniq hj
      rcases h with ⟨p, hp, he, rfl⟩ | ⟨hn, rfl⟩
      · rcases k with ⟨q, hq, -, rfl⟩ | ⟨hn, -⟩
        · rw [hp] at hq; obtain rfl := Option.some.inj hq; rfl
        · exact absurd he (hn p hp)
      · rcases k with ⟨q, hq, he, -⟩ | ⟨-, rfl⟩
        · exact absurd he (hn q hq)
        · rfl
theorem tk_det {S T S' T' : Lists} {i c c2 : Nat} (h : Tk kind key v late mark a d l S i c S') (k : Tk kind key v late mark a d l T i c2 T') (e : S key = T key) : c = c2 ∧ S' key = T' key ∧ (∀ y, y ≠ key → S' y = S y) := by
  induction h generalizing c2 T' with
  | zero => cases k; exact ⟨rfl, e, fun _ _ => rfl⟩
  | over h ho ih =>
    cases k with
    | over k _ => exact ih k
    | put k hn _ => exact absurd ho hn
  | put h ho hp ih =>
    cases k with
    | over k hn => exact absurd hn ho
    | put k _ hp2 =>
      obtain ⟨rfl, i2, i3⟩ := ih k
      rw [← i2] at hp2
      obtain rfl := put1_det hp hp2
      exact ⟨rfl, by rw [set_same, set_same], fun y hy => by rw [set_other _ _ hy]; exact i3 y hy⟩
theorem taken_det {z : Option (Nat × Int × Int × Int)} {S T S' T' : Lists} {c c2 : Nat} {code code2 : Int} (h : Taken kind key v late mark z S code c S') (k : Taken kind key v late mark z T code2 c2 T') (e : S key = T key) : code = code2 ∧ c = c2 ∧ S' key = T' key ∧ (∀ y, y ≠ key → S' y = S y) := by
  cases z with
  | none => obtain ⟨rfl, rfl, rfl⟩ := h; obtain ⟨rfl, rfl, rfl⟩ := k; exact ⟨rfl, rfl, e, fun _ _ => rfl⟩
  | some q =>
    obtain ⟨n, a, d, l⟩ := q
    obtain ⟨h1, h2⟩ := h
    obtain ⟨k1, k2⟩ := k
    obtain ⟨rfl, q2, q3⟩ := tk_det h1 k1 e
    exact ⟨by rw [h2, k2], rfl, q2, q3⟩
end

/-! ### both side by side -/
/-- the panes of a group's keys -/
def part (G : ByteArray → Int) (T : Lists) (k : Int) : Lists := fun x => if G x = k then T x else []
/-- T: the groups' panes, each of its key's group; M: the model's; out, L: what went out -/
structure Inv (G : ByteArray → Int) (z mark : Int) (T M : Lists) (out L : List Pn) : Prop where
  fine : Fine T
  stay : ∀ x, M x = (T x).filter fun p => !ov z mark p
  went : ∀ x, ∃ X, ofK x L = ofK x out ++ X ∧ Pend z mark (T x) X
theorem Inv.start (G : ByteArray → Int) (z mark : Int) : Inv G z mark (fun _ => []) (fun _ => []) [] [] :=
  ⟨⟨fun _ => List.Pairwise.nil, fun x p h => (by cases h), fun _ => Nat.zero_le _⟩, fun _ => rfl, fun x => ⟨[], rfl, Pend.nil fun p h => (by cases h)⟩⟩
theorem part_fine {G : ByteArray → Int} {T : Lists} (h : Fine T) (k : Int) : Fine (part G T k) :=
  ⟨fun x => (by unfold part; split; exact h.rises x; exact List.Pairwise.nil), fun x p hp => (by unfold part at hp; split at hp; exact h.key x p hp; cases hp), fun x => (by unfold part; split; exact h.few x; exact Nat.zero_le _)⟩
section
variable {G : ByteArray → Int} {z mark : Int} {T M : Lists} {out L : List Pn} {cf : C8}
/-- one group is settled: its keys' panes that are over went out -/
theorem Inv.settle (h : Inv G z mark T M out L) {k : Int} {O : List Pn} {S1 : Lists} (o : Outs z mark (part G T k) O S1) (no : NoneOver z mark S1) : ∃ T', S1 = part G T' k ∧ (∀ j, j ≠ k → part G T' j = part G T j) ∧ Inv G z mark T' M (out ++ O) L ∧ (∀ x, G x = k → T' x = M x) ∧ (∀ x, G x ≠ k → T' x = T x) := by
  obtain ⟨a1, a2, a3, a4⟩ := outs_all o no (part_fine h.fine k)
  have e1 : ∀ x, G x = k → S1 x = M x := fun x hx => by rw [a1, h.stay]; unfold part; rw [if_pos hx]
  refine ⟨fun x => if G x = k then M x else T x, funext fun x => ?_, fun j hj => funext fun x => ?_, ⟨⟨fun x => ?_, fun x p hp => ?_, fun x => ?_⟩, fun x => ?_, fun x => ?_⟩, fun x hx => if_pos hx, fun x hx => if_neg hx⟩
  · by_cases e : G x = k
    · rw [e1 x e]; simp [part, e]
    · rw [a1]; simp [part, e]
  · unfold part
    by_cases e : G x = j
    · rw [if_pos e, if_pos e]
      have : G x ≠ k := fun q => hj (e.symm.trans q)
      simp only [this, if_false]
    · rw [if_neg e, if_neg e]
  · split
    · rw [h.stay]; exact (h.fine.rises x).filter _
    · exact h.fine.rises x
  · split at hp
    · rw [h.stay] at hp; exact h.fine.key x p (List.mem_filter.1 hp).1
    · exact h.fine.key x p hp
  · split
    · rw [h.stay]; exact Nat.le_trans (List.length_filter_le _ _) (h.fine.few x)
    · exact h.fine.few x
  · split
    · rw [h.stay, List.filter_filter]; congr 1; funext p; simp
    · exact h.stay x
  · obtain ⟨X, hX, hP⟩ := h.went x
    rw [show ofK x (out ++ O) = ofK x out ++ O.filter (fun p => decide (p.key = x)) from List.filter_append ..]
    by_cases e : G x = k
    · refine ⟨[], ?_, ?_⟩
      · have := outs_pend o no (part_fine h.fine k) x
        rw [show part G T k x = T x by simp [part, e]] at this
        rw [List.append_nil, hX, hP.uniq this (h.fine.rises x)]
      · rw [if_pos e, h.stay]
        exact Pend.nil fun p hp => by simpa using (List.mem_filter.1 hp).2
    · refine ⟨X, ?_, by rw [if_neg e]; exact hP⟩
      have e0 : O.filter (fun p => decide (p.key = x)) = [] := List.filter_eq_nil_iff.2 fun p hp => by
        have := a4 p hp
        simp only [decide_eq_true_eq]
        rintro rfl
        unfold part at this
        rw [if_neg e] at this
        cases this
      rw [e0, List.append_nil]
      exact hX
theorem part_same {T T' : Lists} {k : Int} (h : part G T k = part G T' k) {x : ByteArray} (hx : G x = k) : T x = T' x := by
  have := congrFun h x
  simpa [part, hx] using this
/-- a group's lists are those of a part: with a key's list another one -/
theorem Inv.set (h : Inv G z mark T M out L) {k : Int} {key : ByteArray} (hk : G key = k) {S' M' : Lists} (e1 : S' key = M' key) (e2 : ∀ y, y ≠ key → S' y = part G T k y) (e3 : ∀ y, y ≠ key → M' y = M y) (hM : T key = M key) (fine : Fine S') (no : ∀ p ∈ M' key, ¬ p.e + z ≤ mark) (hnx : NoneOver z mark M) :
    ∃ T', S' = part G T' k ∧ (∀ j, j ≠ k → part G T' j = part G T j) ∧ Inv G z mark T' M' out L := by
  have hS : ∀ y, G y ≠ k → S' y = [] := fun y hy => by
    have : y ≠ key := fun e => hy (e ▸ hk)
    rw [e2 y this]; simp [part, hy]
  refine ⟨fun x => if x = key then S' key else T x, funext fun x => ?_, fun j hj => funext fun x => ?_, ⟨⟨fun x => ?_, fun x p hp => ?_, fun x => ?_⟩, fun x => ?_, fun x => ?_⟩⟩
  · unfold part
    by_cases e : x = key
    · subst e; simp [hk]
    · rw [e2 x e]; simp [part, e]
  · unfold part
    by_cases e : x = key
    · subst e
      have : G x ≠ j := fun q => hj (q.symm.trans hk)
      simp [this]
    · simp [e]
  · split
    · exact fine.rises key
    · exact h.fine.rises x
  · split at hp
    · rename_i e; exact e ▸ fine.key key p hp
    · exact h.fine.key x p hp
  · split
    · exact fine.few key
    · exact h.fine.few x
  · by_cases e : x = key
    · subst e
      rw [if_pos rfl, e1]
      exact (List.filter_eq_self.2 fun p hp => by simpa using no p hp).symm
    · rw [if_neg e, e3 x e]; exact h.stay x
  · obtain ⟨X, hX, hP⟩ := h.went x
    refine ⟨X, hX, ?_⟩
    by_cases e : x = key
    · subst e
      rw [if_pos rfl]
      have : X = [] := hP.uniq (Pend.nil fun p hp => by rw [hM] at hp; exact hnx x p hp) (h.fine.rises x)
      subst this
      exact Pend.nil fun p hp => by rw [e1] at hp; exact no p hp
    · rw [if_neg e]; exact hP
/-- **a keyed call, on its key's group and on the model: the same code, the same panes; what goes out of the group is what the model told already** -/
theorem Inv.asked (h : Inv G cf.z mark T M out L) {x : Cl} {zz : Option (Nat × Int × Int × Int)} {k : Int} (hk : G x.key = k) {code code2 mark2 : Int} {P O P2 L2 : List Pn} {c c2 N : Nat} {S' M' : Lists} {cl2 : Bool} (a : MAsked cf (part G T k) mark x zz code P O c S') (d : MDid cf M mark L false x zz code2 P2 c2 M' mark2 L2 cl2) (hm : mayC (Md.cfOf cf) x) (hkd : kd x.op = true)
    (ok : Ok cf.k S' N) (hN : N ≤ 8880) (no : NoneOver cf.z mark2 M') (hnx : NoneOver cf.z mark M) : code = code2 ∧ P = P2 ∧ mark2 = mark ∧ L2 = L ∧ cl2 = false ∧ ∃ T', S' = part G T' k ∧ (∀ j, j ≠ k → part G T' j = part G T j) ∧ Inv G cf.z mark T' M' (out ++ O) L := by
  have hop := hkd
  simp only [kd, decide_eq_true_eq] at hop
  have fine := ok.fine (by omega)
  cases d with
  | bad hb => exact absurd hm hb
  | closed _ hc => cases hc
  | stale _ _ ho => omega
  | up _ _ ho => omega
  | still _ _ ho => omega
  | shut _ _ ho => omega
  | put _ _ ho tk2 =>
    rcases a with ⟨-, rfl, S1, o, n1, tk⟩ | ⟨hp, -⟩
    · obtain ⟨T1, q1, q2, q3, q4, q5⟩ := h.settle o n1
      have e0 : S1 x.key = M x.key := by rw [q1]; simp only [part, hk, if_true]; exact q4 _ hk
      obtain ⟨rfl, rfl, r1, r2⟩ := taken_det tk tk2 e0
      obtain ⟨-, -, -, r3⟩ := taken_det tk2 tk e0.symm
      obtain ⟨T2, t1, t2, t3⟩ := q3.set hk r1 (fun y hy => by rw [r2 y hy, q1]) r3 (q4 _ hk) fine (fun p hp => no _ p hp) hnx
      exact ⟨rfl, rfl, rfl, rfl, rfl, T2, t1, fun j hj => (t2 j hj).trans (q2 j hj), t3⟩
    · exact absurd ho hp
  | query _ _ ho =>
    rcases a with ⟨hp, -⟩ | ⟨-, rfl, -, o, n1, rfl⟩
    · simp only [puts] at hp; omega
    · obtain ⟨T1, q1, q2, q3, q4, q5⟩ := h.settle o n1
      have e0 : S' x.key = M x.key := by rw [q1]; simp only [part, hk, if_true]; exact q4 _ hk
      rw [e0]
      exact ⟨rfl, rfl, rfl, rfl, rfl, T1, q1, q2, q3⟩
/-- a Mark: some groups are settled -/
theorem Inv.marked (h : Inv G z mark T M out L) {ks : List Int} (nd : ks.Nodup) {O : List Pn} {S S' : Int → Lists} (m : Mk z mark S ks O S') (hS : ∀ k ∈ ks, S k = part G T k) : ∃ T', (∀ k ∈ ks, S' k = part G T' k) ∧ (∀ j, j ∉ ks → S' j = S j ∧ part G T' j = part G T j) ∧ Inv G z mark T' M (out ++ O) L ∧ (∀ x, G x ∈ ks → T' x = M x) ∧ (∀ x, G x ∉ ks → T' x = T x) := by
  induction m with
  | nil => exact ⟨T, fun k hk => (by cases hk), fun j _ => ⟨rfl, rfl⟩, by rw [List.append_nil]; exact h, fun x hx => (by cases hx), fun _ _ => rfl⟩
  | @snoc ks k O Ok S1 U m o no ih =>
    obtain ⟨nd1, -, nd2⟩ := List.nodup_append.1 nd
    have hk : k ∉ ks := fun q => nd2 k q k (by simp) rfl
    obtain ⟨T1, i1, i2, i3, i4, i5⟩ := ih nd1 fun j hj => hS j (List.mem_append_left _ hj)
    have e1 : S1 k = part G T1 k := by rw [(i2 k hk).1, (i2 k hk).2]; exact hS k (by simp)
    rw [e1] at o
    obtain ⟨T2, q1, q2, q3, q4, q5⟩ := i3.settle o no
    refine ⟨T2, fun j hj => ?_, fun j hj => ?_, by rw [← List.append_assoc]; exact q3, fun x hx => ?_, fun x hx => ?_⟩
    · by_cases e : j = k
      · subst e; simp only [if_true]; exact q1
      · simp only [e, if_false]
        rw [q2 j e]
        exact i1 j (by rcases List.mem_append.1 hj with q | q; exact q; simp at q; exact absurd q e)
    · have e : j ≠ k := fun e => hj (by simp [e])
      have n : j ∉ ks := fun q => hj (List.mem_append_left _ q)
      simp only [e, if_false]
      exact ⟨(i2 j n).1, (q2 j e).trans (i2 j n).2⟩
    · by_cases e : G x = k
      · exact q4 x e
      · rw [q5 x e]; exact i4 x (by rcases List.mem_append.1 hx with q | q; exact q; simp at q; exact absurd q e)
    · rw [q5 x (fun e => hx (by simp [e]))]; exact i5 x fun q => hx (List.mem_append_left _ q)
/-- an Advance of the model alone -/
theorem Inv.up (h : Inv G z mark T M out L) {mark' : Int} {M' : Lists} {O : List Pn} (o : Outs z mark' M O M') (no : NoneOver z mark' M') (hm : mark ≤ mark') : Inv G z mark' T M' out (L ++ O) := by
  have fM : Fine M := ⟨fun x => by rw [h.stay]; exact (h.fine.rises x).filter _, fun x p hp => by rw [h.stay] at hp; exact h.fine.key x p (List.mem_filter.1 hp).1, fun x => by rw [h.stay]; exact Nat.le_trans (List.length_filter_le _ _) (h.fine.few x)⟩
  refine ⟨h.fine, fun x => ?_, fun x => ?_⟩
  · rw [(outs_all o no fM).1, h.stay, List.filter_filter]
    congr 1
    funext p
    by_cases e : p.e + z ≤ mark' <;> by_cases e2 : p.e + z ≤ mark <;> simp [ov, e, e2]
    omega
  · obtain ⟨X, hX, hP⟩ := h.went x
    have hO := outs_pend o no fM x
    refine ⟨X ++ ofK x O, by rw [ofK, List.filter_append, ← List.append_assoc]; exact congrArg (· ++ _) hX, ?_, List.pairwise_append.2 ⟨hP.2, hO.2, fun a ha b hb => ?_⟩⟩
    · refine (List.Perm.append hP.1 hO.1).trans ?_
      rw [h.stay, List.filter_filter]
      have e1 : (T x).filter (ov z mark) = ((T x).filter (ov z mark')).filter (ov z mark) := by
        rw [List.filter_filter]; congr 1; funext p
        by_cases e : p.e + z ≤ mark' <;> by_cases e2 : p.e + z ≤ mark <;> simp [ov, e, e2]
        omega
      have e2 : (T x).filter (fun p => ov z mark' p && !ov z mark p) = ((T x).filter (ov z mark')).filter fun p => !ov z mark p := by
        rw [List.filter_filter]; congr 1; funext p
        exact Bool.and_comm _ _
      rw [e1, e2]
      exact List.filter_append_perm _ _
    · have h1 := (List.mem_filter.1 (hP.1.mem_iff.1 ha)).2
      have h2 := (List.mem_filter.1 (hO.1.mem_iff.1 hb)).1
      rw [h.stay] at h2
      have h3 := (List.mem_filter.1 h2).2
      simp only [ov, decide_eq_true_eq, Bool.not_eq_true', decide_eq_false_iff_not] at h1 h3
      have : a.e < b.e := by omega
      show Tmr.lt (tmOf b) (tmOf a) = false
      simp only [Tmr.lt]
      rw [if_neg (by omega)]
      simp; omega
/-- at the end: all groups are settled -/
theorem Inv.over (h : Inv G z mark T M out L) (e : ∀ x, T x = M x) (no : NoneOver z mark M) : (∀ x, ofK x out = ofK x L) ∧ out.length = L.length := by
  have h1 : ∀ x, ofK x out = ofK x L := fun x => by
    obtain ⟨X, hX, hP⟩ := h.went x
    have : X = [] := hP.uniq (Pend.nil fun p hp => by rw [e] at hp; exact no x p hp) (h.fine.rises x)
    rw [hX, this, List.append_nil]
  refine ⟨h1, List.Perm.length_eq (List.perm_iff_count.2 fun p => ?_)⟩
  have c : ∀ l : List Pn, l.count p = (ofK p.key l).count p := fun l => (List.count_filter (by simp)).symm
  rw [c out, c L, h1]
end
end Sh
end Go.Proofs.YtdnigpkdnkbfbaaGreat
