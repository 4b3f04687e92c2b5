/-
  The stable sort, as plain mathematics of lists: merging two lists, the sorted list, the symmetric merge's cut, exchanges in a row, insertion.
-/
import Derived.Test.YtomdgeenmmgmaaaRows
import Derived.Below
import Derived.Sort.LotA
namespace Go.Proofs.Ytomdgeenmmgmaaa
namespace Srt
open Go.Sort (SWO swp insInner insOuter insertionSort)
set_option linter.unusedVariables false
section
variable {α : Type} (lt : α → α → Bool)

/-- the two, merged: of alike ones those of the first come first -/
def mrg (a b : List α) : List α := List.merge a b (fun x y => !lt y x)
/-- sorted, alike ones as they stand -/
def srt (l : List α) : List α := l.foldr (fun x acc => mrg lt [x] acc) []
/-- is in order -/
def Asc (l : List α) : Prop := l.Pairwise (fun x y => lt y x = false)

@[simp] theorem mrg_nil (b : List α) : mrg lt [] b = b := by simp [mrg]
@[simp] theorem mrg_right (a : List α) : mrg lt a [] = a := by simp [mrg]
theorem mrg_cons (x y : α) (a b : List α) : mrg lt (x :: a) (y :: b) = if lt y x = true then y :: mrg lt (x :: a) b else x :: mrg lt a (y :: b) := by
  simp only [mrg, List.cons_merge_cons]
  cases lt y x <;> simp
theorem mrg_len (a b : List α) : (mrg lt a b).length = a.length + b.length := by simp [mrg]
theorem mrg_perm (a b : List α) : (mrg lt a b).Perm (a ++ b) := List.merge_perm_append _
theorem mem_mrg {x : α} {a b : List α} : x ∈ mrg lt a b ↔ x ∈ a ∨ x ∈ b := by simp [mrg, List.mem_merge]

/-- the cut: what is on the one side of it in both, merged, stands ahead of the other sides, merged -/
theorem mrg_split : ∀ (A1 A2 B1 B2 : List α), (∀ a ∈ A1, ∀ b ∈ B2, lt b a = false) → (∀ a ∈ A2, ∀ b ∈ B1, lt b a = true) → mrg lt (A1 ++ A2) (B1 ++ B2) = mrg lt A1 B1 ++ mrg lt A2 B2
  | [], [], B1, B2, _, _ => by simp
  | [], A2, [], B2, _, _ => by simp
  | [], z :: A2, y :: B1, B2, h, k => by
    have e := k z (by simp) y (by simp)
    have ih := mrg_split [] (z :: A2) B1 B2 h (fun a ha b hb => k a ha b (by simp [hb]))
    simp only [List.nil_append, List.cons_append, mrg_nil] at ih ⊢
    rw [mrg_cons, if_pos e, ih]
  | x :: A1, A2, [], [], h, k => by simp
  | x :: A1, A2, [], y :: B2, h, k => by
    have e := h x (by simp) y (by simp)
    have ih := mrg_split A1 A2 [] (y :: B2) (fun a ha b hb => h a (by simp [ha]) b hb) k
    simp only [List.nil_append, List.cons_append, mrg_right] at ih ⊢
    rw [mrg_cons, if_neg (by simp [e]), ih]
  | x :: A1, A2, y :: B1, B2, h, k => by
    simp only [List.cons_append]
    rw [mrg_cons, mrg_cons]
    by_cases e : lt y x = true
    · rw [if_pos e, if_pos e]
      have ih := mrg_split (x :: A1) A2 B1 B2 h (fun a ha b hb => k a ha b (by simp [hb]))
      rw [← List.cons_append, ih, List.cons_append]
    · rw [if_neg e, if_neg e]
      have ih := mrg_split A1 A2 (y :: B1) B2 (fun a ha b hb => h a (by simp [ha]) b hb) k
      rw [← List.cons_append, ih, List.cons_append]
  termination_by A1 _ B1 B2 => A1.length + B1.length

variable {lt}
theorem mrg_assoc (S : SWO lt) : ∀ (a b c : List α), mrg lt (mrg lt a b) c = mrg lt a (mrg lt b c)
  | [], b, c => by simp
  | x :: a, [], c => by simp
  | x :: a, y :: b, [] => by simp
  | x :: a, y :: b, z :: c => by
    have i1 := mrg_assoc S (x :: a) (y :: b) c
    have i2 := mrg_assoc S (x :: a) b (z :: c)
    have i3 := mrg_assoc S a (y :: b) (z :: c)
    by_cases e : lt y x = true
    · by_cases f : lt z y = true
      · have g := S.trans _ _ _ f e
        rw [mrg_cons lt x y, if_pos e, mrg_cons lt y z, mrg_cons lt y z, if_pos f, if_pos f, mrg_cons lt x z, if_pos g, ← i1, mrg_cons lt x y, if_pos e]
      · rw [mrg_cons lt x y, if_pos e, mrg_cons lt y z, mrg_cons lt y z, if_neg f, if_neg f, mrg_cons lt x y, if_pos e, i2]
    · rw [mrg_cons lt x y, if_neg e, mrg_cons lt x z]
      by_cases f : lt z y = true
      · rw [mrg_cons lt y z, if_pos f, mrg_cons lt x z]
        by_cases g : lt z x = true
        · rw [if_pos g, if_pos g, ← i1, mrg_cons lt x y, if_neg e]
        · rw [if_neg g, if_neg g, i3, mrg_cons lt y z, if_pos f]
      · have g : ¬ lt z x = true := by
          have := S.ntrans z y x (by simpa using f) (by simpa using e)
          simp [this]
        rw [if_neg g, mrg_cons lt y z, if_neg f, mrg_cons lt x y, if_neg e, i3, mrg_cons lt y z, if_neg f]
  termination_by a b c => a.length + b.length + c.length

theorem srt_cons (x : α) (l : List α) : srt lt (x :: l) = mrg lt [x] (srt lt l) := rfl
theorem srt_nil : srt lt ([] : List α) = [] := rfl
theorem srt_one (x : α) : srt lt [x] = [x] := by simp [srt]
theorem srt_append (S : SWO lt) : ∀ (a b : List α), srt lt (a ++ b) = mrg lt (srt lt a) (srt lt b)
  | [], b => by simp [srt_nil]
  | x :: a, b => by rw [List.cons_append, srt_cons, srt_cons, srt_append S a b, mrg_assoc S]
theorem srt_perm : ∀ (l : List α), (srt lt l).Perm l
  | [] => by simp [srt_nil]
  | x :: l => by rw [srt_cons]; exact (mrg_perm lt _ _).trans ((List.Perm.append_left [x] (srt_perm l)))
theorem srt_len (l : List α) : (srt lt l).length = l.length := (srt_perm l).length_eq
theorem mem_srt {x : α} {l : List α} : x ∈ srt lt l ↔ x ∈ l := (srt_perm l).mem_iff
theorem mrg_asc (S : SWO lt) : ∀ (a b : List α), Asc lt a → Asc lt b → Asc lt (mrg lt a b)
  | [], b, _, h => by simpa using h
  | x :: a, [], h, _ => by simpa using h
  | x :: a, y :: b, h, k => by
    have h' := List.pairwise_cons.1 h
    have k' := List.pairwise_cons.1 k
    rw [mrg_cons]
    by_cases e : lt y x = true
    · rw [if_pos e]
      refine List.pairwise_cons.2 ⟨fun z hz => ?_, mrg_asc S (x :: a) b h k'.2⟩
      have q : lt x y = false := by
        cases g : lt x y with
        | false => rfl
        | true => have := S.trans _ _ _ g e; rw [S.irrefl] at this; cases this
      rcases (mem_mrg lt).1 hz with hz | hz
      · rcases List.mem_cons.1 hz with rfl | hz
        · exact q
        · exact S.ntrans _ _ _ (h'.1 z hz) q
      · exact k'.1 z hz
    · rw [if_neg e]
      refine List.pairwise_cons.2 ⟨fun z hz => ?_, mrg_asc S a (y :: b) h'.2 k⟩
      rcases (mem_mrg lt).1 hz with hz | hz
      · exact h'.1 z hz
      · rcases List.mem_cons.1 hz with rfl | hz
        · simpa using e
        · exact S.ntrans _ _ _ (k'.1 z hz) (by simpa using e)
  termination_by a b => a.length + b.length
theorem srt_asc (S : SWO lt) : ∀ (l : List α), Asc lt (srt lt l)
  | [] => List.Pairwise.nil
  | x :: l => by rw [srt_cons]; exact mrg_asc S _ _ (List.pairwise_singleton _ _) (srt_asc S l)
theorem mrg_all (x : α) (l : List α) (h : ∀ y ∈ l, lt y x = false) : mrg lt [x] l = x :: l := by
  have := mrg_split lt [x] [] [] l (by simpa using h) (by simp)
  simpa using this
theorem srt_same : ∀ (l : List α), Asc lt l → srt lt l = l
  | [], _ => rfl
  | x :: l, h => by
    have h' := List.pairwise_cons.1 h
    rw [srt_cons, srt_same l h'.2, mrg_all x l h'.1]

/-! ### insertion -/
/-- one more behind a list that is in order -/
theorem mrg_in (P1 P2 : List α) (x : α) (h1 : ∀ p ∈ P1, lt x p = false) (h2 : ∀ p ∈ P2, lt x p = true) : mrg lt (P1 ++ P2) [x] = P1 ++ x :: P2 := by
  have := mrg_split lt P1 P2 [x] [] (by simp) (by simpa using h2)
  rw [List.append_nil] at this
  rw [this, mrg_right]
  have := mrg_split lt P1 [] [] [x] (by simpa using h1) (by simp)
  simp only [List.append_nil, List.nil_append, mrg_right, mrg_nil] at this
  rw [this]
  simp
/-- one ahead, that is behind some -/
theorem mrg_out (B1 B2 : List α) (x : α) (h1 : ∀ p ∈ B1, lt p x = true) (h2 : ∀ p ∈ B2, lt p x = false) : mrg lt [x] (B1 ++ B2) = B1 ++ x :: B2 := by
  have := mrg_split lt [] [x] B1 B2 (by simp) (by simpa using h1)
  rw [List.nil_append] at this
  rw [this, mrg_nil, mrg_all x B2 h2]
end

/-! ### a row -/
section
variable {α : Type} [Inhabited α]
theorem at_mid (U V : List α) (x : α) : (U ++ x :: V).toArray[U.length]! = x := by
  simp
theorem at_of (l U V : List α) (x : α) (i : Nat) (h : l = U ++ x :: V) (hi : i = U.length) : l.toArray[i]! = x := by subst h hi; exact at_mid U V x
theorem swp_mid (U V W : List α) (x y : α) (i j : Nat) (hi : i = U.length) (hj : j = U.length + 1 + V.length) : swp (U ++ x :: (V ++ y :: W)).toArray i j = (U ++ y :: (V ++ x :: W)).toArray := by
  subst hi hj
  unfold swp
  have e : (U ++ x :: (V ++ y :: W)).toArray[U.length + 1 + V.length]! = y := at_of _ (U ++ x :: V) W y _ (by simp) (by simp; omega)
  rw [e, at_mid]
  apply Array.ext'
  simp only [List.setIfInBounds_toArray, List.toList_toArray]
  rw [List.set_append_right _ _ (by omega), Nat.sub_self, List.set_cons_zero, List.set_append_right _ _ (by omega), show U.length + 1 + V.length - U.length = V.length + 1 by omega, List.set_cons_succ, List.set_append_right _ _ (by omega), Nat.sub_self, List.set_cons_zero]
theorem swp_mid' (U V W : List α) (x y : α) (i j : Nat) (hi : i = U.length) (hj : j = U.length + 1 + V.length) : swp (U ++ x :: (V ++ y :: W)).toArray j i = (U ++ y :: (V ++ x :: W)).toArray := by
  rw [← swp_mid U V W x y i j hi hj]
  subst hi hj
  unfold swp
  apply Array.ext'
  simp only [List.setIfInBounds_toArray, List.toList_toArray]
  rw [List.set_comm]
  omega

/-- the insertion of one: it goes ahead of those that it is less than -/
theorem insInner_list {lt : α → α → Bool} (S : SWO lt) (P : List α) (a : Nat) (ha : a = P.length) : ∀ (A1 : List α) (x : α) (A2 Q : List α) (j : Nat), j = a + A1.length → Asc lt A1 → (∀ p ∈ A2, lt x p = true) →
    insInner lt a j (P ++ (A1 ++ x :: (A2 ++ Q))).toArray = (P ++ (mrg lt (A1 ++ A2) [x] ++ Q)).toArray := by
  intro A1
  induction h : A1.length generalizing A1 with
  | zero =>
    intro x A2 Q j hj _ h2
    obtain rfl : A1 = [] := List.length_eq_zero_iff.1 h
    have : mrg lt ([] ++ A2) [x] = [] ++ x :: A2 := mrg_in [] A2 x (by simp) h2
    rw [this]
    have hja : j = a := by simpa using hj
    subst hja
    cases j with
    | zero => simp [insInner]
    | succ j => rw [insInner]; simp
  | succ n ih =>
    intro x A2 Q j hj hA h2
    obtain ⟨B, y, rfl⟩ : ∃ B y, A1 = B ++ [y] := ⟨A1.dropLast, A1.getLast (by intro e; subst e; simp at h), (List.dropLast_concat_getLast _).symm⟩
    have hB : B.length = n := by simpa using h
    obtain ⟨i, rfl⟩ : ∃ i, j = i + 1 := ⟨a + n, by omega⟩
    have hi : i = a + B.length := by omega
    have e1 : (P ++ (B ++ [y] ++ x :: (A2 ++ Q))).toArray[i + 1]! = x := at_of _ (P ++ B ++ [y]) (A2 ++ Q) x _ (by simp) (by simp; omega)
    have e0 : (P ++ (B ++ [y] ++ x :: (A2 ++ Q))).toArray[i]! = y := at_of _ (P ++ B) (x :: (A2 ++ Q)) y _ (by simp) (by simp; omega)
    rw [insInner, e1, e0]
    have hg : (i + 1 > a) := by omega
    by_cases e : lt x y = true
    · simp only [hg, e, decide_true, Bool.and_self, if_true]
      have sw : swp (P ++ (B ++ [y] ++ x :: (A2 ++ Q))).toArray (i + 1) i = (P ++ (B ++ x :: ((y :: A2) ++ Q))).toArray := by
        have := swp_mid' (P ++ B) [] (A2 ++ Q) y x i (i + 1) (by simp; omega) (by simp; omega)
        simpa using this
      rw [sw, ih B hB x (y :: A2) Q i (by omega) (List.pairwise_append.1 hA).1 (by intro p hp; rcases List.mem_cons.1 hp with rfl | hp; exact e; exact h2 p hp)]
      simp
    · have e' : lt x y = false := by simpa using e
      simp only [e', Bool.and_false]
      rw [if_neg (by simp)]
      -- all that stand ahead are no greater
      have all : ∀ p ∈ B ++ [y], lt x p = false := by
        intro p hp
        rcases List.mem_append.1 hp with hp | hp
        · exact S.ntrans _ _ _ e' ((List.pairwise_append.1 hA).2.2 p hp y (by simp))
        · simp at hp; subst hp; exact e'
      rw [mrg_in (B ++ [y]) A2 x all h2]
      simp

/-- the insertion sort of a part of a row -/
theorem insOuter_list {lt : α → α → Bool} (S : SWO lt) (P Q : List α) (a b : Nat) (ha : a = P.length) : ∀ (R L : List α) (i : Nat), L ≠ [] → i = a + L.length → b = i + R.length →
    insOuter lt a b i (P ++ (srt lt L ++ (R ++ Q))).toArray = (P ++ (srt lt (L ++ R) ++ Q)).toArray := by
  intro R
  induction R with
  | nil =>
    intro L i _ hi hb
    rw [insOuter, if_neg (by simp at hb; omega)]
    simp
  | cons x R ih =>
    intro L i hL hi hb
    rw [insOuter, if_pos (by simp at hb; omega)]
    have e := insInner_list S P a ha (srt lt L) x [] (R ++ Q) i (by rw [srt_len]; omega) (srt_asc S L) (by simp)
    have e2 : mrg lt (srt lt L ++ []) [x] = srt lt (L ++ [x]) := by rw [srt_append S, srt_one, List.append_nil]
    rw [e2] at e
    simp only [List.nil_append, List.cons_append] at e ⊢
    rw [e, ih (L ++ [x]) (i + 1) (by simp) (by simp; omega) (by simp at hb; omega)]
    simp
theorem insertion_list {lt : α → α → Bool} (S : SWO lt) (P L Q : List α) (a b : Nat) (ha : a = P.length) (hb : b = a + L.length) : insertionSort lt (P ++ (L ++ Q)).toArray a b = (P ++ (srt lt L ++ Q)).toArray := by
  unfold insertionSort
  cases L with
  | nil => rw [insOuter, if_neg (by simp at hb; omega)]; simp [srt_nil]
  | cons x L =>
    have := insOuter_list S P Q a b ha L [x] (a + 1) (by simp) rfl (by simp at hb; omega)
    rw [srt_one] at this
    simpa using this
end
end Srt
end Go.Proofs.Ytomdgeenmmgmaaa
