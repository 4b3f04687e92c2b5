/-
  Parts of the memory as one family by numbers, each of blocks of its own; what each event leaves of it.
  What lies beside all parts stays.
-/
import Derived.Test.YtjncogjafljbiaaFoot
namespace Go.Proofs.Ytjncogjafljbiaa
open Go.ChangeShapes Go.WideShapes Go.ChangeAt Go.RowKit
set_option linter.unusedVariables false
namespace Fm
open Small Foot
abbrev none0 : Nat → Prop := fun _ => False
abbrev Or2 (F G : Nat → Prop) : Nat → Prop := fun i => F i ∨ G i
/-- parts of the memory, apart from one another, all made behind w0 -/
structure Fam (w0 w : World) (R : Nat → Nat → Prop) : Prop where
  in_ : ∀ i, In w (R i)
  lo : ∀ i, From w0.heap.size (R i)
  ap : ∀ i j, i ≠ j → Apart (R i) (R j)
  below : Below w0.heap.size w0 w
def rset (R : Nat → Nat → Prop) (i : Nat) (F : Nat → Prop) : Nat → Nat → Prop := fun k => if k = i then F else R k
section
variable {w0 w w' : World} {R : Nat → Nat → Prop} {F F' G G' : Nat → Prop} {i j : Nat}
theorem Fam.next (h : Fam w0 w R) (k : Below w.heap.size w w') : Fam w0 w' R := ⟨fun i => (h.in_ i).next k.size, h.lo, h.ap, after h.below k⟩
theorem Fam.one (h : Fam w0 w R) (k : Moves (R i) F' w w') : Fam w0 w' (rset R i F') := by
  have ap : ∀ j, j ≠ i → Apart F' (R j) := fun j hj => k.apart (h.ap i j (Ne.symm hj)) (h.in_ j)
  refine ⟨fun j => ?_, fun j => ?_, fun j l hjl => ?_, h.below.trans (k.below (h.lo i) h.below.size)⟩
  · unfold rset; split
    · exact k.in
    · exact (h.in_ j).next k.size
  · unfold rset; split
    · exact k.from (h.lo i) h.below.size
    · exact h.lo j
  · unfold rset
    by_cases e : j = i
    · rw [if_pos e, if_neg (fun q => hjl (e.trans q.symm))]
      exact ap l fun q => hjl (e.trans q.symm)
    · rw [if_neg e]
      by_cases e' : l = i
      · rw [if_pos e']; exact (ap j e).symm
      · rw [if_neg e']; exact h.ap j l hjl
theorem Fam.two (h : Fam w0 w R) (hij : i ≠ j) (k : Moves (Or2 (R i) (R j)) (Or2 F' G') w w') (a : Apart F' G') : Fam w0 w' (rset (rset R i F') j G') := by
  have ap : ∀ l, l ≠ i → l ≠ j → Apart (Or2 F' G') (R l) := fun l h1 h2 => k.apart (fun b hb q => hb.elim (fun r => h.ap i l (Ne.symm h1) b r q) fun r => h.ap j l (Ne.symm h2) b r q) (h.in_ l)
  have lo : From w0.heap.size (Or2 F' G') := k.from (fun b hb => hb.elim (h.lo i b) (h.lo j b)) h.below.size
  have val : ∀ l, rset (rset R i F') j G' l = if l = j then G' else if l = i then F' else R l := fun l => rfl
  refine ⟨fun l => ?_, fun l => ?_, fun l m hlm => ?_, h.below.trans (k.below (fun b hb => hb.elim (h.lo i b) (h.lo j b)) h.below.size)⟩
  · rw [val]; split
    · exact fun b hb => k.in b (.inr hb)
    · split
      · exact fun b hb => k.in b (.inl hb)
      · exact (h.in_ l).next k.size
  · rw [val]; split
    · exact fun b hb => lo b (.inr hb)
    · split
      · exact fun b hb => lo b (.inl hb)
      · exact h.lo l
  · rw [val, val]
    by_cases e1 : l = j
    · subst e1
      rw [if_pos rfl, if_neg (Ne.symm hlm)]
      by_cases e2 : m = i
      · rw [if_pos e2]; exact a.symm
      · rw [if_neg e2]; exact fun b hb q => ap m e2 (Ne.symm hlm) b (.inr hb) q
    · rw [if_neg e1]
      by_cases e3 : m = j
      · subst e3
        rw [if_pos rfl]
        by_cases e2 : l = i
        · rw [if_pos e2]; exact a
        · rw [if_neg e2]; exact fun b hb q => ap l e2 e1 b (.inr q) hb
      · rw [if_neg e3]
        by_cases e2 : l = i
        · subst e2
          rw [if_pos rfl, if_neg (Ne.symm hlm)]
          exact fun b hb q => ap m (Ne.symm hlm) e3 b (.inl hb) q
        · rw [if_neg e2]
          by_cases e4 : m = i
          · subst e4; rw [if_pos rfl]; exact fun b hb q => ap l e2 e1 b (.inl q) hb
          · rw [if_neg e4]; exact h.ap l m hlm
theorem Fam.kept (h : Fam w0 w R) (k : Moves (R i) F' w w') (hj : j ≠ i) : ∀ b, R j b → w'.heap[b]? = w.heap[b]? := fun b hb => k.block b (h.in_ j b hb) fun q => h.ap i j (Ne.symm hj) b q hb
theorem Fam.kept2 (h : Fam w0 w R) (k : Moves (Or2 (R i) (R j)) F' w w') {l : Nat} (h1 : l ≠ i) (h2 : l ≠ j) : ∀ b, R l b → w'.heap[b]? = w.heap[b]? := fun b hb => k.block b (h.in_ l b hb) fun q => q.elim (fun q => h.ap i l (Ne.symm h1) b q hb) fun q => h.ap j l (Ne.symm h2) b q hb
end
section
variable {w0 w w' : World} {R R' : Nat → Nat → Prop} {F G : Nat → Prop} {i j : Nat}
theorem rset_same (R : Nat → Nat → Prop) (i : Nat) (F : Nat → Prop) : rset R i F i = F := if_pos rfl
theorem rset_ne (R : Nat → Nat → Prop) {i j : Nat} (F : Nat → Prop) (h : j ≠ i) : rset R i F j = R j := if_neg h
theorem rset_self (R : Nat → Nat → Prop) (i : Nat) : rset R i (R i) = R := funext fun j => by
  by_cases e : j = i
  · subst e; exact rset_same _ _ _
  · exact rset_ne _ _ e
theorem less (h : Fam w0 w R) (hs : ∀ i b, R' i b → R i b) : Fam w0 w R' := ⟨fun i b hb => h.in_ i b (hs i b hb), fun i b hb => h.lo i b (hs i b hb), fun i j hij b hb q => h.ap i j hij b (hs i b hb) (hs j b q), h.below⟩
theorem regroup (h : Fam w0 w R) (hij : i ≠ j) (hF : ∀ b, F b ∨ G b → R i b ∨ R j b) (A : Apart F G) : Fam w0 w (rset (rset R i F) j G) := by
  have val : ∀ l, rset (rset R i F) j G l = if l = j then G else if l = i then F else R l := fun l => rfl
  have ap : ∀ l, l ≠ i → l ≠ j → ∀ b, F b ∨ G b → ¬ R l b := fun l h1 h2 b hb q => (hF b hb).elim (fun r => h.ap i l (Ne.symm h1) b r q) fun r => h.ap j l (Ne.symm h2) b r q
  refine ⟨fun l b hb => ?_, fun l b hb => ?_, fun l m hlm b hb q => ?_, h.below⟩
  · rw [val] at hb
    split at hb
    · exact (hF b (.inr hb)).elim (h.in_ i b) (h.in_ j b)
    · split at hb
      · exact (hF b (.inl hb)).elim (h.in_ i b) (h.in_ j b)
      · exact h.in_ l b hb
  · rw [val] at hb
    split at hb
    · exact (hF b (.inr hb)).elim (h.lo i b) (h.lo j b)
    · split at hb
      · exact (hF b (.inl hb)).elim (h.lo i b) (h.lo j b)
      · exact h.lo l b hb
  · rw [val] at hb q
    by_cases e1 : l = j
    · rw [if_pos e1] at hb
      have e2 : m ≠ j := fun e => hlm (e1.trans e.symm)
      rw [if_neg e2] at q
      by_cases e3 : m = i
      · rw [if_pos e3] at q; exact A b q hb
      · rw [if_neg e3] at q; exact ap m e3 e2 b (.inr hb) q
    · rw [if_neg e1] at hb
      by_cases e2 : l = i
      · rw [if_pos e2] at hb
        have e3 : m ≠ i := fun e => hlm (e2.trans e.symm)
        by_cases e4 : m = j
        · rw [if_pos e4] at q; exact A b hb q
        · rw [if_neg e4, if_neg e3] at q; exact ap m e3 e4 b (.inl hb) q
      · rw [if_neg e2] at hb
        by_cases e4 : m = j
        · rw [if_pos e4] at q; exact ap l e2 e1 b (.inr q) hb
        · rw [if_neg e4] at q
          by_cases e3 : m = i
          · rw [if_pos e3] at q; exact ap l e2 e1 b (.inl q) hb
          · rw [if_neg e3] at q; exact h.ap l m hlm b hb q
theorem made_moves (e : R i = none0) (k : Below w.heap.size w w') (hF : From w.heap.size F) (hin : In w' F) : Moves (R i) F w w' := by
  rw [e]
  exact ⟨k.os, k.tape, k.output, k.size, fun j hj _ => k.block j hj, fun j hj => ⟨.inr (hF j hj), hin j hj⟩⟩
end
/-- part i stayed -/
def Kp (R R' : Nat → Nat → Prop) (w w' : World) (i : Nat) : Prop := R' i = R i ∧ ∀ b, R i b → w'.heap[b]? = w.heap[b]?
/-- all but the parts of T stayed, and what lies beside all parts -/
structure On (T : Nat → Prop) (R : Nat → Nat → Prop) (w : World) (R' : Nat → Nat → Prop) (w' : World) : Prop where
  size : w.heap.size ≤ w'.heap.size
  kp : ∀ i, ¬ T i → Kp R R' w w' i
  free : ∀ a, a < w.heap.size → (∀ i, ¬ R i a) → w'.heap[a]? = w.heap[a]? ∧ ∀ i, ¬ R' i a
section
variable {T T' : Nat → Prop} {w0 w w' w'' : World} {R R' R'' : Nat → Nat → Prop} {F F' G' : Nat → Prop} {i j : Nat}
theorem On.trans (h : On T R w R' w') (k : On T R' w' R'' w'') : On T R w R'' w'' :=
  ⟨Nat.le_trans h.size k.size, fun i hi => ⟨(k.kp i hi).1.trans (h.kp i hi).1, fun b hb => ((k.kp i hi).2 b (by rw [(h.kp i hi).1]; exact hb)).trans ((h.kp i hi).2 b hb)⟩,
    fun a ha hn => by
      obtain ⟨q1, q2⟩ := h.free a ha hn
      obtain ⟨q3, q4⟩ := k.free a (Nat.lt_of_lt_of_le ha h.size) q2
      exact ⟨q3.trans q1, q4⟩⟩
theorem On.more (h : On T R w R' w') (k : ∀ i, T i → T' i) : On T' R w R' w' := ⟨h.size, fun i hi => h.kp i fun q => hi (k i q), h.free⟩
theorem On.below (f : Fam w0 w R) (k : Below w.heap.size w w') : On T R w R w' := ⟨k.size, fun i _ => ⟨rfl, fun b hb => k.block b (f.in_ i b hb)⟩, fun a ha hn => ⟨k.block a ha, hn⟩⟩
theorem On.refl : On T R w R w := ⟨Nat.le_refl _, fun i _ => ⟨rfl, fun b hb => rfl⟩, fun a ha hn => ⟨rfl, hn⟩⟩
theorem On.one (f : Fam w0 w R) (k : Moves (R i) F' w w') (hi : T i) : On T R w (rset R i F') w' :=
  ⟨k.size, fun j hj => ⟨rset_ne _ _ fun e => hj (e ▸ hi), f.kept k fun e => hj (e ▸ hi)⟩, fun a ha hn => ⟨k.block a ha (hn i), fun j q => by
    by_cases e : j = i
    · subst e
      rw [rset_same] at q
      rcases (k.new a q).1 with r | r
      · exact hn j r
      · omega
    · rw [rset_ne _ _ e] at q
      exact hn j q⟩⟩
theorem On.two (f : Fam w0 w R) (k : Moves (Or2 (R i) (R j)) (Or2 F' G') w w') (hi : T i) (hj : T j) : On T R w (rset (rset R i F') j G') w' :=
  ⟨k.size, fun l hl => ⟨by rw [rset_ne _ _ (show l ≠ j from fun e => hl (e ▸ hj)), rset_ne _ _ (show l ≠ i from fun e => hl (e ▸ hi))], f.kept2 k (fun e => hl (e ▸ hi)) fun e => hl (e ▸ hj)⟩, fun a ha hn => ⟨k.block a ha fun q => q.elim (hn i) (hn j), fun l q => by
    have val : rset (rset R i F') j G' l = if l = j then G' else if l = i then F' else R l := rfl
    rw [val] at q
    have nn : ¬ Or2 F' G' a := fun q => by
      rcases (k.new a q).1 with r | r
      · exact r.elim (hn i) (hn j)
      · omega
    split at q
    · exact nn (.inr q)
    · split at q
      · exact nn (.inl q)
      · exact hn l q⟩⟩
/-- a part is let go of -/
theorem Fam.drop (h : Fam w0 w R) (i : Nat) : Fam w0 w (rset R i none0) := less h fun j b hb => by
  by_cases e : j = i
  · subst e; rw [rset_same] at hb; exact hb.elim
  · rwa [rset_ne _ _ e] at hb
theorem On.drop (hi : T i) : On T R w (rset R i none0) w :=
  ⟨Nat.le_refl _, fun j hj => ⟨rset_ne _ _ fun e => hj (e ▸ hi), fun _ _ => rfl⟩, fun a ha hn => ⟨rfl, fun j q => by
    by_cases e : j = i
    · subst e; rw [rset_same] at q; exact q
    · rw [rset_ne _ _ e] at q; exact hn j q⟩⟩
end
end Fm
end Go.Proofs.Ytjncogjafljbiaa
