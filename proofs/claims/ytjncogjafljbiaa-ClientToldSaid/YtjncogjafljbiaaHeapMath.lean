/-
  The order of timers, and what a heap's steps do to it: plain mathematics, of no memory.
-/
import Derived.Test.YtjncogjafljbiaaRows
import Derived.Below
import Derived.Laws.Strings
namespace Go.Proofs.Ytjncogjafljbiaa
namespace Tmr
set_option linter.unusedVariables false

/-! ### texts, byte by byte -/
theorem bl_irrefl : ∀ x : List UInt8, Op.bytesLess x x = false
  | [] => rfl
  | a :: x => by simp [Op.bytesLess, bl_irrefl x]
theorem bl_trans : ∀ x y z : List UInt8, Op.bytesLess x y = true → Op.bytesLess y z = true → Op.bytesLess x z = true
  | [], [], z, h, _ => by simp [Op.bytesLess] at h
  | [], b :: y, [], _, h => by simp [Op.bytesLess] at h
  | [], b :: y, c :: z, _, _ => by simp [Op.bytesLess]
  | a :: x, [], z, h, _ => by simp [Op.bytesLess] at h
  | a :: x, b :: y, [], _, h => by simp [Op.bytesLess] at h
  | a :: x, b :: y, c :: z, h, k => by
    simp only [Op.bytesLess, Bool.or_eq_true, Bool.and_eq_true, decide_eq_true_eq, beq_iff_eq, UInt8.lt_iff_toNat_lt] at h k ⊢
    rcases h with h | ⟨rfl, h⟩
    · rcases k with k | ⟨rfl, k⟩
      · exact .inl (by omega)
      · exact .inl h
    · rcases k with k | ⟨rfl, k⟩
      · exact .inl k
      · exact .inr ⟨rfl, bl_trans x y z h k⟩
theorem bl_total : ∀ x y : List UInt8, Op.bytesLess x y = false → Op.bytesLess y x = false → x = y
  | [], [], _, _ => rfl
  | [], b :: y, h, _ => by simp [Op.bytesLess] at h
  | a :: x, [], _, h => by simp [Op.bytesLess] at h
  | a :: x, b :: y, h, k => by
    simp only [Op.bytesLess, Bool.or_eq_false_iff, Bool.and_eq_false_iff, decide_eq_false_iff_not, beq_eq_false_iff_ne, UInt8.lt_iff_toNat_lt] at h k
    have e : a = b := UInt8.toNat_inj.1 (by omega)
    subst e
    rw [bl_total x y (by rcases h.2 with h | h; exact absurd rfl h; exact h) (by rcases k.2 with h | h; exact absurd rfl h; exact h)]

/-- a timer -/
structure Tm where
  key : ByteArray
  s : Int
  e : Int

theorem Tm.ext' {a b : Tm} (hk : a.key.toList = b.key.toList) (hs : a.s = b.s) (he : a.e = b.e) : a = b := by
  obtain ⟨⟨⟨ka⟩⟩, sa, ea⟩ := a
  obtain ⟨⟨⟨kb⟩⟩, sb, eb⟩ := b
  simp only at hs he
  subst hs; subst he
  have : ka = kb := by simpa [ByteArray.toList_eq] using hk
  rw [this]

/-- one is ahead of another one -/
def lt (a b : Tm) : Bool := if a.e = b.e then (if a.s = b.s then Op.bytesLess a.key.toList b.key.toList else decide (a.s < b.s)) else decide (a.e < b.e)
/-- .. or not behind it -/
def le (a b : Tm) : Prop := lt b a = false

theorem lt_irrefl (a : Tm) : lt a a = false := by simp [lt, bl_irrefl]
theorem lt_trans {a b c : Tm} (h : lt a b = true) (k : lt b c = true) : lt a c = true := by
  unfold lt at *
  by_cases e1 : a.e = b.e
  · by_cases e2 : b.e = c.e
    · rw [if_pos e1] at h; rw [if_pos e2] at k; rw [if_pos (e1.trans e2)]
      by_cases s1 : a.s = b.s
      · by_cases s2 : b.s = c.s
        · rw [if_pos s1] at h; rw [if_pos s2] at k; rw [if_pos (s1.trans s2)]
          exact bl_trans _ _ _ h k
        · rw [if_neg s2] at k; rw [if_neg (by omega)]; simp at k ⊢; omega
      · rw [if_neg s1] at h
        simp at h
        by_cases s2 : b.s = c.s
        · rw [if_neg (by omega)]; simp; omega
        · rw [if_neg s2] at k; simp at k; rw [if_neg (by omega)]; simp; omega
    · rw [if_neg e2] at k; simp at k; rw [if_neg (by omega)]; simp; omega
  · rw [if_neg e1] at h
    simp at h
    by_cases e2 : b.e = c.e
    · rw [if_neg (by omega)]; simp; omega
    · rw [if_neg e2] at k; simp at k; rw [if_neg (by omega)]; simp; omega
theorem lt_total {a b : Tm} (h : lt a b = false) (k : lt b a = false) : a = b := by
  unfold lt at *
  by_cases e1 : a.e = b.e
  · rw [if_pos e1] at h; rw [if_pos e1.symm] at k
    by_cases s1 : a.s = b.s
    · rw [if_pos s1] at h; rw [if_pos s1.symm] at k
      exact Tm.ext' (bl_total _ _ h k) s1 e1
    · rw [if_neg s1] at h; rw [if_neg (Ne.symm s1)] at k; simp at h k; omega
  · rw [if_neg e1] at h; rw [if_neg (Ne.symm e1)] at k; simp at h k; omega
theorem lt_asymm {a b : Tm} (h : lt a b = true) : lt b a = false := by
  cases hb : lt b a with
  | false => rfl
  | true => have := lt_trans h hb; rw [lt_irrefl] at this; cases this
theorem le_refl (a : Tm) : le a a := lt_irrefl a
theorem le_of_lt {a b : Tm} (h : lt a b = true) : le a b := lt_asymm h
theorem le_trans {a b c : Tm} (h : le a b) (k : le b c) : le a c := by
  unfold le at *
  cases hc : lt c a with
  | false => rfl
  | true =>
    cases hb : lt a b with
    | true => have := lt_trans hc hb; rw [k] at this; cases this
    | false => rw [lt_total hb h] at hc; rw [k] at hc; cases hc
theorem le_antisymm {a b : Tm} (h : le a b) (k : le b a) : a = b := lt_total k h
theorem le_end {a b : Tm} (h : le a b) : a.e ≤ b.e := by
  unfold le lt at h
  by_cases e : b.e = a.e
  · omega
  · rw [if_neg e] at h; simp at h; omega

/-! ### a heap: f k is its k-th one, there are n -/
/-- none is behind those below it -/
def Heap (f : Nat → Tm) (n : Nat) : Prop := ∀ k, 0 < k → k < n → le (f ((k - 1) / 2)) (f k)
/-- .. but for j, which may be ahead of the one above it -/
def UpAt (f : Nat → Tm) (n j : Nat) : Prop :=
  (∀ k, 0 < k → k < n → k ≠ j → le (f ((k - 1) / 2)) (f k)) ∧ (∀ k, 0 < k → k < n → (k - 1) / 2 = j → 0 < j → le (f ((j - 1) / 2)) (f k))
/-- .. but for i, which may be behind those below it (and, where it is i0, ahead of the one above it) -/
def DownAt (f : Nat → Tm) (n i0 i : Nat) : Prop :=
  (∀ k, 0 < k → k < n → (k ≠ i0 ∨ i ≠ i0) → (k - 1) / 2 ≠ i → le (f ((k - 1) / 2)) (f k)) ∧ (∀ k, 0 < k → k < n → (k - 1) / 2 = i → 0 < i → le (f ((i - 1) / 2)) (f k))
/-- i and j changed for each other -/
def sw (f : Nat → Tm) (i j : Nat) : Nat → Tm := fun k => if k = i then f j else if k = j then f i else f k

theorem sw_left (f : Nat → Tm) (i j : Nat) : sw f i j i = f j := by simp [sw]
theorem sw_right (f : Nat → Tm) (i j : Nat) : sw f i j j = f i := by
  unfold sw
  by_cases h : j = i
  · rw [if_pos h, h]
  · rw [if_neg h, if_pos rfl]
theorem sw_other (f : Nat → Tm) {i j k : Nat} (h1 : k ≠ i) (h2 : k ≠ j) : sw f i j k = f k := by simp [sw, h1, h2]
theorem sw_swap (f : Nat → Tm) (i j : Nat) : sw f i j = sw f j i := by
  funext k
  unfold sw
  by_cases h1 : k = i
  · by_cases h2 : k = j
    · subst h1; subst h2; rfl
    · subst h1; simp [h2]
  · by_cases h2 : k = j
    · subst h2; simp [h1]
    · simp [h1, h2]

/-- the same ones, in another order, below n; behind that nothing is changed -/
def Same (n : Nat) (f f' : Nat → Tm) : Prop := (∀ k, n ≤ k → f' k = f k) ∧ ∀ x, (∃ k, k < n ∧ f' k = x) ↔ ∃ k, k < n ∧ f k = x
theorem Same.refl (n : Nat) (f : Nat → Tm) : Same n f f := ⟨fun _ _ => rfl, fun _ => Iff.rfl⟩
theorem Same.trans {n : Nat} {f g h : Nat → Tm} (a : Same n f g) (b : Same n g h) : Same n f h := ⟨fun k hk => (b.1 k hk).trans (a.1 k hk), fun x => (b.2 x).trans (a.2 x)⟩
theorem same_sw {n i j : Nat} (f : Nat → Tm) (hi : i < n) (hj : j < n) : Same n f (sw f i j) := by
  refine ⟨fun k hk => sw_other f (by omega) (by omega), fun x => ⟨?_, ?_⟩⟩
  · rintro ⟨k, hk, rfl⟩
    by_cases h1 : k = i
    · subst h1; exact ⟨j, hj, (sw_left f k j).symm⟩
    · by_cases h2 : k = j
      · subst h2; exact ⟨i, hi, (sw_right f i k).symm⟩
      · exact ⟨k, hk, (sw_other f h1 h2).symm⟩
  · rintro ⟨k, hk, rfl⟩
    by_cases h1 : k = i
    · subst h1; exact ⟨j, hj, sw_right f k j⟩
    · by_cases h2 : k = j
      · subst h2; exact ⟨i, hi, sw_left f i k⟩
      · exact ⟨k, hk, sw_other f h1 h2⟩
theorem Same.wider {n n' : Nat} {f f' : Nat → Tm} (h : Same n f f') (hn : n ≤ n') : Same n' f f' := by
  refine ⟨fun k hk => h.1 k (by omega), fun x => ⟨?_, ?_⟩⟩
  · rintro ⟨k, hk, rfl⟩
    by_cases h1 : k < n
    · obtain ⟨k', h2, h3⟩ := (h.2 _).1 ⟨k, h1, rfl⟩
      exact ⟨k', by omega, h3⟩
    · exact ⟨k, hk, (h.1 k (by omega)).symm⟩
  · rintro ⟨k, hk, rfl⟩
    by_cases h1 : k < n
    · obtain ⟨k', h2, h3⟩ := (h.2 _).2 ⟨k, h1, rfl⟩
      exact ⟨k', by omega, h3⟩
    · exact ⟨k, hk, h.1 k (by omega)⟩

/-- up: one step -/
theorem up_step {f : Nat → Tm} {n j : Nat} (h : UpAt f n j) (hj : 0 < j) (hn : j < n) (hl : lt (f j) (f ((j - 1) / 2)) = true) : UpAt (sw f ((j - 1) / 2) j) n ((j - 1) / 2) := by
  obtain ⟨h1, h2⟩ := h
  generalize hp : (j - 1) / 2 = p at *
  have hpj : p < j := by omega
  have hf := le_of_lt hl
  refine ⟨fun k k0 k1 kp => ?_, fun k k0 k1 kp p0 => ?_⟩
  · by_cases kj : k = j
    · subst kj; rw [hp, sw_left, sw_right]; exact hf
    · rw [sw_other f kp kj]
      by_cases a1 : (k - 1) / 2 = j
      · rw [a1, sw_right]
        have := h2 k k0 k1 a1 hj
        exact this
      · by_cases a2 : (k - 1) / 2 = p
        · rw [a2, sw_left]; have := h1 k k0 k1 kj; rw [a2] at this; exact le_trans hf this
        · rw [sw_other f a2 a1]; exact h1 k k0 k1 kj
  · rw [sw_other f (by omega : (p - 1) / 2 ≠ p) (by omega)]
    have hpp := h1 p p0 (by omega) (by omega)
    by_cases kj : k = j
    · subst kj; rw [sw_right]; exact hpp
    · rw [sw_other f (by omega) kj]
      have := h1 k k0 k1 kj
      rw [kp] at this
      exact le_trans hpp this
theorem up_end {f : Nat → Tm} {n j : Nat} (h : UpAt f n j) (hl : j = 0 ∨ lt (f j) (f ((j - 1) / 2)) = false) : Heap f n := by
  intro k k0 k1
  by_cases e : k = j
  · subst e
    rcases hl with h0 | hl
    · omega
    · exact hl
  · exact h.1 k k0 k1 e

/-- down: one step, to the one below that is the least -/
theorem down_step {f : Nat → Tm} {n i0 i j : Nat} (h : DownAt f n i0 i) (hi : i0 ≤ i) (hj : j = 2 * i + 1 ∨ j = 2 * i + 2) (hn : j < n) (hl : lt (f j) (f i) = true)
    (ho : ∀ k, k = 2 * i + 1 ∨ k = 2 * i + 2 → k < n → le (f j) (f k)) : DownAt (sw f i j) n i0 j := by
  obtain ⟨h1, h2⟩ := h
  have hij : i < j := by omega
  have hf := le_of_lt hl
  refine ⟨fun k k0 k1 _ kp => ?_, fun k k0 k1 kp j0 => ?_⟩
  · by_cases kj : k = j
    · subst kj
      rw [show (k - 1) / 2 = i by omega, sw_left, sw_right]; exact hf
    · by_cases ki : k = i
      · subst ki
        rw [sw_left, sw_other f (by omega) (by omega)]
        exact h2 j (by omega) hn (by omega) k0
      · rw [sw_other f ki kj]
        by_cases a1 : (k - 1) / 2 = i
        · rw [a1, sw_left]; exact ho k (by omega) k1
        · rw [sw_other f a1 kp]
          exact h1 k k0 k1 (by omega) a1
  · rw [show (j - 1) / 2 = i by omega, sw_left, sw_other f (by omega) (by omega)]
    have := h1 k k0 k1 (by omega) (by omega)
    rw [kp] at this
    exact this
/-- down: the end -/
theorem down_end {f : Nat → Tm} {n i0 i : Nat} (h : DownAt f n i0 i) (ho : ∀ k, k = 2 * i + 1 ∨ k = 2 * i + 2 → k < n → le (f i) (f k)) : UpAt f n i0 ∧ (i ≠ i0 → Heap f n) := by
  obtain ⟨h1, h2⟩ := h
  have all : ∀ k, 0 < k → k < n → (k ≠ i0 ∨ i ≠ i0) → le (f ((k - 1) / 2)) (f k) := fun k k0 k1 hk => by
    by_cases e : (k - 1) / 2 = i
    · rw [e]; exact ho k (by omega) k1
    · exact h1 k k0 k1 hk e
  refine ⟨⟨fun k k0 k1 hk => all k k0 k1 (.inl hk), fun k k0 k1 kp p0 => ?_⟩, fun hne k k0 k1 => all k k0 k1 (.inr hne)⟩
  by_cases e : i = i0
  · subst e; exact h2 k k0 k1 kp p0
  · have a := all i0 p0 (by omega) (.inr e)
    have b := all k k0 k1 (.inr e)
    rw [kp] at b
    exact le_trans a b
/-- the first one is the least -/
theorem heap_least {f : Nat → Tm} {n : Nat} (h : Heap f n) : ∀ k, k < n → le (f 0) (f k) := by
  intro k
  induction k using Nat.strongRecOn with
  | _ k ih =>
    intro hk
    by_cases e : k = 0
    · subst e; exact le_refl _
    · exact le_trans (ih ((k - 1) / 2) (by omega) (by omega)) (h k (by omega) hk)
/-- one put behind all -/
theorem heap_push {f : Nat → Tm} {n : Nat} (h : Heap f n) : UpAt f (n + 1) n := by
  refine ⟨fun k k0 k1 hk => h k k0 (by omega), fun k k0 k1 kp p0 => by omega⟩
/-- the last one at i, the one that was there behind all -/
theorem heap_hole {f : Nat → Tm} {n i : Nat} (h : Heap f (n + 1)) (hi : i < n) : DownAt (sw f i n) n i i := by
  refine ⟨fun k k0 k1 hk kp => ?_, fun k k0 k1 kp p0 => ?_⟩
  · rw [sw_other f (by omega) (by omega), sw_other f (by omega) (by omega)]
    exact h k k0 (by omega)
  · rw [sw_other f (by omega) (by omega), sw_other f (by omega) (by omega)]
    have a := h i p0 (by omega)
    have b := h k k0 (by omega)
    rw [kp] at b
    exact le_trans a b
theorem heap_shrink {f : Nat → Tm} {n m : Nat} (h : Heap f n) (hm : m ≤ n) : Heap f m := fun k k0 k1 => h k k0 (by omega)
theorem down_of_zero {f : Nat → Tm} {n : Nat} (h : UpAt f n 0) : Heap f n := up_end h (.inl rfl)
end Tmr
end Go.Proofs.Ytjncogjafljbiaa
