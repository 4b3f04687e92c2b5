/-
  Lists in memory: a slice that reads as a list, whatever its elements are; one of the call's own; append, the head and the tail of one.
  A statement that draws its order and makes memory: each of its first n operations yields, in whatever world it comes up, a value of which its own Ψ holds, and leaves what was there as it was; what stands behind them comes in the order of the text. Walked once.
  Two statements that draw their order, whatever their elements are: 'm = append(append([]T{}, m...), x)' and 'm = append(append([]T{}, m[:i]...), m[i+1:]...)'.
-/
import Derived.Test.YtomdgeenmmgmaaaSmall
import Derived.Maps.AppendAt
import Derived.Laws.AppendOwnNone
import Derived.Laws.OwnMore
import Derived.IntWalk
import Derived.StillTail
import Derived.Deep.Quiet
namespace Go.Proofs.Ytomdgeenmmgmaaa
open Go.RowKit Go.ChangeShapes

/-- a kind of elements: the slice's type, the element's, how many cells it has, its bytes, its zero, its cells -/
structure Kind (α : Type) where
  t : TypeId
  e : TypeId
  k : Nat
  bytes : Nat
  zero : Value
  cl : α → List Value

/-- what must be known of it -/
structure Kind.Ok {α : Type} (K : Kind α) : Prop where
  under : Try.prog.underlying K.t = some (.slice K.e)
  elem : Try.prog.elem K.t = K.e
  info : (Try.prog.info? K.e).map (fun i => (i.zero, i.size, i.bytes)) = some (some K.zero, K.k, K.bytes)
  zs : K.zero.cells.size = K.k
  pos : 0 < K.k
  len : ∀ x, (K.cl x).length = K.k
  one : ∀ x u, u ∈ K.cl x → u.oneCell' = true
  small : K.bytes ≤ 1024

namespace Sl
open Small
set_option linter.unusedVariables false
variable {α : Type} {K : Kind α}

/-- all cells, one behind the other -/
abbrev flat (K : Kind α) (l : List α) : List Value := l.flatMap K.cl
theorem flat_len (O : K.Ok) (l : List α) : (flat K l).length = l.length * K.k := by
  induction l with
  | nil => simp [flat]
  | cons x l ih => simp only [flat, List.flatMap_cons, List.length_append, O.len, List.length_cons] at ih ⊢; rw [ih, Nat.add_mul]; omega
theorem flat_at (O : K.Ok) {l : List α} {i : Nat} {x : α} (h : l[i]? = some x) {j : Nat} {u : Value} (hj : (K.cl x)[j]? = some u) : (flat K l)[i * K.k + j]? = some u := by
  induction l generalizing i with
  | nil => simp at h
  | cons y l ih =>
    cases i with
    | zero =>
      simp at h
      subst h
      have hl : j < (K.cl y).length := (List.getElem?_eq_some_iff.1 hj).1
      simp only [flat, List.flatMap_cons, Nat.zero_mul, Nat.zero_add]
      rw [List.getElem?_append_left hl]
      exact hj
    | succ i =>
      simp at h
      have := ih h
      simp only [flat, List.flatMap_cons]
      rw [List.getElem?_append_right (by rw [O.len, Nat.add_mul]; omega), O.len, show (i + 1) * K.k + j - K.k = i * K.k + j by rw [Nat.add_mul]; omega]
      exact this
theorem flat_take (O : K.Ok) (l : List α) (m : Nat) : flat K (l.take m) = (flat K l).take (m * K.k) := by
  induction l generalizing m with
  | nil => simp [flat]
  | cons x l ih =>
    cases m with
    | zero => simp [flat]
    | succ m =>
      simp only [flat, List.take_succ_cons, List.flatMap_cons] at ih ⊢
      rw [ih, List.take_append, O.len, List.take_of_length_le (l := K.cl x) (by rw [O.len, Nat.add_mul]; omega), show (m + 1) * K.k - K.k = m * K.k by rw [Nat.add_mul]; omega]
theorem flat_drop (O : K.Ok) (l : List α) (m : Nat) : flat K (l.drop m) = (flat K l).drop (m * K.k) := by
  induction l generalizing m with
  | nil => simp [flat]
  | cons x l ih =>
    cases m with
    | zero => simp [flat]
    | succ m =>
      simp only [flat, List.drop_succ_cons, List.flatMap_cons] at ih ⊢
      rw [ih, List.drop_append, O.len, List.drop_of_length_le (l := K.cl x) (by rw [O.len, Nat.add_mul]; omega), show (m + 1) * K.k - K.k = m * K.k by rw [Nat.add_mul]; omega]
      simp
theorem flat_one (O : K.Ok) {l : List α} {u : Value} (h : u ∈ flat K l) : u.oneCell' = true := by
  obtain ⟨x, _, hx⟩ := List.mem_flatMap.1 h
  exact O.one x u hx

/-- a slice that reads as the list l; its cells lie in block b -/
def Is (K : Kind α) (w : World) (v : Value) (l : List α) (b : Nat) : Prop :=
  (v = .slice none 0 0 ∧ l = []) ∨ ∃ off cap, v = .slice (some ⟨b, off, none⟩) l.length cap ∧ l.length ≤ cap ∧ cap ≤ maxLen ∧ b < w.heap.size ∧ ∀ j u, (flat K l)[j]? = some u → w.cell? ⟨b, off + j, none⟩ = some u
/-- one of the call's own, its blocks from base on -/
def Own (K : Kind α) (base : Nat) (w : World) (v : Value) (l : List α) : Prop := w.ownsRow base K.e K.k v l.length (flat K l)

section
variable {w w' : World} {v : Value} {l l2 : List α} {b base : Nat}
theorem Is.nil (K : Kind α) (w : World) (b : Nat) : Is K w (.slice none 0 0) [] b := .inl ⟨rfl, rfl⟩
theorem Is.len (h : Is K w v l b) : ∃ a cap, v = .slice a l.length cap := by
  rcases h with ⟨rfl, rfl⟩ | ⟨off, cap, rfl, _⟩
  · exact ⟨none, 0, rfl⟩
  · exact ⟨_, _, rfl⟩
theorem Is.keep (h : Is K w v l b) (k : w'.heap[b]? = w.heap[b]?) (s : w.heap.size ≤ w'.heap.size) : Is K w' v l b := by
  rcases h with h | ⟨off, cap, h1, h2, h3, h4, h5⟩
  · exact .inl h
  · exact .inr ⟨off, cap, h1, h2, h3, by omega, fun j u hj => (World.cell?_of_block (w := w) (w' := w') (a := ⟨b, off + j, none⟩) k).trans (h5 j u hj)⟩
theorem Is.next (h : Is K w v l b) (k : Below w.heap.size w w') : Is K w' v l b := by
  rcases h with h | ⟨off, cap, h1, h2, h3, h4, h5⟩
  · exact .inl h
  · exact Is.keep (.inr ⟨off, cap, h1, h2, h3, h4, h5⟩) (k.block b h4) k.size
theorem Is.some_ (O : K.Ok) (h : Is K w v l b) (h0 : 0 < l.length) : ∃ off cap, v = .slice (some ⟨b, off, none⟩) l.length cap ∧ l.length ≤ cap ∧ cap ≤ maxLen ∧ b < w.heap.size ∧ ∀ i x, l[i]? = some x → ∀ j u, (K.cl x)[j]? = some u → w.cell? ⟨b, off + (i * K.k + j), none⟩ = some u := by
  rcases h with ⟨_, rfl⟩ | ⟨off, cap, h1, h2, h3, h4, h5⟩
  · simp at h0
  · exact ⟨off, cap, h1, h2, h3, h4, fun i x hi j u hj => h5 _ u (flat_at O hi hj)⟩

theorem Own.next (h : Own K base w v l) (k : Below w.heap.size w w') : Own K base w' v l := by
  refine ⟨h.1, ?_⟩
  rcases h.2 with h | ⟨g, cap, cur, h1, h2, h3, h4⟩
  · exact .inl h
  · exact .inr ⟨g, cap, cur, h1, h2, (k.block g (Nat.lt_of_not_le fun q => by rw [Array.getElem?_eq_none q] at h3; cases h3)).trans h3, h4⟩
theorem Own.lt (h : Own K base w v l) : ∀ g, v.ownBlock = some g → base ≤ g ∧ g < w.heap.size := fun g hg => World.ownsRow.lt h g hg
theorem Own.is (h : Own K base w v l) : ∃ b, base ≤ b ∧ Is K w v l b := by
  rcases h.2 with ⟨h1, h2⟩ | ⟨g, cap, cur, h1, h2, h3, h4, h5, h6, h7⟩
  · exact ⟨base, Nat.le_refl _, .inl ⟨h1, List.length_eq_zero_iff.1 h2⟩⟩
  · refine ⟨g, h2, .inr ⟨0, cap, h1, h4, h5, Nat.lt_of_not_le fun q => by (rw [Array.getElem?_eq_none q] at h3; cases h3), fun j u hj => ?_⟩⟩
    rw [Nat.zero_add, cell_of_row w g j cur K.e (0, 0) h3]
    rw [← h7, List.getElem?_take] at hj
    split at hj
    · simpa using hj
    · cases hj
theorem Own.nil (K : Kind α) (base : Nat) (w : World) : Own K base w (.slice none 0 0) [] := ⟨by simp, .inl ⟨rfl, rfl⟩⟩
/-- '[]T{}' -/
theorem Own.empty (h : w.heap[b]? = some (.cells #[] K.e (0, 0))) (hb : base ≤ b) : Own K base w (.slice (some ⟨b, 0, none⟩) 0 0) [] :=
  ⟨by simp, .inr ⟨b, 0, #[], rfl, hb, h, Nat.le_refl _, Nat.zero_le _, by simp, by simp⟩⟩
/-- '[]T{x}' -/
theorem Own.one (O : K.Ok) {x : α} (h : Lies w b K.e (K.cl x)) (hb : base ≤ b) : Own K base w (.slice (some ⟨b, 0, none⟩) 1 1) [x] :=
  ⟨by simp [flat, O.len], .inr ⟨b, 1, (K.cl x).toArray, rfl, hb, h, by simp, by unfold maxLen; omega, by simp [O.len], by simp [flat]; exact List.take_of_length_le (by rw [O.len]; exact Nat.le_refl _)⟩⟩
theorem Is.one (O : K.Ok) {x : α} (h : Lies w b K.e (K.cl x)) : Is K w (.slice (some ⟨b, 0, none⟩) 1 1) [x] b :=
  .inr ⟨0, 1, rfl, by simp, by unfold maxLen; omega, h.lt, fun j u hj => by rw [Nat.zero_add]; exact h.cell (by simpa [flat] using hj)⟩

theorem Own.move (h : Own K base w v l) (k : ∀ g, v.ownBlock = some g → w'.heap[g]? = w.heap[g]?) : Own K base w' v l := by
  refine ⟨h.1, ?_⟩
  rcases h.2 with h | ⟨g, cap, cur, h1, h2, h3, h4⟩
  · exact .inl h
  · exact .inr ⟨g, cap, cur, h1, h2, (k g (by rw [h1]; rfl)).trans h3, h4⟩

/-- append(v, x..) -/
theorem run_append (O : K.Ok) (ty : TypeId) {x : Value} {b2 : Nat} (h : Own K base w v l) (hx : Is K w x l2 b2) (hn : l.length + l2.length ≤ 1048576) (hb : base ≤ w.heap.size) :
    ∃ v' w', (Builtin.append_ #[K.t, K.t] ty #[v, x]).run Try.prog w = .ok v' w' ∧ Own K base w' v' (l ++ l2) ∧ w.grownBy w' v.ownBlock ∧ (v'.ownBlock = v.ownBlock ∨ v'.ownBlock = some w.heap.size) := by
  obtain ⟨i0, hi, hz0, hz1, hz2⟩ := info_parts O.info
  rcases hx with ⟨rfl, rfl⟩ | ⟨off, cap, rfl, h2, h3, h4, h5⟩
  · exact ⟨v, w, run_append_owned_none (P := Try.prog) (w := w) base K.t ty K.e i0 K.k O.under hi v _ _ h, by rw [List.append_nil]; exact h, ⟨rfl, rfl, rfl, Nat.le_refl _, fun _ _ _ => rfl⟩, .inl rfl⟩
  · have hsm := O.small
    obtain ⟨v', w', hr, q1, q2, _, q3⟩ := run_append_own_at (P := Try.prog) w base K.t ty K.e i0 K.zero K.k K.bytes O.under hi hz0 hz1 hz2 O.zs O.pos v _ _ h ⟨b2, off, none⟩ l2.length cap (flat K l2) (flat_len O l2)
      (fun j u hj => by rw [Addr.add_lit]; exact h5 j u hj) (fun u hu => flat_one O hu) (by unfold maxLen; omega) (Nat.le_trans (Nat.mul_le_mul hn hsm) (by decide)) hb
    exact ⟨v', w', hr, by unfold Own; rw [List.length_append, flat, List.flatMap_append]; exact q1, q2, q3⟩
/-- append([]T{}, x..): nothing that was there turns -/
theorem run_append_empty (O : K.Ok) (ty : TypeId) {x : Value} {b2 : Nat} (h : w.heap[b]? = some (.cells #[] K.e (0, 0))) (hb : base ≤ b) (hx : Is K w x l2 b2) (hn : l2.length ≤ 1048576) (hb2 : base ≤ w.heap.size) :
    ∃ v' w', (Builtin.append_ #[K.t, K.t] ty #[.slice (some ⟨b, 0, none⟩) 0 0, x]).run Try.prog w = .ok v' w' ∧ Own K base w' v' l2 ∧ Below w.heap.size w w' := by
  obtain ⟨i0, hi, hz0, hz1, hz2⟩ := info_parts O.info
  have he := Own.empty (K := K) h hb
  rcases hx with ⟨rfl, rfl⟩ | ⟨off, cap, rfl, h2, h3, h4, h5⟩
  · exact ⟨_, w, run_append_owned_none (P := Try.prog) (w := w) base K.t ty K.e i0 K.k O.under hi _ _ _ he, he, Below.refl _ _⟩
  · have hsm := O.small
    by_cases h0 : l2.length = 0
    · have e := List.length_eq_zero_iff.1 h0
      subst e
      refine ⟨.slice (some ⟨b, 0, none⟩) 0 0, w, ?_, he, Below.refl _ _⟩
      have hf := run_firstCells_some (P := Try.prog) w i0.size 0 ⟨b2, off, none⟩ 0 cap [] (by simp) (by simp)
      simp [Builtin.append_, run_underlying O.under, sizeOf, typeInfo, hi, Builtin.lenOf, hf, storeCells, Result.andThen]
    · have hr := run_append_grow (P := Try.prog) w K.t ty K.e i0 K.zero O.under hi hz0 ⟨b, 0, none⟩ 0 0 [] (by simp) (by simp) ⟨b2, off, none⟩ l2.length cap (flat K l2) (by rw [hz1]; exact flat_len O l2)
        (fun j u hj => by rw [Addr.add_lit]; exact h5 j u hj) (by omega) (by omega) (by
          rw [hz2]
          exact growslice_fits (by omega) (Nat.le_trans (Nat.mul_le_mul (show 0 + l2.length ≤ 1048576 by omega) hsm) (by decide)))
      obtain ⟨v', w', hr2, q1, _⟩ := run_append (w := w) O ty he (.inr ⟨off, cap, rfl, h2, h3, h4, h5⟩) (by simpa using hn) hb2
      have hr3 := hr2
      rw [hr] at hr3
      refine ⟨v', w', hr2, q1, ?_⟩
      obtain ⟨_, rfl⟩ := Result.ok.inj hr3
      exact (Below.refl _ _).drew.alloc (Nat.le_refl _) _

/-- v[:m] -/
theorem run_take (O : K.Ok) (h : Is K w v l b) {m : Nat} (hm : m ≤ l.length) :
    ∃ v', (∀ w1, (Instr.slice K.t v none (some (.int .i64 m)) none).run Try.prog w1 = .ok v' w1) ∧ Is K w v' (l.take m) b := by
  obtain ⟨i0, hi, hz0, hz1, hz2⟩ := info_parts O.info
  rcases h with ⟨rfl, rfl⟩ | ⟨off, cap, rfl, h2, h3, h4, h5⟩
  · obtain rfl : m = 0 := by simpa using hm
    refine ⟨.slice none 0 0, fun w1 => ?_, .inl ⟨rfl, rfl⟩⟩
    rw [run_slice_h w1 K.t none 0 0 (by rw [O.elem]; exact O.under) .i64 _ (by omega) (by omega)]
    simp [O.elem, sizeOf, typeInfo, hi, sliced, Result.andThen]
  · refine ⟨.slice (some ⟨b, off, none⟩) m cap, fun w1 => ?_, .inr ⟨off, cap, by rw [List.length_take, Nat.min_eq_left hm], by rw [List.length_take]; omega, h3, h4, fun j u hj => h5 j u ?_⟩⟩
    · rw [run_slice_h w1 K.t (some ⟨b, off, none⟩) l.length cap (by rw [O.elem]; exact O.under) .i64 _ (by omega) (by omega)]
      simp [O.elem, sizeOf, typeInfo, hi, sliced, Result.andThen, Addr.add]
    · rw [flat_take O, List.getElem?_take] at hj
      split at hj
      · exact hj
      · cases hj
/-- v[m:] -/
theorem run_drop (O : K.Ok) (h : Is K w v l b) {m : Nat} (hm : m ≤ l.length) :
    ∃ v', (∀ w1, (Instr.slice K.t v (some (.int .i64 m)) none none).run Try.prog w1 = .ok v' w1) ∧ Is K w v' (l.drop m) b := by
  obtain ⟨i0, hi, hz0, hz1, hz2⟩ := info_parts O.info
  rcases h with ⟨rfl, rfl⟩ | ⟨off, cap, rfl, h2, h3, h4, h5⟩
  · obtain rfl : m = 0 := by simpa using hm
    refine ⟨.slice none 0 0, fun w1 => ?_, .inl ⟨rfl, rfl⟩⟩
    rw [run_slice_l w1 K.t none 0 0 (by rw [O.elem]; exact O.under) .i64 _ (by omega) (by omega)]
    simp [O.elem, sizeOf, typeInfo, hi, sliced, Result.andThen]
  · refine ⟨.slice (some ⟨b, if cap = m then off else off + m * K.k, none⟩) (l.length - m) (cap - m), fun w1 => ?_, .inr ⟨if cap = m then off else off + m * K.k, cap - m, by rw [List.length_drop], by rw [List.length_drop]; omega, by omega, h4, fun j u hj => ?_⟩⟩
    · rw [run_slice_l w1 K.t (some ⟨b, off, none⟩) l.length cap (by rw [O.elem]; exact O.under) .i64 _ (by omega) (by omega)]
      simp [O.elem, sizeOf, typeInfo, hi, sliced, Result.andThen, hz1]
      split
      · rfl
      · simp [Addr.add_lit]
    · rw [flat_drop O, List.getElem?_drop] at hj
      split
      · have hl : m * K.k + j < (flat K l).length := (List.getElem?_eq_some_iff.1 hj).1
        rw [flat_len O] at hl
        have : l.length * K.k ≤ m * K.k := Nat.mul_le_mul_right _ (by omega)
        omega
      · rw [Nat.add_assoc]; exact h5 _ u hj
end

/-! ### at an operation -/
section
variable {w : World} {o : Oper} {a : Act} {Kc : Act → World → Prop} {Q : Exit → Act → World → Prop} {l l2 : List α} {b b2 base : Nat}
theorem wp_append (O : K.Ok) (s x : Operand) (hop : o.op = Op.call { callee := Callee.builtin Builtin.append, args := #[s, x], argTypes := #[K.t, K.t] })
    (h : Own K base w (a.eval s) l) (hx : Is K w (a.eval x) l2 b2) (hn : l.length + l2.length ≤ 1048576) (hb : base ≤ w.heap.size)
    (hK : ∀ v' w', Own K base w' v' (l ++ l2) → w.grownBy w' (a.eval s).ownBlock → (v'.ownBlock = (a.eval s).ownBlock ∨ v'.ownBlock = some w.heap.size) → Kc (a.put o.dst v') w') : o.wp Try.prog a w Kc Q := by
  obtain ⟨v', w', hr, q1, q2, q3⟩ := run_append O o.type h hx hn hb
  unfold Oper.wp
  simp [execOp, hop, resolve, invoke, builtin, hr, Result.andThen]
  exact hK v' w' q1 q2 q3
theorem wp_append_empty (O : K.Ok) (s x : Operand) (hop : o.op = Op.call { callee := Callee.builtin Builtin.append, args := #[s, x], argTypes := #[K.t, K.t] })
    (hs : a.eval s = .slice (some ⟨b, 0, none⟩) 0 0) (h : w.heap[b]? = some (.cells #[] K.e (0, 0))) (hb : base ≤ b) (hx : Is K w (a.eval x) l2 b2) (hn : l2.length ≤ 1048576) (hb2 : base ≤ w.heap.size)
    (hK : ∀ v' w', Own K base w' v' l2 → Below w.heap.size w w' → Kc (a.put o.dst v') w') : o.wp Try.prog a w Kc Q := by
  obtain ⟨v', w', hr, q1, q2⟩ := run_append_empty O o.type h hb hx hn hb2
  unfold Oper.wp
  simp [execOp, hop, resolve, invoke, builtin, hs, hr, Result.andThen]
  exact hK v' w' q1 q2
theorem wp_take (O : K.Ok) (s hi : Operand) (hop : o.op = Op.slice K.t s none (some hi) none) {m : Nat} (h : Is K w (a.eval s) l b) (hh : a.eval hi = .int .i64 m) (hm : m ≤ l.length)
    (hK : ∀ v', Is K w v' (l.take m) b → Kc (a.put o.dst v') w) : o.wp Try.prog a w Kc Q := by
  obtain ⟨v', hr, q⟩ := run_take O h hm
  obtain ⟨A, cap, hv⟩ := h.len
  unfold Oper.wp
  have hr' := hr w
  rw [hv] at hr'
  have hu : Try.prog.underlying K.t = some (.slice (Try.prog.elem K.t)) := by rw [O.elem]; exact O.under
  simp [execOp, hop, hh, hv, run_sliceAt_slice w K.t _ _ _ _ hu, hr', Result.andThen]
  exact hK v' q
theorem wp_drop (O : K.Ok) (s lo : Operand) (hop : o.op = Op.slice K.t s (some lo) none none) {m : Nat} (h : Is K w (a.eval s) l b) (hh : a.eval lo = .int .i64 m) (hm : m ≤ l.length)
    (hK : ∀ v', Is K w v' (l.drop m) b → Kc (a.put o.dst v') w) : o.wp Try.prog a w Kc Q := by
  obtain ⟨v', hr, q⟩ := run_drop O h hm
  obtain ⟨A, cap, hv⟩ := h.len
  unfold Oper.wp
  have hr' := hr w
  rw [hv] at hr'
  have hu : Try.prog.underlying K.t = some (.slice (Try.prog.elem K.t)) := by rw [O.elem]; exact O.under
  simp [execOp, hop, hh, hv, run_sliceAt_slice w K.t _ _ _ _ hu, hr', Result.andThen]
  exact hK v' q
theorem wp_lit0 (O : K.Ok) (hop : o.op = Op.buildSlice K.t 0 #[]) (hK : Kc (a.put o.dst (.slice (some ⟨w.heap.size, 0, none⟩) 0 0)) (w.alloc (.cells #[] K.e))) : o.wp Try.prog a w Kc Q := by
  obtain ⟨i0, hi, hz0, hz1, hz2⟩ := info_parts O.info
  have he : Array.map (fun _ => (default : Value)) (Array.range 0) = #[] := by simp
  unfold Oper.wp
  simp [execOp, hop, Instr.buildSlice, run_underlying O.under, Result.andThen, hi, sizeOf, typeInfo, Instr.fill, newRow]
  rw [he]
  exact hK
theorem wp_move (x : Operand) (hop : o.op = Op.move x) (hK : Kc (a.put o.dst (a.eval x)) w) : o.wp Try.prog a w Kc Q := by
  unfold Oper.wp
  simp [execOp, hop]
  exact hK
theorem wp_lit1 (x : Operand) (y : α) {v : Value} (hop : o.op = Op.buildSlice K.t 1 #[(0, x)]) (hx : a.eval x = v)
    (hr : (Instr.buildSlice K.t 1 #[(0, v)]).run Try.prog w = .ok (.slice (some ⟨w.heap.size, 0, none⟩) 1 1) (w.alloc (.cells (K.cl y).toArray K.e)))
    (hK : Kc (a.put o.dst (.slice (some ⟨w.heap.size, 0, none⟩) 1 1)) (w.alloc (.cells (K.cl y).toArray K.e))) : o.wp Try.prog a w Kc Q := by
  unfold Oper.wp
  simp [execOp, hop, hx, hr, Result.andThen]
  exact hK
theorem wp_succ (x : Operand) {k : Nat} (hop : o.op = Op.binOp BinOp.add 3 x (.const (.int .i64 1)) 3) (hx : a.eval x = .int .i64 k) (hk : k ≤ 1048576) (hK : Kc (a.put o.dst (.int .i64 ((k + 1 : Nat) : Int))) w) : o.wp Try.prog a w Kc Q := by
  have t1 : IntKind.i64.wrap ((k : Int) + 1) = (k : Int) + 1 := IntWalk.i64_in _ (by omega)
  have hr : (execOp a.eval o).run Try.prog w = .ok (.value (.int .i64 ((k + 1 : Nat) : Int))) w := by
    have h1 : a.eval (.const (.int .i64 1)) = .int .i64 1 := rfl
    generalize a.eval = ev at hx h1
    simp [execOp, hop, hx, h1, go_sem, t1]
  unfold Oper.wp
  rw [hr]
  exact hK
end
end Sl
end Go.Proofs.Ytomdgeenmmgmaaa

namespace Go.Proofs.Ytomdgeenmmgmaaa
open Go.RowKit

namespace Rel
section
variable {P : Program} {ops : Array Oper} {md : Region.Mode} {n : Nat}

def dstOf (ops : Array Oper) (k : Nat) : Option Tmp := (ops[k]?).bind (·.dst)
/-- the operations that have come ahead of k, whatever is drawn -/
def deps (ops : Array Oper) (k : Nat) : List Nat := ((ops[k]?).map (fun o => (o.after.toList.filter (Region.binds .any ·)).map (·.on))).getD []
def doneArr (N n : Nat) : Array Bool := Array.replicate n true ++ Array.replicate (N - n) false

/-- what a program reckons of such a statement -/
def fitB (ops : Array Oper) (n N : Nat) : Bool :=
  decide (n < ops.size) && Region.sinkB .any ops n && Region.chainB .any ops n && Region.seqB .any ops (ops.size - n) n (doneArr ops.size n) &&
    (List.range n).all (fun k => match ops[k]? with | none => false | some o => o.guard.isNone && (match o.dst with | none => false | some t => decide (t < N)) && (o.after.all fun e => !Region.binds .any e || decide (e.on < k))) &&
    (List.range n).all (fun k => (List.range n).all fun j => decide (k = j) || decide (dstOf ops k ≠ dstOf ops j))

structure Fit (ops : Array Oper) (n N : Nat) : Prop where
  lt : n < ops.size
  sink : Region.sinkB .any ops n = true
  chain : Region.chainB .any ops n = true
  seq : Region.seqB .any ops (ops.size - n) n (doneArr ops.size n) = true
  each : ∀ k, k < n → ∃ o t, ops[k]? = some o ∧ o.guard = none ∧ o.dst = some t ∧ t < N ∧ ∀ e ∈ o.after, Region.binds .any e = true → e.on < k
  apart : ∀ k j, k < n → j < n → k ≠ j → dstOf ops k ≠ dstOf ops j

theorem fit_of {N : Nat} (h : fitB ops n N = true) : Fit ops n N := by
  simp only [fitB, Bool.and_eq_true, decide_eq_true_eq, List.all_eq_true, List.mem_range] at h
  obtain ⟨⟨⟨⟨⟨h1, h2⟩, h3⟩, h4⟩, h5⟩, h6⟩ := h
  refine ⟨h1, h2, h3, h4, fun k hk => ?_, fun k j hk hj hne => ?_⟩
  · have := h5 k hk
    cases ho : ops[k]? with
    | none => rw [ho] at this; cases this
    | some o =>
      rw [ho] at this
      simp only [Bool.and_eq_true, Option.isNone_iff_eq_none] at this
      obtain ⟨⟨a, b⟩, c⟩ := this
      cases hd : o.dst with
      | none => rw [hd] at b; cases b
      | some t =>
        rw [hd] at b
        simp only [decide_eq_true_eq] at b
        refine ⟨o, t, rfl, a, hd, b, fun e he hb => ?_⟩
        have := Array.all_eq_true_iff_forall_mem.1 c e he
        simpa [hb] using this
  · have := h6 k hk j hj
    simp only [Bool.or_eq_true, decide_eq_true_eq] at this
    rcases this with q | q
    · exact absurd q hne
    · exact q

/-- the state in the midst of it -/
structure Inv (ops : Array Oper) (n : Nat) (a0 : Act) (w0 : World) (Ψ : Nat → Value → World → Prop) (s : Array Bool) (a : Act) (w : World) : Prop where
  head : HeadInv .any ops n s
  defers : a.defers = a0.defers
  size : a.tmps.size = a0.tmps.size
  others : ∀ t, (∀ k, k < n → s.getD k false = true → dstOf ops k ≠ some t) → a.tmps.getD t undef = a0.tmps.getD t undef
  vals : ∀ k, k < n → s.getD k false = true → ∀ t, dstOf ops k = some t → Ψ k (a.tmps.getD t undef) w
  below : Below w0.heap.size w0 w

/-- one operation does what is said of it -/
def Step (P : Program) (ops : Array Oper) (n : Nat) (a0 : Act) (w0 : World) (Q : Exit → Act → World → Prop) (Ψ : Nat → Value → World → Prop) (k : Nat) : Prop :=
  ∀ o, ops[k]? = some o → ∀ (a : Act) (w : World) (K : Act → World → Prop), a.defers = a0.defers →
    (∀ t, (∀ j, j < n → dstOf ops j ≠ some t) → a.tmps.getD t undef = a0.tmps.getD t undef) →
    (∀ j ∈ deps ops k, ∀ t, dstOf ops j = some t → Ψ j (a.tmps.getD t undef) w) → Below w0.heap.size w0 w →
    (∀ v w', Ψ k v w' → Below w.heap.size w w' → K (a.put o.dst v) w') → o.wp P a w K Q

def cnt (n : Nat) (s : Array Bool) : Nat := (List.range n).countP fun k => !s.getD k true
theorem count_one {p q : Nat → Bool} {i : Nat} (hp : p i = true) (hq : q i = false) (h : ∀ k, k ≠ i → q k = p k) : ∀ n, i < n → (List.range n).countP q + 1 = (List.range n).countP p := by
  have same : ∀ n, n ≤ i → (List.range n).countP q = (List.range n).countP p := fun n hn => by
    induction n with
    | zero => rfl
    | succ n ih => rw [List.range_succ, List.countP_append, List.countP_append, ih (by omega)]; simp [List.countP_cons, h n (by omega)]
  intro n
  induction n with
  | zero => intro h; omega
  | succ n ih =>
    intro hi
    rw [List.range_succ, List.countP_append, List.countP_append]
    by_cases e : i = n
    · subst e
      rw [same i (Nat.le_refl _)]
      simp [hp, hq]
    · have := ih (by omega)
      simp only [List.countP_cons, List.countP_nil, h n (by omega)]
      omega

theorem getD_true {s : Array Bool} {k : Nat} (hk : k < s.size) : s.getD k true = s.getD k false := by simp [hk]

def puts (ops : Array Oper) (a0 : Act) (f : Nat → Value) : Nat → Act
  | 0 => a0
  | k + 1 => (puts ops a0 f k).put (dstOf ops k) (f k)
theorem puts_zero (ops : Array Oper) (a0 : Act) (f : Nat → Value) : puts ops a0 f 0 = a0 := rfl
theorem put_get {a : Act} {d t : Tmp} {v : Value} : (a.put (some d) v).tmps.getD t undef = if d = t ∧ t < a.tmps.size then v else a.tmps.getD t undef := by
  simp only [Act.put]
  by_cases h : d = t
  · subst h
    by_cases h2 : d < a.tmps.size
    · simp [h2]
    · simp [h2, Array.setIfInBounds]
  · have hn : ¬ (d = t ∧ t < a.tmps.size) := fun x => h x.1
    rw [if_neg hn]
    simp [Array.getD_eq_getD_getElem?, h]
theorem puts_size (ops : Array Oper) (a0 : Act) (f : Nat → Value) (n : Nat) : (puts ops a0 f n).tmps.size = a0.tmps.size ∧ (puts ops a0 f n).defers = a0.defers := by
  induction n with
  | zero => exact ⟨rfl, rfl⟩
  | succ n ih =>
    simp only [puts, Act.put]
    split
    · simpa using ih
    · exact ih
theorem puts_other {a0 : Act} {f : Nat → Value} {t : Tmp} : ∀ n, (∀ k, k < n → dstOf ops k ≠ some t) → (puts ops a0 f n).tmps.getD t undef = a0.tmps.getD t undef
  | 0, _ => rfl
  | n + 1, h => by
    have ih := puts_other (a0 := a0) (f := f) n (fun k hk => h k (by omega))
    rw [puts]
    have := h n (by omega)
    cases hd : dstOf ops n with
    | none => exact ih
    | some d =>
      rw [put_get, if_neg, ih]
      rintro ⟨rfl, _⟩
      exact this hd
theorem puts_at {a0 : Act} {f : Nat → Value} {t : Tmp} {k : Nat} (hk : dstOf ops k = some t) (ht : t < a0.tmps.size) : ∀ n, k < n → (∀ j, j < n → j ≠ k → dstOf ops j ≠ some t) → (puts ops a0 f n).tmps.getD t undef = f k
  | 0, h, _ => by omega
  | n + 1, h, ho => by
    rw [puts]
    by_cases e : k = n
    · subst e; rw [hk, put_get, if_pos ⟨rfl, by rw [(puts_size ops a0 f k).1]; exact ht⟩]
    · have ih := puts_at (f := f) hk ht n (by omega) (fun j hj hne => ho j (by omega) hne)
      have := ho n (by omega) (fun x => e x.symm)
      cases hd : dstOf ops n with
      | none => exact ih
      | some d =>
        rw [put_get, if_neg, ih]
        rintro ⟨rfl, _⟩
        exact this hd

theorem act_ext {a b : Act} (h1 : a.defers = b.defers) (h2 : a.tmps.size = b.tmps.size) (h3 : ∀ t, a.tmps.getD t undef = b.tmps.getD t undef) : a = b := by
  obtain ⟨ta, da⟩ := a
  obtain ⟨tb, db⟩ := b
  simp only at h1 h2 h3
  subst h1
  congr 1
  refine Array.ext h2 fun i hi hi' => ?_
  have := h3 i
  simpa [hi, hi'] using this

theorem rel_any {a0 : Act} {w0 : World} {Q : Exit → Act → World → Prop} {Ψ : Nat → Value → World → Prop} {N : Nat} (F : Fit ops n N) (hN : a0.tmps.size = N)
    (mono : ∀ k v w w', Ψ k v w → Below w.heap.size w w' → Ψ k v w') (step : ∀ k, k < n → Step P ops n a0 w0 Q Ψ k)
    (tail : ∀ f w, (∀ k, k < n → Ψ k (f k) w) → Below w0.heap.size w0 w → wpAny P .any ops Q (ops.size - n) (doneArr ops.size n) (puts ops a0 f n) w) :
    ∀ (c : Nat) (s : Array Bool) (a : Act) (w : World), Inv ops n a0 w0 Ψ s a w → cnt n s = c → wpAny P .any ops Q (c + (ops.size - n)) s a w := by
  intro c
  induction c with
  | zero =>
    intro s a w I hc
    rw [Nat.zero_add]
    have all : ∀ k, k < n → s.getD k true = true := fun k hk => by
      simp only [cnt, List.countP_eq_zero, List.mem_range] at hc
      simpa using hc k hk
    have allf : ∀ k, k < n → s.getD k false = true := fun k hk => by rw [← getD_true (by rw [I.head.size]; have := F.lt; omega)]; exact all k hk
    have hs : s = doneArr ops.size n := by
      have hz : (doneArr ops.size n).size = ops.size := by simp [doneArr]; have := F.lt; omega
      refine Array.ext (I.head.size.trans hz.symm) fun i hi hi' => ?_
      by_cases h : i < n
      · have := all i h
        simp only [Array.getD_eq_getD_getElem?, Array.getElem?_eq_getElem hi, Option.getD_some] at this
        rw [this]
        simp [doneArr, h]
      · have := I.head.tail i (by omega) (by rw [← I.head.size]; exact hi)
        simp only [Array.getD_eq_getD_getElem?, Array.getElem?_eq_getElem hi, Option.getD_some] at this
        rw [this]
        simp [doneArr, Array.getElem_append, h]
    have ha : a = puts ops a0 (fun k => a.tmps.getD ((dstOf ops k).getD 0) undef) n := by
      refine act_ext (I.defers.trans (puts_size ops a0 _ n).2.symm) (I.size.trans (puts_size ops a0 _ n).1.symm) fun t => ?_
      by_cases h : ∃ k, k < n ∧ dstOf ops k = some t
      · obtain ⟨k, hk, hd⟩ := h
        obtain ⟨o, t', ho, _, ho2, ht, _⟩ := F.each k hk
        have : t' = t := by
          have : dstOf ops k = some t' := by simp [dstOf, ho, ho2]
          rw [hd] at this
          exact (Option.some.inj this).symm
        subst this
        rw [puts_at hd (by rw [hN]; exact ht) n hk (fun j hj hne e => F.apart j k hj hk hne (e.trans hd.symm)), hd]
        rfl
      · rw [puts_other n (fun k hk e => h ⟨k, hk, e⟩)]
        exact I.others t (fun k hk _ e => h ⟨k, hk, e⟩)
    rw [hs, ha]
    refine tail _ _ (fun k hk => ?_) I.below
    obtain ⟨o, t, ho, _, hd, _, _⟩ := F.each k hk
    have hd' : dstOf ops k = some t := by simp [dstOf, ho, hd]
    rw [hd']
    exact I.vals k hk (allf k hk) t hd'
  | succ c ih =>
    intro s a w I hc
    have some_ : ∃ i, i < n ∧ s.getD i true = false := by
      have : 0 < (List.range n).countP fun k => !s.getD k true := by unfold cnt at hc; omega
      obtain ⟨i, hi, hs⟩ := List.countP_pos_iff.1 this
      exact ⟨i, by simpa using hi, by simpa using hs⟩
    rw [show c + 1 + (ops.size - n) = (c + (ops.size - n)) + 1 by omega]
    have bound : ∀ j ∈ Region.ready .any ops s, j < n := fun j hj => by
      obtain ⟨i, hi, hs⟩ := some_
      rcases Nat.lt_or_ge j n with h | h
      · exact h
      · exact absurd hj (tail_waits F.sink F.chain F.lt I.head _ i rfl hi hs j h)
    refine ⟨fun he => ?_, fun i hi => ?_⟩
    · exfalso
      have key : ∀ m, m < n → s.getD m true = false → False := fun m => by
        induction m using Nat.strongRecOn with
        | _ m ih =>
          intro hm hs
          obtain ⟨o, t, ho, _, _, _, hb⟩ := F.each m hm
          have : m ∈ Region.ready .any ops s := mem_ready.2 ⟨hs, o, ho, fun e he hbe => by
            have hlt := hb e he hbe
            cases hx : s.getD e.on false with
            | true => rfl
            | false => exact absurd (getD_in (by rw [I.head.size]; have := F.lt; omega) hx) (fun q => ih e.on hlt (by omega) q)⟩
          rw [he] at this
          cases this
      obtain ⟨i, hi, hs⟩ := some_
      exact key i hi hs
    · have hin := bound i hi
      obtain ⟨hun, o', ho', hall⟩ := mem_ready.1 hi
      obtain ⟨o, t, ho, hg, hd, ht, hb⟩ := F.each i hin
      obtain rfl : o = o' := by rw [ho] at ho'; exact Option.some.inj ho'
      have hd' : dstOf ops i = some t := by simp [dstOf, ho, hd]
      have hlt := F.lt
      have hdep : ∀ j ∈ deps ops i, j < i ∧ s.getD j false = true := fun j hj => by
        simp only [deps, ho, Option.map_some, Option.getD_some, List.mem_map, List.mem_filter] at hj
        obtain ⟨e, ⟨he, hbe⟩, rfl⟩ := hj
        have he' : e ∈ o.after := by simpa using he
        exact ⟨hb e he' hbe, hall e he' hbe⟩
      unfold wpOp
      simp only [ho]
      rw [if_pos (by simp [Region.wanted, hg])]
      refine .inl (step i hin o ho a w _ I.defers (fun t ht => I.others t (fun k hk _ => ht k hk)) (fun j hj t ht => I.vals j (by have := (hdep j hj).1; omega) (hdep j hj).2 t ht) I.below ?_)
      intro v w' hv hw
      rw [hd]
      have hset : ∀ k d, k ≠ i → (s.setIfInBounds i true).getD k d = s.getD k d := fun k d hk => by
        simp [Array.getD_eq_getD_getElem?, Ne.symm hk]
      have hseti : ∀ d, (s.setIfInBounds i true).getD i d = true := fun d => by
        simp [Array.getD_eq_getD_getElem?, show i < s.size by rw [I.head.size]; omega]
      refine ih _ _ _ ⟨I.head.set hi hin, I.defers, by simpa [Act.put] using I.size, fun u hu => ?_, fun k hk hk2 u hu => ?_, Below.next I.below hw⟩ ?_
      · have hne : t ≠ u := fun e => hu i hin (hseti _) (by rw [hd', e])
        rw [put_get, if_neg (fun x => hne x.1)]
        exact I.others u (fun k hk hs => by
          by_cases e : k = i
          · subst e; exact hu k hk (hseti _)
          · exact hu k hk (by rw [hset k _ e]; exact hs))
      · by_cases e : k = i
        · subst e
          obtain rfl : t = u := Option.some.inj (hd'.symm.trans hu)
          rw [put_get, if_pos ⟨rfl, by rw [I.size, hN]; exact ht⟩]
          exact hv
        · have hne : t ≠ u := fun q => F.apart k i hk hin e (by rw [hu, hd', q])
          rw [put_get, if_neg (fun x => hne x.1)]
          exact mono _ _ _ _ (I.vals k hk (by rw [hset k _ e] at hk2; exact hk2) u hu) hw
      · have := count_one (p := fun k => !s.getD k true) (q := fun k => !(s.setIfInBounds i true).getD k true) (i := i) (by simp [hun]) (by simp [hseti]) (fun k hk => by simp [hset k _ hk]) n hin
        unfold cnt at hc ⊢
        omega
theorem puts_eval {a : Act} {N : Nat} (F : Fit ops n N) (hN : a.tmps.size = N) {k : Nat} (hk : k < n) {t : Tmp} (ht : dstOf ops k = some t) (f : Nat → Value) : (puts ops a f n).eval (.tmp t) = f k := by
  obtain ⟨o, t', ho, _, hd, hlt, _⟩ := F.each k hk
  have h : dstOf ops k = some t' := by simp [dstOf, ho, hd]
  rw [ht] at h
  obtain rfl := Option.some.inj h
  exact puts_at ht (by rw [hN]; exact hlt) n hk (fun j hj hne e => F.apart j k hj hk hne (e.trans ht.symm))
end
end Rel

/-- a statement that draws its order and makes memory -/
theorem wp_region_rel {id : Nat} {Q : Exit → Act → World → Prop} {a : Act} {w : World} {l : List Oper} (n N : Nat) (Ψ : Nat → Value → World → Prop) (hm : Try.prog.follows .mixedOrders = true) (hN : a.tmps.size = N) (hB : Rel.fitB l.toArray n N = true)
    (mono : ∀ k v w w', Ψ k v w → Below w.heap.size w w' → Ψ k v w') (step : ∀ k, k < n → Rel.Step Try.prog l.toArray n a w Q Ψ k)
    (tail : ∀ f w', (∀ k, k < n → Ψ k (f k) w') → Below w.heap.size w w' → (∀ k, k < n → ∀ t, Rel.dstOf l.toArray k = some t → (Rel.puts l.toArray a f n).eval (.tmp t) = f k) → wpList Try.prog l.toArray Q (l.drop n) (Rel.puts l.toArray a f n) w') :
    (Code.region id l.toArray true).wp Try.prog Q a w := by
  have F := Rel.fit_of hB
  refine wp_region_any hm ?_
  have hlt : n < l.length := by simpa using F.lt
  have key := Rel.rel_any (P := Try.prog) (Q := Q) (a0 := a) (w0 := w) F hN mono step (fun f w' hv hb => by
    have := wpAny_of_seq (P := Try.prog) (md := .any) (Q' := Q) (l.drop n) n (Rel.doneArr l.toArray.size n) (Rel.puts l.toArray a f n) w' (fun j => by simp [List.getElem?_drop]) (by
      rw [show (l.drop n).length = l.toArray.size - n by simp]; exact F.seq) (tail f w' hv hb (fun k hk t ht => Rel.puts_eval F hN hk ht f))
    rwa [show (l.drop n).length = l.toArray.size - n by simp] at this)
  have h0 : ∀ k d, (Array.replicate l.toArray.size false).getD k d = if k < l.length then false else d := fun k d => by
    simp only [Array.getD_eq_getD_getElem?, Array.getElem?_replicate, List.size_toArray]
    split <;> rfl
  have hc : Rel.cnt n (Array.replicate l.toArray.size false) = n := by
    unfold Rel.cnt
    rw [List.countP_eq_length.2]
    · simp
    · intro k hk
      rw [h0, if_pos (by have := List.mem_range.1 hk; omega)]
      rfl
  have := key n (Array.replicate l.toArray.size false) a (World.drew w) ⟨⟨by simp, fun j q _ hl => (by rw [getD_replicate_false] at hl; cases hl), fun t _ h => getD_in (by simpa using h) (getD_replicate_false _ _)⟩, rfl, rfl, fun t _ => rfl,
    (fun k hk hs => (by rw [h0] at hs; exfalso; split at hs; exact Bool.noConfusion hs; exact Bool.noConfusion hs)), (Below.refl _ _).drew⟩ hc
  rwa [show n + (l.toArray.size - n) = l.toArray.size by have := F.lt; omega] at this
end Go.Proofs.Ytomdgeenmmgmaaa

namespace Go.Proofs.Ytomdgeenmmgmaaa
open Go.RowKit Go.ChangeShapes
set_option linter.unusedVariables false

/-- an element's value, loaded, and laid into a slice of its own -/
structure Kind.Val {α : Type} (K : Kind α) (v : α → Value) : Prop where
  load : ∀ (x : α) (w : World) (o : Oper) (a : Act) (Kc : Act → World → Prop) (Q : Exit → Act → World → Prop) (p : Operand) (b off : Nat), o.op = Op.load K.e p → a.eval p = .pointer (some ⟨b, off, none⟩) →
    (∀ j u, (K.cl x)[j]? = some u → w.cell? ⟨b, off + j, none⟩ = some u) → Kc (a.put o.dst (v x)) w → o.wp Try.prog a w Kc Q
  lit1 : ∀ (x : α) (w : World), (Instr.buildSlice K.t 1 #[(0, v x)]).run Try.prog w = .ok (.slice (some ⟨w.heap.size, 0, none⟩) 1 1) (w.alloc (.cells (K.cl x).toArray K.e))

namespace Reg
open Small
variable {α : Type} {K : Kind α} {v : α → Value}

abbrev app (K : Kind α) (x y : Tmp) : Op := Op.call { callee := Callee.builtin Builtin.append, args := #[.tmp x, .tmp y], argTypes := #[K.t, K.t] }
/-- operation k is p, and goes to t -/
abbrev Has (l : List Oper) (k : Nat) (p : Op) (t : Tmp) : Prop := (l[k]?).map (fun o => (o.op, o.dst)) = some (p, some t)
theorem Has.op {l : List Oper} {k : Nat} {p : Op} {t : Tmp} (h : Has l k p t) {o : Oper} (ho : l.toArray[k]? = some o) : o.op = p ∧ o.dst = some t := by
  have ho' : l[k]? = some o := by simpa using ho
  unfold Has at h
  rw [ho'] at h
  simpa using h
theorem Has.dst {l : List Oper} {k : Nat} {p : Op} {t : Tmp} (h : Has l k p t) : Rel.dstOf l.toArray k = some t := by
  unfold Has at h
  cases ho : l[k]? with
  | none => rw [ho] at h; cases h
  | some o =>
    rw [ho] at h
    simp at h
    simp [Rel.dstOf, ho, h.2]
/-- the operations ahead of the k-th are among others those of ds -/
abbrev After (l : List Oper) (k : Nat) (ds : List Nat) : Prop := ds.all (fun d => (Rel.deps l.toArray k).contains d) = true
theorem After.mem {l : List Oper} {k : Nat} {ds : List Nat} (h : After l k ds) {d : Nat} (hd : d ∈ ds) : d ∈ Rel.deps l.toArray k := by
  have := List.all_eq_true.1 h d hd
  simpa using this
/-- none of the first n goes to t -/
abbrev Free (l : List Oper) (n : Nat) (t : Tmp) : Prop := (List.range n).all (fun j => decide (Rel.dstOf l.toArray j ≠ some t)) = true
theorem Free.out {l : List Oper} {n : Nat} {t : Tmp} (h : Free l n t) : ∀ j, j < n → Rel.dstOf l.toArray j ≠ some t := fun j hj => by
  have := List.all_eq_true.1 h j (List.mem_range.2 hj)
  simpa using this
theorem drop_at {l : List Oper} {k : Nat} {p : Op} {t : Tmp} (h : Has l k p t) : ∃ o, l[k]? = some o ∧ o.op = p ∧ o.dst = some t ∧ l.drop k = o :: l.drop (k + 1) := by
  unfold Has at h
  cases ho : l[k]? with
  | none => rw [ho] at h; cases h
  | some o =>
    rw [ho] at h
    simp at h
    obtain ⟨h1, h2⟩ := List.getElem?_eq_some_iff.1 ho
    exact ⟨o, rfl, h.1, h.2, by rw [List.drop_eq_getElem_cons h1, h2]⟩
theorem block_lt {w : World} {b : Nat} {o : Obj} (h : w.heap[b]? = some o) : b < w.heap.size := Nat.lt_of_not_le fun q => by rw [Array.getElem?_eq_none q] at h; cases h

/-- what the parts of 'append(append([]T{}, m..), x)' yield -/
def Ap (K : Kind α) (v : α → Value) (base : Nat) (v0 : Value) (l : List α) (x : α) (k : Nat) (u : Value) (w : World) : Prop := match k with
  | 0 => ∃ b, u = .slice (some ⟨b, 0, none⟩) 0 0 ∧ w.heap[b]? = some (.cells #[] K.e (0, 0)) ∧ base ≤ b
  | 1 => u = v0
  | 2 => Sl.Own K base w u l
  | 3 => u = v x
  | 4 => ∃ b, u = .slice (some ⟨b, 0, none⟩) 1 1 ∧ Lies w b K.e (K.cl x)
  | _ => True
theorem Ap.mono {base : Nat} {v0 : Value} {l : List α} {x : α} : ∀ k u w w', Ap K v base v0 l x k u w → Below w.heap.size w w' → Ap K v base v0 l x k u w'
  | 0, u, w, w', ⟨b, h1, h2, h3⟩, k => ⟨b, h1, (k.block b (block_lt h2)).trans h2, h3⟩
  | 1, u, w, w', h, k => h
  | 2, u, w, w', h, k => Sl.Own.next (K := K) h k
  | 3, u, w, w', h, k => h
  | 4, u, w, w', ⟨b, h1, h2⟩, k => ⟨b, h1, h2.next k⟩
  | k + 5, u, w, w', h, _ => trivial

/-- m = append(append([]T{}, m...), x), up to the last append -/
theorem wp_ap (O : K.Ok) (V : K.Val v) {id : Nat} {Q : Exit → Act → World → Prop} {a : Act} {w : World} {l : List Oper} (sm sp s0 s1 s2 s3 s4 s5 N : Nat) (hm : Try.prog.follows .mixedOrders = true) (hN : a.tmps.size = N) (hB : Rel.fitB l.toArray 5 N = true)
    (h0 : Has l 0 (Op.buildSlice K.t 0 #[]) s0) (h1 : Has l 1 (Op.move (.tmp sm)) s1) (h2 : Has l 2 (app K s0 s1) s2) (h3 : Has l 3 (Op.load K.e (.tmp sp)) s3) (h4 : Has l 4 (Op.buildSlice K.t 1 #[(0, .tmp s3)]) s4)
    (h5 : Has l 5 (app K s2 s4) s5) (hg : (l[5]?).map (·.guard) = some none) (d2 : After l 2 [0, 1]) (d4 : After l 4 [3]) (fm : Free l 5 sm) (fp : Free l 5 sp)
    {L : List α} {x : α} {b pb po : Nat} (hL : Sl.Is K w (a.eval (.tmp sm)) L b) (hp : a.eval (.tmp sp) = .pointer (some ⟨pb, po, none⟩)) (hx : ∀ j u, (K.cl x)[j]? = some u → w.cell? ⟨pb, po + j, none⟩ = some u) (hn : L.length ≤ 100000)
    (tail : ∀ (f : Nat → Value) (u : Value) (w' : World), Sl.Own K w.heap.size w' u (L ++ [x]) → Below w.heap.size w w' →
      wpList Try.prog l.toArray Q (l.drop 6) ((((((a.put (some s0) (f 0)).put (some s1) (f 1)).put (some s2) (f 2)).put (some s3) (f 3)).put (some s4) (f 4)).put (some s5) u) w') : (Code.region id l.toArray true).wp Try.prog Q a w := by
  refine wp_region_rel 5 N (Ap K v w.heap.size (a.eval (.tmp sm)) L x) hm hN hB Ap.mono ?_ ?_
  · intro k hk o ho a' w' Kc hd hout hdep hB hK
    match k, hk, ho with
    | 0, _, ho => exact Sl.wp_lit0 O (h0.op ho).1 (hK _ _ ⟨_, rfl, heap_alloc_new _ _, hB.size⟩ (below1 _ _))
    | 1, _, ho => exact Sl.wp_move _ (h1.op ho).1 (hK _ _ (hout sm fm.out) (Below.refl _ _))
    | 2, _, ho =>
      obtain ⟨b9, q1, q2, q3⟩ := hdep 0 (d2.mem (by simp)) s0 h0.dst
      have q4 := hdep 1 (d2.mem (by simp)) s1 h1.dst
      exact Sl.wp_append_empty O (.tmp s0) (.tmp s1) (h2.op ho).1 q1 q2 q3 (l2 := L) (b2 := b) (by rw [show a'.eval (.tmp s1) = _ from q4]; exact hL.next hB) (by omega) hB.size (fun u w' q1 q2 => hK u w' q1 q2)
    | 3, _, ho => exact V.load x _ _ _ _ _ _ pb po (h3.op ho).1 ((hout sp fp.out).trans hp) (fun j u hj => cell_keep hB (hx j u hj)) (hK _ _ rfl (Below.refl _ _))
    | 4, _, ho => exact Sl.wp_lit1 (.tmp s3) x (h4.op ho).1 (hdep 3 (d4.mem (by simp)) s3 h3.dst) (V.lit1 _ _) (hK _ _ ⟨_, rfl, Lies.new _ _ _⟩ (below1 _ _))
  · intro f w' hv hB hev
    have e2 : Sl.Own K w.heap.size w' (f 2) L := hv 2 (by omega)
    obtain ⟨b9, e4, e5⟩ := hv 4 (by omega)
    have v2 := hev 2 (by omega) s2 h2.dst
    have v4 := hev 4 (by omega) s4 h4.dst
    obtain ⟨o, ho, ho1, ho2, hdr⟩ := drop_at h5
    have hgd : o.guard = none := by rw [ho] at hg; simpa using hg
    rw [hdr]
    refine wpList_plain hgd fun K' hK' => Sl.wp_append O (.tmp s2) (.tmp s4) ho1 (l := L) (l2 := [x]) (base := w.heap.size) (by rw [v2]; exact e2) (by rw [v4, e4]; exact Sl.Is.one O e5) (by simp; omega) hB.size (fun u w8 q1 q2 q3 => hK' _ _ ?_)
    have := tail f u w8 q1 (hB.grown q2 hB.size (fun k hk => by rw [v2] at hk; exact (e2.lt k hk).1))
    rw [ho2]
    simp only [Rel.puts, h0.dst, h1.dst, h2.dst, h3.dst, h4.dst]
    exact this

/-- what the parts of 'append(append([]T{}, m[:i]..), m[i+1:]..)' yield -/
def Cu (K : Kind α) (base : Nat) (v0 : Value) (l : List α) (m b : Nat) (k : Nat) (u : Value) (w : World) : Prop := match k with
  | 0 => ∃ b, u = .slice (some ⟨b, 0, none⟩) 0 0 ∧ w.heap[b]? = some (.cells #[] K.e (0, 0)) ∧ base ≤ b
  | 1 => u = v0
  | 2 => u = .int .i64 m
  | 3 => Sl.Is K w u (l.take m) b
  | 4 => Sl.Own K base w u (l.take m)
  | 5 => u = v0
  | 6 => u = .int .i64 m
  | 7 => u = .int .i64 ((m + 1 : Nat) : Int)
  | 8 => Sl.Is K w u (l.drop (m + 1)) b
  | _ => True
theorem Cu.mono {base : Nat} {v0 : Value} {l : List α} {m b : Nat} : ∀ k u w w', Cu K base v0 l m b k u w → Below w.heap.size w w' → Cu K base v0 l m b k u w'
  | 0, u, w, w', ⟨b, h1, h2, h3⟩, k => ⟨b, h1, (k.block b (block_lt h2)).trans h2, h3⟩
  | 1, u, w, w', h, k => h
  | 2, u, w, w', h, k => h
  | 3, u, w, w', h, k => Sl.Is.next (K := K) h k
  | 4, u, w, w', h, k => Sl.Own.next (K := K) h k
  | 5, u, w, w', h, k => h
  | 6, u, w, w', h, k => h
  | 7, u, w, w', h, k => h
  | 8, u, w, w', h, k => Sl.Is.next (K := K) h k
  | k + 9, u, w, w', h, _ => trivial

/-- m = append(append([]T{}, m[:i]...), m[i+1:]...), up to the last append -/
theorem wp_cut (O : K.Ok) {id : Nat} {Q : Exit → Act → World → Prop} {a : Act} {w : World} {l : List Oper} (sm si s0 s1 s2 s3 s4 s5 s6 s7 s8 s9 N : Nat) (hm : Try.prog.follows .mixedOrders = true) (hN : a.tmps.size = N) (hB : Rel.fitB l.toArray 9 N = true)
    (h0 : Has l 0 (Op.buildSlice K.t 0 #[]) s0) (h1 : Has l 1 (Op.move (.tmp sm)) s1) (h2 : Has l 2 (Op.move (.tmp si)) s2) (h3 : Has l 3 (Op.slice K.t (.tmp s1) none (some (.tmp s2)) none) s3) (h4 : Has l 4 (app K s0 s3) s4)
    (h5 : Has l 5 (Op.move (.tmp sm)) s5) (h6 : Has l 6 (Op.move (.tmp si)) s6) (h7 : Has l 7 (Op.binOp BinOp.add 3 (.tmp s6) (.const (.int .i64 1)) 3) s7) (h8 : Has l 8 (Op.slice K.t (.tmp s5) (some (.tmp s7)) none none) s8)
    (h9 : Has l 9 (app K s4 s8) s9) (hg : (l[9]?).map (·.guard) = some none) (d3 : After l 3 [1, 2]) (d4 : After l 4 [0, 3]) (d7 : After l 7 [6]) (d8 : After l 8 [5, 7]) (fm : Free l 9 sm) (fi : Free l 9 si)
    {L : List α} {m b : Nat} (hL : Sl.Is K w (a.eval (.tmp sm)) L b) (hi : a.eval (.tmp si) = .int .i64 m) (hml : m < L.length) (hn : L.length ≤ 100000)
    (tail : ∀ (f : Nat → Value) (u : Value) (w' : World), Sl.Own K w.heap.size w' u (L.take m ++ L.drop (m + 1)) → Below w.heap.size w w' →
      wpList Try.prog l.toArray Q (l.drop 10) ((((((((((a.put (some s0) (f 0)).put (some s1) (f 1)).put (some s2) (f 2)).put (some s3) (f 3)).put (some s4) (f 4)).put (some s5) (f 5)).put (some s6) (f 6)).put (some s7) (f 7)).put (some s8) (f 8)).put (some s9) u) w') :
    (Code.region id l.toArray true).wp Try.prog Q a w := by
  refine wp_region_rel 9 N (Cu K w.heap.size (a.eval (.tmp sm)) L m b) hm hN hB Cu.mono ?_ ?_
  · intro k hk o ho a' w' Kc hd hout hdep hB hK
    match k, hk, ho with
    | 0, _, ho => exact Sl.wp_lit0 O (h0.op ho).1 (hK _ _ ⟨_, rfl, heap_alloc_new _ _, hB.size⟩ (below1 _ _))
    | 1, _, ho => exact Sl.wp_move _ (h1.op ho).1 (hK _ _ (hout sm fm.out) (Below.refl _ _))
    | 2, _, ho => exact Sl.wp_move _ (h2.op ho).1 (hK _ _ ((hout si fi.out).trans hi) (Below.refl _ _))
    | 3, _, ho =>
      have q4 := hdep 1 (d3.mem (by simp)) s1 h1.dst
      have q5 := hdep 2 (d3.mem (by simp)) s2 h2.dst
      exact Sl.wp_take O (.tmp s1) (.tmp s2) (h3.op ho).1 (l := L) (b := b) (m := m) (by rw [show a'.eval (.tmp s1) = _ from q4]; exact hL.next hB) q5 (by omega) (fun u q => hK u _ q (Below.refl _ _))
    | 4, _, ho =>
      obtain ⟨b9, q1, q2, q3⟩ := hdep 0 (d4.mem (by simp)) s0 h0.dst
      have q4 := hdep 3 (d4.mem (by simp)) s3 h3.dst
      exact Sl.wp_append_empty O (.tmp s0) (.tmp s3) (h4.op ho).1 q1 q2 q3 (l2 := L.take m) (b2 := b) q4 (by rw [List.length_take]; omega) hB.size (fun u w' q1 q2 => hK u w' q1 q2)
    | 5, _, ho => exact Sl.wp_move _ (h5.op ho).1 (hK _ _ (hout sm fm.out) (Below.refl _ _))
    | 6, _, ho => exact Sl.wp_move _ (h6.op ho).1 (hK _ _ ((hout si fi.out).trans hi) (Below.refl _ _))
    | 7, _, ho => exact Sl.wp_succ (.tmp s6) (h7.op ho).1 (hdep 6 (d7.mem (by simp)) s6 h6.dst) (by omega) (hK _ _ rfl (Below.refl _ _))
    | 8, _, ho =>
      have q4 := hdep 5 (d8.mem (by simp)) s5 h5.dst
      have q5 := hdep 7 (d8.mem (by simp)) s7 h7.dst
      exact Sl.wp_drop O (.tmp s5) (.tmp s7) (h8.op ho).1 (l := L) (b := b) (m := m + 1) (by rw [show a'.eval (.tmp s5) = _ from q4]; exact hL.next hB) q5 (by omega) (fun u q => hK u _ q (Below.refl _ _))
  · intro f w' hv hB hev
    have e4 : Sl.Own K w.heap.size w' (f 4) (L.take m) := hv 4 (by omega)
    have e8 : Sl.Is K w' (f 8) (L.drop (m + 1)) b := hv 8 (by omega)
    have v4 := hev 4 (by omega) s4 h4.dst
    have v8 := hev 8 (by omega) s8 h8.dst
    obtain ⟨o, ho, ho1, ho2, hdr⟩ := drop_at h9
    have hgd : o.guard = none := by rw [ho] at hg; simpa using hg
    rw [hdr]
    refine wpList_plain hgd fun K' hK' => Sl.wp_append O (.tmp s4) (.tmp s8) ho1 (l := L.take m) (l2 := L.drop (m + 1)) (base := w.heap.size) (by rw [v4]; exact e4) (by rw [v8]; exact e8) (by rw [List.length_take, List.length_drop]; omega) hB.size (fun u w8 q1 q2 q3 => hK' _ _ ?_)
    have := tail f u w8 q1 (hB.grown q2 hB.size (fun k hk => by rw [v4] at hk; exact (e4.lt k hk).1))
    rw [ho2]
    simp only [Rel.puts, h0.dst, h1.dst, h2.dst, h3.dst, h4.dst, h5.dst, h6.dst, h7.dst, h8.dst]
    exact this
/-- the address of an element -/
theorem wp_at (O : K.Ok) {w : World} {o : Oper} {a : Act} {Kc : Act → World → Prop} {Q : Exit → Act → World → Prop} {l : List α} {b m off cap : Nat} (s i : Operand) (hop : o.op = Op.indexAddr K.t s i)
    (hs : a.eval s = .slice (some ⟨b, off, none⟩) l.length cap) (hi : a.eval i = .int .i64 m) (hm : m < l.length) (hK : Kc (a.put o.dst (.pointer (some ⟨b, off + m * K.k, none⟩))) w) : o.wp Try.prog a w Kc Q := by
  obtain ⟨i0, hi0, hz0, hz1, hz2⟩ := info_parts O.info
  have hu : Try.prog.underlying K.t = some (.slice (Try.prog.elem K.t)) := by rw [O.elem]; exact O.under
  have hr : (execOp a.eval o).run Try.prog w = .ok (.value (.pointer (some ⟨b, off + m * K.k, none⟩))) w := by
    have h1 : (m : Int) < l.length := by omega
    generalize a.eval = ev at hs hi
    simp only [execOp, hop, hs, hi]
    simp [run_indexAt_slice w K.t ⟨b, off, none⟩ l.length cap .i64 (m : Int) hu, O.elem, sizeOf, typeInfo, hi0, hz1, h1, Addr.add_lit, Result.andThen]
  unfold Oper.wp
  rw [hr]
  exact hK

/-- what the parts of 'append([]T{}, m[:i]..)' yield -/
def He (K : Kind α) (base : Nat) (v0 : Value) (l : List α) (m b : Nat) (k : Nat) (u : Value) (w : World) : Prop := match k with
  | 0 => ∃ b, u = .slice (some ⟨b, 0, none⟩) 0 0 ∧ w.heap[b]? = some (.cells #[] K.e (0, 0)) ∧ base ≤ b
  | 1 => u = v0
  | 2 => u = .int .i64 m
  | 3 => Sl.Is K w u (l.take m) b
  | _ => True
theorem He.mono {base : Nat} {v0 : Value} {l : List α} {m b : Nat} : ∀ k u w w', He K base v0 l m b k u w → Below w.heap.size w w' → He K base v0 l m b k u w'
  | 0, u, w, w', ⟨b, h1, h2, h3⟩, k => ⟨b, h1, (k.block b (block_lt h2)).trans h2, h3⟩
  | 1, u, w, w', h, k => h
  | 2, u, w, w', h, k => h
  | 3, u, w, w', h, k => Sl.Is.next (K := K) h k
  | k + 4, u, w, w', h, _ => trivial

/-- x = append([]T{}, m[:i]...), up to the append -/
theorem wp_head (O : K.Ok) {id : Nat} {Q : Exit → Act → World → Prop} {a : Act} {w : World} {l : List Oper} (sm si s0 s1 s2 s3 s4 N : Nat) (hm : Try.prog.follows .mixedOrders = true) (hN : a.tmps.size = N) (hB : Rel.fitB l.toArray 4 N = true)
    (h0 : Has l 0 (Op.buildSlice K.t 0 #[]) s0) (h1 : Has l 1 (Op.move (.tmp sm)) s1) (h2 : Has l 2 (Op.move (.tmp si)) s2) (h3 : Has l 3 (Op.slice K.t (.tmp s1) none (some (.tmp s2)) none) s3) (h4 : Has l 4 (app K s0 s3) s4)
    (hg : (l[4]?).map (·.guard) = some none) (d3 : After l 3 [1, 2]) (fm : Free l 4 sm) (fi : Free l 4 si)
    {L : List α} {m b : Nat} (hL : Sl.Is K w (a.eval (.tmp sm)) L b) (hi : a.eval (.tmp si) = .int .i64 m) (hml : m ≤ L.length) (hn : L.length ≤ 100000)
    (tail : ∀ (f : Nat → Value) (u : Value) (w' : World), Sl.Own K w.heap.size w' u (L.take m) → Below w.heap.size w w' →
      wpList Try.prog l.toArray Q (l.drop 5) (((((a.put (some s0) (f 0)).put (some s1) (f 1)).put (some s2) (f 2)).put (some s3) (f 3)).put (some s4) u) w') :
    (Code.region id l.toArray true).wp Try.prog Q a w := by
  refine wp_region_rel 4 N (He K w.heap.size (a.eval (.tmp sm)) L m b) hm hN hB He.mono ?_ ?_
  · intro k hk o ho a' w' Kc hd hout hdep hB hK
    match k, hk, ho with
    | 0, _, ho => exact Sl.wp_lit0 O (h0.op ho).1 (hK _ _ ⟨_, rfl, heap_alloc_new _ _, hB.size⟩ (below1 _ _))
    | 1, _, ho => exact Sl.wp_move _ (h1.op ho).1 (hK _ _ (hout sm fm.out) (Below.refl _ _))
    | 2, _, ho => exact Sl.wp_move _ (h2.op ho).1 (hK _ _ ((hout si fi.out).trans hi) (Below.refl _ _))
    | 3, _, ho =>
      have q4 := hdep 1 (d3.mem (by simp)) s1 h1.dst
      have q5 := hdep 2 (d3.mem (by simp)) s2 h2.dst
      exact Sl.wp_take O (.tmp s1) (.tmp s2) (h3.op ho).1 (l := L) (b := b) (m := m) (by rw [show a'.eval (.tmp s1) = _ from q4]; exact hL.next hB) q5 (by omega) (fun u q => hK u _ q (Below.refl _ _))
  · intro f w' hv hB hev
    obtain ⟨b9, q1, q2, q3⟩ := hv 0 (by omega)
    have e3 : Sl.Is K w' (f 3) (L.take m) b := hv 3 (by omega)
    have v0 := hev 0 (by omega) s0 h0.dst
    have v3 := hev 3 (by omega) s3 h3.dst
    obtain ⟨o, ho, ho1, ho2, hdr⟩ := drop_at h4
    have hgd : o.guard = none := by rw [ho] at hg; simpa using hg
    rw [hdr]
    refine wpList_plain hgd fun K' hK' => Sl.wp_append_empty O (.tmp s0) (.tmp s3) ho1 (l2 := L.take m) (b2 := b) (base := w.heap.size) (by rw [v0]; exact q1) q2 q3 (by rw [v3]; exact e3) (by rw [List.length_take]; omega) hB.size (fun u w8 x1 x2 => hK' _ _ ?_)
    have := tail f u w8 x1 (after hB x2)
    rw [ho2]
    simp only [Rel.puts, h0.dst, h1.dst, h2.dst, h3.dst]
    exact this

/-- what the parts of 'append([]T{}, m..)' yield -/
def Co (K : Kind α) (base : Nat) (v0 : Value) (k : Nat) (u : Value) (w : World) : Prop := match k with
  | 0 => ∃ b, u = .slice (some ⟨b, 0, none⟩) 0 0 ∧ w.heap[b]? = some (.cells #[] K.e (0, 0)) ∧ base ≤ b
  | 1 => u = v0
  | _ => True
theorem Co.mono {base : Nat} {v0 : Value} : ∀ k u w w', Co K base v0 k u w → Below w.heap.size w w' → Co K base v0 k u w'
  | 0, u, w, w', ⟨b, h1, h2, h3⟩, k => ⟨b, h1, (k.block b (block_lt h2)).trans h2, h3⟩
  | 1, u, w, w', h, k => h
  | k + 2, u, w, w', h, _ => trivial
/-- x = append([]T{}, m...), up to the append -/
theorem wp_copy (O : K.Ok) {id : Nat} {Q : Exit → Act → World → Prop} {a : Act} {w : World} {l : List Oper} (sm s0 s1 s2 N : Nat) (hm : Try.prog.follows .mixedOrders = true) (hN : a.tmps.size = N) (hB : Rel.fitB l.toArray 2 N = true)
    (h0 : Has l 0 (Op.buildSlice K.t 0 #[]) s0) (h1 : Has l 1 (Op.move (.tmp sm)) s1) (h2 : Has l 2 (app K s0 s1) s2) (hg : (l[2]?).map (·.guard) = some none) (fm : Free l 2 sm)
    {L : List α} {b : Nat} (hL : Sl.Is K w (a.eval (.tmp sm)) L b) (hn : L.length ≤ 100000)
    (tail : ∀ (f : Nat → Value) (u : Value) (w' : World), Sl.Own K w.heap.size w' u L → Below w.heap.size w w' →
      wpList Try.prog l.toArray Q (l.drop 3) (((a.put (some s0) (f 0)).put (some s1) (f 1)).put (some s2) u) w') :
    (Code.region id l.toArray true).wp Try.prog Q a w := by
  refine wp_region_rel 2 N (Co K w.heap.size (a.eval (.tmp sm))) hm hN hB Co.mono ?_ ?_
  · intro k hk o ho a' w' Kc hd hout hdep hB hK
    match k, hk, ho with
    | 0, _, ho => exact Sl.wp_lit0 O (h0.op ho).1 (hK _ _ ⟨_, rfl, heap_alloc_new _ _, hB.size⟩ (below1 _ _))
    | 1, _, ho => exact Sl.wp_move _ (h1.op ho).1 (hK _ _ (hout sm fm.out) (Below.refl _ _))
  · intro f w' hv hB hev
    obtain ⟨b9, q1, q2, q3⟩ := hv 0 (by omega)
    have e1 : f 1 = a.eval (.tmp sm) := hv 1 (by omega)
    have v0 := hev 0 (by omega) s0 h0.dst
    have v1 := hev 1 (by omega) s1 h1.dst
    obtain ⟨o, ho, ho1, ho2, hdr⟩ := drop_at h2
    have hgd : o.guard = none := by rw [ho] at hg; simpa using hg
    rw [hdr]
    refine wpList_plain hgd fun K' hK' => Sl.wp_append_empty O (.tmp s0) (.tmp s1) ho1 (l2 := L) (b2 := b) (base := w.heap.size) (by rw [v0]; exact q1) q2 q3 (by rw [v1, e1]; exact hL.next hB) (by omega) hB.size (fun u w8 x1 x2 => hK' _ _ ?_)
    have := tail f u w8 x1 (after hB x2)
    rw [ho2]
    simp only [Rel.puts, h0.dst, h1.dst]
    exact this

/-- what the parts of 'append(r, m[i])' yield -/
def Pu (K : Kind α) (v : α → Value) (base : Nat) (vr v0 : Value) (x : α) (m : Nat) (p : Value) (k : Nat) (u : Value) (w : World) : Prop := match k with
  | 0 => u = vr
  | 1 => u = v0
  | 2 => u = .int .i64 m
  | 3 => u = p
  | 4 => u = v x
  | 5 => ∃ b, u = .slice (some ⟨b, 0, none⟩) 1 1 ∧ Lies w b K.e (K.cl x)
  | _ => True
theorem Pu.mono {base : Nat} {vr v0 p : Value} {x : α} {m : Nat} : ∀ k u w w', Pu K v base vr v0 x m p k u w → Below w.heap.size w w' → Pu K v base vr v0 x m p k u w'
  | 0, u, w, w', h, k => h
  | 1, u, w, w', h, k => h
  | 2, u, w, w', h, k => h
  | 3, u, w, w', h, k => h
  | 4, u, w, w', h, k => h
  | 5, u, w, w', ⟨b, h1, h2⟩, k => ⟨b, h1, h2.next k⟩
  | k + 6, u, w, w', h, _ => trivial
/-- r = append(r, m[i]), up to the append: r is the call's own, from base on, and m lies elsewhere, or not -/
theorem wp_push (O : K.Ok) (V : K.Val v) {id : Nat} {Q : Exit → Act → World → Prop} {a : Act} {w : World} {l : List Oper} (sr sm si s0 s1 s2 s3 s4 s5 s6 N : Nat) (hm : Try.prog.follows .mixedOrders = true) (hN : a.tmps.size = N) (hB : Rel.fitB l.toArray 6 N = true)
    (h0 : Has l 0 (Op.move (.tmp sr)) s0) (h1 : Has l 1 (Op.move (.tmp sm)) s1) (h2 : Has l 2 (Op.move (.tmp si)) s2) (h3 : Has l 3 (Op.indexAddr K.t (.tmp s1) (.tmp s2)) s3) (h4 : Has l 4 (Op.load K.e (.tmp s3)) s4) (h5 : Has l 5 (Op.buildSlice K.t 1 #[(0, .tmp s4)]) s5)
    (h6 : Has l 6 (app K s0 s5) s6) (hg : (l[6]?).map (·.guard) = some none) (d3 : After l 3 [1, 2]) (d4 : After l 4 [3]) (d5 : After l 5 [4]) (fr : Free l 6 sr) (fm : Free l 6 sm) (fi : Free l 6 si)
    {base : Nat} {R L : List α} {x : α} {m b : Nat} (hR : Sl.Own K base w (a.eval (.tmp sr)) R) (hL : Sl.Is K w (a.eval (.tmp sm)) L b) (hi : a.eval (.tmp si) = .int .i64 m) (hx : L[m]? = some x) (hn : R.length ≤ 100000) (hb : base ≤ w.heap.size)
    (tail : ∀ (f : Nat → Value) (u : Value) (w' : World), Sl.Own K base w' u (R ++ [x]) → w.grownBy w' (a.eval (.tmp sr)).ownBlock → (u.ownBlock = (a.eval (.tmp sr)).ownBlock ∨ ∃ g, u.ownBlock = some g ∧ w.heap.size ≤ g) →
      wpList Try.prog l.toArray Q (l.drop 7) (((((((a.put (some s0) (f 0)).put (some s1) (f 1)).put (some s2) (f 2)).put (some s3) (f 3)).put (some s4) (f 4)).put (some s5) (f 5)).put (some s6) u) w') :
    (Code.region id l.toArray true).wp Try.prog Q a w := by
  have hml : m < L.length := (List.getElem?_eq_some_iff.1 hx).1
  obtain ⟨off, cap, hv0, g2, g3, g4, hcell⟩ := hL.some_ O (by omega)
  refine wp_region_rel 6 N (Pu K v base (a.eval (.tmp sr)) (a.eval (.tmp sm)) x m (.pointer (some ⟨b, off + m * K.k, none⟩))) hm hN hB Pu.mono ?_ ?_
  · intro k hk o ho a' w' Kc hd hout hdep hB hK
    match k, hk, ho with
    | 0, _, ho => exact Sl.wp_move _ (h0.op ho).1 (hK _ _ (hout sr fr.out) (Below.refl _ _))
    | 1, _, ho => exact Sl.wp_move _ (h1.op ho).1 (hK _ _ (hout sm fm.out) (Below.refl _ _))
    | 2, _, ho => exact Sl.wp_move _ (h2.op ho).1 (hK _ _ ((hout si fi.out).trans hi) (Below.refl _ _))
    | 3, _, ho =>
      have q4 := hdep 1 (d3.mem (by simp)) s1 h1.dst
      have q5 := hdep 2 (d3.mem (by simp)) s2 h2.dst
      exact wp_at O (l := L) (m := m) (.tmp s1) (.tmp s2) (h3.op ho).1 ((show a'.eval (.tmp s1) = _ from q4).trans hv0) q5 hml (hK _ _ rfl (Below.refl _ _))
    | 4, _, ho => exact V.load x _ _ _ _ _ _ b (off + m * K.k) (h4.op ho).1 (hdep 3 (d4.mem (by simp)) s3 h3.dst) (fun j u hj => by rw [Nat.add_assoc]; exact cell_keep hB (hcell m x hx j u hj)) (hK _ _ rfl (Below.refl _ _))
    | 5, _, ho => exact Sl.wp_lit1 (.tmp s4) x (h5.op ho).1 (hdep 4 (d5.mem (by simp)) s4 h4.dst) (V.lit1 _ _) (hK _ _ ⟨_, rfl, Lies.new _ _ _⟩ (below1 _ _))
  · intro f w' hv hB hev
    have e0 : f 0 = a.eval (.tmp sr) := hv 0 (by omega)
    obtain ⟨b9, e4, e5⟩ := hv 5 (by omega)
    have v0 := hev 0 (by omega) s0 h0.dst
    have v5 := hev 5 (by omega) s5 h5.dst
    obtain ⟨o, ho, ho1, ho2, hdr⟩ := drop_at h6
    have hgd : o.guard = none := by rw [ho] at hg; simpa using hg
    rw [hdr]
    refine wpList_plain hgd fun K' hK' => Sl.wp_append O (.tmp s0) (.tmp s5) ho1 (l := R) (l2 := [x]) (base := base) (by rw [v0, e0]; exact hR.next hB) (by rw [v5, e4]; exact Sl.Is.one O e5) (by simp; omega) (Nat.le_trans hb hB.size) (fun u w8 q1 q2 q3 => hK' _ _ ?_)
    rw [v0, e0] at q2 q3
    have := tail f u w8 q1 ⟨q2.os.trans hB.os, q2.tape.trans hB.tape, q2.output.trans hB.output, Nat.le_trans hB.size q2.size, fun k hk hne => (q2.block k (Nat.lt_of_lt_of_le hk hB.size) hne).trans (hB.block k hk)⟩
      (by rcases q3 with q3 | q3; exact .inl q3; exact .inr ⟨_, q3, hB.size⟩)
    rw [ho2]
    simp only [Rel.puts, h0.dst, h1.dst, h2.dst, h3.dst, h4.dst, h5.dst]
    exact this
/-- what the parts of 'append(r, m[i:]..)' yield -/
def En (K : Kind α) (vr v0 : Value) (l : List α) (m b : Nat) (k : Nat) (u : Value) (w : World) : Prop := match k with
  | 0 => u = vr
  | 1 => u = v0
  | 2 => u = .int .i64 m
  | 3 => Sl.Is K w u (l.drop m) b
  | _ => True
theorem En.mono {vr v0 : Value} {l : List α} {m b : Nat} : ∀ k u w w', En K vr v0 l m b k u w → Below w.heap.size w w' → En K vr v0 l m b k u w'
  | 0, u, w, w', h, k => h
  | 1, u, w, w', h, k => h
  | 2, u, w, w', h, k => h
  | 3, u, w, w', h, k => Sl.Is.next (K := K) h k
  | k + 4, u, w, w', h, _ => trivial
/-- r = append(r, m[i:]...), up to the append -/
theorem wp_end (O : K.Ok) {id : Nat} {Q : Exit → Act → World → Prop} {a : Act} {w : World} {l : List Oper} (sr sm si s0 s1 s2 s3 s4 N : Nat) (hm : Try.prog.follows .mixedOrders = true) (hN : a.tmps.size = N) (hB : Rel.fitB l.toArray 4 N = true)
    (h0 : Has l 0 (Op.move (.tmp sr)) s0) (h1 : Has l 1 (Op.move (.tmp sm)) s1) (h2 : Has l 2 (Op.move (.tmp si)) s2) (h3 : Has l 3 (Op.slice K.t (.tmp s1) (some (.tmp s2)) none none) s3) (h4 : Has l 4 (app K s0 s3) s4)
    (hg : (l[4]?).map (·.guard) = some none) (d3 : After l 3 [1, 2]) (fr : Free l 4 sr) (fm : Free l 4 sm) (fi : Free l 4 si)
    {base : Nat} {R L : List α} {m b : Nat} (hR : Sl.Own K base w (a.eval (.tmp sr)) R) (hL : Sl.Is K w (a.eval (.tmp sm)) L b) (hi : a.eval (.tmp si) = .int .i64 m) (hml : m ≤ L.length) (hn : R.length + L.length ≤ 100000) (hb : base ≤ w.heap.size)
    (tail : ∀ (f : Nat → Value) (u : Value) (w' : World), Sl.Own K base w' u (R ++ L.drop m) → w.grownBy w' (a.eval (.tmp sr)).ownBlock → (u.ownBlock = (a.eval (.tmp sr)).ownBlock ∨ ∃ g, u.ownBlock = some g ∧ w.heap.size ≤ g) →
      wpList Try.prog l.toArray Q (l.drop 5) (((((a.put (some s0) (f 0)).put (some s1) (f 1)).put (some s2) (f 2)).put (some s3) (f 3)).put (some s4) u) w') :
    (Code.region id l.toArray true).wp Try.prog Q a w := by
  refine wp_region_rel 4 N (En K (a.eval (.tmp sr)) (a.eval (.tmp sm)) L m b) hm hN hB En.mono ?_ ?_
  · intro k hk o ho a' w' Kc hd hout hdep hB hK
    match k, hk, ho with
    | 0, _, ho => exact Sl.wp_move _ (h0.op ho).1 (hK _ _ (hout sr fr.out) (Below.refl _ _))
    | 1, _, ho => exact Sl.wp_move _ (h1.op ho).1 (hK _ _ (hout sm fm.out) (Below.refl _ _))
    | 2, _, ho => exact Sl.wp_move _ (h2.op ho).1 (hK _ _ ((hout si fi.out).trans hi) (Below.refl _ _))
    | 3, _, ho =>
      have q4 := hdep 1 (d3.mem (by simp)) s1 h1.dst
      have q5 := hdep 2 (d3.mem (by simp)) s2 h2.dst
      exact Sl.wp_drop O (.tmp s1) (.tmp s2) (h3.op ho).1 (l := L) (b := b) (m := m) (by rw [show a'.eval (.tmp s1) = _ from q4]; exact hL.next hB) q5 hml (fun u q => hK u _ q (Below.refl _ _))
  · intro f w' hv hB hev
    have e0 : f 0 = a.eval (.tmp sr) := hv 0 (by omega)
    have e3 : Sl.Is K w' (f 3) (L.drop m) b := hv 3 (by omega)
    have v0 := hev 0 (by omega) s0 h0.dst
    have v3 := hev 3 (by omega) s3 h3.dst
    obtain ⟨o, ho, ho1, ho2, hdr⟩ := drop_at h4
    have hgd : o.guard = none := by rw [ho] at hg; simpa using hg
    rw [hdr]
    refine wpList_plain hgd fun K' hK' => Sl.wp_append O (.tmp s0) (.tmp s3) ho1 (l := R) (l2 := L.drop m) (base := base) (by rw [v0, e0]; exact hR.next hB) (by rw [v3]; exact e3) (by rw [List.length_drop]; omega) (Nat.le_trans hb hB.size) (fun u w8 q1 q2 q3 => hK' _ _ ?_)
    rw [v0, e0] at q2 q3
    have := tail f u w8 q1 ⟨q2.os.trans hB.os, q2.tape.trans hB.tape, q2.output.trans hB.output, Nat.le_trans hB.size q2.size, fun k hk hne => (q2.block k (Nat.lt_of_lt_of_le hk hB.size) hne).trans (hB.block k hk)⟩
      (by rcases q3 with q3 | q3; exact .inl q3; exact .inr ⟨_, q3, hB.size⟩)
    rw [ho2]
    simp only [Rel.puts, h0.dst, h1.dst, h2.dst, h3.dst]
    exact this

/-- what the parts of 'append(r, p)' yield, p a variable -/
def Ad (K : Kind α) (v : α → Value) (vr : Value) (x : α) (k : Nat) (u : Value) (w : World) : Prop := match k with
  | 0 => u = vr
  | 1 => u = v x
  | 2 => ∃ b, u = .slice (some ⟨b, 0, none⟩) 1 1 ∧ Lies w b K.e (K.cl x)
  | _ => True
theorem Ad.mono {vr : Value} {x : α} : ∀ k u w w', Ad K v vr x k u w → Below w.heap.size w w' → Ad K v vr x k u w'
  | 0, u, w, w', h, k => h
  | 1, u, w, w', h, k => h
  | 2, u, w, w', ⟨b, h1, h2⟩, k => ⟨b, h1, h2.next k⟩
  | k + 3, u, w, w', h, _ => trivial
/-- r = append(r, p), up to the append -/
theorem wp_add (O : K.Ok) (V : K.Val v) {id : Nat} {Q : Exit → Act → World → Prop} {a : Act} {w : World} {l : List Oper} (sr sp s0 s1 s2 s3 N : Nat) (hm : Try.prog.follows .mixedOrders = true) (hN : a.tmps.size = N) (hB : Rel.fitB l.toArray 3 N = true)
    (h0 : Has l 0 (Op.move (.tmp sr)) s0) (h1 : Has l 1 (Op.load K.e (.tmp sp)) s1) (h2 : Has l 2 (Op.buildSlice K.t 1 #[(0, .tmp s1)]) s2) (h3 : Has l 3 (app K s0 s2) s3) (hg : (l[3]?).map (·.guard) = some none) (d2 : After l 2 [1]) (fr : Free l 3 sr) (fp : Free l 3 sp)
    {base pb po : Nat} {R : List α} {x : α} (hR : Sl.Own K base w (a.eval (.tmp sr)) R) (hp : a.eval (.tmp sp) = .pointer (some ⟨pb, po, none⟩)) (hx : ∀ j u, (K.cl x)[j]? = some u → w.cell? ⟨pb, po + j, none⟩ = some u) (hn : R.length ≤ 100000) (hb : base ≤ w.heap.size)
    (tail : ∀ (f : Nat → Value) (u : Value) (w' : World), Sl.Own K base w' u (R ++ [x]) → w.grownBy w' (a.eval (.tmp sr)).ownBlock → (u.ownBlock = (a.eval (.tmp sr)).ownBlock ∨ ∃ g, u.ownBlock = some g ∧ w.heap.size ≤ g) →
      wpList Try.prog l.toArray Q (l.drop 4) ((((a.put (some s0) (f 0)).put (some s1) (f 1)).put (some s2) (f 2)).put (some s3) u) w') :
    (Code.region id l.toArray true).wp Try.prog Q a w := by
  refine wp_region_rel 3 N (Ad K v (a.eval (.tmp sr)) x) hm hN hB Ad.mono ?_ ?_
  · intro k hk o ho a' w' Kc hd hout hdep hB hK
    match k, hk, ho with
    | 0, _, ho => exact Sl.wp_move _ (h0.op ho).1 (hK _ _ (hout sr fr.out) (Below.refl _ _))
    | 1, _, ho => exact V.load x _ _ _ _ _ _ pb po (h1.op ho).1 ((hout sp fp.out).trans hp) (fun j u hj => cell_keep hB (hx j u hj)) (hK _ _ rfl (Below.refl _ _))
    | 2, _, ho => exact Sl.wp_lit1 (.tmp s1) x (h2.op ho).1 (hdep 1 (d2.mem (by simp)) s1 h1.dst) (V.lit1 _ _) (hK _ _ ⟨_, rfl, Lies.new _ _ _⟩ (below1 _ _))
  · intro f w' hv hB hev
    have e0 : f 0 = a.eval (.tmp sr) := hv 0 (by omega)
    obtain ⟨b9, e4, e5⟩ := hv 2 (by omega)
    have v0 := hev 0 (by omega) s0 h0.dst
    have v2 := hev 2 (by omega) s2 h2.dst
    obtain ⟨o, ho, ho1, ho2, hdr⟩ := drop_at h3
    have hgd : o.guard = none := by rw [ho] at hg; simpa using hg
    rw [hdr]
    refine wpList_plain hgd fun K' hK' => Sl.wp_append O (.tmp s0) (.tmp s2) ho1 (l := R) (l2 := [x]) (base := base) (by rw [v0, e0]; exact hR.next hB) (by rw [v2, e4]; exact Sl.Is.one O e5) (by simp; omega) (Nat.le_trans hb hB.size) (fun u w8 q1 q2 q3 => hK' _ _ ?_)
    rw [v0, e0] at q2 q3
    have := tail f u w8 q1 ⟨q2.os.trans hB.os, q2.tape.trans hB.tape, q2.output.trans hB.output, Nat.le_trans hB.size q2.size, fun k hk hne => (q2.block k (Nat.lt_of_lt_of_le hk hB.size) hne).trans (hB.block k hk)⟩
      (by rcases q3 with q3 | q3; exact .inl q3; exact .inr ⟨_, q3, hB.size⟩)
    rw [ho2]
    simp only [Rel.puts, h0.dst, h1.dst, h2.dst]
    exact this
end Reg
end Go.Proofs.Ytomdgeenmmgmaaa
