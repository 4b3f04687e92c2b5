/-
  What a heap of timers is in memory (a list, and a map that has each one's place), and what stays where others write.
-/
import Derived.Test.YtomoophjcgahlaaTmrMap
import Derived.Maps.AppendAt
import Derived.Laws.OwnMore
namespace Go.Proofs.Ytomoophjcgahlaa
open Go.ChangeShapes Go.WideShapes Go.ChangeAt Go.RowKit
namespace Tmr
open Small
set_option linter.unusedVariables false

/-- the cells of the first n -/
def rows (f : Nat → Tm) : Nat → List Value
  | 0 => []
  | n + 1 => rows f n ++ [.string (f n).key, .int .i64 (f n).s, .int .i64 (f n).e]
theorem rows_len (f : Nat → Tm) (n : Nat) : (rows f n).length = n * 3 := by
  induction n with
  | zero => rfl
  | succ n ih => simp [rows, ih]; omega
theorem rows_at (f : Nat → Tm) (n i : Nat) (h : i < n) : (rows f n)[i * 3]? = some (.string (f i).key) ∧ (rows f n)[i * 3 + 1]? = some (.int .i64 (f i).s) ∧ (rows f n)[i * 3 + 2]? = some (.int .i64 (f i).e) := by
  induction n with
  | zero => omega
  | succ n ih =>
    have hl := rows_len f n
    by_cases hi : i < n
    · obtain ⟨h0, h1, h2⟩ := ih hi
      rw [rows, List.getElem?_append_left (by omega), List.getElem?_append_left (by omega), List.getElem?_append_left (by omega)]
      exact ⟨h0, h1, h2⟩
    · obtain rfl : i = n := by omega
      rw [rows, List.getElem?_append_right (by omega), List.getElem?_append_right (by omega), List.getElem?_append_right (by omega), hl]
      refine ⟨by simp, ?_, ?_⟩
      · rw [show i * 3 + 1 - i * 3 = 1 by omega]; rfl
      · rw [show i * 3 + 2 - i * 3 = 2 by omega]; rfl
theorem rows_eq {f f' : Nat → Tm} {n : Nat} (h : ∀ k, k < n → f' k = f k) : rows f' n = rows f n := by
  induction n with
  | zero => rfl
  | succ n ih => rw [rows, rows, ih (fun k hk => h k (by omega)), h n (by omega)]
theorem rows_take (f : Nat → Tm) {n k : Nat} (h : k ≤ n) : (rows f n).take (k * 3) = rows f k := by
  induction n with
  | zero => obtain rfl : k = 0 := by omega
            rfl
  | succ n ih =>
    by_cases e : k = n + 1
    · subst e; rw [List.take_of_length_le (by rw [rows_len]; omega)]
    · rw [rows, List.take_append_of_le_length (by rw [rows_len]; omega), ih (by omega)]

/-- blocks g, m and r may be changed, and new ones made; all others stay -/
structure Mv (g m r : Nat) (w w' : World) : Prop where
  os : w'.os = w.os
  tape : w'.tape = w.tape
  output : w'.output = w.output
  size : w.heap.size ≤ w'.heap.size
  block : ∀ k, k < w.heap.size → k ≠ g → k ≠ m → k ≠ r → w'.heap[k]? = w.heap[k]?

section
variable {g m r r' : Nat} {w w' w'' : World}
theorem Mv.refl (g m r : Nat) (w : World) : Mv g m r w w := ⟨rfl, rfl, rfl, Nat.le_refl _, fun _ _ _ _ _ => rfl⟩
theorem Mv.trans (h : Mv g m r w w') (hr : r' = r ∨ w.heap.size ≤ r') (k : Mv g m r' w' w'') : Mv g m r w w'' :=
  ⟨k.os.trans h.os, k.tape.trans h.tape, k.output.trans h.output, Nat.le_trans h.size k.size, fun i hi a b c =>
    (k.block i (Nat.lt_of_lt_of_le hi h.size) a b (by rcases hr with rfl | hr; exact c; omega)).trans (h.block i hi a b c)⟩
theorem Mv.of_below (h : Below w.heap.size w w') : Mv g m r w w' := ⟨h.os, h.tape, h.output, h.size, fun k hk _ _ _ => h.block k hk⟩
theorem Mv.then (h : Mv g m r w w') (k : Below w'.heap.size w' w'') : Mv g m r w w'' := h.trans (.inl rfl) (Mv.of_below k)
theorem Mv.of_grown {b : Option Nat} (h : w.grownBy w' b) (hb : ∀ k, b = some k → k = g ∨ k = m ∨ k = r) : Mv g m r w w' :=
  ⟨h.os, h.tape, h.output, h.size, fun k hk a c d => h.block k hk (fun e => by rcases hb k e.symm with x | x | x <;> omega)⟩
theorem Mv.below (h : Mv g m r w w') {B : Nat} (hB : B ≤ w.heap.size) (hg : B ≤ g) (hm : B ≤ m) (hr : B ≤ r) : Below B w w' :=
  ⟨h.os, h.tape, h.output, h.size, fun k hk => h.block k (by omega) (by omega) (by omega) (by omega)⟩
end

/-- the timers at g: the list v (in block r), the map m; f k is the k-th one, there are n -/
structure Qu (w : World) (g m r : Nat) (f : Nat → Tm) (n : Nat) (v : Value) (p : Tm → Option Nat) : Prop where
  lies : Lies w g 52 [v, .map (some m)]
  row : w.ownsRow 0 30 3 v n (rows f n)
  at_ : v.ownBlock = none ∨ v.ownBlock = some r
  map : Mp w m p n
  place : ∀ x i, p x = some i ↔ i < n ∧ f i = x
  fits : ∀ i, i < n → Fits (f i)
  few : n ≤ 1048576

section
variable {w w' : World} {g m r n : Nat} {f : Nat → Tm} {v : Value} {p : Tm → Option Nat}
/-- there is one: the list is somewhere -/
theorem Qu.some_ (h : Qu w g m r f n v p) (hn : 0 < n) : ∃ cap cur, v = .slice (some ⟨r, 0, none⟩) n cap ∧ w.heap[r]? = some (.cells cur 30 (0, 0)) ∧ n ≤ cap ∧ cap ≤ maxLen ∧ cur.size = cap * 3 ∧ cur.toList.take (n * 3) = rows f n := by
  rcases h.row.2 with ⟨_, h0⟩ | ⟨r', cap, cur, h1, _, h2, h3, h4, h5, h6⟩
  · omega
  · have := h.at_
    rw [h1] at this
    simp [Value.ownBlock] at this
    subst this
    exact ⟨cap, cur, h1, h2, h3, h4, h5, h6⟩
theorem Qu.len (h : Qu w g m r f n v p) : ∃ a cap, v = .slice a n cap := by
  rcases h.row.2 with ⟨h1, h0⟩ | ⟨r', cap, cur, h1, _⟩
  · exact ⟨none, 0, by rw [h1, h0]⟩
  · exact ⟨_, _, h1⟩
theorem cells_of_row {w : World} {r n : Nat} {f : Nat → Tm} {cur : Array Value} {e : TypeId} (hb : w.heap[r]? = some (.cells cur e (0, 0))) (ht : cur.toList.take (n * 3) = rows f n) {i : Nat} (hi : i < n) :
    w.cell? ⟨r, i * 3, none⟩ = some (.string (f i).key) ∧ w.cell? ⟨r, i * 3 + 1, none⟩ = some (.int .i64 (f i).s) ∧ w.cell? ⟨r, i * 3 + 2, none⟩ = some (.int .i64 (f i).e) := by
  have key : ∀ j u, (rows f n)[j]? = some u → w.cell? ⟨r, j, none⟩ = some u := fun j u hj => by
    rw [cell_of_row w r j cur e (0, 0) hb]
    rw [← ht, List.getElem?_take] at hj
    split at hj
    · simpa using hj
    · cases hj
  obtain ⟨a, b, c⟩ := rows_at f n i hi
  exact ⟨key _ _ a, key _ _ b, key _ _ c⟩
theorem Qu.ne_gr (h : Qu w g m r f n v p) (hn : 0 < n) : g ≠ r := fun e => by
  obtain ⟨cap, cur, _, h2, _⟩ := h.some_ hn
  have h1 := h.lies
  unfold Lies at h1
  rw [e, h2] at h1
  simp at h1
theorem Qu.ne_gm (h : Qu w g m r f n v p) : g ≠ m := fun e => by
  obtain ⟨es, clock, h2⟩ := h.map.map
  have h1 := h.lies
  unfold Lies at h1
  rw [e, h2] at h1
  cases h1
theorem Qu.ne_rm (h : Qu w g m r f n v p) (hn : 0 < n) : r ≠ m := fun e => by
  obtain ⟨es, clock, h2⟩ := h.map.map
  obtain ⟨cap, cur, _, h1, _⟩ := h.some_ hn
  rw [e, h2] at h1
  cases h1
theorem own_keep {base : Nat} {e : TypeId} {size : Nat} {v : Value} {n : Nat} {xs : List Value} (h : w.ownsRow base e size v n xs) (k : ∀ b, v.ownBlock = some b → w'.heap[b]? = w.heap[b]?) : w'.ownsRow base e size v n xs := by
  refine ⟨h.1, ?_⟩
  rcases h.2 with h0 | ⟨g, cap, cur, h1, h2, h3, h4⟩
  · exact .inl h0
  · exact .inr ⟨g, cap, cur, h1, h2, (k g (by rw [h1]; rfl)).trans h3, h4⟩
/-- others write elsewhere -/
theorem Qu.keep (h : Qu w g m r f n v p) (k1 : w'.heap[g]? = w.heap[g]?) (k2 : w'.heap[m]? = w.heap[m]?) (k3 : v.ownBlock = some r → w'.heap[r]? = w.heap[r]?) : Qu w' g m r f n v p :=
  ⟨k1.trans h.lies, own_keep h.row (fun b hb => by
    rcases h.at_ with e | e
    · rw [e] at hb; cases hb
    · rw [e] at hb; cases hb; exact k3 e), h.at_, h.map.kept k2, h.place, h.fits, h.few⟩
theorem Qu.lt_r (h : Qu w g m r f n v p) (e : v.ownBlock = some r) : r < w.heap.size := (h.row.lt r e).2
theorem Qu.next (h : Qu w g m r f n v p) (k : Below w.heap.size w w') : Qu w' g m r f n v p :=
  h.keep (k.block _ h.lies.lt) (k.block _ h.map.lt) (fun e => k.block _ (h.lt_r e))
end
end Tmr
end Go.Proofs.Ytomoophjcgahlaa
