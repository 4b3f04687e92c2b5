/-
  A table of owners in memory (how many shards there are, and each group's owner); contracts of owner's New, has, Of, Freeze, Publish, Groups, Shards.
-/
import Derived.Test.YtjncogjafljbiaaFoot
import Derived.Test.YtjncogjafljbiaaLists
import Derived.Test.YtjncogjafljbiaaDrawn
import Derived.OwnWalk
namespace Go.Proofs.Ytjncogjafljbiaa
open Go.ChangeShapes Go.WideShapes Go.ChangeAt Go.RowKit Small Foot
set_option linter.unusedVariables false
namespace Ow

/-- whose a group is -/
structure O where
  s : Int
  v : Int
  m : Bool
abbrev cl (x : O) : List Value := [.int .i64 x.s, .int .i64 x.v, .bool x.m]
abbrev av (x : O) : Value := .agg #[.int .i64 x.s, .int .i64 x.v, .bool x.m]
/-- all cells, one behind the other -/
abbrev fl (M : List O) : List Value := M.flatMap cl
theorem fl_len (M : List O) : (fl M).length = M.length * 3 := by
  induction M with
  | nil => rfl
  | cons x M ih => simp only [fl, List.flatMap_cons, List.length_append, List.length_cons] at ih ⊢; rw [ih]; simp; omega
theorem fl_at {M : List O} {i : Nat} {x : O} (h : M[i]? = some x) : (fl M)[i * 3]? = some (.int .i64 x.s) ∧ (fl M)[i * 3 + 1]? = some (.int .i64 x.v) ∧ (fl M)[i * 3 + 2]? = some (.bool x.m) := by
  induction M generalizing i with
  | nil => simp at h
  | cons y M ih =>
    cases i with
    | zero => simp at h; subst h; simp [fl]
    | succ i =>
      simp at h
      obtain ⟨h0, h1, h2⟩ := ih h
      refine ⟨?_, ?_, ?_⟩ <;> simp only [fl, List.flatMap_cons]
      · rw [show (i + 1) * 3 = i * 3 + 3 by omega]; simpa using h0
      · rw [show (i + 1) * 3 + 1 = i * 3 + 1 + 3 by omega]; simpa using h1
      · rw [show (i + 1) * 3 + 2 = i * 3 + 2 + 3 by omega]; simpa using h2
theorem fl_set {M : List O} {i : Nat} {x : O} (h : M[i]? = some x) (s v : Int) (m : Bool) :
    (fl M).set (i * 3) (.int .i64 s) = fl (M.set i ⟨s, x.v, x.m⟩) ∧ (fl M).set (i * 3 + 1) (.int .i64 v) = fl (M.set i ⟨x.s, v, x.m⟩) ∧ (fl M).set (i * 3 + 2) (.bool m) = fl (M.set i ⟨x.s, x.v, m⟩) := by
  induction M generalizing i with
  | nil => simp at h
  | cons y M ih =>
    cases i with
    | zero => simp at h; subst h; simp [fl]
    | succ i =>
      simp at h
      obtain ⟨h0, h1, h2⟩ := ih h
      refine ⟨?_, ?_, ?_⟩ <;> simp only [fl, List.flatMap_cons, List.set_cons_succ]
      · rw [show (i + 1) * 3 = i * 3 + 3 by omega]; simpa using h0
      · rw [show (i + 1) * 3 + 1 = i * 3 + 1 + 3 by omega]; simpa using h1
      · rw [show (i + 1) * 3 + 2 = i * 3 + 2 + 3 by omega]; simpa using h2

/-- in the midst of what New does: the first k have their owner -/
def ini (s : Int) (k n : Nat) : List O := (List.range n).map fun (i : Nat) => ⟨if i < k then (i : Int) % s else 0, 0, false⟩
theorem ini_len (s : Int) (k n : Nat) : (ini s k n).length = n := by simp [ini]
theorem ini_at (s : Int) (k : Nat) {i n : Nat} (h : i < n) : (ini s k n)[i]? = some ⟨if i < k then (i : Int) % s else 0, 0, false⟩ := by simp [ini, h]
theorem ini_set (s : Int) {k n : Nat} (h : k < n) : (ini s k n).set k ⟨(k : Int) % s, 0, false⟩ = ini s (k + 1) n := by
  apply List.ext_getElem?
  intro i
  rw [List.getElem?_set]
  by_cases e : k = i
  · subst e; simp [ini, h]
  · rw [if_neg e]
    by_cases hi : i < n
    · rw [ini_at _ _ hi, ini_at _ _ hi]
      have : i < k ↔ i < k + 1 := by omega
      simp [this]
    · simp [ini, hi]
theorem made (s : Int) (n : Nat) : (madeCells (av ⟨0, 0, false⟩).cells (n * 3)).toList = fl (ini s 0 n) := by
  apply List.ext_getElem?
  intro j
  by_cases hj : j < n * 3
  · have hi : j / 3 < n := by omega
    obtain ⟨q0, q1, q2⟩ := fl_at (ini_at s 0 hi)
    have e : j % 3 = 0 ∨ j % 3 = 1 ∨ j % 3 = 2 := by omega
    have hm : (madeCells (av ⟨0, 0, false⟩).cells (n * 3)).toList[j]? = some ((av ⟨0, 0, false⟩).cells[j % 3]!) := by simp [madeCells, hj, Value.cells]
    rw [hm]
    rcases e with e | e | e
    · rw [show j = j / 3 * 3 by omega, q0, ← show j = j / 3 * 3 by omega, e]; simp [Value.cells]
    · rw [show j = j / 3 * 3 + 1 by omega, q1, ← show j = j / 3 * 3 + 1 by omega, e]; simp [Value.cells]
    · rw [show j = j / 3 * 3 + 2 by omega, q2, ← show j = j / 3 * 3 + 2 by omega, e]; simp [Value.cells]
  · have := fl_len (ini s 0 n)
    rw [ini_len] at this
    rw [List.getElem?_eq_none (by simp [madeCells]; omega), List.getElem?_eq_none (by omega)]

/-- 'make([]T, n)': a block of its own, all of it known -/
theorem wpList_make_lies {P : Program} (w : World) {ops : Array Oper} {rest : List Oper} {o : Oper} {a : Act} {Q : Exit → Act → World → Prop}
    (hg : o.guard = none) (l c : Operand) (t : TypeId) (hop : o.op = Op.makeSlice t l c)
    (e : TypeId) (i : TypeInfo) (z : Value) (size bytes : Nat) (h1 : P.underlying t = some (.slice e)) (h2 : P.info? e = some i) (h3 : i.zero = some z) (h4 : i.size = size) (h5 : i.bytes = bytes)
    (n : Nat) (hl : a.eval l = .int .i64 n) (hc : a.eval c = .int .i64 n) (b2 : bytes * n ≤ 281474976710656) (b3 : n ≤ maxLen)
    (hK : ∀ w', Lies w' w.heap.size e (madeCells z.cells (n * size)).toList → Below w.heap.size w w' → w'.heap.size = w.heap.size + 1 → wpList P ops Q rest (a.put o.dst (.slice (some ⟨w.heap.size, 0, none⟩) n n)) w') :
    wpList P ops Q (o :: rest) a w := by
  refine wpList_plain hg fun K hK' => ?_
  subst h4 h5
  have hb' : (i.bytes : Int) * (n : Int) ≤ 281474976710656 := by
    have h : ((i.bytes * n : Nat) : Int) ≤ 281474976710656 := by omega
    rwa [Int.natCast_mul] at h
  have hrun := run_make (P := P) w t e i z h1 h2 h3 .i64 .i64 n n (by omega) (by omega) hb' (by simp [maxLen] at b3; omega)
  simp only [Int.toNat_natCast] at hrun
  unfold Oper.wp
  simp [execOp, hop, hl, hc, hrun, Result.andThen]
  exact hK' _ _ (hK _ (by have := Lies.new w e (madeCells z.cells (n * i.size)).toList; simpa using this) (below1 _ _) (by simp))

abbrev gp (b : Nat) : Value := .pointer (some ⟨b, 0, none⟩)
/-- its blocks -/
def Fp (b : Nat) : Nat → Prop := fun i => i = b ∨ i = b + 1
abbrev Rows (w : World) (b : Nat) (M : List O) : Prop := Lies w b 64 (fl M)
/-- a table at b + 1, its owners at b -/
structure Is (w : World) (b : Nat) (shards : Int) (M : List O) : Prop where
  lies : Lies w (b + 1) 96 [.int .i64 shards, .slice (some ⟨b, 0, none⟩) M.length M.length]
  rows : Rows w b M
section
variable {w w' : World} {b i : Nat} {s : Int} {M : List O} {x : O}
theorem Rows.at (h : Rows w b M) (hx : M[i]? = some x) : w.cell? ⟨b, i * 3, none⟩ = some (.int .i64 x.s) ∧ w.cell? ⟨b, i * 3 + 1, none⟩ = some (.int .i64 x.v) ∧ w.cell? ⟨b, i * 3 + 2, none⟩ = some (.bool x.m) := by
  obtain ⟨h0, h1, h2⟩ := fl_at hx
  exact ⟨h.cell h0, h.cell h1, h.cell h2⟩
theorem Rows.open' (h : Rows w b M) (i : Nat) : w.frozen? ⟨b, i * 3, none⟩ = false ∧ w.frozen? ⟨b, i * 3 + 1, none⟩ = false ∧ w.frozen? ⟨b, i * 3 + 2, none⟩ = false := ⟨h.open_ _, h.open_ _, h.open_ _⟩
theorem Rows.put0 (h : Rows w b M) (hx : M[i]? = some x) (s : Int) : Rows (w.setCell ⟨b, i * 3, none⟩ (.int .i64 s)) b (M.set i ⟨s, x.v, x.m⟩) := by
  have := Lies.put h (i * 3) (.int .i64 s)
  rw [(fl_set hx s 0 false).1] at this
  exact this
theorem Rows.put1 (h : Rows w b M) (hx : M[i]? = some x) (v : Int) : Rows (w.setCell ⟨b, i * 3 + 1, none⟩ (.int .i64 v)) b (M.set i ⟨x.s, v, x.m⟩) := by
  have := Lies.put h (i * 3 + 1) (.int .i64 v)
  rw [(fl_set hx 0 v false).2.1] at this
  exact this
theorem Rows.put2 (h : Rows w b M) (hx : M[i]? = some x) (m : Bool) : Rows (w.setCell ⟨b, i * 3 + 2, none⟩ (.bool m)) b (M.set i ⟨x.s, x.v, m⟩) := by
  have := Lies.put h (i * 3 + 2) (.bool m)
  rw [(fl_set hx 0 0 m).2.2] at this
  exact this
/-- one written whole -/
theorem Rows.put (h : Rows w b M) (hi : i < M.length) (y : O) : Rows (((w.setCell ⟨b, i * 3, none⟩ (.int .i64 y.s)).setCell ⟨b, i * 3 + 1, none⟩ (.int .i64 y.v)).setCell ⟨b, i * 3 + 2, none⟩ (.bool y.m)) b (M.set i y) := by
  have h0 := h.put0 (i := i) (x := M[i]) (by rw [List.getElem?_eq_getElem hi]) y.s
  have h1 := h0.put1 (i := i) (x := ⟨y.s, M[i].v, M[i].m⟩) (by simp [hi]) y.v
  have h2 := h1.put2 (i := i) (x := ⟨y.s, y.v, M[i].m⟩) (by simp [hi]) y.m
  simpa using h2
theorem Is.next (h : Is w b s M) (k : Below w.heap.size w w') : Is w' b s M := ⟨h.lies.next k, h.rows.next k⟩
theorem Is.in (h : Is w b s M) : In w (Fp b) := fun i hi => by
  rcases hi with rfl | rfl
  · exact h.rows.lt
  · exact h.lies.lt
theorem Is.from (b : Nat) : From b (Fp b) := fun i hi => by rcases hi with rfl | rfl <;> omega
theorem Is.keep {F F' : Nat → Prop} (h : Is w b s M) (k : Moves F F' w w') (a : Apart F (Fp b)) : Is w' b s M :=
  ⟨(k.kept a h.in _ (.inr rfl)).trans h.lies, (k.kept a h.in _ (.inl rfl)).trans h.rows⟩
/-- its owners written anew -/
theorem Is.put {M' : List O} (h : Is w b s M) (hl : M'.length = M.length) (r : Rows w' b M') (k : ∀ i, i ≠ b → w'.heap[i]? = w.heap[i]?) (o : w'.os = w.os) (t : w'.tape = w.tape) (u : w'.output = w.output) (z : w'.heap.size = w.heap.size) :
    Is w' b s M' ∧ Moves (Fp b) (Fp b) w w' := by
  refine ⟨⟨?_, r⟩, o, t, u, by omega, fun i hi hf => k i fun e => hf (.inl e), fun i hi => ⟨.inl hi, by rw [z]; exact h.in i hi⟩⟩
  rw [hl]
  exact (k _ (by omega)).trans h.lies
end

set_option maxRecDepth 100000
theorem infoOwn : (Try.prog.info? 64).map (fun i => (i.zero, i.size, i.bytes)) = some (some (av ⟨0, 0, false⟩), 3, 24) := by kernel_rfl

set_option maxHeartbeats 800000 in
theorem new_no (groups shards : Int) (w : World) (h : groups < 1 ∨ 16 < groups ∨ shards < 1 ∨ 8 < shards) :
    Calls Try.prog 26 #[.int .i64 groups, .int .i64 shards] w fun r w' => r = .returned (.tuple #[.pointer none, .iface 91 (.int .i64 1)]) ∧ Below w.heap.size w w' := by
  by_cases h1 : groups < 1
  · clear h
    go_enter Try.func26, Try.ntmps26
    go_wp2
    go_ret2
    exact ⟨rfl, Below.refl _ _⟩
  by_cases h2 : 16 < groups
  · clear h
    go_enter Try.func26, Try.ntmps26
    go_wp2
    go_ret2
    exact ⟨rfl, Below.refl _ _⟩
  by_cases h3 : shards < 1
  · clear h
    go_enter Try.func26, Try.ntmps26
    go_wp2
    go_ret2
    exact ⟨rfl, Below.refl _ _⟩
  have h4 : 8 < shards := by omega
  clear h
  go_enter Try.func26, Try.ntmps26
  go_wp2
  go_ret2
  exact ⟨rfl, Below.refl _ _⟩

set_option maxHeartbeats 1600000 in
theorem new_ok (n : Nat) (shards : Int) (w : World) (h1 : 1 ≤ n) (h2 : n ≤ 16) (h3 : 1 ≤ shards) (h4 : shards ≤ 8) :
    Calls Try.prog 26 #[.int .i64 n, .int .i64 shards] w fun r w' => r = .returned (.tuple #[gp (w.heap.size + 1), .nilIface]) ∧ Is w' w.heap.size shards (ini shards n n) ∧ Below w.heap.size w w' := by
  obtain ⟨i0, hi, hz0, hz1, hz2⟩ := info_parts infoOwn
  have q1 : ¬ (n : Int) < 1 := by omega
  have q2 : ¬ 16 < (n : Int) := by omega
  have q3 : ¬ shards < 1 := by omega
  have q4 : ¬ 8 < shards := by omega
  go_enter Try.func26, Try.ntmps26
  go_wp2_with (at_make; refine wpList_make_lies _ rfl _ _ 94 rfl 64 i0 (av ⟨0, 0, false⟩) 3 24 Try.underlying94 hi hz0 hz1 hz2 n rfl rfl (by omega) (by unfold maxLen; omega) ?_)
  intro w1 l1 k1 z1
  have L1 : Hid (Rows w1 w.heap.size (ini shards 0 n)) := Lib.hid (by unfold Rows; rw [← made]; exact l1)
  have K1 := Lib.hid k1
  have Z1 := Lib.hid z1
  clear l1 k1 z1
  go_wp2_with fail
  go_loopw [27] (fun si wr => ∃ k : Nat, k ≤ n ∧ si = .int .i64 k ∧ Hid (Rows wr w.heap.size (ini shards k n)) ∧ Hid (Below w.heap.size w wr) ∧ Hid (wr.heap.size = w.heap.size + 1))
    (fun si _ => n - (intOf si).toNat)
  case atStart => exact ⟨0, by omega, rfl, L1, K1, Z1⟩
  case round =>
    obtain ⟨k, hk, rfl, L, K, Z⟩ := hrel
    by_cases hlt : k < n
    · have i0 : (k : Int) < (n : Int) := by omega
      have c0 := (L.out.at (ini_at shards k hlt)).1
      have fz := (L.out.open' k).1
      go_wp2_with fail
      refine ⟨⟨k + 1, by omega, by go_num, Lib.hid ?_, Lib.hid ?_, Lib.hid ?_⟩, by simp [intOf]; omega⟩
      · have := L.out.put0 (ini_at shards k hlt) ((k : Int) % shards)
        rw [ini_set shards hlt] at this
        exact this
      · exact K.out.setCell (Nat.le_refl _) _
      · simpa using Z.out
    · obtain rfl : k = n := by omega
      go_wp2
      go_ret2
      have z := Z.out
      rw [z]
      refine ⟨rfl, ⟨?_, L.out.next (below1 _ _)⟩, after K.out (below1 _ _)⟩
      have := Lies.new wr 96 [.int .i64 shards, .slice (some ⟨w.heap.size, 0, none⟩) k k]
      rw [z] at this
      rw [ini_len]
      exact this

section
variable {b i : Nat} {s x y : Int} {M : List O} {o : O} {w : World}
set_option maxHeartbeats 800000

theorem has_yes (H : Hid (Is w b s M)) (hi : i < M.length) : Calls Try.prog 33 #[gp (b + 1), .int .i64 i] w fun r w' => r = .returned (.bool true) ∧ w = w' := by
  have c1 := H.out.lies.cell (i := 1) rfl
  have q0 : (0 : Int) ≤ (i : Int) := by omega
  have q1 : (i : Int) < (M.length : Int) := by omega
  go_enter Try.func33, Try.ntmps33
  go_wp2
  go_ret
  exact ⟨rfl, rfl⟩
theorem has_no (H : Hid (Is w b s M)) (hx : x < 0 ∨ M.length ≤ x) : Calls Try.prog 33 #[gp (b + 1), .int .i64 x] w fun r w' => r = .returned (.bool false) ∧ w = w' := by
  have c1 := H.out.lies.cell (i := 1) rfl
  rcases hx with hx | hx
  · have q0 : ¬ (0 : Int) ≤ x := by omega
    go_enter Try.func33, Try.ntmps33
    go_wp2
    go_ret
    exact ⟨rfl, rfl⟩
  · have q0 : (0 : Int) ≤ x := by omega
    have q1 : ¬ x < (M.length : Int) := by omega
    go_enter Try.func33, Try.ntmps33
    go_wp2
    go_ret
    exact ⟨rfl, rfl⟩

theorem of_no (H : Hid (Is w b s M)) (hx : x < 0 ∨ M.length ≤ x) : Calls Try.prog 21 #[gp (b + 1), .int .i64 x] w fun r w' => r = .returned (.tuple #[av ⟨0, 0, false⟩, .bool false]) ∧ Below w.heap.size w w' := by
  go_enter Try.func21, Try.ntmps21
  go_wp2_with fail
  refine (has_no (Lib.hid (H.out.next (below1 w _))) hx).mono ?_
  rintro r w1 ⟨rfl, rfl⟩
  go_wp2_with fail
  exact bodyPost_ret (v := .tuple #[av ⟨0, 0, false⟩, .bool false]) (by simp [results, Try.results21, go_sem]) rfl ⟨rfl, below1 _ _⟩
theorem of_yes (H : Hid (Is w b s M)) (hx : M[i]? = some o) : Calls Try.prog 21 #[gp (b + 1), .int .i64 i] w fun r w' => r = .returned (.tuple #[av o, .bool true]) ∧ Below w.heap.size w w' := by
  have c0 := H.out.lies.cell (i := 0) rfl
  have c1 := H.out.lies.cell (i := 1) rfl
  obtain ⟨d0, d1, d2⟩ := H.out.rows.at hx
  obtain ⟨f0, f1, f2⟩ := H.out.rows.open' i
  have hi : i < M.length := (List.getElem?_eq_some_iff.1 hx).1
  have q1 : (i : Int) < (M.length : Int) := by omega
  have K := below1 w (Obj.cells #[.int .i64 0, .int .i64 0, .bool false] 64)
  have e1 := cell_keep K c1
  have e2 := cell_keep K d0
  have e3 := cell_keep K d1
  have e4 := cell_keep K d2
  clear c0 c1 d0 d1 d2 f0 f1 f2 K
  go_enter Try.func21, Try.ntmps21
  go_wp2_with fail
  refine (has_yes (Lib.hid (H.out.next (below1 w _))) hi).mono ?_
  rintro r w1 ⟨rfl, rfl⟩
  go_wp2_with fail
  exact bodyPost_ret (v := .tuple #[av o, .bool true]) (by simp [results, Try.results21, go_sem]) rfl ⟨rfl, below1 _ _⟩

theorem freeze_none (H : Hid (Is w b s M)) (hx : x < 0 ∨ M.length ≤ x) : Calls Try.prog 15 #[gp (b + 1), .int .i64 x] w fun r w' => r = .returned (.iface 91 (.int .i64 6)) ∧ w = w' := by
  go_enter Try.func15, Try.ntmps15
  go_wp2_with fail
  refine (has_no H hx).mono ?_
  rintro r w1 ⟨rfl, rfl⟩
  go_wp2_with fail
  go_ret
  exact ⟨rfl, rfl⟩
theorem freeze_busy (H : Hid (Is w b s M)) (hx : M[i]? = some o) (hm : o.m = true) : Calls Try.prog 15 #[gp (b + 1), .int .i64 i] w fun r w' => r = .returned (.iface 91 (.int .i64 7)) ∧ w = w' := by
  have c0 := H.out.lies.cell (i := 0) rfl
  have c1 := H.out.lies.cell (i := 1) rfl
  obtain ⟨d0, d1, d2⟩ := H.out.rows.at hx
  obtain ⟨f0, f1, f2⟩ := H.out.rows.open' i
  have hi : i < M.length := (List.getElem?_eq_some_iff.1 hx).1
  have q1 : (i : Int) < (M.length : Int) := by omega
  rw [hm] at d2
  go_enter Try.func15, Try.ntmps15
  go_wp2_with fail
  refine (has_yes H hi).mono ?_
  rintro r w1 ⟨rfl, rfl⟩
  go_wp2_with fail
  go_ret
  exact ⟨rfl, rfl⟩
theorem freeze_ok (H : Hid (Is w b s M)) (hx : M[i]? = some o) (hm : o.m = false) : Calls Try.prog 15 #[gp (b + 1), .int .i64 i] w fun r w' => r = .returned .nilIface ∧ Is w' b s (M.set i ⟨o.s, o.v, true⟩) ∧ Moves (Fp b) (Fp b) w w' := by
  have c0 := H.out.lies.cell (i := 0) rfl
  have c1 := H.out.lies.cell (i := 1) rfl
  obtain ⟨d0, d1, d2⟩ := H.out.rows.at hx
  obtain ⟨f0, f1, f2⟩ := H.out.rows.open' i
  have hi : i < M.length := (List.getElem?_eq_some_iff.1 hx).1
  have q1 : (i : Int) < (M.length : Int) := by omega
  rw [hm] at d2
  go_enter Try.func15, Try.ntmps15
  go_wp2_with fail
  refine (has_yes H hi).mono ?_
  rintro r w1 ⟨rfl, rfl⟩
  go_wp2_with fail
  go_ret
  exact ⟨rfl, H.out.put (by simp) (H.out.rows.put2 hx true) (fun j hj => Below.heap_setCell _ _ _ _ hj) rfl rfl rfl (by simp)⟩

theorem publish_none (H : Hid (Is w b s M)) (hx : x < 0 ∨ M.length ≤ x) : Calls Try.prog 24 #[gp (b + 1), .int .i64 x, .int .i64 y] w fun r w' => r = .returned (.iface 91 (.int .i64 6)) ∧ w = w' := by
  go_enter Try.func24, Try.ntmps24
  go_wp2_with fail
  refine (has_no H hx).mono ?_
  rintro r w1 ⟨rfl, rfl⟩
  go_wp2_with fail
  go_ret
  exact ⟨rfl, rfl⟩
theorem publish_arg (H : Hid (Is w b s M)) (hi : i < M.length) (hy : y < 0 ∨ s ≤ y) : Calls Try.prog 24 #[gp (b + 1), .int .i64 i, .int .i64 y] w fun r w' => r = .returned (.iface 91 (.int .i64 1)) ∧ w = w' := by
  have c0 := H.out.lies.cell (i := 0) rfl
  by_cases h : y < 0
  · clear hy
    go_enter Try.func24, Try.ntmps24
    go_wp2_with fail
    refine (has_yes H hi).mono ?_
    rintro r w1 ⟨rfl, rfl⟩
    go_wp2_with fail
    go_ret
    exact ⟨rfl, rfl⟩
  · have h2 : s ≤ y := by omega
    clear hy
    go_enter Try.func24, Try.ntmps24
    go_wp2_with fail
    refine (has_yes H hi).mono ?_
    rintro r w1 ⟨rfl, rfl⟩
    go_wp2_with fail
    go_ret
    exact ⟨rfl, rfl⟩
theorem publish_busy (H : Hid (Is w b s M)) (hx : M[i]? = some o) (hm : o.m = false) (y0 : 0 ≤ y) (y1 : y < s) : Calls Try.prog 24 #[gp (b + 1), .int .i64 i, .int .i64 y] w fun r w' => r = .returned (.iface 91 (.int .i64 7)) ∧ w = w' := by
  have c0 := H.out.lies.cell (i := 0) rfl
  have c1 := H.out.lies.cell (i := 1) rfl
  obtain ⟨d0, d1, d2⟩ := H.out.rows.at hx
  obtain ⟨f0, f1, f2⟩ := H.out.rows.open' i
  have hi : i < M.length := (List.getElem?_eq_some_iff.1 hx).1
  have q1 : (i : Int) < (M.length : Int) := by omega
  rw [hm] at d2
  have y2 : ¬ y < 0 := by omega
  have y3 : ¬ s ≤ y := by omega
  go_enter Try.func24, Try.ntmps24
  go_wp2_with fail
  refine (has_yes H hi).mono ?_
  rintro r w1 ⟨rfl, rfl⟩
  go_wp2_with fail
  go_ret
  exact ⟨rfl, rfl⟩
theorem publish_ok (H : Hid (Is w b s M)) (hx : M[i]? = some o) (hm : o.m = true) (y0 : 0 ≤ y) (y1 : y < s) (v0 : 0 ≤ o.v) (v1 : o.v ≤ 1000000) : Calls Try.prog 24 #[gp (b + 1), .int .i64 i, .int .i64 y] w fun r w' => r = .returned .nilIface ∧ Is w' b s (M.set i ⟨y, o.v + 1, false⟩) ∧ Moves (Fp b) (Fp b) w w' := by
  have c0 := H.out.lies.cell (i := 0) rfl
  have c1 := H.out.lies.cell (i := 1) rfl
  obtain ⟨d0, d1, d2⟩ := H.out.rows.at hx
  obtain ⟨f0, f1, f2⟩ := H.out.rows.open' i
  have hi : i < M.length := (List.getElem?_eq_some_iff.1 hx).1
  have q1 : (i : Int) < (M.length : Int) := by omega
  rw [hm] at d2
  have y2 : ¬ y < 0 := by omega
  have y3 : ¬ s ≤ y := by omega
  have t1 : IntKind.i64.wrap (o.v + 1) = o.v + 1 := IntWalk.i64_in _ (by omega)
  go_enter Try.func24, Try.ntmps24
  go_wp2_with fail
  refine (has_yes H hi).mono ?_
  rintro r w1 ⟨rfl, rfl⟩
  go_wp2_with fail
  have g1 := Later.cell c1
  have g2 := Later.cell d1
  clear c0 c1 d0 d1 d2 f0 f1 f2
  refine wp_region_later_tail 17 (by kernel_rfl) (by kernel_rfl) ?_
  simp only [List.take_succ_cons, List.take_zero, List.drop_succ_cons, List.drop_zero]
  repeat (go_big_quiet_step (fail))
  refine wpQuiet_nil ?_
  rintro _ ⟨u, rfl⟩
  clear g1 g2
  have H1 := Lib.hid (H.out.next u.below)
  have U := Lib.hid u.below
  generalize u.w = w1 at *
  obtain ⟨d0, d1, d2⟩ := H1.out.rows.at hx
  obtain ⟨f0, f1, f2⟩ := H1.out.rows.open' i
  go_wp2
  go_ret
  have := H1.out.put (M' := M.set i ⟨y, o.v + 1, false⟩) (by simp) (H1.out.rows.put hi ⟨y, o.v + 1, false⟩) (fun j hj => by rw [Below.heap_setCell _ _ _ _ (by exact hj), Below.heap_setCell _ _ _ _ (by exact hj), Below.heap_setCell _ _ _ _ (by exact hj)]) rfl rfl rfl (by simp)
  exact ⟨rfl, this.1, (Moves.of_below U.out H.out.in).trans this.2⟩

theorem shards_ok (H : Hid (Is w b s M)) : Calls Try.prog 79 #[gp (b + 1)] w fun r w' => r = .returned (.int .i64 s) ∧ w = w' := by
  have c0 := H.out.lies.cell (i := 0) rfl
  go_enter Try.func79, Try.ntmps79
  go_wp2
  go_ret
  exact ⟨rfl, rfl⟩
end

/-- numbers of groups -/
abbrev Gk : Kind Nat := ⟨78, 3, 1, 8, .int .i64 0, fun x => [.int .i64 (x : Int)]⟩
theorem gok : Gk.Ok where
  under := Try.underlying78
  elem := by kernel_rfl
  info := by kernel_rfl
  zs := rfl
  pos := by decide
  len := fun _ => rfl
  one := by
    intro x u hu
    simp at hu
    subst hu
    rfl
  small := by decide
/-- those of the first k that t owns -/
def own (M : List O) (t : Int) (k : Nat) : List Nat := (List.range k).filter fun i => M[i]?.any (·.s == t)
theorem own_zero (M : List O) (t : Int) : own M t 0 = [] := rfl
theorem own_yes {M : List O} {t : Int} {k : Nat} {o : O} (h : M[k]? = some o) (e : o.s = t) : own M t (k + 1) = own M t k ++ [k] := by
  simp [own, List.range_succ, List.filter_append, h, e]
theorem own_no {M : List O} {t : Int} {k : Nat} {o : O} (h : M[k]? = some o) (e : ¬ o.s = t) : own M t (k + 1) = own M t k := by
  simp [own, List.range_succ, List.filter_append, h, e]
theorem own_len (M : List O) (t : Int) (k : Nat) : (own M t k).length ≤ k := by
  have := List.length_filter_le (fun i => M[i]?.any (·.s == t)) (List.range k)
  simpa [own] using this

set_option maxHeartbeats 1600000 in
theorem groups_ok {b : Nat} {s t : Int} {M : List O} {w : World} (H : Hid (Is w b s M)) (hn : M.length ≤ 16) : Calls Try.prog 29 #[gp (b + 1), .int .i64 t] w fun r w' => ∃ A c, r = .returned (.slice A (own M t M.length).length c) ∧ Sl.Own Gk w.heap.size w' (.slice A (own M t M.length).length c) (own M t M.length) ∧ Below w.heap.size w w' := by
  have c1 := H.out.lies.cell (i := 1) rfl
  go_enter Try.func29, Try.ntmps29
  go_wp2_with fail
  clear c1
  obtain ⟨n, hnn⟩ : ∃ n, n = M.length := ⟨_, rfl⟩
  rw [← hnn] at hn ⊢
  have HN := Lib.hid hnn
  clear hnn
  go_loopw [5, 13] (fun sl si wr => ∃ k : Nat, k ≤ n ∧ si = .int .i64 k ∧ Hid (Sl.Own Gk w.heap.size wr sl (own M t k)) ∧ Hid (Below w.heap.size w wr)) (fun _ si _ => n - (intOf si).toNat)
  case atStart => exact ⟨0, by omega, rfl, Lib.hid (Sl.Own.nil _ _ _), Lib.hid (Below.refl _ _)⟩
  case round =>
    obtain ⟨k, hk, rfl, L, K⟩ := hrel
    by_cases hlt : k < n
    · have i0 : (k : Int) < (n : Int) := by omega
      obtain ⟨o, ho⟩ : ∃ o, M[k]? = some o := ⟨_, List.getElem?_eq_getElem (by have := HN.out; omega)⟩
      have H1 := Lib.hid (H.out.next K.out)
      obtain ⟨d0, d1, d2⟩ := H1.out.rows.at ho
      by_cases ht : o.s = t
      · have OY := Lib.hid (own_yes ho ht)
        have KL := Lib.hid (own_len M t k)
        have S0 := Lib.hid K.out.size
        go_wp2_with (at_builtin; refine wpList_plain rfl fun K' hK' => Sl.wp_append (K := Gk) gok (.tmp 22) (.tmp 24) rfl (base := w.heap.size) (l := own M t k) (l2 := [k]) (b2 := wr.heap.size + 1) (by exact L.out.next (below2 wr _ _)) (by exact Sl.Is.one gok (x := k) (by have := Lies.new (wr.alloc (Obj.cells #[.int .i64 t, .int .i64 o.v, .bool o.m] 64)) 3 [.int .i64 (k : Int)]; simpa using this)) (by have := KL.out; simp only [List.length_singleton]; omega) (by have := S0.out; simp; omega) (fun v' w3 x1 x2 x3 => hK' _ _ ?_))
        clear d0 d1 d2
        have L3 : Hid (Sl.Own Gk w.heap.size w3 v' (own M t (k + 1))) := Lib.hid (by rw [OY.out]; exact x1)
        have K3 : Hid (Below w.heap.size w w3) := Lib.hid ((after K.out (below2 wr _ _)).grown x2 (by have := S0.out; simp; omega) (fun j hj => (L.out.lt j hj).1))
        clear x1 x2 x3
        go_wp2_with fail
        exact ⟨⟨k + 1, by omega, by go_num, L3, K3⟩, by simp [intOf]; omega⟩
      · have OY := Lib.hid (own_no ho ht)
        have hz : (o.s == t) = false := by simpa using ht
        go_wp2_with fail
        exact ⟨⟨k + 1, by omega, by go_num, Lib.hid (by rw [OY.out]; exact L.out.next (below1 _ _)), Lib.hid (after K.out (below1 _ _))⟩, by simp [intOf]; omega⟩
    · obtain rfl : k = n := by omega
      obtain ⟨bl, -, il⟩ := L.out.is
      obtain ⟨A, c, rfl⟩ := il.len
      go_wp2
      go_ret
      refine ⟨A, c, ?_⟩
      rw [← HN.out]
      exact ⟨rfl, L.out, K.out⟩
end Ow
end Go.Proofs.Ytjncogjafljbiaa
