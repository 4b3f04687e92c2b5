/-
  Contract of the heap's own method Pop: the last one of the list is taken off, in the list and in the map.
-/
import Derived.Test.YtomoophjcgahlaaTmrSwap
namespace Go.Proofs.Ytomoophjcgahlaa
open Go.ChangeShapes Go.WideShapes Go.ChangeAt Go.RowKit
namespace Tmr
open Small
set_option linter.unusedVariables false

/-- a delete in the map -/
theorem wpList_drop {w : World} {ops : Array Oper} {rest : List Oper} {o : Oper} {a : Act} {Q : Exit → Act → World → Prop} (hg : o.guard = none) (mo xo : Operand)
    (hop : o.op = Op.call { callee := Callee.builtin Builtin.delete, args := #[mo, xo], argTypes := #[48, 30] })
    {m c : Nat} {p : Tm → Option Nat} {x : Tm} {i : Nat} (hm : a.eval mo = .map (some m)) (hx : a.eval xo = tv x) (h : Mp w m p c) (fx : Fits x) (hp : p x = some i) {q : Tm → Option Nat} (hq : upd p x none q)
    (hK : ∀ w', Mp w' m q (c - 1) → w.grownBy w' (some m) → wpList Try.prog ops Q rest (a.put o.dst (.tuple #[])) w') : wpList Try.prog ops Q (o :: rest) a w := by
  refine wpList_plain hg fun K' hK' => ?_
  obtain ⟨w', hrun, r1, r2⟩ := h.drop fx hp hq o.type
  unfold Oper.wp
  simp [execOp, hop, resolve, invoke, builtin, hm, hx, hrun, Result.andThen]
  exact hK' _ _ (hK w' r1 r2)

open Classical in
noncomputable def place0 (p : Tm → Option Nat) (x : Tm) : Tm → Option Nat := fun y => if y = x then none else p y
theorem place0_upd (p : Tm → Option Nat) (x : Tm) : upd p x none (place0 p x) := ⟨by simp [place0], fun y hy => by simp [place0, hy]⟩
theorem place_pop {f : Nat → Tm} {k : Nat} {p : Tm → Option Nat} (hp : ∀ y i, p y = some i ↔ i < k + 1 ∧ f i = y) : ∀ y i, place0 p (f k) y = some i ↔ i < k ∧ f i = y := by
  intro y i
  unfold place0
  by_cases h : y = f k
  · subst h
    simp only [if_true]
    constructor
    · intro e; cases e
    · rintro ⟨hi, e⟩
      have h1 := (hp (f k) i).2 ⟨by omega, e⟩
      have h2 := (hp (f k) k).2 ⟨by omega, rfl⟩
      rw [h1] at h2
      have := Option.some.inj h2
      omega
  · simp only [h, if_false]
    rw [hp]
    constructor
    · rintro ⟨hi, e⟩
      refine ⟨?_, e⟩
      by_cases hk : i = k
      · subst hk; exact absurd e.symm h
      · omega
    · rintro ⟨hi, e⟩; exact ⟨by omega, e⟩

def Popped (g m r k : Nat) (f : Nat → Tm) (w : World) (e : Ending) (w' : World) : Prop := e = .returned (.iface 30 (tv (f k))) ∧ ∃ v p, Qu w' g m r f k v p ∧ Mv g m r w w'

theorem popq_world {g m r k cap : Nat} {f : Nat → Tm} {p : Tm → Option Nat} {w W : World} (H : Qu w g m r f (k + 1) (.slice (some ⟨r, 0, none⟩) (k + 1 : Nat) cap) p)
    (hW : W = ((((w.setCell ⟨r, k * 3, none⟩ (.string ⟨#[]⟩)).setCell ⟨r, k * 3 + 1, none⟩ (.int .i64 0)).setCell ⟨r, k * 3 + 2, none⟩ (.int .i64 0)).setCell ⟨g, 0, none⟩ (.slice (some ⟨r, 0, none⟩) k cap)).alloc
      (Obj.cells #[.string (f k).key, .int .i64 (f k).s, .int .i64 (f k).e] 30)) :
    Lies W g 52 [.slice (some ⟨r, 0, none⟩) k cap, .map (some m)] ∧ W.ownsRow 0 30 3 (.slice (some ⟨r, 0, none⟩) k cap) k (rows f k) ∧ Mp W m p (k + 1) ∧ Mv g m r w W ∧
      Lies W w.heap.size 30 [.string (f k).key, .int .i64 (f k).s, .int .i64 (f k).e] := by
  obtain ⟨cap', he, a, b, R⟩ := H.rw_ (by omega)
  obtain rfl : cap = cap' := by simpa using he
  have ng : g ≠ r := H.ne_gr (by omega)
  have nm : m ≠ r := fun e => H.ne_rm (by omega) e.symm
  have mg : m ≠ g := fun e => H.ne_gm e.symm
  have gl := H.lies.lt
  have rl := R.lt
  obtain ⟨W1, h1⟩ : ∃ W1, W1 = ((w.setCell ⟨r, k * 3, none⟩ (.string ⟨#[]⟩)).setCell ⟨r, k * 3 + 1, none⟩ (.int .i64 0)).setCell ⟨r, k * 3 + 2, none⟩ (.int .i64 0) := ⟨_, rfl⟩
  have R1 := R.put3 ⟨⟨#[]⟩, 0, 0⟩ (k := k) (by omega)
  have V1 := put3_mv w g m r (k * 3) (k * 3 + 1) (k * 3 + 2) (.string ⟨#[]⟩) (.int .i64 0) (.int .i64 0)
  have B1 : ∀ i, i ≠ r → W1.heap[i]? = w.heap[i]? := fun i hi => by rw [h1]; exact put3_other w r _ _ _ _ _ _ hi
  have S1 : W1.heap.size = w.heap.size := by rw [h1]; simp [World.setCell]
  rw [← h1] at R1 V1 hW
  clear h1
  obtain ⟨W2, h2⟩ : ∃ W2, W2 = W1.setCell ⟨g, 0, none⟩ (.slice (some ⟨r, 0, none⟩) k cap) := ⟨_, rfl⟩
  have L2 : Lies W2 g 52 [.slice (some ⟨r, 0, none⟩) k cap, .map (some m)] := by rw [h2]; exact Lies.put (cs := [_, _]) ((B1 g ng).trans H.lies) 0 _
  have B2 : ∀ i, i ≠ g → W2.heap[i]? = W1.heap[i]? := fun i hi => by rw [h2]; exact Below.heap_setCell W1 _ _ _ hi
  have V2 : Mv g m r W1 W2 := by rw [h2]; exact ⟨rfl, rfl, rfl, by simp [World.setCell], fun i _ hi _ _ => Below.heap_setCell W1 _ _ _ hi⟩
  have S2 : W2.heap.size = w.heap.size := by rw [h2, ← S1]; simp [World.setCell]
  rw [← h2] at hW
  clear h2
  have B3 : Below W2.heap.size W2 W := by rw [hW]; exact below1 _ _
  refine ⟨L2.next B3, ?_, ?_, (V1.trans (.inl rfl) V2).then B3, ?_⟩
  · have R3 := R1.kept (w' := W) ((B3.block r (by omega)).trans (B2 r (fun e => ng e.symm)))
    obtain ⟨cs, q1, q2, q3⟩ := R3
    refine ⟨rows_len f k, .inr ⟨r, cap, cs.toArray, rfl, Nat.zero_le _, q1, by omega, b, by simpa using q2, ?_⟩⟩
    have := congrArg (List.take (k * 3)) q3
    rw [rows_take _ (by omega), List.take_take, Nat.min_eq_left (by omega)] at this
    rw [rows_eq (f' := put f k ⟨⟨#[]⟩, 0, 0⟩) (f := f) (fun i hi => by simp [put, show ¬ i = k by omega])] at this
    simpa using this
  · exact H.map.kept ((B3.block m (by have := H.map.lt; omega)).trans ((B2 m mg).trans (B1 m nm)))
  · rw [← S2, hW]; exact Lies.new _ _ _

theorem popq_tail {g m r k cap : Nat} {f : Nat → Tm} {p : Tm → Option Nat} {w W w1 : World} (H : Qu w g m r f (k + 1) (.slice (some ⟨r, 0, none⟩) (k + 1 : Nat) cap) p)
    (L : Lies W g 52 [.slice (some ⟨r, 0, none⟩) k cap, .map (some m)]) (R : W.ownsRow 0 30 3 (.slice (some ⟨r, 0, none⟩) k cap) k (rows f k)) (V : Mv g m r w W)
    (M1 : Mp w1 m (place0 p (f k)) (k + 1 - 1)) (G1 : W.grownBy w1 (some m)) : Popped g m r k f w (.returned (.iface 30 (tv (f k)))) w1 := by
  have nm : m ≠ r := fun e => H.ne_rm (by omega) e.symm
  have mg : m ≠ g := fun e => H.ne_gm e.symm
  refine ⟨rfl, _, _, ⟨(G1.block _ L.lt (by simpa using mg.symm)).trans L, own_keep R (fun b hb => ?_), .inr rfl, M1, place_pop H.place, fun i hi => H.fits i (by omega), by have := H.few; omega⟩, V.trans (.inl rfl) (Mv.of_grown G1 (fun i hi => .inr (.inl (by cases hi; rfl))))⟩
  have := (R.lt b hb).2
  simp [Value.ownBlock] at hb
  subst hb
  exact G1.block _ this (by simpa using nm.symm)

set_option maxHeartbeats 3200000 in
theorem popq_ok {g m r k : Nat} {f : Nat → Tm} {v : Value} {p : Tm → Option Nat} (w : World) (H : Hid (Qu w g m r f (k + 1) v p)) :
    Calls Try.prog 44 #[.pointer (some ⟨g, 0, none⟩)] w (Popped g m r k f w) := by
  obtain ⟨cap, rfl, cap1, cap2, R⟩ := H.out.rw_ (by omega)
  obtain ⟨x0, x1, x2⟩ := R.cells (i := k) (by omega)
  have few := H.out.few
  have c0 := H.out.lies.cell (i := 0) rfl
  have c1 := H.out.lies.cell (i := 1) rfl
  have z0 := H.out.lies.open_ 0
  have fz := R.frozen
  have rl := R.lt
  have gl := H.out.lies.lt
  have gr : ¬ g = r := H.out.ne_gr (by omega)
  have rg : ¬ r = g := fun e => gr e.symm
  have n1 : ¬ r = w.heap.size := by omega
  have n2 : ¬ g = w.heap.size := by omega
  have n3 : ¬ w.heap.size = g := by omega
  have n4 : ¬ w.heap.size = r := by omega
  unfold maxLen at cap2
  have RH := Lib.hid R
  clear R
  go_enter Try.func44, Try.ntmps44
  go_wp2_with fail
  obtain ⟨W, hW⟩ : ∃ W, W = ((((w.setCell ⟨r, k * 3, none⟩ (.string ⟨#[]⟩)).setCell ⟨r, k * 3 + 1, none⟩ (.int .i64 0)).setCell ⟨r, k * 3 + 2, none⟩ (.int .i64 0)).setCell ⟨g, 0, none⟩ (.slice (some ⟨r, 0, none⟩) k cap)).alloc
      (Obj.cells #[.string (f k).key, .int .i64 (f k).s, .int .i64 (f k).e] 30) := ⟨_, rfl⟩
  rw [← hW]
  obtain ⟨L, R, M, V, X⟩ := popq_world H.out hW
  have nx : ¬ m = w.heap.size := by have := H.out.map.lt; omega
  have NX := Lib.hid nx
  clear hW x0 x1 x2 c0 c1 z0 fz gr rg n1 n2 n3 n4 RH nx
  have c1 := L.cell (i := 1) rfl
  have x0 := X.cell (i := 0) rfl
  have x1 := X.cell (i := 1) rfl
  have x2 := X.cell (i := 2) rfl
  have L := Lib.hid L
  have R := Lib.hid R
  have M := Lib.hid M
  have V := Lib.hid V
  have X := Lib.hid X
  have P0 : Hid (p (f k) = some k) := Lib.hid ((H.out.place (f k) k).2 ⟨by omega, rfl⟩)
  go_still_tail 5, (by kernel_rfl)
  refine wpList_drop rfl _ _ rfl (x := f k) (m := m) rfl rfl (M.out.kept rfl) (H.out.fits k (by omega)) P0.out (place0_upd _ _) ?_
  intro w1 M1 g1
  have G1 : Hid (W.grownBy w1 (some m)) := Lib.hid ⟨g1.os, g1.tape, g1.output, g1.size, g1.block⟩
  have M1 := Lib.hid M1
  clear g1 c1 x0 x1 x2
  have X1 : Hid (Lies w1 w.heap.size 30 [.string (f k).key, .int .i64 (f k).s, .int .i64 (f k).e]) := Lib.hid ((G1.out.block _ X.out.lt (fun e => NX.out (Option.some.inj e).symm)).trans X.out)
  have x0 := X1.out.cell (i := 0) rfl
  have x1 := X1.out.cell (i := 1) rfl
  have x2 := X1.out.cell (i := 2) rfl
  go_wp2
  go_ret
  exact popq_tail H.out L.out R.out V.out M1.out G1.out
end Tmr
end Go.Proofs.Ytomoophjcgahlaa
