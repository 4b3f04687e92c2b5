/-
  A mailbox in memory (its room, its list, whether it is closed), of whatever kind of elements.
-/
import Derived.Test.YtjncogjafljbiaaLists
import Derived.Test.YtjncogjafljbiaaFoot
namespace Go.Proofs.Ytjncogjafljbiaa
open Go.ChangeShapes Go.WideShapes Go.ChangeAt Go.RowKit Small Foot
set_option linter.unusedVariables false
namespace Bx

abbrev gp (g : Nat) : Value := .pointer (some ⟨g, 0, none⟩)
/-- its blocks -/
def Fp (g : Nat) (v : Value) : Nat → Prop := fun i => i = g ∨ v.ownBlock = some i
/-- a mailbox at g: its room, its list v, that reads as L, and whether it is closed -/
structure Is {α : Type} (K : Kind α) (T : TypeId) (w : World) (g : Nat) (room : Int) (cl : Bool) (v : Value) (L : List α) : Prop where
  lies : Lies w g T [.int .i64 room, v, .bool cl]
  own : Sl.Own K (g + 1) w v L
section
variable {α : Type} {K : Kind α} {T : TypeId} {w w' : World} {g : Nat} {room : Int} {cl : Bool} {v : Value} {L : List α}
theorem Is.next (h : Is K T w g room cl v L) (k : Below w.heap.size w w') : Is K T w' g room cl v L := ⟨h.lies.next k, h.own.next k⟩
theorem Is.in (h : Is K T w g room cl v L) : In w (Fp g v) := fun i hi => by
  rcases hi with rfl | hi
  · exact h.lies.lt
  · exact (h.own.lt i hi).2
theorem Is.from (h : Is K T w g room cl v L) : From g (Fp g v) := fun i hi => by
  rcases hi with rfl | hi
  · exact Nat.le_refl _
  · have := (h.own.lt i hi).1; omega
theorem Is.keep {F F' : Nat → Prop} (h : Is K T w g room cl v L) (k : Moves F F' w w') (a : Apart F (Fp g v)) : Is K T w' g room cl v L :=
  ⟨(k.kept a h.in g (.inl rfl)).trans h.lies, h.own.move fun i hi => k.kept a h.in i (.inr hi)⟩
theorem Is.not (h : Is K T w g room cl v L) : v.ownBlock ≠ some g := fun e => by have := (h.own.lt g e).1; omega
theorem Is.val (h : Is K T w g room cl v L) : ∃ A c, v = .slice A L.length c := by
  obtain ⟨b, _, h⟩ := h.own.is
  exact h.len
/-- with another list, and whether it is closed, written into it -/
theorem Is.put {w1 : World} {v' : Value} {L' : List α} (h : Is K T w g room cl v L) (k : w.grownBy w1 v.ownBlock) (o : Sl.Own K (g + 1) w1 v' L') (e : v'.ownBlock = v.ownBlock ∨ v'.ownBlock = some w.heap.size) :
    Is K T (w1.setCell ⟨g, 1, none⟩ v') g room cl v' L' ∧ Moves (Fp g v) (Fp g v') w (w1.setCell ⟨g, 1, none⟩ v') := by
  have l1 : Lies w1 g T [.int .i64 room, v, .bool cl] := (k.block g h.lies.lt (fun e => h.not e.symm)).trans h.lies
  refine ⟨⟨l1.put 1 v', o.move fun a ha => Below.heap_setCell w1 _ _ _ fun e => ?_⟩, k.os, k.tape, k.output, Nat.le_trans k.size (by simp), fun i hi hf => ?_, fun i hi => ?_⟩
  · have := (o.lt a ha).1
    simp at e
    omega
  · rw [Below.heap_setCell w1 ⟨g, 1, none⟩ v' i (fun e => hf (.inl e))]
    exact k.block i hi fun e => hf (.inr e.symm)
  · have s := k.size
    rcases hi with rfl | hi
    · exact ⟨.inl (.inl rfl), by have := h.lies.lt; simp; omega⟩
    · have := (o.lt i hi).2
      refine ⟨?_, by simpa using this⟩
      rcases e with e | e
      · exact .inl (.inr (e ▸ hi))
      · rw [e] at hi
        exact .inr (by have := Option.some.inj hi; omega)
theorem Is.shut (h : Is K T w g room cl v L) (x : Bool) : Is K T (w.setCell ⟨g, 2, none⟩ (.bool x)) g room x v L ∧ Moves (Fp g v) (Fp g v) w (w.setCell ⟨g, 2, none⟩ (.bool x)) := by
  refine ⟨⟨h.lies.put 2 _, h.own.move fun a ha => Below.heap_setCell w _ _ _ fun e => ?_⟩, rfl, rfl, rfl, by simp, fun i hi hf => Below.heap_setCell w ⟨g, 2, none⟩ _ i (fun e => hf (.inl e)), fun i hi => ⟨.inl hi, by simpa using h.in i hi⟩⟩
  have := (h.own.lt a ha).1
  simp at e
  omega
end

theorem below_drewN (w : World) (n : Nat) : Below w.heap.size w (w.drewN n) := by
  induction n with
  | zero => exact Below.refl _ _
  | succ n ih => exact ih.drew
/-- append, what it yields as a slice; a block of three stays -/
theorem wp_append_bx {α : Type} {K : Kind α} (O : K.Ok) {w : World} {o : Oper} {a : Act} {Kc : Act → World → Prop} {Q : Exit → Act → World → Prop} {l l2 : List α} {base b2 : Nat} (s x : Operand) (hop : o.op = Op.call { callee := Callee.builtin Builtin.append, args := #[s, x], argTypes := #[K.t, K.t] })
    (h : Sl.Own K base w (a.eval s) l) (hx : Sl.Is K w (a.eval x) l2 b2) (hn : l.length + l2.length ≤ 1048576) (hb : base ≤ w.heap.size) {g : Nat} {T : TypeId} {u0 u1 u2 : Value} (hl : Lies w g T [u0, u1, u2]) (hg : (a.eval s).ownBlock ≠ some g)
    (hK : ∀ A c w', w'.cell? ⟨g, 1, none⟩ = some u1 → w'.frozen? ⟨g, 1, none⟩ = false → Sl.Own K base w' (.slice A (l ++ l2).length c) (l ++ l2) → w.grownBy w' (a.eval s).ownBlock → ((Value.slice A (l ++ l2).length c).ownBlock = (a.eval s).ownBlock ∨ (Value.slice A (l ++ l2).length c).ownBlock = some w.heap.size) → Kc (a.put o.dst (.slice A (l ++ l2).length c)) w') : o.wp Try.prog a w Kc Q := by
  obtain ⟨v', w', hr, q1, q2, q3⟩ := Sl.run_append O o.type h hx hn hb
  obtain ⟨A, c, rfl⟩ : ∃ A c, v' = .slice A (l ++ l2).length c := by obtain ⟨b, _, h⟩ := q1.is; exact h.len
  have lw : Lies w' g T [u0, u1, u2] := (q2.block g hl.lt fun e => hg e.symm).trans hl
  unfold Oper.wp
  simp [execOp, hop, resolve, invoke, builtin, hr, Result.andThen]
  have := hK A c w' (lw.cell rfl) (lw.open_ 1) q1 q2 q3
  rw [List.length_append] at this
  exact this
end Bx
end Go.Proofs.Ytjncogjafljbiaa
