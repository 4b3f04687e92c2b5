/-
  A Log in memory; contracts of outlog's New, Put, All and Of, and of easelref06.Of: those of a key, in order.
-/
import Derived.Test.YtemklcckhpchaaaGreatOutClone
import Derived.Test.YtemklcckhpchaaaGreatFoot
namespace Go.Proofs.YtemklcckhpchaaaGreat
open Go.ChangeShapes Go.WideShapes Go.ChangeAt Go.RowKit
namespace Out
open Small
set_option linter.unusedVariables false

/-- blocks but those of F stay -/
structure Wr (F : Nat → Prop) (w w' : World) : Prop where
  os : w'.os = w.os
  tape : w'.tape = w.tape
  output : w'.output = w.output
  size : w.heap.size ≤ w'.heap.size
  block : ∀ i, i < w.heap.size → ¬ F i → w'.heap[i]? = w.heap[i]?
theorem Wr.below {F : Nat → Prop} {w w' : World} {B : Nat} (h : Wr F w w') (hB : B ≤ w.heap.size) (hF : ∀ i, F i → B ≤ i) : Below B w w' :=
  ⟨h.os, h.tape, h.output, h.size, fun i hi => h.block i (by omega) fun f => by have := hF i f; omega⟩

/-- a Log at g: its list is v, that reads as L; it lies behind g -/
structure Lg (w : World) (g : Nat) (v : Value) (L : List Pn) : Prop where
  lies : Lies w g 92 [v]
  own : Sl.Own Pn.k (g + 1) w v L
abbrev gp (g : Nat) : Value := .pointer (some ⟨g, 0, none⟩)
theorem Lg.next {w w' : World} {g : Nat} {v : Value} {L : List Pn} (h : Lg w g v L) (k : Below w.heap.size w w') : Lg w' g v L := ⟨h.lies.next k, h.own.next k⟩
theorem Lg.keep {w w' : World} {g : Nat} {v : Value} {L : List Pn} {F : Nat → Prop} (h : Lg w g v L) (k : Wr F w w') (h1 : ¬ F g) (h2 : ∀ a, v.ownBlock = some a → ¬ F a) : Lg w' g v L :=
  ⟨(k.block g h.lies.lt h1).trans h.lies, h.own.move fun a ha => k.block a (h.own.lt a ha).2 (h2 a ha)⟩
theorem Lg.is {w : World} {g : Nat} {v : Value} {L : List Pn} (h : Lg w g v L) : ∃ b, Sl.Is Pn.k w v L b := by
  obtain ⟨b, _, h⟩ := h.own.is
  exact ⟨b, h⟩

/-- append, what it yields as a slice -/
theorem wp_append_sl {w : World} {o : Oper} {a : Act} {Kc : Act → World → Prop} {Q : Exit → Act → World → Prop} {l l2 : List Pn} {base : Nat} (s x : Operand) (hop : o.op = Op.call { callee := Callee.builtin Builtin.append, args := #[s, x], argTypes := #[Pn.k.t, Pn.k.t] })
    (h : Sl.Own Pn.k base w (a.eval s) l) (hx : Rd w (a.eval x) l2) (hn : l.length + l2.length ≤ 1048576) (hb : base ≤ w.heap.size) {g : Nat} {T : TypeId} {v0 : Value} (hl : Lies w g T [v0]) (hg : (a.eval s).ownBlock ≠ some g)
    (hK : ∀ A c w', w'.cell? ⟨g, 0, none⟩ = some v0 → w'.frozen? ⟨g, 0, none⟩ = false → Sl.Own Pn.k base w' (.slice A (l ++ l2).length c) (l ++ l2) → w.grownBy w' (a.eval s).ownBlock → ((Value.slice A (l ++ l2).length c).ownBlock = (a.eval s).ownBlock ∨ (Value.slice A (l ++ l2).length c).ownBlock = some w.heap.size) → Kc (a.put o.dst (.slice A (l ++ l2).length c)) w') : o.wp Tryz.prog a w Kc Q := by
  obtain ⟨v', w', hr, q1, q2, q3⟩ := run_append_rd o.type h hx hn hb
  obtain ⟨A, c, rfl⟩ : ∃ A c, v' = .slice A (l ++ l2).length c := by obtain ⟨b, _, h⟩ := q1.is; exact h.len
  have lw : Lies w' g T [v0] := (q2.block g hl.lt fun e => hg e.symm).trans hl
  unfold Oper.wp
  simp [execOp, hop, resolve, invoke, builtin, hr, Result.andThen]
  have := hK A c w' (lw.cell rfl) (lw.open_ 0) q1 q2 q3
  rw [List.length_append] at this
  exact this


set_option maxHeartbeats 800000 in
theorem new_ok (w : World) : Calls Tryz.prog 26 #[] w fun r w' => r = .returned (gp w.heap.size) ∧ Lg w' w.heap.size (.slice none 0 0) [] ∧ Below w.heap.size w w' := by
  go_enter Tryz.func26, Tryz.ntmps26
  go_wp2
  go_ret
  exact ⟨rfl, ⟨Lies.new _ _ _, Sl.Own.nil _ _ _⟩, below1 _ _⟩

set_option maxHeartbeats 1600000 in
theorem put_ok (g : Nat) (v x : Value) (L X : List Pn) (w : World) (H : Hid (Lg w g v L)) (G : Hid (Rd w x X)) (hn : L.length + X.length ≤ 9000) :
    Calls Tryz.prog 29 #[gp g, x] w fun r w' => ∃ v', r = .returned (.tuple #[]) ∧ Lg w' g v' (L ++ X) ∧ (v'.ownBlock = v.ownBlock ∨ v'.ownBlock = some w.heap.size) ∧ Wr (fun i => i = g ∨ v.ownBlock = some i) w w' := by
  have c0 := H.out.lies.cell (i := 0) rfl
  have fz := H.out.lies.open_ 0
  have NG : Hid (v.ownBlock ≠ some g) := Lib.hid fun e => by have := (H.out.own.lt g e).1; omega
  go_enter Tryz.func29, Tryz.ntmps29
  go_wp2_with (at_builtin; refine wpList_plain rfl fun K' hK' => wp_append_sl (.tmp 8) (.tmp 9) rfl (base := g + 1) (l := L) (l2 := X) (by exact H.out.own) (by exact G.out) (by omega) (by exact H.out.lies.lt) (g := g) (by exact H.out.lies) (by exact NG.out) (fun A cap w3 y1 y2 x1 x2 x3 => hK' _ _ ?_))
  obtain ⟨v', hv'⟩ : ∃ v', v' = Value.slice A (L.length + X.length) cap := ⟨_, rfl⟩
  rw [List.length_append, ← hv'] at x1 x3
  have X1 := Lib.hid x1
  have HV := Lib.hid hv'
  clear hv'
  have X2 : Hid (w.grownBy w3 v.ownBlock) := Lib.hid x2
  have X3 : Hid (v'.ownBlock = v.ownBlock ∨ v'.ownBlock = some w.heap.size) := Lib.hid x3
  have L3 : Hid (Lies w3 g 92 [v]) := Lib.hid ((X2.out.block g H.out.lies.lt (fun e => NG.out e.symm)).trans H.out.lies)
  clear x1 x2 x3 c0 fz y1 y2
  go_end0
  rw [← HV.out]
  refine ⟨v', rfl, ⟨by have := L3.out.put 0 v'; exact this, X1.out.move fun a ha => Below.heap_setCell w3 _ _ _ fun e => ?_⟩, X3.out, ?_⟩
  · have := (X1.out.lt a ha).1
    simp at e
    omega
  · have k := X2.out
    refine ⟨k.os, k.tape, k.output, Nat.le_trans k.size (by simp), fun i hi hf => ?_⟩
    rw [Below.heap_setCell w3 ⟨g, 0, none⟩ v' i (fun e => hf (.inl e))]
    exact k.block i hi fun e => hf (.inr e.symm)

set_option maxHeartbeats 800000 in
theorem all_ok (g : Nat) (v : Value) (L : List Pn) (w : World) (H : Hid (Lg w g v L)) (hn : L.length ≤ 9000) :
    Calls Tryz.prog 32 #[gp g] w fun r w' => ∃ v', r = .returned v' ∧ Sl.Own Pn.k w.heap.size w' v' L ∧ Below w.heap.size w w' := by
  have c0 := H.out.lies.cell (i := 0) rfl
  obtain ⟨b, hb⟩ := H.out.is
  have hc := clone_ok v L w (Lib.hid (.inl ⟨b, hb⟩)) hn
  clear hb
  go_enter Tryz.func32, Tryz.ntmps32
  go_wp2_with fail
  refine hc.mono ?_
  rintro r w1 ⟨v1, rfl, o1, k1⟩
  have O1 := Lib.hid o1
  have K1 := Lib.hid k1
  clear o1 k1 c0
  go_wp2
  go_ret
  exact ⟨_, rfl, O1.out, K1.out⟩

/-- those of a key -/
abbrev ofKey (key : ByteArray) (L : List Pn) : List Pn := L.filter (fun p => decide (p.key = key))
theorem ofKey_len (key : ByteArray) (L : List Pn) (i : Nat) : (ofKey key (L.take i)).length ≤ i := by
  have := List.length_filter_le (fun p : Pn => decide (p.key = key)) (L.take i)
  rw [List.length_take] at this
  simp only [ofKey]
  omega
theorem ofKey_next (key : ByteArray) (L : List Pn) (i : Nat) (p : Pn) (h : L[i]? = some p) : ofKey key (L.take (i + 1)) = ofKey key (L.take i) ++ (if p.key = key then [p] else []) := by
  rw [List.take_add_one, h]
  simp only [ofKey, List.filter_append, Option.toList_some, List.filter_cons, List.filter_nil, decide_eq_true_eq]


end Out
end Go.Proofs.YtemklcckhpchaaaGreat
