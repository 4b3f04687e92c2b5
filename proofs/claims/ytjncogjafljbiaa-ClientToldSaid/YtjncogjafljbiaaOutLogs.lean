/-
  slices.Clone over panes: a list of the call's own that reads as the one that was handed in; append of a slice that came in.
  A Log in memory; contracts of outlog's New, Put, All and Of, and of easelref06.Of: those of a key, in order.
-/
import Derived.Test.YtjncogjafljbiaaOutList
import Derived.Lib.SliceRun
import Derived.Deep.RegionLaw
import Derived.Test.YtjncogjafljbiaaFoot
namespace Go.Proofs.Ytjncogjafljbiaa
open Go.ChangeShapes Go.WideShapes Go.ChangeAt Go.RowKit
namespace Out
open Small
set_option linter.unusedVariables false
set_option maxRecDepth 100000

theorem run_append_0 (ty : TypeId) {w : World} {v : Value} {L : List Pn} {base : Nat} (a : Addr) (cap : Nat) (h : Sl.Own Pn.k base w v L) (hn : L.length ≤ 1048576) (hb : base ≤ w.heap.size) :
    ∃ v' w', (Builtin.append_ #[Pn.k.t, Pn.k.t] ty #[v, .slice (some a) 0 cap]).run Try.prog w = .ok v' w' ∧ Sl.Own Pn.k base w' v' L ∧ w.grownBy w' v.ownBlock ∧ (v'.ownBlock = v.ownBlock ∨ v'.ownBlock = some w.heap.size) := by
  have O := Pn.ok
  obtain ⟨i0, hi, hz0, hz1, hz2⟩ := info_parts O.info
  have hsm := O.small
  obtain ⟨v', w', hr, q1, q2, _, q3⟩ := run_append_own_at (P := Try.prog) w base Pn.k.t ty Pn.k.e i0 Pn.k.zero Pn.k.k Pn.k.bytes O.under hi hz0 hz1 hz2 O.zs O.pos v _ _ h a 0 cap [] (by simp)
    (fun j u hj => by simp at hj) (fun u hu => by simp at hu) (by unfold maxLen; omega) (Nat.le_trans (Nat.mul_le_mul (show L.length + 0 ≤ 1048576 by omega) hsm) (by decide)) hb
  exact ⟨v', w', hr, by rw [List.append_nil] at q1; exact q1, q2, q3⟩
theorem run_append_rd (ty : TypeId) {w : World} {v x : Value} {L X : List Pn} {base : Nat} (h : Sl.Own Pn.k base w v L) (hx : Rd w x X) (hn : L.length + X.length ≤ 1048576) (hb : base ≤ w.heap.size) :
    ∃ v' w', (Builtin.append_ #[Pn.k.t, Pn.k.t] ty #[v, x]).run Try.prog w = .ok v' w' ∧ Sl.Own Pn.k base w' v' (L ++ X) ∧ w.grownBy w' v.ownBlock ∧ (v'.ownBlock = v.ownBlock ∨ v'.ownBlock = some w.heap.size) := by
  rcases hx with ⟨b, hx⟩ | ⟨rfl, a, cap, rfl⟩
  · exact Sl.run_append Pn.ok ty h hx hn hb
  · rw [List.append_nil]
    exact run_append_0 ty a cap h (by omega) hb
theorem wp_append_0 {w : World} {o : Oper} {a : Act} {Kc : Act → World → Prop} {Q : Exit → Act → World → Prop} {b cap : Nat} {ad : Addr} (s x : Operand) (hop : o.op = Op.call { callee := Callee.builtin Builtin.append, args := #[s, x], argTypes := #[Pn.k.t, Pn.k.t] })
    (hs : a.eval s = .slice (some ⟨b, 0, none⟩) 0 0) (hx : a.eval x = .slice (some ad) 0 cap) (hK : Kc (a.put o.dst (.slice (some ⟨b, 0, none⟩) 0 0)) w) : o.wp Try.prog a w Kc Q := by
  obtain ⟨i0, hi, hz0, hz1, hz2⟩ := info_parts Pn.ok.info
  have hf := run_firstCells_some (P := Try.prog) w i0.size 0 ad 0 cap [] (by simp) (by simp)
  have hr : (Builtin.append_ #[Pn.k.t, Pn.k.t] o.type #[.slice (some ⟨b, 0, none⟩) 0 0, .slice (some ad) 0 cap]).run Try.prog w = .ok (.slice (some ⟨b, 0, none⟩) 0 0) w := by
    simp [Builtin.append_, run_underlying Pn.ok.under, sizeOf, typeInfo, hi, Builtin.lenOf, hf, storeCells, Result.andThen]
  unfold Oper.wp
  simp [execOp, hop, resolve, invoke, builtin, hs, hx, hr, Result.andThen]
  exact hK

set_option maxHeartbeats 800000 in
theorem clone_is (v : Value) (L : List Pn) (b : Nat) (w : World) (H : Hid (Sl.Is Pn.k w v L b)) (hn : L.length ≤ 9000) :
    Calls Try.prog 66 #[v] w fun r w' => ∃ v', r = .returned v' ∧ Sl.Own Pn.k w.heap.size w' v' L ∧ Below w.heap.size w w' := by
  rcases H.out with ⟨rfl, rfl⟩ | ⟨off, cap, rfl, h2, h3, h4, h5⟩
  · clear H
    go_enter Try.func66, Try.ntmps66
    have e0 : ∀ w, (binOp .eql 41 (.slice none 0 0) (.slice none 0 0)).run Try.prog w = .ok (.bool true) w := fun w => Lib.run_eql_slice_nil w _ _ _ _ _ _ _ Try.underlying41
    go_wp2
    go_ret
    exact ⟨_, rfl, Sl.Own.nil _ _ _, Below.refl _ _⟩
  · clear h2 h3 h4 h5
    go_enter Try.func66, Try.ntmps66
    have e0 : ∀ w, (binOp .eql 41 (.slice (some ⟨b, off, none⟩) L.length cap) (.slice none 0 0)).run Try.prog w = .ok (.bool false) w := fun w => Lib.run_eql_slice_nil w _ _ _ _ _ _ _ Try.underlying41
    go_wp2_with (at_builtin; refine wpList_plain rfl fun K' hK' => Sl.wp_append_empty (K := Pn.k) Pn.ok (.tmp 5) (.tmp 6) rfl (b := w.heap.size) (base := w.heap.size) (l2 := L) (b2 := b) rfl (heap_alloc_new _ _) (Nat.le_refl _) (by exact H.out.next (below1 _ _)) (by omega) (by simp) (fun u w8 x1 x2 => hK' _ _ ?_))
    have B := Lib.hid (after (below1 _ _) x2)
    have X1 := Lib.hid x1
    clear x1 x2 
    go_wp2
    go_ret
    exact ⟨_, rfl, X1.out, B.out⟩
set_option maxHeartbeats 800000 in
theorem clone_0 (a : Addr) (cap : Nat) (w : World) :
    Calls Try.prog 66 #[.slice (some a) 0 cap] w fun r w' => ∃ v', r = .returned v' ∧ Sl.Own Pn.k w.heap.size w' v' [] ∧ Below w.heap.size w w' := by
  go_enter Try.func66, Try.ntmps66
  have e0 : ∀ w, (binOp .eql 41 (.slice (some a) 0 cap) (.slice none 0 0)).run Try.prog w = .ok (.bool false) w := fun w => Lib.run_eql_slice_nil w _ _ _ _ _ _ _ Try.underlying41
  go_wp2_with (at_builtin; refine wpList_plain rfl fun K' hK' => wp_append_0 (.tmp 5) (.tmp 6) rfl (b := w.heap.size) (ad := a) (cap := cap) rfl rfl (hK' _ _ ?_))
  go_ret
  exact ⟨_, rfl, Sl.Own.empty (heap_alloc_new _ _) (Nat.le_refl _), below1 _ _⟩
theorem clone_ok (v : Value) (L : List Pn) (w : World) (H : Hid (Rd w v L)) (hn : L.length ≤ 9000) :
    Calls Try.prog 66 #[v] w fun r w' => ∃ v', r = .returned v' ∧ Sl.Own Pn.k w.heap.size w' v' L ∧ Below w.heap.size w w' := by
  rcases H.out with ⟨b, h⟩ | ⟨rfl, a, cap, rfl⟩
  · exact clone_is v L b w (Lib.hid h) hn
  · exact clone_0 a cap w

end Out
end Go.Proofs.Ytjncogjafljbiaa

namespace Go.Proofs.Ytjncogjafljbiaa
open Go.ChangeShapes Go.WideShapes Go.ChangeAt Go.RowKit
namespace Out
open Small
set_option linter.unusedVariables false

/-- blocks but those of F stay -/
structure Wr (F : Nat → Prop) (w w' : World) : Prop where
  os : w'.os = w.os
  tape : w'.tape = w.tape
  output : w'.output = w.output
  size : w.heap.size ≤ w'.heap.size
  block : ∀ i, i < w.heap.size → ¬ F i → w'.heap[i]? = w.heap[i]?
theorem Wr.below {F : Nat → Prop} {w w' : World} {B : Nat} (h : Wr F w w') (hB : B ≤ w.heap.size) (hF : ∀ i, F i → B ≤ i) : Below B w w' :=
  ⟨h.os, h.tape, h.output, h.size, fun i hi => h.block i (by omega) fun f => by have := hF i f; omega⟩


/-- append, what it yields as a slice -/
theorem wp_append_sl {w : World} {o : Oper} {a : Act} {Kc : Act → World → Prop} {Q : Exit → Act → World → Prop} {l l2 : List Pn} {base : Nat} (s x : Operand) (hop : o.op = Op.call { callee := Callee.builtin Builtin.append, args := #[s, x], argTypes := #[Pn.k.t, Pn.k.t] })
    (h : Sl.Own Pn.k base w (a.eval s) l) (hx : Rd w (a.eval x) l2) (hn : l.length + l2.length ≤ 1048576) (hb : base ≤ w.heap.size) {g : Nat} {T : TypeId} {v0 : Value} (hl : Lies w g T [v0]) (hg : (a.eval s).ownBlock ≠ some g)
    (hK : ∀ A c w', w'.cell? ⟨g, 0, none⟩ = some v0 → w'.frozen? ⟨g, 0, none⟩ = false → Sl.Own Pn.k base w' (.slice A (l ++ l2).length c) (l ++ l2) → w.grownBy w' (a.eval s).ownBlock → ((Value.slice A (l ++ l2).length c).ownBlock = (a.eval s).ownBlock ∨ (Value.slice A (l ++ l2).length c).ownBlock = some w.heap.size) → Kc (a.put o.dst (.slice A (l ++ l2).length c)) w') : o.wp Try.prog a w Kc Q := by
  obtain ⟨v', w', hr, q1, q2, q3⟩ := run_append_rd o.type h hx hn hb
  obtain ⟨A, c, rfl⟩ : ∃ A c, v' = .slice A (l ++ l2).length c := by obtain ⟨b, _, h⟩ := q1.is; exact h.len
  have lw : Lies w' g T [v0] := (q2.block g hl.lt fun e => hg e.symm).trans hl
  unfold Oper.wp
  simp [execOp, hop, resolve, invoke, builtin, hr, Result.andThen]
  have := hK A c w' (lw.cell rfl) (lw.open_ 0) q1 q2 q3
  rw [List.length_append] at this
  exact this


/-- those of a key -/
abbrev ofKey (key : ByteArray) (L : List Pn) : List Pn := L.filter (fun p => decide (p.key = key))
theorem ofKey_len (key : ByteArray) (L : List Pn) (i : Nat) : (ofKey key (L.take i)).length ≤ i := by
  have := List.length_filter_le (fun p : Pn => decide (p.key = key)) (L.take i)
  rw [List.length_take] at this
  simp only [ofKey]
  omega
theorem ofKey_next (key : ByteArray) (L : List Pn) (i : Nat) (p : Pn) (h : L[i]? = some p) : ofKey key (L.take (i + 1)) = ofKey key (L.take i) ++ (if p.key = key then [p] else []) := by
  rw [List.take_add_one, h]
  simp only [ofKey, List.filter_append, Option.toList_some, List.filter_cons, List.filter_nil, decide_eq_true_eq]


end Out
end Go.Proofs.Ytjncogjafljbiaa
