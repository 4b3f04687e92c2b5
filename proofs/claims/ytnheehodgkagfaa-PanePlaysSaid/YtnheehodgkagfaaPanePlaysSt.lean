/-
  PanePlays: what its round keeps; deeds that came in; the arms of its round are texts of their own.
-/
import Derived.Test.YtnheehodgkagfaaUp07
import Derived.Test.YtnheehodgkagfaaPaneRef
import Derived.Test.YtnheehodgkagfaaRowsOf
import Derived.Test.YtnheehodgkagfaaLaid
import Derived.Deep.DeepCutAuto
namespace Go.Proofs.Ytnheehodgkagfaa.panePlays
open Go.ChangeShapes Go.WideShapes Go.ChangeAt Go.RowKit Small Pane
set_option linter.unusedVariables false

/-! ### deeds that came in -/
structure Deed where
  what : Int
  s : Int
  e : Int
  v : Int
instance : Inhabited Deed := ⟨⟨0, 0, 0, 0⟩⟩
abbrev dl (x : Deed) : List Value := [.int .i64 x.what, .int .i64 x.s, .int .i64 x.e, .int .i64 x.v]
def DFits (x : Deed) : Prop := (Lit.int .i64 x.what).wf = true
theorem cellsD : Try.prog.cellsOf 28 = 4 := by kernel_rfl
theorem cellsN : Try.prog.cellsOf 3 = 1 := by kernel_rfl
theorem cellsI : Try.prog.cellsOf 2 = 1 := by kernel_rfl
theorem cellsSp : Try.prog.cellsOf 26 = 2 := by kernel_rfl
section
variable {H : Type} {enc : TypeId × Value → H} {w : World} {base : Nat} {held : Bool} {spare : Nat → Bool}
theorem span_cells (m : Nat) (cs : List Value) (y : DataW H × List MemPlace) (h : DataW.trod enc Try.prog w base spare held m 26 cs = some y) : ∃ a b : Int, cs = [.int .i64 a, .int .i64 b] := by
  obtain ⟨xs, n, _, _, hl, hlen, hat⟩ := DataW.trod_struct Try.underlying26 h
  match cs, hl.trans cellsSp with
  | [c0, c1], _ =>
    match xs, hlen with
    | [y0, y1], _ =>
      have g0 := hat 0 _ rfl
      have g1 := hat 1 _ rfl
      simp [cellsI] at g0 g1
      obtain ⟨a0, e0, -, w0⟩ := DataW.trod_int Try.underlying2 g0
      obtain ⟨a1, e1, -, w1⟩ := DataW.trod_int Try.underlying2 g1
      simp at e0 e1
      subst e0 e1
      exact ⟨a0, a1, rfl⟩
theorem deed_cells (m : Nat) (cs : List Value) (y : DataW H × List MemPlace) (h : DataW.trod enc Try.prog w base spare held m 28 cs = some y) : ∃ x : Deed, cs = dl x ∧ DFits x := by
  obtain ⟨xs, n, _, _, hl, hlen, hat⟩ := DataW.trod_struct Try.underlying28 h
  match cs, hl.trans cellsD with
  | [c0, c1, c2, c3], _ =>
    match xs, hlen with
    | [y0, y1, y2], _ =>
      have g0 := hat 0 _ rfl
      have g1 := hat 1 _ rfl
      have g2 := hat 2 _ rfl
      simp [cellsN, cellsSp, cellsI] at g0 g1 g2
      obtain ⟨a0, e0, -, w0⟩ := DataW.trod_int Try.underlying3 g0
      obtain ⟨a, b, e1⟩ := span_cells _ _ _ g1
      obtain ⟨a2, e2, -, w2⟩ := DataW.trod_int Try.underlying2 g2
      simp at e0 e1 e2
      obtain ⟨rfl, rfl⟩ := e1
      subst e0 e2
      exact ⟨⟨a0, a, b, a2⟩, rfl, w0⟩
end
theorem open_deeds {H : Type} {enc : TypeId × Value → H} {w : World} {base : Nat} {held : Bool} {spare : Nat → Bool} {r : Reach} {b0 : Nat} {v : Value} {d : DataW H} {p : List MemPlace}
    (hv : Value.okWide Try.prog w r b0 22 v) (h : DataW.Trod enc Try.prog w base spare held 22 v d p) :
    ∃ x : Option Addr × Nat × Nat × (Nat → Deed), v = .slice x.1 x.2.1 x.2.2.1 ∧ Opens.IsRows dl 4 DFits w x :=
  Opens.open_rows dl DFits Try.underlying22 cellsD (by omega) deed_cells hv h

/-! ### the list, and what it is held against -/
/-- is a pane's window the one that is asked for: the same, or, merged in, one that meets it -/
abbrev hits (mg : Bool) (s e : Int) (p : Pn) : Bool := if mg then meets s e p else decide (Eq2 p s e)
abbrev restH (mg : Bool) (s e : Int) (L : List Pn) : List Pn := L.filter fun p => !hits mg s e p
abbrev metH (mg : Bool) (s e : Int) (L : List Pn) : List Pn := L.filter (hits mg s e)
theorem rest_noH {mg : Bool} {s e : Int} {L : List Pn} {i : Nat} {p : Pn} (h : L[i]? = some p) (hm : hits mg s e p = false) : restH mg s e (L.take (i + 1)) = restH mg s e (L.take i) ++ [p] ∧ metH mg s e (L.take (i + 1)) = metH mg s e (L.take i) := by
  rw [List.take_add_one, h]
  simp only [restH, metH, List.filter_append, Option.toList_some, List.filter_cons, List.filter_nil, hm]
  simp
theorem rest_yesH {mg : Bool} {s e : Int} {L : List Pn} {i : Nat} {p : Pn} (h : L[i]? = some p) (hm : hits mg s e p = true) : restH mg s e (L.take (i + 1)) = restH mg s e (L.take i) ∧ metH mg s e (L.take (i + 1)) = metH mg s e (L.take i) ++ [p] := by
  rw [List.take_add_one, h]
  simp only [restH, metH, List.filter_append, Option.toList_some, List.filter_cons, List.filter_nil, hm]
  simp

/-- what lies in memory in the midst of a round: the deed, the pane that is made, the rest, those that are met -/
structure DS (B : World) (g0 g1 : Nat) (d : Deed) (x : Pn) (vr vm : Value) (R : List Pn) (M : List (Int × Int)) (w : World) : Prop where
  below : Below B.heap.size B w
  lo0 : B.heap.size ≤ g0
  lo1 : B.heap.size ≤ g1
  n01 : g0 ≠ g1
  deed : Lies w g0 28 (dl d)
  one : Lies w g1 33 x.cl
  rest : Sl.Own Pn.k B.heap.size w vr R
  met : Sl.Own Wn.k B.heap.size w vm M
  nr : ∀ a, vr.ownBlock = some a → a ≠ g0 ∧ a ≠ g1 ∧ vm.ownBlock ≠ some a
  nm : ∀ a, vm.ownBlock = some a → a ≠ g0 ∧ a ≠ g1
section
variable {B w w' : World} {g0 g1 : Nat} {d : Deed} {x x' : Pn} {vr vm v' : Value} {R R' : List Pn} {M M' : List (Int × Int)}
theorem DS.next (h : DS B g0 g1 d x vr vm R M w) (k : Below w.heap.size w w') : DS B g0 g1 d x vr vm R M w' :=
  ⟨after h.below k, h.lo0, h.lo1, h.n01, h.deed.next k, h.one.next k, h.rest.next k, h.met.next k, h.nr, h.nm⟩
theorem DS.rested (h : DS B g0 g1 d x vr vm R M w) (o : Sl.Own Pn.k B.heap.size w' v' R') (k : w.grownBy w' vr.ownBlock) (q : v'.ownBlock = vr.ownBlock ∨ v'.ownBlock = some w.heap.size) : DS B g0 g1 d x v' vm R' M w' := by
  have ne : ∀ a : Nat, (a = g0 ∨ a = g1 ∨ vm.ownBlock = some a) → some a ≠ vr.ownBlock := fun a ha e => by
    have := h.nr a e.symm
    rcases ha with r | r | r
    · exact this.1 r
    · exact this.2.1 r
    · exact this.2.2 r
  refine ⟨h.below.grown k h.below.size (fun a ha => (h.rest.lt a ha).1), h.lo0, h.lo1, h.n01, lies_grown h.deed k (ne _ (.inl rfl)), lies_grown h.one k (ne _ (.inr (.inl rfl))), o,
    h.met.move fun a ha => k.block a (h.met.lt a ha).2 (ne a (.inr (.inr ha))), fun a ha => ?_, h.nm⟩
  rcases q with q | q
  · exact h.nr a (q ▸ ha)
  · rw [q] at ha
    obtain rfl := Option.some.inj ha
    have l0 := h.deed.lt
    have l1 := h.one.lt
    exact ⟨by omega, by omega, fun e => by have := (h.met.lt _ e).2; omega⟩
theorem DS.metted (h : DS B g0 g1 d x vr vm R M w) (o : Sl.Own Wn.k B.heap.size w' v' M') (k : w.grownBy w' vm.ownBlock) (q : v'.ownBlock = vm.ownBlock ∨ v'.ownBlock = some w.heap.size) : DS B g0 g1 d x vr v' R M' w' := by
  have ne : ∀ a : Nat, (a = g0 ∨ a = g1) → some a ≠ vm.ownBlock := fun a ha e => by
    have := h.nm a e.symm
    rcases ha with r | r
    · exact this.1 r
    · exact this.2 r
  refine ⟨h.below.grown k h.below.size (fun a ha => (h.met.lt a ha).1), h.lo0, h.lo1, h.n01, lies_grown h.deed k (ne _ (.inl rfl)), lies_grown h.one k (ne _ (.inr rfl)),
    h.rest.move fun a ha => k.block a (h.rest.lt a ha).2 (fun e => (h.nr a ha).2.2 e.symm), o, fun a ha => ?_, fun a ha => ?_⟩
  · have := h.nr a ha
    refine ⟨this.1, this.2.1, fun e => ?_⟩
    rcases q with q | q
    · exact this.2.2 (q ▸ e)
    · rw [q] at e
      obtain rfl := Option.some.inj e
      have := (h.rest.lt _ ha).2
      omega
  · rcases q with q | q
    · exact h.nm a (q ▸ ha)
    · rw [q] at ha
      obtain rfl := Option.some.inj ha
      have l0 := h.deed.lt
      have l1 := h.one.lt
      exact ⟨by omega, by omega⟩
theorem DS.oned (h : DS B g0 g1 d x vr vm R M w) (o : Lies w' g1 33 x'.cl) (k : w.grownBy w' (some g1)) : DS B g0 g1 d x' vr vm R M w' := by
  have ne : ∀ a : Nat, a ≠ g1 → some a ≠ some g1 := fun a ha e => ha (Option.some.inj e)
  exact ⟨h.below.grown k h.below.size (fun a ha => by obtain rfl := Option.some.inj ha; exact h.lo1), h.lo0, h.lo1, h.n01, lies_grown h.deed k (ne _ h.n01), o,
    h.rest.move fun a ha => k.block a (h.rest.lt a ha).2 (ne _ (h.nr a ha).2.1), h.met.move fun a ha => k.block a (h.met.lt a ha).2 (ne _ (h.nm a ha).2), h.nr, h.nm⟩
end

/-- block n of a text -/
def blk (n : Nat) : Code → Option Code
  | .block m c => if m = n then some (.block m c) else blk n c
  | .seq a b => match blk n a with
    | some c => some c
    | none => blk n b
  | .loop c => blk n c
  | .scope c => blk n c
  | .cond _ a b => match blk n a with
    | some c => some c
    | none => blk n b
  | _ => none
end Go.Proofs.Ytnheehodgkagfaa.panePlays
