/-
  Timers that came in.
-/
import Derived.Test.YtomoophjcgahlaaRowsOf
import Derived.Test.YtomoophjcgahlaaTmrMap
namespace Go.Proofs.Ytomoophjcgahlaa
open Go.RowKit Go.WideShapes Go.ChangeShapes
namespace Tmr
set_option linter.unusedVariables false

instance : Inhabited Tm := ⟨⟨⟨#[]⟩, 0, 0⟩⟩
abbrev tl (x : Tm) : List Value := [.string x.key, .int .i64 x.s, .int .i64 x.e]

section
variable {H : Type} {enc : TypeId × Value → H} {w : World} {base : Nat} {held : Bool} {spare : Nat → Bool}
theorem span_cells (m : Nat) (cs : List Value) (y : DataW H × List MemPlace) (h : DataW.trod enc Try.prog w base spare held m 28 cs = some y) :
    ∃ a b : Int, cs = [.int .i64 a, .int .i64 b] ∧ (Lit.int .i64 a).wf = true ∧ (Lit.int .i64 b).wf = true := by
  obtain ⟨xs, n, _, _, hl, hlen, hat⟩ := DataW.trod_struct Try.underlying28 h
  match cs, hl.trans cellsSp with
  | [c0, c1], _ =>
    match xs, hlen with
    | [y0, y1], _ =>
      have g0 := hat 0 _ rfl
      have g1 := hat 1 _ rfl
      simp [cellsI] at g0 g1
      obtain ⟨a0, e0, -, w0⟩ := DataW.trod_int Try.underlying2 g0
      obtain ⟨a1, e1, -, w1⟩ := DataW.trod_int Try.underlying2 g1
      simp at e0 e1
      subst e0 e1
      exact ⟨a0, a1, rfl, w0, w1⟩
theorem timer_cells (m : Nat) (cs : List Value) (y : DataW H × List MemPlace) (h : DataW.trod enc Try.prog w base spare held m 30 cs = some y) : ∃ x : Tm, cs = tl x ∧ Fits x := by
  obtain ⟨xs, n, _, _, hl, hlen, hat⟩ := DataW.trod_struct Try.underlying30 h
  match cs, hl.trans cellsT with
  | [c0, c1, c2], _ =>
    match xs, hlen with
    | [y0, y1], _ =>
      have g0 := hat 0 _ rfl
      have g1 := hat 1 _ rfl
      simp [cellsS, cellsSp] at g0 g1
      obtain ⟨s, e0, -, w0⟩ := DataW.trod_string Try.underlying9 g0
      obtain ⟨a, b, e1, w1, w2⟩ := span_cells _ _ _ g1
      simp at e0 e1
      obtain ⟨rfl, rfl⟩ := e1
      subst e0
      exact ⟨⟨s, a, b⟩, rfl, w0, w1, w2⟩
end

theorem open_timers {H : Type} {enc : TypeId × Value → H} {w : World} {base : Nat} {held : Bool} {spare : Nat → Bool} {r : Reach} {b0 : Nat} {v : Value} {d : DataW H} {p : List MemPlace}
    (hv : Value.okWide Try.prog w r b0 46 v) (h : DataW.Trod enc Try.prog w base spare held 46 v d p) :
    ∃ x : Option Addr × Nat × Nat × (Nat → Tm), v = .slice x.1 x.2.1 x.2.2.1 ∧ Opens.IsRows tl 3 Fits w x :=
  Opens.open_rows tl Fits Try.underlying46 cellsT (by omega) timer_cells hv h

/-- a deed: what, of which timer, at which mark -/
structure Deed where
  what : Int
  t : Tm
  mark : Int
instance : Inhabited Deed := ⟨⟨0, default, 0⟩⟩
abbrev dl (x : Deed) : List Value := [.int .i64 x.what, .string x.t.key, .int .i64 x.t.s, .int .i64 x.t.e, .int .i64 x.mark]
def DFits (x : Deed) : Prop := (Lit.int .i64 x.what).wf = true ∧ Fits x.t ∧ (Lit.int .i64 x.mark).wf = true
theorem cellsD : Try.prog.cellsOf 32 = 5 := by kernel_rfl
theorem cellsN : Try.prog.cellsOf 3 = 1 := by kernel_rfl
theorem deed_cells {H : Type} {enc : TypeId × Value → H} {w : World} {base : Nat} {held : Bool} {spare : Nat → Bool} (m : Nat) (cs : List Value) (y : DataW H × List MemPlace)
    (h : DataW.trod enc Try.prog w base spare held m 32 cs = some y) : ∃ x : Deed, cs = dl x ∧ DFits x := by
  obtain ⟨xs, n, _, _, hl, hlen, hat⟩ := DataW.trod_struct Try.underlying32 h
  match cs, hl.trans cellsD with
  | [c0, c1, c2, c3, c4], _ =>
    match xs, hlen with
    | [y0, y1, y2], _ =>
      have g0 := hat 0 _ rfl
      have g1 := hat 1 _ rfl
      have g2 := hat 2 _ rfl
      simp [cellsN, cellsT, cellsI] at g0 g1 g2
      obtain ⟨a0, e0, -, w0⟩ := DataW.trod_int Try.underlying3 g0
      obtain ⟨x, e1, w1⟩ := timer_cells _ _ _ g1
      obtain ⟨a2, e2, -, w2⟩ := DataW.trod_int Try.underlying2 g2
      simp at e0 e1 e2
      obtain ⟨rfl, rfl, rfl⟩ := e1
      subst e0 e2
      exact ⟨⟨a0, x, a2⟩, rfl, w0, w1, w2⟩
theorem open_deeds {H : Type} {enc : TypeId × Value → H} {w : World} {base : Nat} {held : Bool} {spare : Nat → Bool} {r : Reach} {b0 : Nat} {v : Value} {d : DataW H} {p : List MemPlace}
    (hv : Value.okWide Try.prog w r b0 22 v) (h : DataW.Trod enc Try.prog w base spare held 22 v d p) :
    ∃ x : Option Addr × Nat × Nat × (Nat → Deed), v = .slice x.1 x.2.1 x.2.2.1 ∧ Opens.IsRows dl 5 DFits w x :=
  Opens.open_rows dl DFits Try.underlying22 cellsD (by omega) deed_cells hv h
end Tmr
end Go.Proofs.Ytomoophjcgahlaa
