/-
  Deeds of layer 8's statements that came in.
-/
import Derived.Test.YtbdocnkpjlpfmaaGreatOpens
import Derived.Test.YtbdocnkpjlpfmaaGreatGrpMem
namespace Go.Proofs.YtbdocnkpjlpfmaaGreat
open Go.RowKit Go.WideShapes Go.ChangeShapes
namespace Grp
set_option linter.unusedVariables false
set_option maxRecDepth 100000

/-- a deed: is all settled? a key, a time, a value, a mark -/
structure Deed where
  settle : Bool
  key : ByteArray
  t : Int
  v : Int
  mark : Int
instance : Inhabited Deed := ⟨⟨false, ⟨#[]⟩, 0, 0, 0⟩⟩
abbrev dl (x : Deed) : List Value := [.bool x.settle, .string x.key, .int .i64 x.t, .int .i64 x.v, .int .i64 x.mark]
def DFits (x : Deed) : Prop := x.key.size ≤ 9223372036854775807 ∧ (Lit.int .i64 x.t).wf = true ∧ (Lit.int .i64 x.v).wf = true ∧ (Lit.int .i64 x.mark).wf = true
theorem cellsD : Tryz.prog.cellsOf 38 = 5 := by kernel_rfl
theorem cellsB : Tryz.prog.cellsOf 4 = 1 := by kernel_rfl
theorem cellsS : Tryz.prog.cellsOf 9 = 1 := by kernel_rfl
theorem cellsI : Tryz.prog.cellsOf 2 = 1 := by kernel_rfl
theorem deed_cells {H : Type} {enc : TypeId × Value → H} {w : World} {base : Nat} {held : Bool} {spare : Nat → Bool} (m : Nat) (cs : List Value) (y : DataW H × List MemPlace)
    (h : DataW.trod enc Tryz.prog w base spare held m 38 cs = some y) : ∃ x : Deed, cs = dl x ∧ DFits x := by
  obtain ⟨xs, n, _, _, hl, hlen, hat⟩ := DataW.trod_struct Tryz.underlying38 h
  match cs, hl.trans cellsD with
  | [c0, c1, c2, c3, c4], _ =>
    match xs, hlen with
    | [y0, y1, y2, y3, y4], _ =>
      have g0 := hat 0 _ rfl
      have g1 := hat 1 _ rfl
      have g2 := hat 2 _ rfl
      have g3 := hat 3 _ rfl
      have g4 := hat 4 _ rfl
      simp [cellsB, cellsS, cellsI] at g0 g1 g2 g3 g4
      obtain ⟨b, e0, -⟩ := DataW.trod_bool Tryz.underlying4 g0
      obtain ⟨s, e1, -, w1⟩ := DataW.trod_string Tryz.underlying9 g1
      obtain ⟨a2, e2, -, w2⟩ := DataW.trod_int Tryz.underlying2 g2
      obtain ⟨a3, e3, -, w3⟩ := DataW.trod_int Tryz.underlying2 g3
      obtain ⟨a4, e4, -, w4⟩ := DataW.trod_int Tryz.underlying2 g4
      simp at e0 e1 e2 e3 e4
      subst e0 e1 e2 e3 e4
      exact ⟨⟨b, s, a2, a3, a4⟩, rfl, by unfold maxLen at w1; omega, w2, w3, w4⟩
theorem open_deeds {H : Type} {enc : TypeId × Value → H} {w : World} {base : Nat} {held : Bool} {spare : Nat → Bool} {r : Reach} {b0 : Nat} {v : Value} {d : DataW H} {p : List MemPlace}
    (hv : Value.okWide Tryz.prog w r b0 24 v) (h : DataW.Trod enc Tryz.prog w base spare held 24 v d p) :
    ∃ x : Option Addr × Nat × Nat × (Nat → Deed), v = .slice x.1 x.2.1 x.2.2.1 ∧ Opens.IsRows dl 5 DFits w x :=
  Opens.open_rows dl DFits Tryz.underlying24 cellsD (by omega) deed_cells hv h
end Grp
end Go.Proofs.YtbdocnkpjlpfmaaGreat
