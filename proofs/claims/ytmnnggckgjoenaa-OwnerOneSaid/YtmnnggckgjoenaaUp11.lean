/-
  The head of the statements of layer 11 (the document's example) answers true; deeds that came in; a table beside a list of the law's own.
-/
import Derived.Test.YtmnnggckgjoenaaOwn
import Derived.Test.YtmnnggckgjoenaaErrs
import Derived.Test.YtmnnggckgjoenaaOpens
namespace Go.Proofs.Ytmnnggckgjoenaa
open Go.ChangeShapes Go.WideShapes Go.ChangeAt Go.RowKit Small Foot
namespace Ow
set_option linter.unusedVariables false
set_option maxRecDepth 100000

/-- '==' and '!=' between an owner and itself -/
theorem eql_own (w : World) (x : O) : (binOp .eql 32 (av x) (av x)).run Try.prog w = .ok (.bool true) w := by
  simp [go_sem]
theorem neq_own (w : World) (x : O) : (binOp .neq 32 (av x) (av x)).run Try.prog w = .ok (.bool false) w := by
  simp [go_sem]

set_option maxHeartbeats 4000000 in
theorem up_ok (w : World) : Calls Try.prog 5 #[] w fun r w' => r = .returned (.bool true) ∧ Below w.heap.size w w' := by
  go_enter Try.func5, Try.ntmps5
  go_wp2_with fail
  refine (new_ok 3 2 w (by omega) (by omega) (by omega) (by omega)).mono ?_
  rintro r w1 ⟨rfl, b1, k1⟩
  have B1 := Lib.hid b1
  have K1 := Lib.hid k1
  clear b1 k1
  go_wp2_with fail
  refine (new_no 0 2 w1 (.inl (by omega))).mono ?_
  rintro r w2 ⟨rfl, k2⟩
  have B2 := Lib.hid (B1.out.next k2)
  have K2 := Lib.hid (after K1.out k2)
  clear k2 B1 K1
  go_wp2_with fail
  refine (groups_ok (t := 0) B2 (by simp [ini_len])).mono ?_
  rw [show own (ini 2 3 3) 0 (ini 2 3 3).length = [0, 2] by decide]
  rintro r w3 ⟨A, c, rfl, l3, k3⟩
  obtain ⟨bl, -, il⟩ := l3.is
  obtain ⟨off, cp, he, -, -, -, hcell⟩ := il.some_ gok (by simp)
  obtain ⟨rfl, rfl⟩ : A = some ⟨bl, off, none⟩ ∧ c = cp := by simpa using he
  have d0 := hcell 0 0 rfl 0 _ rfl
  have d1 := hcell 1 2 rfl 0 _ rfl
  simp only [Nat.mul_one, Nat.add_zero] at d0 d1
  have B3 := Lib.hid (B2.out.next k3)
  have K3 := Lib.hid (after K2.out k3)
  clear k3 B2 K2 l3 il he hcell
  go_wp2_with fail
  refine (of_yes (i := 1) (o := ⟨1, 0, false⟩) B3 rfl).mono ?_
  rintro r w4 ⟨rfl, k4⟩
  have k5 := after k4 (below1 w4 (Obj.cells #[.int .i64 1, .int .i64 0, .bool false] 32))
  have d2 := cell_keep k5 d0
  have d3 := cell_keep k5 d1
  have B5 := Lib.hid (B3.out.next k5)
  have K5 := Lib.hid (after K3.out k5)
  have q1 := fun w => Errs.eql_code w 1 1
  clear k4 k5 d0 d1 B3 K3
  go_wp2_with fail
  refine (shards_ok B5).mono ?_
  rintro r w6 ⟨rfl, rfl⟩
  go_wp2
  go_ret
  exact ⟨rfl, K5.out⟩

/-- a deed: what, of which group, to which shard -/
structure Deed where
  p : Bool
  g : Int
  s : Int
instance : Inhabited Deed := ⟨⟨false, 0, 0⟩⟩
abbrev dl (x : Deed) : List Value := [.bool x.p, .int .i64 x.g, .int .i64 x.s]
def DFits (x : Deed) : Prop := (Lit.int .i64 x.g).wf = true ∧ (Lit.int .i64 x.s).wf = true
theorem cellsD : Try.prog.cellsOf 34 = 3 := by kernel_rfl
theorem cellsN : Try.prog.cellsOf 3 = 1 := by kernel_rfl
theorem cellsB : Try.prog.cellsOf 4 = 1 := by kernel_rfl
theorem deed_cells {H : Type} {enc : TypeId × Value → H} {w : World} {base : Nat} {held : Bool} {spare : Nat → Bool} (m : Nat) (cs : List Value) (y : DataW H × List MemPlace)
    (h : DataW.trod enc Try.prog w base spare held m 34 cs = some y) : ∃ x : Deed, cs = dl x ∧ DFits x := by
  obtain ⟨xs, n, _, _, hl, hlen, hat⟩ := DataW.trod_struct Try.underlying34 h
  match cs, hl.trans cellsD with
  | [c0, c1, c2], _ =>
    match xs, hlen with
    | [y0, y1, y2], _ =>
      have g0 := hat 0 _ rfl
      have g1 := hat 1 _ rfl
      have g2 := hat 2 _ rfl
      simp [cellsN, cellsB] at g0 g1 g2
      obtain ⟨a0, e0, -⟩ := DataW.trod_bool Try.underlying4 g0
      obtain ⟨a1, e1, -, w1⟩ := DataW.trod_int Try.underlying3 g1
      obtain ⟨a2, e2, -, w2⟩ := DataW.trod_int Try.underlying3 g2
      simp at e0 e1 e2
      subst e0 e1 e2
      exact ⟨⟨a0, a1, a2⟩, rfl, w1, w2⟩
end Ow
namespace Opens
theorem open_deeds {H : Type} {enc : TypeId × Value → H} {w : World} {base : Nat} {held : Bool} {spare : Nat → Bool} {r : Reach} {b0 : Nat} {v : Value} {d : DataW H} {p : List MemPlace}
    (hv : Value.okWide Try.prog w r b0 22 v) (h : DataW.Trod enc Try.prog w base spare held 22 v d p) :
    ∃ x : Option Addr × Nat × Nat × (Nat → Ow.Deed), v = .slice x.1 x.2.1 x.2.2.1 ∧ Opens.IsRows Ow.dl 3 Ow.DFits w x :=
  Opens.open_rows Ow.dl Ow.DFits Try.underlying22 Ow.cellsD (by omega) Ow.deed_cells hv h
end Opens
end Go.Proofs.Ytmnnggckgjoenaa
