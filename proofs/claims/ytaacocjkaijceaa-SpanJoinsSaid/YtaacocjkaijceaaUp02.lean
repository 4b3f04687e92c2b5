/-
  The head of the statements of layer 2 (the document's example) answers true.
-/
import Derived.Test.YtaacocjkaijceaaSpan
import Derived.Laws.StructEq
namespace Go.Proofs.Ytaacocjkaijceaa
open Go.ChangeShapes Go.WideShapes Go.ChangeAt Go.RowKit
namespace Spn
set_option linter.unusedVariables false

/-- two windows in the two newest cells' blocks behind B, and nothing of B has turned -/
def Two (B : World) (a b c d : Int) (w : World) : Prop :=
  w.cell? ⟨B.heap.size, 0, none⟩ = some (.int .i64 a) ∧ w.cell? ⟨B.heap.size, 1, none⟩ = some (.int .i64 b) ∧ w.cell? ⟨B.heap.size + 1, 0, none⟩ = some (.int .i64 c) ∧ w.cell? ⟨B.heap.size + 1, 1, none⟩ = some (.int .i64 d) ∧
    Below B.heap.size B w ∧ B.heap.size + 1 < w.heap.size

theorem two_new (w : World) (a b c d : Int) : Two w a b c d ((w.alloc (Obj.cells #[.int .i64 a, .int .i64 b] 23)).alloc (Obj.cells #[.int .i64 c, .int .i64 d] 23)) := by
  refine ⟨by go_simp, by go_simp, by go_simp, by go_simp, below2 _ _ _, by simp⟩

theorem cell_keep {w w' : World} (k : Below w.heap.size w w') {a : Addr} {v : Value} (h : w.cell? a = some v) : w'.cell? a = some v :=
  (k.cell (World.block_lt_of_cell? _ _ h)).trans h

theorem Two.next {B : World} {a b c d : Int} {w w' : World} (k : Below w.heap.size w w') (h : Two B a b c d w) : Two B a b c d w' := by
  obtain ⟨h0, h1, h2, h3, h4, h5⟩ := h
  exact ⟨cell_keep k h0, cell_keep k h1, cell_keep k h2, cell_keep k h3, after h4 k, Nat.lt_of_lt_of_le h5 k.size⟩

theorem Two.drew {B : World} {a b c d : Int} {w : World} (h : Two B a b c d w) : Two B a b c d w.drew := ⟨h.1, h.2.1, h.2.2.1, h.2.2.2.1, h.2.2.2.2.1.drew, h.2.2.2.2.2⟩
theorem Two.below {B : World} {a b c d : Int} {w : World} (h : Two B a b c d w) : Below B.heap.size B w := h.2.2.2.2.1

theorem told {f : Nat} {vs : Array Value} {x : Bool} {w : World} (b : Bool) (h : Calls Try.prog f vs w fun r w' => r = .returned (.bool x) ∧ Below w.heap.size w w') (e : x = b) :
    Calls Try.prog f vs w fun r w' => r = .returned (.bool b) ∧ Below w.heap.size w w' := by rw [← e]; exact h

set_option maxHeartbeats 1000000 in
theorem up_ok (w : World) : Calls Try.prog 5 #[] w fun e w' => e = .returned (.bool true) ∧ Below w.heap.size w w' := by
  have T0 := Lib.hid (two_new w 0 10 10 20)
  go_enter Try.func5, Try.ntmps5
  go_wp2_with fail
  refine (told false (meet_ok 0 10 10 20 _) (by decide)).mono ?_
  rintro e w1 ⟨rfl, k1⟩
  have T1 := Lib.hid (T0.out.next k1)
  obtain ⟨a1, b1, c1, d1, -⟩ := T1.out
  go_wp2_with fail
  refine (told true (may_ok 0 10 _) (by decide)).mono ?_
  rintro e w2 ⟨rfl, k2⟩
  have T2 := Lib.hid (T1.out.next k2)
  obtain ⟨a2, b2, c2, d2, -⟩ := T2.out
  go_wp2_with fail
  refine (told false (may_ok 0 0 _) (by decide)).mono ?_
  rintro e w3 ⟨rfl, k3⟩
  have T3 := Lib.hid (T2.out.next k3)
  obtain ⟨a3, b3, c3, d3, -⟩ := T3.out
  go_wp2_with fail
  refine (told true (has_ok 0 10 0 _) (by decide)).mono ?_
  rintro e w4 ⟨rfl, k4⟩
  have T4 := Lib.hid (T3.out.next k4)
  obtain ⟨a4, b4, c4, d4, -⟩ := T4.out
  go_wp2_with fail
  refine (told false (has_ok 0 10 10 _) (by decide)).mono ?_
  rintro e w5 ⟨rfl, k5⟩
  have T5 := Lib.hid (T4.out.next k5)
  obtain ⟨a5, b5, c5, d5, -⟩ := T5.out
  go_wp2_with fail
  refine (join_ok 0 10 10 20 _).mono ?_
  rintro e w6 ⟨rfl, k6⟩
  have T6 := Lib.hid (T5.out.next k6)
  obtain ⟨a6, b6, c6, d6, -⟩ := T6.out
  go_wp2_with fail
  refine (told true (over_ok 0 10 0 10 _ (by omega) (by omega) (by omega) (by omega) (by omega) (by omega)) (by decide)).mono ?_
  rintro e w7 ⟨rfl, k7⟩
  have T7 := Lib.hid (T6.out.next k7)
  obtain ⟨a7, b7, c7, d7, -⟩ := T7.out
  go_wp2_with fail
  refine (told false (over_ok 0 10 1 10 _ (by omega) (by omega) (by omega) (by omega) (by omega) (by omega)) (by decide)).mono ?_
  rintro e w8 ⟨rfl, k8⟩
  have T8 := Lib.hid (T7.out.next k8)
  obtain ⟨a8, b8, c8, d8, -⟩ := T8.out
  go_wp2
  go_ret
  exact ⟨rfl, T8.out.2.2.2.2.1⟩
end Spn
end Go.Proofs.Ytaacocjkaijceaa
