/-
  A control in memory (its watermark, whose it is, whether it is closed); contracts of ctl's New, Hold, Drop, Holder, Raise, Mark, Shut, Closed.
-/
import Derived.Test.YtjncogjafljbiaaFoot
import Derived.OwnWalk
import Derived.BigQuiet
namespace Go.Proofs.Ytjncogjafljbiaa
open Go.ChangeShapes Go.WideShapes Go.ChangeAt Go.RowKit Small Foot
set_option linter.unusedVariables false
set_option maxRecDepth 100000
namespace Ct

theorem below_drewN (w : World) (n : Nat) : Below w.heap.size w (w.drewN n) := by
  induction n with
  | zero => exact Below.refl _ _
  | succ n ih => exact ih.drew
abbrev gp (g : Nat) : Value := .pointer (some ⟨g, 0, none⟩)
abbrev cl (m k : Int) (h c : Bool) : List Value := [.int .i64 m, .int .i64 k, .bool h, .bool c]
/-- a control at g: its watermark m, whose it is (k, if h), whether it is closed -/
abbrev Is (w : World) (g : Nat) (m k : Int) (h c : Bool) : Prop := Lies w g 93 (cl m k h c)
abbrev Fp (g : Nat) : Nat → Prop := fun i => i = g
section
variable {w w' : World} {g : Nat} {m k : Int} {h c : Bool}
theorem Is.in (H : Is w g m k h c) : In w (Fp g) := fun i hi => by rw [hi]; exact H.lt
theorem moved {w w' : World} {g : Nat} (hg : g < w.heap.size) (k : ∀ i, i ≠ g → w'.heap[i]? = w.heap[i]?) (o : w'.os = w.os) (t : w'.tape = w.tape) (u : w'.output = w.output) (z : w'.heap.size = w.heap.size) : Moves (Fp g) (Fp g) w w' :=
  ⟨o, t, u, by omega, fun i hi hf => k i hf, fun i hi => ⟨.inl hi, by rw [z, hi]; exact hg⟩⟩
theorem still (H : Is w g m k h c) : Moves (Fp g) (Fp g) w w := Moves.refl H.in
end

section
variable {w : World} {g : Nat} {m k x : Int} {h c : Bool}
set_option maxHeartbeats 800000

theorem new_ok (w : World) : Calls Try.prog 27 #[] w fun r w' => r = .returned (gp w.heap.size) ∧ Is w' w.heap.size (-9223372036854775808) 0 false false ∧ Below w.heap.size w w' := by
  go_enter Try.func27, Try.ntmps27
  go_wp2
  go_ret
  exact ⟨rfl, Lies.new _ _ _, below1 _ _⟩

theorem hold_free (H : Hid (Is w g m k false c)) (x : Int) : Calls Try.prog 14 #[gp g, .int .i64 x] w fun r w' => r = .returned (.bool true) ∧ Is w' g m x true c ∧ Moves (Fp g) (Fp g) w w' := by
  have c2 := H.out.cell (i := 2) rfl
  have f1 := H.out.open_ 1
  have f2 := H.out.open_ 2
  have c1 := H.out.cell (i := 1) rfl
  go_enter Try.func14, Try.ntmps14
  go_wp2
  go_ret
  exact ⟨rfl, (H.out.put 1 (.int .i64 x)).put 2 (.bool true), moved H.out.lt (fun j hj => by rw [Below.heap_setCell _ _ _ _ (by exact hj), Below.heap_setCell _ _ _ _ (by exact hj)]) rfl rfl rfl (by simp)⟩
theorem hold_held (H : Hid (Is w g m k true c)) (x : Int) : Calls Try.prog 14 #[gp g, .int .i64 x] w fun r w' => r = .returned (.bool (k == x)) ∧ w = w' := by
  have c2 := H.out.cell (i := 2) rfl
  have c1 := H.out.cell (i := 1) rfl
  go_enter Try.func14, Try.ntmps14
  go_wp2
  go_ret
  exact ⟨rfl, rfl⟩
theorem drop_free (H : Hid (Is w g m k false c)) (x : Int) : Calls Try.prog 80 #[gp g, .int .i64 x] w fun r w' => r = .returned (.bool false) ∧ w = w' := by
  have c2 := H.out.cell (i := 2) rfl
  go_enter Try.func80, Try.ntmps80
  go_wp2
  go_ret
  exact ⟨rfl, rfl⟩
theorem drop_other (H : Hid (Is w g m k true c)) (x : Int) (hx : (k == x) = false) : Calls Try.prog 80 #[gp g, .int .i64 x] w fun r w' => r = .returned (.bool false) ∧ w = w' := by
  have c2 := H.out.cell (i := 2) rfl
  have c1 := H.out.cell (i := 1) rfl
  go_enter Try.func80, Try.ntmps80
  go_wp2
  go_ret
  exact ⟨rfl, rfl⟩
theorem drop_ok (H : Hid (Is w g m k true c)) : Calls Try.prog 80 #[gp g, .int .i64 k] w fun r w' => r = .returned (.bool true) ∧ Is w' g m 0 false c ∧ Moves (Fp g) (Fp g) w w' := by
  have c2 := H.out.cell (i := 2) rfl
  have c1 := H.out.cell (i := 1) rfl
  have f1 := H.out.open_ 1
  have f2 := H.out.open_ 2
  go_enter Try.func80, Try.ntmps80
  go_wp2
  go_ret
  exact ⟨rfl, (H.out.put 1 (.int .i64 0)).put 2 (.bool false), moved H.out.lt (fun j hj => by rw [Below.heap_setCell _ _ _ _ (by exact hj), Below.heap_setCell _ _ _ _ (by exact hj)]) rfl rfl rfl (by simp)⟩
theorem raise_ok (H : Hid (Is w g m k h c)) (hx : m < x) : Calls Try.prog 59 #[gp g, .int .i64 x] w fun r w' => r = .returned (.bool true) ∧ Is w' g x k h c ∧ Moves (Fp g) (Fp g) w w' := by
  have c0 := H.out.cell (i := 0) rfl
  have f0 := H.out.open_ 0
  have q : ¬ x ≤ m := by omega
  go_enter Try.func59, Try.ntmps59
  go_wp2
  go_ret
  exact ⟨rfl, H.out.put 0 (.int .i64 x), moved H.out.lt (fun j hj => Below.heap_setCell _ _ _ _ hj) rfl rfl rfl (by simp)⟩
theorem raise_no (H : Hid (Is w g m k h c)) (hx : x ≤ m) : Calls Try.prog 59 #[gp g, .int .i64 x] w fun r w' => r = .returned (.bool false) ∧ w = w' := by
  have c0 := H.out.cell (i := 0) rfl
  go_enter Try.func59, Try.ntmps59
  go_wp2
  go_ret
  exact ⟨rfl, rfl⟩
theorem shut_ok (H : Hid (Is w g m k h c)) : Calls Try.prog 12 #[gp g] w fun r w' => r = .returned (.bool (!c)) ∧ Is w' g m k h true ∧ Moves (Fp g) (Fp g) w w' := by
  have c3 := H.out.cell (i := 3) rfl
  have f3 := H.out.open_ 3
  go_enter Try.func12, Try.ntmps12
  go_wp2
  go_ret
  exact ⟨rfl, H.out.put 3 (.bool true), moved H.out.lt (fun j hj => Below.heap_setCell _ _ _ _ hj) rfl rfl rfl (by simp)⟩
theorem closed_ok (H : Hid (Is w g m k h c)) : Calls Try.prog 78 #[gp g] w fun r w' => r = .returned (.bool c) ∧ w = w' := by
  have c3 := H.out.cell (i := 3) rfl
  go_enter Try.func78, Try.ntmps78
  go_wp2
  go_ret
  exact ⟨rfl, rfl⟩
end
end Ct
end Go.Proofs.Ytjncogjafljbiaa
