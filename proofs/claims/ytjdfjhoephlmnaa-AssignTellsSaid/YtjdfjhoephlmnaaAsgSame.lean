/-
  Contract of easellaw03.same: two slices that hold the same windows are the same.
-/
import Derived.Test.YtjdfjhoephlmnaaAsgOf
import Derived.Laws.StructEq
import Derived.Deep.QuietTactic
import Derived.BigQuiet
namespace Go.Proofs.Ytjdfjhoephlmnaa
open Go.ChangeShapes Go.WideShapes Go.ChangeAt Go.RowKit
namespace Asg
open Base
set_option linter.unusedVariables false

theorem below_drewN (w : World) (n : Nat) : Below w.heap.size w (w.drewN n) := by
  induction n with
  | zero => exact Below.refl _ _
  | succ n ih => exact ih.drew

set_option maxHeartbeats 800000 in
theorem same_ok (g g' n c c' : Nat) (a d l : Int) (w : World) (n1 : n ≤ 16) (W1 : Hid (Wins w g n a d l)) (W2 : Hid (Wins w g' n a d l)) :
    Calls Try.prog 11 #[.slice (some ⟨g, 0, none⟩) n c, .slice (some ⟨g', 0, none⟩) n c'] w fun e w' => e = .returned (.bool true) ∧ Below w.heap.size w w' := by
  go_enter Try.func11, Try.ntmps11
  go_wp2
  go_loopw [5] (fun si wr => ∃ i : Nat, i ≤ n ∧ si = .int .i64 i ∧ Below w.heap.size w wr) (fun si _ => n - (intOf si).toNat)
  case atStart => exact ⟨0, Nat.zero_le _, rfl, Below.refl _ _⟩
  case round =>
    obtain ⟨i, hin, rfl, hnx⟩ := hrel
    by_cases hlt : i < n
    · obtain ⟨x0, x1⟩ := (W1.out.next hnx) i hlt
      obtain ⟨y0, y1⟩ := (W2.out.next hnx) i hlt
      have hlt' : (i : Int) < (n : Int) := by omega
      have hi0 : (0 : Int) ≤ (i : Int) := by omega
      go_wp2_with fail
      go_quiet (fail)
      go_wp2
      go_roundw
      case rel => exact ⟨i + 1, by omega, by go_num, after hnx (below_drewN _ _)⟩
      case measure => simp [intOf]; omega
    · go_wp2
      go_ret
      exact ⟨rfl, hnx⟩
end Asg
end Go.Proofs.Ytjdfjhoephlmnaa
