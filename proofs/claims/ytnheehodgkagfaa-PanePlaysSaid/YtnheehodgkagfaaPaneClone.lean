/-
  slices.Clone over panes: a new list that reads as the one that was handed in; nil stays nil.
-/
import Derived.Test.YtnheehodgkagfaaPn
import Derived.Lib.SliceRun
namespace Go.Proofs.Ytnheehodgkagfaa
open Go.ChangeShapes Go.WideShapes Go.ChangeAt Go.RowKit Small
set_option linter.unusedVariables false
namespace Pane

set_option maxHeartbeats 800000 in
theorem clone_ok (v : Value) (L : List Pn) (b : Nat) (w : World) (H : Hid (Sl.Is Pn.k w v L b)) (hn : L.length ≤ 1000) :
    Calls Try.prog 20 #[v] w fun r w' => ∃ v', r = .returned v' ∧ Sl.Own Pn.k w.heap.size w' v' L ∧ Below w.heap.size w w' := by
  rcases H.out with ⟨rfl, rfl⟩ | ⟨off, cap, rfl, h2, h3, h4, h5⟩
  · clear H
    go_enter Try.func20, Try.ntmps20
    have e0 : ∀ w, (binOp .eql 24 (.slice none 0 0) (.slice none 0 0)).run Try.prog w = .ok (.bool true) w := fun w => Lib.run_eql_slice_nil w _ _ _ _ _ _ _ Try.underlying24
    go_wp2
    go_ret
    exact ⟨_, rfl, Sl.Own.nil _ _ _, Below.refl _ _⟩
  · clear h2 h3 h4 h5
    go_enter Try.func20, Try.ntmps20
    have e0 : ∀ w, (binOp .eql 24 (.slice (some ⟨b, off, none⟩) L.length cap) (.slice none 0 0)).run Try.prog w = .ok (.bool false) w := fun w => Lib.run_eql_slice_nil w _ _ _ _ _ _ _ Try.underlying24
    go_wp2_with (at_builtin; refine wpList_plain rfl fun K' hK' => Sl.wp_append_empty (K := Pn.k) Pn.ok (.tmp 5) (.tmp 6) rfl (b := w.heap.size) (base := w.heap.size) (l2 := L) (b2 := b) rfl (heap_alloc_new _ _) (Nat.le_refl _) (by exact H.out.next (below1 _ _)) (by omega) (by simp) (fun u w8 x1 x2 => hK' _ _ ?_))
    have B := Lib.hid (after (below1 _ _) x2)
    have X1 := Lib.hid x1
    clear x1 x2 
    go_wp2
    go_ret
    exact ⟨_, rfl, X1.out, B.out⟩
end Pane
end Go.Proofs.Ytnheehodgkagfaa
