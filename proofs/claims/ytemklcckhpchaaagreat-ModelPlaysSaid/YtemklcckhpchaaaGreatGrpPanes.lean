/-
  Panes: a key's panes, in a list of the call's own.
-/
import Derived.Test.YtemklcckhpchaaaGreatGrpMem
import Derived.Test.YtemklcckhpchaaaGreatPaneList
namespace Go.Proofs.YtemklcckhpchaaaGreat
open Go.ChangeShapes Go.WideShapes Go.ChangeAt Go.RowKit
namespace Grp
open Small Foot Pane
set_option linter.unusedVariables false

set_option maxRecDepth 100000 in
set_option maxHeartbeats 4000000 in
theorem panes_ok {g m tg n cnt : Nat} {cf : C8} {S : Lists} {M : Tmr.Tm → Prop} {fm : ByteArray → Option Value} {FT Bk : Nat → Prop} (x : ByteArray) (w : World) (H : Hid (Gq w g m tg cf S M n cnt fm FT Bk)) (hn : (S x).length ≤ 9000) (hk : x.size ≤ maxLen) :
    Calls Tryz.prog 33 #[gp g, .string x] w fun r w' => ∃ v', r = .returned v' ∧ Sl.Own Pn.k w.heap.size w' v' (S x) ∧ Below w.heap.size w w' := by
  obtain ⟨v, b, hv, iv⟩ := H.out.list x
  have I0 := Lib.hid iv
  have hl := H.out.map.look hk
  rw [hv] at hl
  have c8 := H.out.lies.cell (i := 8) rfl
  clear iv hv
  go_enter Tryz.func33, Tryz.ntmps33
  go_wp2_with fail
  refine (clone_ok v (S x) b _ I0 hn).mono ?_
  rintro r w1 ⟨v', rfl, o1, k1⟩
  have O1 := Lib.hid o1
  have K1 := Lib.hid k1
  clear o1 k1 hl c8
  go_wp2
  go_ret
  exact ⟨v', rfl, O1.out, K1.out⟩
end Grp
end Go.Proofs.YtemklcckhpchaaaGreat
