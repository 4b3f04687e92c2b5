/-
  The head of the statements of layer 7 (the document's example) answers true.
-/
import Derived.Test.YtnheehodgkagfaaPaneMerge
namespace Go.Proofs.Ytnheehodgkagfaa
open Go.ChangeShapes Go.WideShapes Go.ChangeAt Go.RowKit Small
set_option linter.unusedVariables false
namespace Pane

abbrev ka : ByteArray := ⟨#[97]⟩
abbrev u1 : List Pn := [one ka 15 25 2]
abbrev u2 : List Pn := [one ka 0 10 1, one ka 15 25 2]
abbrev ux : Pn := ⟨ka, 0, 25, 3, 7, 1, 4⟩

theorem at_nil (s e : Int) : At [] s e 0 := ⟨Nat.le_refl _, fun i x h => absurd h (by omega), fun i x _ h => by simp at h⟩
theorem at_u1 : At u1 0 10 0 := ⟨by simp, fun i x h => absurd h (by omega), fun i x _ h => by
  match i, h with
  | 0, h => simp at h; subst h; simp [Ah]
  | i + 1, h => simp at h⟩
theorem at_u2 : At u2 0 10 0 := ⟨by simp, fun i x h => absurd h (by omega), fun i x _ h => by
  match i, h with
  | 0, h => simp at h; subst h; simp [Ah]
  | 1, h => simp at h; subst h; simp [Ah]
  | i + 2, h => simp at h⟩
theorem met_u2 : metOf 8 18 u2 = u2 := by simp [metOf, meets]; omega
theorem rest_u2 : restOf 8 18 u2 = [] := by simp [restOf, meets]; omega
theorem joined_u2 : ux = joined 8 18 (one ka 8 18 4) u2 := by
  rw [joined, met_u2]
  simp [join2, mk, one, Agg.mrg, wrap64]
  omega

set_option maxHeartbeats 4000000 in
theorem head_ok (w : World) : Calls Try.prog 5 #[] w fun e w' => e = .returned (.bool true) ∧ Below w.heap.size w w' := by
  go_enter Try.func5, Try.ntmps5
  go_wp2_with fail
  refine (put_no _ [] 0 0 ka 15 25 2 _ (Lib.hid (Sl.Is.nil _ _ _)) (by simp) (Lib.hid (at_nil _ _)) (Lib.hid (by simp))).mono ?_
  rintro r w1 ⟨v1, rfl, o1, k1⟩
  obtain ⟨b1, -, i1⟩ := o1.is
  have I1 := Lib.hid i1
  have K1 := Lib.hid k1
  clear i1 o1 k1
  go_wp2_with fail
  refine (put_no _ u1 b1 0 ka 0 10 1 _ I1 (by simp) (Lib.hid at_u1) (Lib.hid (by simp [Eq2]))).mono ?_
  rintro r w2 ⟨v2, rfl, o2, k2⟩
  obtain ⟨b2, -, i2⟩ := o2.is
  have I2 : Hid (Sl.Is Pn.k w2 v2 u2 b2) := Lib.hid i2
  have K2 := Lib.hid (after K1.out k2)
  clear i2 o2 k2
  obtain ⟨A2, c2, e2⟩ := I2.out.len
  subst e2
  go_wp2_with fail
  refine (merge_ok _ u2 b2 0 ka 8 18 4 ux _ I2 (by simp) (Lib.hid joined_u2) (Lib.hid (by rw [rest_u2]; exact at_nil _ _)) (Lib.hid (by rw [met_u2]; intro h; cases h))).mono ?_
  rintro r w3 ⟨v3, vg, rfl, o3, g3, k3⟩
  rw [rest_u2] at o3
  rw [met_u2] at g3
  obtain ⟨b3, -, i3⟩ := o3.is
  obtain ⟨b4, -, i4⟩ := g3.is
  have I3 : Hid (Sl.Is Pn.k w3 v3 [ux] b3) := Lib.hid (by simpa using i3)
  have I4 : Hid (Sl.Is Wn.k w3 vg [(0, 10), (15, 25)] b4) := Lib.hid (by simpa [wo] using i4)
  have J2 := Lib.hid (I2.out.next k3)
  have K3 := Lib.hid (after K2.out k3)
  clear i3 i4 o3 g3 k3
  obtain ⟨A4, c4, e4⟩ := I4.out.len
  subst e4
  obtain ⟨off, c3, e3, -, -, -, hcell⟩ := I3.out.some_ Pn.ok (by simp)
  subst e3
  have hc := hcell 0 ux rfl 4 _ rfl
  have hc4 : w3.cell? ⟨b3, off + 4, none⟩ = some (.int .i64 7) := by simpa using hc
  have C4 := Lib.hid hc4
  have Z4 := Lib.hid (Lies.new w3 26 [.int .i64 0, .int .i64 25])
  have B4 := Lib.hid (below1 w3 (Obj.cells #[.int .i64 0, .int .i64 25] 26))
  clear hcell hc hc4
  go_wp2_with fail
  refine (find_yes _ u2 b2 0 0 10 (one ka 0 10 1) _ (Lib.hid (J2.out.next B4.out)) (by simp) (Lib.hid at_u2) (Lib.hid rfl) (Lib.hid ⟨rfl, rfl⟩)).mono ?_
  rintro r w5 ⟨rfl, k5⟩
  have K5 := Lib.hid ((K3.out.trans (B4.out.mono K3.out.size)).trans (k5.mono (Nat.le_trans K3.out.size B4.out.size)))
  have C5 := fun o => cell_keep (below1 w5 o) (cell_keep (after B4.out k5) C4.out)
  have Z5 := Z4.out.next k5
  have z0 := fun o => cell_keep (below1 w5 o) (Z5.cell (i := 0) rfl)
  have z1 := fun o => cell_keep (below1 w5 o) (Z5.cell (i := 1) rfl)
  clear k5 Z5
  go_wp2
  go_ret
  exact ⟨rfl, K5.out.alloc K5.out.size _⟩
end Pane
end Go.Proofs.Ytnheehodgkagfaa
