/-
  The document's own group (easelref06.Group) that lies in memory: a config, a list of panes of all keys; without.
-/
import Derived.Test.YtbdocnkpjlpfmaaGreatGrpTake
import Derived.Test.YtbdocnkpjlpfmaaGreatPaneRef
import Derived.Test.YtbdocnkpjlpfmaaGreatRefSpan
import Derived.Test.YtbdocnkpjlpfmaaGreatDrawn
namespace Go.Proofs.YtbdocnkpjlpfmaaGreat
open Go.ChangeShapes Go.WideShapes Go.ChangeAt Go.RowKit
namespace Rg
open Small Foot Pane Grp
set_option linter.unusedVariables false

abbrev rcl (x : C8) (v : Value) : List Value := [.int .i64 x.k, .int .i64 x.s, .int .i64 x.l, .int .i64 x.g, .int .i64 x.z, .int .i64 x.h, .int .i64 x.r, .int .i64 x.c, v]
/-- the group at gr: its list v, that reads as L, in a block that isn't gr -/
structure Rg (w : World) (gr : Nat) (cf : C8) (v : Value) (L : List Pn) (b : Nat) : Prop where
  lies : Lies w gr 36 (rcl cf v)
  list : Sl.Is Pn.k w v L b
  ne : L ≠ [] → b ≠ gr
section
variable {w w' : World} {gr b : Nat} {cf : C8} {v : Value} {L : List Pn}
theorem Rg.next (h : Rg w gr cf v L b) (k : Below w.heap.size w w') : Rg w' gr cf v L b := ⟨h.lies.next k, h.list.next k, h.ne⟩
/-- the list is another one from now on, of a block of the call's own -/
theorem Rg.put {u : Value} {L2 : List Pn} (h : Rg w gr cf v L b) {base : Nat} (o : Sl.Own Pn.k base w u L2) (hb : gr < base) : ∃ b2, base ≤ b2 ∧ Rg (w.setCell ⟨gr, 8, none⟩ u) gr cf u L2 b2 := by
  obtain ⟨b2, hb2, i2⟩ := o.is
  have hne : b2 ≠ gr := by omega
  exact ⟨b2, hb2, h.lies.put 8 u, i2.keep (Below.heap_setCell w ⟨gr, 8, none⟩ u b2 hne) (by simp), fun _ => hne⟩
end
theorem set_grown (w : World) (gr i : Nat) (u : Value) : w.grownBy (w.setCell ⟨gr, i, none⟩ u) (some gr) := grown_cells _ (grown_refl _ _)

set_option maxRecDepth 100000 in
set_option maxHeartbeats 4000000 in
theorem without_ok (l : Value) (L : List Pn) (b k : Nat) (w : World) (H : Hid (Sl.Is Pn.k w l L b)) (hn : L.length ≤ 100000) (hk : k < L.length) :
    Calls Tryz.prog 24 #[l, .int .i64 k] w fun r w' => ∃ v', r = .returned v' ∧ Sl.Own Pn.k w.heap.size w' v' (L.take k ++ L.drop (k + 1)) ∧ Below w.heap.size w w' := by
  obtain ⟨v1, hr1, i1⟩ := Sl.run_take Pn.ok H.out (m := k) (by omega)
  obtain ⟨v2, hr2, i2⟩ := Sl.run_drop Pn.ok H.out (m := k + 1) (by omega)
  have hr2 : ∀ w1, (Instr.slice Pn.k.t l (some (.int .i64 ((k : Int) + 1))) none none).run Tryz.prog w1 = .ok v2 w1 := hr2
  have I1 := Lib.hid i1
  have I2 := Lib.hid i2
  have KA := Lib.hid (below1 w (Obj.cells #[] 53))
  have hl1 : Hid ((L.take k).length ≤ 100000 ∧ (L.drop (k + 1)).length ≤ 100000) := Lib.hid (by rw [List.length_take, List.length_drop]; omega)
  have k0 : (0 : Int) ≤ k := by omega
  have k1 : (k : Int) + 1 ≤ 100000 := by omega
  clear i1 i2
  go_enter Tryz.func24, Tryz.ntmps24
  go_wp2_with (at_builtin; first
    | (refine wpList_plain rfl fun K' hK' => Sl.wp_append_empty (K := Pn.k) Pn.ok (.tmp 6) (.tmp 9) rfl (base := w.heap.size) (b := w.heap.size) (l2 := L.take k) rfl (by exact heap_alloc_new _ _) (Nat.le_refl _) (by exact I1.out.next KA.out) (by have := hl1.out; omega) (by simp) (fun va wa y1 y2 => hK' _ _ ?_); have O1 := Lib.hid y1; have K1 := Lib.hid (after KA.out y2); clear y1 y2)
    | (refine wpList_plain rfl fun K' hK' => Sl.wp_append (K := Pn.k) Pn.ok (.tmp 11) (.tmp 15) rfl (base := w.heap.size) (l := L.take k) (l2 := L.drop (k + 1)) (by exact O1.out) (by exact I2.out.next K1.out) (by have := hl1.out; omega) (by exact K1.out.size) (fun vb wb y1 y2 y3 => hK' _ _ ?_); have O2 := Lib.hid y1; have K2 := Lib.hid (K1.out.grown y2 K1.out.size (fun b hb => (O1.out.lt b hb).1)); clear y1 y2 y3))
  go_ret
  exact ⟨_, rfl, O2.out, K2.out⟩
end Rg
end Go.Proofs.YtbdocnkpjlpfmaaGreat
