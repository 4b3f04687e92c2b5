/-
  A client's refuse, send, keyed: a keyed call's step.
-/
import Derived.Test.YtjncogjafljbiaaClEnd
namespace Go.Proofs.Ytjncogjafljbiaa
open Go.ChangeShapes Go.WideShapes Go.ChangeAt Go.RowKit
set_option linter.unusedVariables false
set_option maxRecDepth 100000
namespace Cn
open Small Foot Fm Ca
abbrev rc (code : Int) : Rp := ⟨code, none, 0, 0, []⟩
abbrev t0 : Td := ⟨false, false, false, false, r0⟩
section
variable {w0 w w' : World} {E : Ev} {s s' : St} {R R' : Nat → Nat → Prop}
theorem old_ended {n : Nat} {y : Rp} (h : Old n s) (k : ∀ a, y.pv.ownBlock = some a → a < n) : Old n (s.ended y) :=
  ⟨fun r hr a ha => by
    rcases List.mem_append.1 (show r ∈ s.rs ++ [y] from hr) with q | q
    · exact h.1 r q a ha
    · rw [List.mem_singleton] at q; subst q; exact k a ha, fun a ha => by cases ha⟩
/-- a step that is told as t: what it leaves -/
def Went (w0 : World) (E : Ev) (R : Nat → Nat → Prop) (w : World) (s s' : St) (t' : Td) (r : Ending) (w' : World) : Prop :=
  ∃ z R', r = .returned (Td.v ⟨t'.mv, t'.bg, t'.pt, t'.dn, z⟩) ∧ z.code = t'.r.code ∧ z.P = t'.r.P ∧ Nw w R' w' z ∧ CM w0 E s' R' w' ∧ On TT R w R' w' ∧ ∀ n, Old n s → Old n s'
set_option maxHeartbeats 4000000 in
theorem refuse_ok (t : Td) (code : Int) (H : Hid (CM w0 E s R w)) (hh : Hid (Held E s)) (hr : s.rs.length ≤ 1000) :
    Calls Try.prog 36 #[gp E.x, t.v, .int .i64 code] w (Went w0 E R w s (s.ended (rc code)) ⟨true, t.bg, true, true, rc code⟩) := by
  obtain ⟨W, hW, t0, z0, k0⟩ := alloc2 w 45 45 t.cl [.bool false, .bool false, .bool false, .bool false, .int .i64 0, .slice none 0 0]
  obtain ⟨g, hg⟩ : ∃ g, w.heap.size = g := ⟨_, rfl⟩
  have T0 := Lib.hid (Bo.new H.out.fam t0 (Nat.le_refl _))
  have Z0 := Lib.hid (Bo.new H.out.fam z0 (by omega))
  have F0 := Lib.hid H.out.fam
  have H0 := Lib.hid (H.out.next k0)
  have O0 : Hid (On TT R w R W) := Lib.hid (On.below H.out.fam k0)
  have OLD := Lib.hid H.out.old
  have LO : Hid (w0.heap.size ≤ w.heap.size) := Lib.hid H.out.fam.below.size
  have HG := Lib.hid hg
  rw [hg] at T0 Z0
  have c2 := T0.out.lies.cell (i := 2) rfl
  have f2 := T0.out.lies.open_ 2
  go_enter Try.func36, Try.ntmps36
  go_upto_region 2 with fail
  clear hg hW t0 z0 k0 H c2 f2
  have g1 := grown_set W g 2 (.bool true)
  have H1 := Lib.hid (H0.out.aside g1 T0.out.out (by have := LO.out; have := HG.out; omega) OLD.out (by have := HG.out; omega))
  have T1 : Hid (Bo R (W.setCell ⟨g, 2, none⟩ (.bool true)) g 45 (Td.cl ⟨t.mv, t.bg, true, t.dn, t.r⟩)) := Lib.hid ⟨T0.out.lies.put 2 (.bool true), T0.out.out⟩
  have Z1 := Lib.hid (Z0.out.far g1 (by omega))
  have O1 := Lib.hid (Cn.On.aside F0.out O0.out g1 (by have := HG.out; omega))
  clear g1 T0 Z0 H0 O0
  generalize W.setCell ⟨g, 2, none⟩ (.bool true) = w1 at H1 T1 Z1 O1 ⊢
  go_wp2_with (first
    | (refine wpList_plain rfl fun K' hK' => ld_told (t := ⟨t.mv, t.bg, true, t.dn, t.r⟩) _ rfl rfl T1.out.lies (hK' _ _ ?_))
    | fail)
  refine (end_ok ⟨t.mv, t.bg, true, t.dn, t.r⟩ (rc code) H1 hh (Lib.hid VB.nil) (by simp) hr).mono ?_
  rintro r w2 ⟨z, R2, rfl, e1, e2, nz, c2, o2⟩
  have N2 := Lib.hid (And.intro e1 (And.intro e2 nz))
  have C2 := Lib.hid c2
  have Z2 := Lib.hid (Z1.out.on o2)
  have O2 := Lib.hid (O1.out.trans o2)
  have L1 : Hid (g + 1 < w1.heap.size) := Lib.hid Z1.out.lies.lt
  have S1 : Hid (w.heap.size ≤ w1.heap.size) := Lib.hid O1.out.size
  clear e1 e2 nz c2 o2 Z1 T1 O1 H1
  dsimp only
  go_wp2_with (first
    | (refine wpList_plain rfl fun K' hK' => st_told (t' := ⟨true, t.bg, true, true, z⟩) _ _ rfl rfl rfl Z2.out.lies rfl (fun w7 z1 z2 => hK' _ _ ?_))
    | fail)
  have ol := old_ended (y := rc code) OLD.out (fun a ha => by cases ha)
  exact bodyPost_ret (told_told (t := ⟨true, t.bg, true, true, z⟩) rfl rfl z1) rfl ⟨z, R2, rfl, N2.out.1, N2.out.2.1, (N2.out.2.2.far z2 L1.out).less S1.out, C2.out.aside z2 Z2.out.out (by have := LO.out; have := HG.out; omega) ol (by have := HG.out; omega), Cn.On.aside F0.out O2.out z2 (by have := HG.out; omega), fun n h => old_ended h (fun a ha => by cases ha)⟩
end
end Cn
end Go.Proofs.Ytjncogjafljbiaa
