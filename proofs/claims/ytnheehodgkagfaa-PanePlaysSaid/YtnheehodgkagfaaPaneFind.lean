/-
  pane.Find, slices.Grow, slices.Concat, pane.Cut.
-/
import Derived.Test.YtnheehodgkagfaaPanePlace
import Derived.Test.YtnheehodgkagfaaPaneClone
import Derived.Test.YtnheehodgkagfaaPaneIns
namespace Go.Proofs.Ytnheehodgkagfaa
open Go.ChangeShapes Go.WideShapes Go.ChangeAt Go.RowKit Small
set_option linter.unusedVariables false
namespace Pane

abbrev zp : Pn := ⟨⟨#[]⟩, 0, 0, 0, 0, 0, 0⟩

section
variable {w w' w0 : World} {g : Nat} {t : TypeId} {a b c d e f h : Value}
theorem seven (H : Lies w g t [a, b, c, d, e, f, h]) :
    (w.cell? ⟨g, 0, none⟩ = some a ∧ w.cell? ⟨g, 1, none⟩ = some b ∧ w.cell? ⟨g, 2, none⟩ = some c ∧ w.cell? ⟨g, 3, none⟩ = some d ∧ w.cell? ⟨g, 4, none⟩ = some e ∧ w.cell? ⟨g, 5, none⟩ = some f ∧ w.cell? ⟨g, 6, none⟩ = some h) ∧
      w.frozen? ⟨g, 0, none⟩ = false ∧ w.frozen? ⟨g, 1, none⟩ = false ∧ w.frozen? ⟨g, 2, none⟩ = false ∧ w.frozen? ⟨g, 3, none⟩ = false ∧ w.frozen? ⟨g, 4, none⟩ = false ∧ w.frozen? ⟨g, 5, none⟩ = false ∧ w.frozen? ⟨g, 6, none⟩ = false :=
  ⟨⟨H.cell rfl, H.cell rfl, H.cell rfl, H.cell rfl, H.cell rfl, H.cell rfl, H.cell rfl⟩, H.open_ 0, H.open_ 1, H.open_ 2, H.open_ 3, H.open_ 4, H.open_ 5, H.open_ 6⟩
/-- all seven written -/
abbrev put7 (w : World) (g : Nat) (a b c d e f h : Value) : World :=
  ((((((w.setCell ⟨g, 0, none⟩ a).setCell ⟨g, 1, none⟩ b).setCell ⟨g, 2, none⟩ c).setCell ⟨g, 3, none⟩ d).setCell ⟨g, 4, none⟩ e).setCell ⟨g, 5, none⟩ f).setCell ⟨g, 6, none⟩ h
theorem put7_lies (H : Lies w g t [a, b, c, d, e, f, h]) (p q r s u x y : Value) : Lies (put7 w g p q r s u x y) g t [p, q, r, s, u, x, y] :=
  ((((((H.put 0 p).put 1 q).put 2 r).put 3 s).put 4 u).put 5 x).put 6 y
theorem put7_below (H : Below w0.heap.size w0 w) (hg : w0.heap.size ≤ g) (p q r s u x y : Value) : Below w0.heap.size w0 (put7 w g p q r s u x y) :=
  ((((((H.setCell hg p).setCell hg q).setCell hg r).setCell hg s).setCell hg u).setCell hg x).setCell hg y
end

set_option maxRecDepth 100000 in
set_option maxHeartbeats 4000000 in
theorem find_yes (v : Value) (L : List Pn) (b k : Nat) (s e : Int) (p : Pn) (w : World) (H : Hid (Sl.Is Pn.k w v L b)) (hn : L.length ≤ 1000) (A : Hid (At L s e k)) (hx : Hid (L[k]? = some p)) (he : Hid (Eq2 p s e)) :
    Calls Try.prog 11 #[v, win s e] w fun r w' => r = .returned (.tuple #[p.v, .bool true]) ∧ Below w.heap.size w w' := by
  obtain ⟨off, cap, hv, h2, h3, h4, hcell⟩ := H.out.some_ Pn.ok (by have := lt_of_at hx.out; omega)
  subst hv
  have hk := lt_of_at hx.out
  obtain ⟨c0, c1, c2, c3, c4, c5, c6⟩ := Tmr.pane_cells hx.out hcell
  have K0 := Lib.hid (below2 w (Obj.cells #[.int .i64 s, .int .i64 e] 26) (Obj.cells #[.string ⟨#[]⟩, .int .i64 0, .int .i64 0, .int .i64 0, .int .i64 0, .int .i64 0, .int .i64 0] 33))
  have Z0 := Lies.new (w.alloc (Obj.cells #[.int .i64 s, .int .i64 e] 26)) 33 zp.cl
  simp only [World.size_alloc] at Z0
  change Lies ((w.alloc (Obj.cells #[.int .i64 s, .int .i64 e] 26)).alloc (Obj.cells #[.string ⟨#[]⟩, .int .i64 0, .int .i64 0, .int .i64 0, .int .i64 0, .int .i64 0, .int .i64 0] 33)) (w.heap.size + 1) 33 [.string ⟨#[]⟩, .int .i64 0, .int .i64 0, .int .i64 0, .int .i64 0, .int .i64 0, .int .i64 0] at Z0
  have Z0 := Lib.hid Z0
  clear hcell h2 h3 h4
  go_enter Try.func11, Try.ntmps11
  go_wp2_with fail
  refine (place_ok _ L b k s e true _ (Lib.hid (H.out.next K0.out)) hn A (Lib.hid ⟨fun _ => ⟨p, hx.out, he.out⟩, fun _ => rfl⟩)).mono ?_
  rintro r w1 ⟨rfl, k1⟩
  have Z1 := Lib.hid (Z0.out.next k1)
  have K1 := Lib.hid (after K0.out k1)
  obtain ⟨⟨z0, z1, z2, z3, z4, z5, z6⟩, y0, y1, y2, y3, y4, y5, y6⟩ := seven Z1.out
  have c0 := cell_keep K1.out c0
  have c1 := cell_keep K1.out c1
  have c2 := cell_keep K1.out c2
  have c3 := cell_keep K1.out c3
  have c4 := cell_keep K1.out c4
  have c5 := cell_keep K1.out c5
  have c6 := cell_keep K1.out c6
  have i0 : (k : Int) < L.length := by omega
  clear k1
  go_wp2
  change bodyPost _ _ _ _ _ (put7 w1 (w.heap.size + 1) (.string p.key) (.int .i64 p.s) (.int .i64 p.e) (.int .i64 p.c) (.int .i64 p.m) (.int .i64 p.l) (.int .i64 p.u))
  obtain ⟨W, hW⟩ : ∃ W, W = put7 w1 (w.heap.size + 1) (.string p.key) (.int .i64 p.s) (.int .i64 p.e) (.int .i64 p.c) (.int .i64 p.m) (.int .i64 p.l) (.int .i64 p.u) := ⟨_, rfl⟩
  rw [← hW]
  have Z2 := put7_lies Z1.out (.string p.key) (.int .i64 p.s) (.int .i64 p.e) (.int .i64 p.c) (.int .i64 p.m) (.int .i64 p.l) (.int .i64 p.u)
  have K2 := put7_below (g := w.heap.size + 1) K1.out (by omega) (.string p.key) (.int .i64 p.s) (.int .i64 p.e) (.int .i64 p.c) (.int .i64 p.m) (.int .i64 p.l) (.int .i64 p.u)
  rw [← hW] at Z2 K2
  clear hW
  obtain ⟨⟨z0, z1, z2, z3, z4, z5, z6⟩, -⟩ := seven Z2
  exact bodyPost_ret (v := .tuple #[p.v, .bool true]) (by simp [results, Try.results11, go_sem, z0, z1, z2, z3, z4, z5, z6]) rfl ⟨rfl, K2⟩

set_option maxRecDepth 100000 in
set_option maxHeartbeats 4000000 in
theorem find_no (v : Value) (L : List Pn) (b k : Nat) (s e : Int) (w : World) (H : Hid (Sl.Is Pn.k w v L b)) (hn : L.length ≤ 1000) (A : Hid (At L s e k)) (hx : Hid (∀ x, L[k]? = some x → ¬ Eq2 x s e)) :
    Calls Try.prog 11 #[v, win s e] w fun r w' => r = .returned (.tuple #[zp.v, .bool false]) ∧ Below w.heap.size w w' := by
  have K0 := Lib.hid (below2 w (Obj.cells #[.int .i64 s, .int .i64 e] 26) (Obj.cells #[.string ⟨#[]⟩, .int .i64 0, .int .i64 0, .int .i64 0, .int .i64 0, .int .i64 0, .int .i64 0] 33))
  have Z0 := Lies.new (w.alloc (Obj.cells #[.int .i64 s, .int .i64 e] 26)) 33 zp.cl
  simp only [World.size_alloc] at Z0
  change Lies ((w.alloc (Obj.cells #[.int .i64 s, .int .i64 e] 26)).alloc (Obj.cells #[.string ⟨#[]⟩, .int .i64 0, .int .i64 0, .int .i64 0, .int .i64 0, .int .i64 0, .int .i64 0] 33)) (w.heap.size + 1) 33 [.string ⟨#[]⟩, .int .i64 0, .int .i64 0, .int .i64 0, .int .i64 0, .int .i64 0, .int .i64 0] at Z0
  have Z0 := Lib.hid Z0
  go_enter Try.func11, Try.ntmps11
  go_wp2_with fail
  refine (place_ok _ L b k s e false _ (Lib.hid (H.out.next K0.out)) hn A (Lib.hid ⟨fun h => (by cases h), fun ⟨x, h1, h2⟩ => absurd h2 (hx.out x h1)⟩)).mono ?_
  rintro r w1 ⟨rfl, k1⟩
  have Z1 := Lib.hid (Z0.out.next k1)
  have K1 := Lib.hid (after K0.out k1)
  obtain ⟨⟨z0, z1, z2, z3, z4, z5, z6⟩, y0, y1, y2, y3, y4, y5, y6⟩ := seven Z1.out
  clear k1
  go_wp2
  change bodyPost _ _ _ _ _ (put7 w1 (w.heap.size + 1) (.string ⟨#[]⟩) (.int .i64 0) (.int .i64 0) (.int .i64 0) (.int .i64 0) (.int .i64 0) (.int .i64 0))
  obtain ⟨W, hW⟩ : ∃ W, W = put7 w1 (w.heap.size + 1) (.string ⟨#[]⟩) (.int .i64 0) (.int .i64 0) (.int .i64 0) (.int .i64 0) (.int .i64 0) (.int .i64 0) := ⟨_, rfl⟩
  rw [← hW]
  have Z2 := put7_lies Z1.out (.string ⟨#[]⟩) (.int .i64 0) (.int .i64 0) (.int .i64 0) (.int .i64 0) (.int .i64 0) (.int .i64 0)
  have K2 := put7_below (g := w.heap.size + 1) K1.out (by omega) (.string ⟨#[]⟩) (.int .i64 0) (.int .i64 0) (.int .i64 0) (.int .i64 0) (.int .i64 0) (.int .i64 0)
  rw [← hW] at Z2 K2
  clear hW
  obtain ⟨⟨z0, z1, z2, z3, z4, z5, z6⟩, -⟩ := seven Z2
  exact bodyPost_ret (v := .tuple #[zp.v, .bool false]) (by simp [results, Try.results11, go_sem, z0, z1, z2, z3, z4, z5, z6]) rfl ⟨rfl, K2⟩
end Pane
end Go.Proofs.Ytnheehodgkagfaa
