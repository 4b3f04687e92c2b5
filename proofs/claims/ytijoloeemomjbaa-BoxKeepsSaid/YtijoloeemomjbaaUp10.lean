/-
  The head of the statements of layer 10 (the document's example) answers true; Pick's contract; deeds that came in.
-/
import Derived.Test.YtijoloeemomjbaaBoxes
import Derived.Test.YtijoloeemomjbaaErrs
import Derived.Test.YtijoloeemomjbaaOpens
namespace Go.Proofs.Ytijoloeemomjbaa
open Go.ChangeShapes Go.WideShapes Go.ChangeAt Go.RowKit Small Foot
namespace Bx
set_option linter.unusedVariables false

set_option maxHeartbeats 800000 in
theorem pick_ok (c n : Int) (w : World) (hc : (Lit.int .i64 c).wf = true) (hn : 0 < n) (hn2 : n ≤ 1000) : Calls Try.prog 7 #[.int .i64 c, .int .i64 n] w fun r w' => (∃ i : Nat, r = .returned (.int .i64 i) ∧ (i : Int) < n) ∧ w = w' := by
  obtain ⟨c0, c1⟩ := fit hc
  by_cases h : c < 0
  · have t1 : IntKind.i64.wrap (c + 1) = c + 1 := IntWalk.i64_in _ (by omega)
    have t2 : IntKind.i64.wrap (-(c + 1)) = -(c + 1) := IntWalk.i64_in _ (by omega)
    have n0 : ¬ n = 0 := by omega
    have n1 : (n == 0) = false := by simpa using n0
    have e : (-(c + 1)).tmod n = (-(c + 1)) % n := Int.tmod_eq_emod_of_nonneg (by omega)
    have e2 : -(c + 1).tmod n = (-(c + 1)) % n := by rw [← e, Int.neg_tmod]
    have e0 := Int.emod_nonneg (-(c + 1)) n0
    have e1 := Int.emod_lt_of_pos (-(c + 1)) hn
    obtain ⟨i, hi⟩ : ∃ i : Nat, (-(c + 1)) % n = i := ⟨((-(c + 1)) % n).toNat, by omega⟩
    have E := Lib.hid e2
    have HI := Lib.hid hi
    clear e e2 hi e0
    go_enter Try.func7, Try.ntmps7
    go_wp2
    go_ret
    exact ⟨⟨i, ret_int (by first | exact HI.out | rw [E.out, HI.out]), by rw [← HI.out]; exact e1⟩, rfl⟩
  · have h' : 0 ≤ c := by omega
    have n0 : ¬ n = 0 := by omega
    have n1 : (n == 0) = false := by simpa using n0
    have e : c.tmod n = c % n := Int.tmod_eq_emod_of_nonneg (by omega)
    have e0 := Int.emod_nonneg c n0
    have e1 := Int.emod_lt_of_pos c hn
    obtain ⟨i, hi⟩ : ∃ i : Nat, c % n = i := ⟨(c % n).toNat, by omega⟩
    have E := Lib.hid e
    have HI := Lib.hid hi
    clear e hi e0
    go_enter Try.func7, Try.ntmps7
    go_wp2
    go_ret
    exact ⟨⟨i, ret_int (by first | exact HI.out | rw [E.out, HI.out]), by rw [← HI.out]; exact e1⟩, rfl⟩

set_option maxRecDepth 100000 in
set_option maxHeartbeats 4000000 in
theorem up_ok (w : World) : Calls Try.prog 5 #[] w fun r w' => r = .returned (.bool true) ∧ Below w.heap.size w w' := by
  go_enter Try.func5, Try.ntmps5
  go_wp2_with fail
  refine (Nu.new_ok 1 w (by omega) (by omega)).mono ?_
  rintro r w1 ⟨rfl, b1, k1⟩
  have B1 := Lib.hid b1
  have K1 := Lib.hid k1
  clear b1 k1
  go_wp2_with fail
  refine (Nu.new_no 0 w1 (.inl (by omega))).mono ?_
  rintro r w2 ⟨rfl, k2⟩
  have B2 := Lib.hid (B1.out.next k2)
  have K2 := Lib.hid (after K1.out k2)
  clear k2 B1 K1
  go_wp2_with fail
  refine (Nu.put_ok w.heap.size 1 _ [] 5 w2 B2 (by simp) (by omega)).mono ?_
  rintro r w3 ⟨v3, rfl, b3, m3⟩
  have B3 : Hid (Nu.Box w3 w.heap.size 1 false v3 [5]) := Lib.hid b3
  have K3 := Lib.hid (K2.out.trans (m3.below (B2.out.from) K2.out.size))
  clear b3 m3 B2 K2
  go_wp2_with fail
  refine (Nu.put_full w.heap.size 1 v3 [5] 6 w3 B3 (by simp)).mono ?_
  rintro r w4 ⟨rfl, k4⟩
  have B4 := Lib.hid (B3.out.next k4)
  have K4 := Lib.hid (after K3.out k4)
  clear k4 B3 K3
  go_wp2_with fail
  refine (Nu.take_ok w.heap.size 1 false v3 5 [] w4 B4 (by simp)).mono ?_
  rintro r w5 ⟨v5, rfl, b5, m5⟩
  have B5 := Lib.hid b5
  have K5 := Lib.hid (K4.out.trans (m5.below (B4.out.from) K4.out.size))
  have q1 := Errs.eql_code w5 1 1
  have q4 := Errs.eql_code w5 4 4
  clear b5 m5 B4 K4
  go_wp2_with fail
  refine (Nu.closed_ok w.heap.size 1 false v5 [] w5 B5).mono ?_
  rintro r w6 ⟨rfl, rfl⟩
  go_wp2
  go_ret
  exact ⟨rfl, K5.out⟩

/-- a deed: what, and of which number -/
structure Deed where
  what : Int
  n : Int
instance : Inhabited Deed := ⟨⟨0, 0⟩⟩
abbrev dl (x : Deed) : List Value := [.int .i64 x.what, .int .i64 x.n]
def DFits (x : Deed) : Prop := (Lit.int .i64 x.what).wf = true ∧ (Lit.int .i64 x.n).wf = true
theorem cellsD : Try.prog.cellsOf 33 = 2 := by kernel_rfl
theorem cellsN : Try.prog.cellsOf 3 = 1 := by kernel_rfl
theorem deed_cells {H : Type} {enc : TypeId × Value → H} {w : World} {base : Nat} {held : Bool} {spare : Nat → Bool} (m : Nat) (cs : List Value) (y : DataW H × List MemPlace)
    (h : DataW.trod enc Try.prog w base spare held m 33 cs = some y) : ∃ x : Deed, cs = dl x ∧ DFits x := by
  obtain ⟨xs, n, _, _, hl, hlen, hat⟩ := DataW.trod_struct Try.underlying33 h
  match cs, hl.trans cellsD with
  | [c0, c1], _ =>
    match xs, hlen with
    | [y0, y1], _ =>
      have g0 := hat 0 _ rfl
      have g1 := hat 1 _ rfl
      simp [cellsN] at g0 g1
      obtain ⟨a0, e0, -, w0⟩ := DataW.trod_int Try.underlying3 g0
      obtain ⟨a1, e1, -, w1⟩ := DataW.trod_int Try.underlying3 g1
      simp at e0 e1
      subst e0 e1
      exact ⟨⟨a0, a1⟩, rfl, w0, w1⟩
end Bx
namespace Opens
theorem open_deeds {H : Type} {enc : TypeId × Value → H} {w : World} {base : Nat} {held : Bool} {spare : Nat → Bool} {r : Reach} {b0 : Nat} {v : Value} {d : DataW H} {p : List MemPlace}
    (hv : Value.okWide Try.prog w r b0 22 v) (h : DataW.Trod enc Try.prog w base spare held 22 v d p) :
    ∃ x : Option Addr × Nat × Nat × (Nat → Bx.Deed), v = .slice x.1 x.2.1 x.2.2.1 ∧ Opens.IsRows Bx.dl 2 Bx.DFits w x :=
  Opens.open_rows Bx.dl Bx.DFits Try.underlying22 Bx.cellsD (by omega) Bx.deed_cells hv h
end Opens
namespace Bx
end Bx
end Go.Proofs.Ytijoloeemomjbaa
