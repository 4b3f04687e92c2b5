/-
  The head of the statements of layer 16 (the document's example) answers true; deeds that came in; Pick, what it tells.
-/
import Derived.Test.YtmklkiklegkioaaCtl
import Derived.Test.YtmklkiklegkioaaOpens
namespace Go.Proofs.Ytmklkiklegkioaa
open Go.ChangeShapes Go.WideShapes Go.ChangeAt Go.RowKit Small Foot
namespace Ct
set_option linter.unusedVariables false
set_option maxRecDepth 100000
/-- what Pick tells -/
def pk (c n : Int) : Int := (if c < 0 then -(c + 1) else c) % n
theorem pk_in {c n : Int} (h : 0 < n) : 0 ≤ pk c n ∧ pk c n < n := ⟨Int.emod_nonneg _ (by omega), Int.emod_lt_of_pos _ h⟩
set_option maxHeartbeats 800000 in
theorem pick_det (c n : Int) (w : World) (hc : (Lit.int .i64 c).wf = true) (hn : 0 < n) (hn2 : n ≤ 1000) : Calls Try.prog 7 #[.int .i64 c, .int .i64 n] w fun r w' => r = .returned (.int .i64 (pk c n)) ∧ w = w' := by
  obtain ⟨c0, c1⟩ := fit hc
  by_cases h : c < 0
  · have t1 : IntKind.i64.wrap (c + 1) = c + 1 := IntWalk.i64_in _ (by omega)
    have t2 : IntKind.i64.wrap (-(c + 1)) = -(c + 1) := IntWalk.i64_in _ (by omega)
    have n0 : ¬ n = 0 := by omega
    have n1 : (n == 0) = false := by simpa using n0
    have e : (-(c + 1)).tmod n = (-(c + 1)) % n := Int.tmod_eq_emod_of_nonneg (by omega)
    have e2 : -(c + 1).tmod n = (-(c + 1)) % n := by rw [← e, Int.neg_tmod]
    have hp : pk c n = (-(c + 1)) % n := by unfold pk; rw [if_pos h]
    have E := Lib.hid e2
    have HP := Lib.hid hp
    clear e e2 hp
    go_enter Try.func7, Try.ntmps7
    go_wp2
    go_ret
    exact ⟨ret_int (by first | (rw [HP.out]; done) | rw [E.out, HP.out]), rfl⟩
  · have n0 : ¬ n = 0 := by omega
    have n1 : (n == 0) = false := by simpa using n0
    have e : c.tmod n = c % n := Int.tmod_eq_emod_of_nonneg (by omega)
    have hp : pk c n = c % n := by unfold pk; rw [if_neg h]
    have E := Lib.hid e
    have HP := Lib.hid hp
    clear e hp
    go_enter Try.func7, Try.ntmps7
    go_wp2
    go_ret
    exact ⟨ret_int (by first | (rw [HP.out]; done) | rw [E.out, HP.out]), rfl⟩

set_option maxHeartbeats 4000000 in
theorem up_ok (w : World) : Calls Try.prog 5 #[] w fun r w' => r = .returned (.bool true) ∧ Below w.heap.size w w' := by
  go_enter Try.func5, Try.ntmps5
  go_wp2_with fail
  refine (new_ok w).mono ?_
  rintro r w1 ⟨rfl, b1, k1⟩
  have B1 := Lib.hid b1
  have K1 := Lib.hid k1
  generalize hg : w.heap.size = g at *
  have G := Lib.hid hg
  clear b1 k1 hg
  go_wp2_with fail
  refine (hold_free B1 1).mono ?_
  rintro r w2 ⟨rfl, b2, m2⟩
  have B2 := Lib.hid b2
  have K2 := Lib.hid (K1.out.trans (m2.below (B := g) (fun i hi => by rw [hi]; omega) (by have := K1.out.size; have := G.out; omega)))
  clear b2 m2 B1 K1
  go_wp2_with fail
  refine (hold_held B2 2).mono ?_
  rintro r w3 ⟨rfl, rfl⟩
  go_wp2_with fail
  refine (drop_ok B2).mono ?_
  rintro r w4 ⟨rfl, b4, m4⟩
  have B4 := Lib.hid b4
  have K4 := Lib.hid (K2.out.trans (m4.below (B := g) (fun i hi => by rw [hi]; omega) (by have := K2.out.size; have := G.out; omega)))
  clear b4 m4 B2 K2
  go_wp2_with fail
  refine (hold_free B4 2).mono ?_
  rintro r w5 ⟨rfl, b5, m5⟩
  have B5 := Lib.hid b5
  have K5 := Lib.hid (K4.out.trans (m5.below (B := g) (fun i hi => by rw [hi]; omega) (by have := K4.out.size; have := G.out; omega)))
  clear b5 m5 B4 K4
  go_wp2_with fail
  refine (mark_ok B5).mono ?_
  rintro r w6 ⟨rfl, rfl⟩
  go_wp2_with fail
  refine (closed_ok B5).mono ?_
  rintro r w6 ⟨rfl, rfl⟩
  go_wp2_with fail
  refine (raise_no B5 (by omega)).mono ?_
  rintro r w6 ⟨rfl, rfl⟩
  go_wp2
  go_ret
  have := G.out
  exact ⟨rfl, this ▸ K5.out⟩

/-- a deed: what, who, which mark -/
structure Deed where
  c : Int
  k : Int
  m : Int
instance : Inhabited Deed := ⟨⟨0, 0, 0⟩⟩
abbrev dl (x : Deed) : List Value := [.int .i64 x.c, .int .i64 x.k, .int .i64 x.m]
def DFits (x : Deed) : Prop := (Lit.int .i64 x.c).wf = true ∧ (Lit.int .i64 x.k).wf = true ∧ (Lit.int .i64 x.m).wf = true
theorem cellsD : Try.prog.cellsOf 27 = 3 := by kernel_rfl
theorem cellsN : Try.prog.cellsOf 3 = 1 := by kernel_rfl
theorem cellsN6 : Try.prog.cellsOf 2 = 1 := by kernel_rfl
theorem deed_cells {H : Type} {enc : TypeId × Value → H} {w : World} {base : Nat} {held : Bool} {spare : Nat → Bool} (m : Nat) (cs : List Value) (y : DataW H × List MemPlace)
    (h : DataW.trod enc Try.prog w base spare held m 27 cs = some y) : ∃ x : Deed, cs = dl x ∧ DFits x := by
  obtain ⟨xs, n, _, _, hl, hlen, hat⟩ := DataW.trod_struct Try.underlying27 h
  match cs, hl.trans cellsD with
  | [c0, c1, c2], _ =>
    match xs, hlen with
    | [y0, y1, y2], _ =>
      have g0 := hat 0 _ rfl
      have g1 := hat 1 _ rfl
      have g2 := hat 2 _ rfl
      simp [cellsN, cellsN6] at g0 g1 g2
      obtain ⟨a0, e0, -, w0⟩ := DataW.trod_int Try.underlying3 g0
      obtain ⟨a1, e1, -, w1⟩ := DataW.trod_int Try.underlying3 g1
      obtain ⟨a2, e2, -, w2⟩ := DataW.trod_int Try.underlying2 g2
      simp at e0 e1 e2
      subst e0 e1 e2
      exact ⟨⟨a0, a1, a2⟩, rfl, w0, w1, w2⟩
end Ct
namespace Opens
theorem open_deeds {H : Type} {enc : TypeId × Value → H} {w : World} {base : Nat} {held : Bool} {spare : Nat → Bool} {r : Reach} {b0 : Nat} {v : Value} {d : DataW H} {p : List MemPlace}
    (hv : Value.okWide Try.prog w r b0 22 v) (h : DataW.Trod enc Try.prog w base spare held 22 v d p) :
    ∃ x : Option Addr × Nat × Nat × (Nat → Ct.Deed), v = .slice x.1 x.2.1 x.2.2.1 ∧ Opens.IsRows Ct.dl 3 Ct.DFits w x :=
  Opens.open_rows Ct.dl Ct.DFits Try.underlying22 Ct.cellsD (by omega) Ct.deed_cells hv h
end Opens
end Go.Proofs.Ytmklkiklegkioaa
