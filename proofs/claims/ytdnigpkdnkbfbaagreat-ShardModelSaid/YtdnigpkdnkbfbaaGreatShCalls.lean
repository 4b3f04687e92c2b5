/-
  Box of a worker whose mailbox is known; Pick, what it tells.
-/
import Derived.Test.YtdnigpkdnkbfbaaGreatShLaws
namespace Go.Proofs.YtdnigpkdnkbfbaaGreat
open Go.ChangeShapes Go.WideShapes Go.ChangeAt Go.RowKit
set_option linter.unusedVariables false
set_option maxRecDepth 100000
namespace Sh
open Small Foot Pane Grp Ca Md
set_option maxHeartbeats 1600000 in
theorem box_at {wk m bx : Nat} {bv : Value} {cf : C8} {p : Int → Option Nat} {L : List Ms.M} (w : World) (H : Hid (Q w wk m bx bv cf p L)) :
    Calls Tryz.prog 9 #[gp wk] w fun r w' => r = .returned (gp bx) ∧ w = w' := by
  have m9 := H.out.lies.cell (i := 9) rfl
  go_enter Tryz.func9, Tryz.ntmps9
  go_wp2
  go_ret
  exact ⟨rfl, rfl⟩
theorem Q.next {w w' : World} {wk m bx : Nat} {bv : Value} {cf : C8} {p : Int → Option Nat} {L : List Ms.M} (h : Q w wk m bx bv cf p L) (k : Below w.heap.size w w') : Q w' wk m bx bv cf p L := h.keep fun i hi => k.block i (h.in i hi)
/-- what Pick tells -/
def pk (c n : Int) : Int := (if c < 0 then -(c + 1) else c) % n
theorem pk_in {c n : Int} (h : 0 < n) : 0 ≤ pk c n ∧ pk c n < n := ⟨Int.emod_nonneg _ (by omega), Int.emod_lt_of_pos _ h⟩
set_option maxHeartbeats 800000 in
theorem pick_det (c n : Int) (w : World) (hc : (Lit.int .i64 c).wf = true) (hn : 0 < n) (hn2 : n ≤ 1000) : Calls Tryz.prog 10 #[.int .i64 c, .int .i64 n] w fun r w' => r = .returned (.int .i64 (pk c n)) ∧ w = w' := by
  obtain ⟨c0, c1⟩ := fit hc
  by_cases h : c < 0
  · have t1 : IntKind.i64.wrap (c + 1) = c + 1 := IntWalk.i64_in _ (by omega)
    have t2 : IntKind.i64.wrap (-(c + 1)) = -(c + 1) := IntWalk.i64_in _ (by omega)
    have n0 : ¬ n = 0 := by omega
    have n1 : (n == 0) = false := by simpa using n0
    have e : (-(c + 1)).tmod n = (-(c + 1)) % n := Int.tmod_eq_emod_of_nonneg (by omega)
    have e2 : -(c + 1).tmod n = (-(c + 1)) % n := by rw [← e, Int.neg_tmod]
    have hp : pk c n = (-(c + 1)) % n := by unfold pk; rw [if_pos h]
    have E := Lib.hid e2
    have HP := Lib.hid hp
    clear e e2 hp
    go_enter Tryz.func10, Tryz.ntmps10
    go_wp2
    go_ret
    exact ⟨ret_int (by first | (rw [HP.out]; done) | rw [E.out, HP.out]), rfl⟩
  · have n0 : ¬ n = 0 := by omega
    have n1 : (n == 0) = false := by simpa using n0
    have e : c.tmod n = c % n := Int.tmod_eq_emod_of_nonneg (by omega)
    have hp : pk c n = c % n := by unfold pk; rw [if_neg h]
    have E := Lib.hid e
    have HP := Lib.hid hp
    clear e hp
    go_enter Tryz.func10, Tryz.ntmps10
    go_wp2
    go_ret
    exact ⟨ret_int (by first | (rw [HP.out]; done) | rw [E.out, HP.out]), rfl⟩
/-- a block that is none of the parts was written -/
theorem LM.far {w0 w w' : World} {g4 g : Nat} {cf : C8} {mo wa wb : Nat} {pp qa qb : Int → Option Nat} {Fm Fa Fb : Nat → Prop} {FF : Int → Nat → Prop} {SM : Lists} {S' : Int → Lists} {N : Nat} {n : Int → Nat} {mark : Int} {L : List Pn} {La Lb : List Ms.M} {vo : Value} {out : List Pn}
    (h : LM w0 g4 cf mo wa wb pp qa qb Fm Fa Fb FF SM S' N n mark L La Lb vo out w) (k : w.grownBy w' (some g)) (hg : ∀ j, ¬ Sh.fam Fm Fa Fb (UF pp FF) g4 vo j g) (lo : w0.heap.size ≤ g) : LM w0 g4 cf mo wa wb pp qa qb Fm Fa Fb FF SM S' N n mark L La Lb vo out w' := by
  have kp : ∀ j b, Sh.fam Fm Fa Fb (UF pp FF) g4 vo j b → w'.heap[b]? = w.heap[b]? := fun j b hb => k.block b (h.fam.in_ j b hb) fun e => hg j (Option.some.inj e ▸ hb)
  exact ⟨⟨fun i => (h.fam.in_ i).next k.size, h.fam.lo, h.fam.ap, h.fam.below.grown k h.fam.below.size (fun j hj => by cases hj; exact lo)⟩, (kp 4 g4 rfl).trans h.cfg, h.mod.keep (kp 0) k.size, h.a.keep (kp 1), h.b.keep (kp 2), h.pool.kept (kp 3) k.size, h.out.move (kp 5), h.every, h.subA, h.subB⟩
theorem OG.far {w w' : World} {Fm Fa Fb U : Nat → Prop} {g4 g b : Nat} {vo : Value} {TT : TypeId} {cs : List Value} (h : OG Fm Fa Fb U g4 vo b TT cs w) (k : w.grownBy w' (some g)) (hne : b ≠ g) : OG Fm Fa Fb U g4 vo b TT cs w' :=
  ⟨(k.block b h.1.lt fun e => hne (Option.some.inj e)).trans h.1, h.2⟩
end Sh
end Go.Proofs.YtdnigpkdnkbfbaaGreat
