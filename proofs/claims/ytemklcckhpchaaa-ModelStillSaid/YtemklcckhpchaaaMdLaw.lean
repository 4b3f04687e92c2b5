/-
  Layer 13's statements: calls that came in; what a call does to a model's numbers: what isn't OK changes nothing, the watermark and the output never fall, the output is fine.
-/
import Derived.Test.YtemklcckhpchaaaUp13
import Derived.Test.YtemklcckhpchaaaRefFine
import Derived.Test.YtemklcckhpchaaaOpens
namespace Go.Proofs.Ytemklcckhpchaaa
open Go.ChangeShapes Go.WideShapes Go.ChangeAt Go.RowKit
set_option maxRecDepth 100000
instance : Inhabited Cl := ⟨⟨0, ⟨#[]⟩, 0, 0, 0, 0, 0⟩⟩
namespace Opens
theorem open_calls {H : Type} {enc : TypeId × Value → H} {w : World} {base : Nat} {held : Bool} {spare : Nat → Bool} {r : Reach} {b0 : Nat} {v : Value} {d : DataW H} {p : List MemPlace}
    (hv : Value.okWide Try.prog w r b0 24 v) (h : DataW.Trod enc Try.prog w base spare held 24 v d p) :
    ∃ x : Option Addr × Nat × Nat × (Nat → Cl), v = .slice x.1 x.2.1 x.2.2.1 ∧ IsRows Cl.cl 7 Cl.Fit w x :=
  open_rows Cl.cl Cl.Fit Try.underlying24 Ca.cells_call (by omega) (fun m cs y h => Ca.call_cells m cs y h) hv h
end Opens
namespace Md
open Small Foot Pane Grp Ca
theorem lit_len {base n c : Nat} {A : Option Addr} {w : World} {L : List Pn} (h : Sl.Own Pn.k base w (.slice A n c) L) : n = L.length := by
  obtain ⟨b, -, i⟩ := h.is
  obtain ⟨A', c', e⟩ := i.len
  injection e
section
variable {cf : C8} {S S' : Lists} {mark mark' : Int} {L L' P : List Pn} {cl cl' : Bool} {x : Cl} {z : Option (Nat × Int × Int × Int)} {code : Int} {c : Nat}
/-- what isn't OK, and a Rebalance, changes nothing -/
theorem MDid.still' (h : MDid cf S mark L cl x z code P c S' mark' L' cl') (hz : ∀ nn a d l, z = some (nn, a, d, l) → nn ≤ 16 ∧ 1 ≤ l) (q : code ≠ 0 ∨ x.op = 6) : P = [] ∧ S' = S ∧ mark' = mark ∧ L' = L := by
  cases h with
  | bad => exact ⟨rfl, rfl, rfl, rfl⟩
  | closed => exact ⟨rfl, rfl, rfl, rfl⟩
  | stale => exact ⟨rfl, rfl, rfl, rfl⟩
  | put _ _ ho tk =>
    refine ⟨rfl, ?_, rfl, rfl⟩
    rcases q with q | q
    · exact (Gr.taken16 tk hz).2.2 q
    · simp only [puts] at ho; omega
  | up _ _ ho =>
    rcases q with q | q
    · exact absurd rfl q
    · omega
  | query _ _ ho =>
    rcases q with q | q
    · exact absurd rfl q
    · omega
  | still => exact ⟨rfl, rfl, rfl, rfl⟩
  | shut => exact ⟨rfl, rfl, rfl, rfl⟩
theorem MDid.grow (h : MDid cf S mark L cl x z code P c S' mark' L' cl') : L.length ≤ L'.length ∧ mark ≤ mark' := by
  cases h with
  | up _ _ _ ht => exact ⟨by simp, by omega⟩
  | _ => exact ⟨Nat.le_refl _, Int.le_refl _⟩
theorem MDid.c16 (h : MDid cf S mark L cl x z code P c S' mark' L' cl') (hz : ∀ nn a d l, z = some (nn, a, d, l) → nn ≤ 16 ∧ 1 ≤ l) : c ≤ 16 := by
  cases h with
  | put _ _ _ tk => exact (Gr.taken16 tk hz).1
  | _ => exact Nat.zero_le _
theorem MDid.wf (h : MDid cf S mark L cl x z code P c S' mark' L' cl') (h1 : (Lit.int .i64 mark).wf = true) (h2 : (Lit.int .i64 x.t).wf = true) : (Lit.int .i64 mark').wf = true := by
  cases h with
  | up => exact h2
  | _ => exact h1
/-- the output is fine, and what went out is over -/
def FineOut (cf : C8) (mark : Int) (L : List Pn) : Prop := L.Pairwise FineTwo ∧ ∀ p ∈ L, p.e + cf.z ≤ mark
theorem MDid.fine (h : MDid cf S mark L cl x z code P c S' mark' L' cl') (hf : FineOut cf mark L) (no : NoneOver cf.z mark S) (F : Fine S) : FineOut cf mark' L' := by
  cases h with
  | up _ _ _ ht o _ =>
    refine ⟨List.pairwise_append.2 ⟨hf.1, o.fine F, fun a ha b hb _ => ?_⟩, fun p hp => ?_⟩
    · have h1 := hf.2 a ha
      have h2 := no _ b (o.mem F b hb).1
      exact ⟨by omega, fun e => by omega⟩
    · rcases List.mem_append.1 hp with hp | hp
      · have := hf.2 p hp; omega
      · exact (o.mem F p hp).2
  | _ => exact hf
end
end Md
end Go.Proofs.Ytemklcckhpchaaa
