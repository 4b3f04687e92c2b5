/-
  The model and the document's model side by side: one code, one list of panes, one output.
-/
import Derived.Test.YtemklcckhpchaaaGreatMdHead
import Derived.Test.YtemklcckhpchaaaGreatRmDo
namespace Go.Proofs.YtemklcckhpchaaaGreat
open Go.ChangeShapes Go.WideShapes Go.ChangeAt Go.RowKit
set_option maxRecDepth 100000
namespace Rm
open Small Foot Pane Grp Ca Rg Md
set_option linter.unusedVariables false
section
variable {cf : C8} {S S' : Lists} {R R' : List Pn} {mark mark' mark2 : Int} {L L' L2 P P2 O O2 : List Pn} {cl cl' cl2 : Bool} {x : Cl} {z : Option (Nat × Int × Int × Int)} {code code2 : Int} {c N : Nat}
theorem both_asked (rp : Rep S R) (ok : Ok cf.k S N) (hN : N ≤ 8880) (hz : ∀ nn a d l, z = some (nn, a, d, l) → nn ≤ 16 ∧ 1 ≤ l) (a : MAsked cf S mark x z code P O c S') (b : RAsked cf R mark x z code2 P2 O2 R') : code = code2 ∧ P = P2 ∧ O = O2 ∧ Rep S' R' := by
  rcases a with ⟨h1, rfl, S1, o, no, tk⟩ | ⟨h1, rfl, rfl, o, no, rfl⟩
  · rcases b with ⟨-, rfl, R1, ro, rno, rtk⟩ | ⟨h2, -⟩
    · obtain ⟨h3, h4, h5⟩ := Rr.taken_both rp ok hN o no tk ro rno rtk hz
      exact ⟨h4, rfl, h3, h5⟩
    · exact absurd h1 h2
  · rcases b with ⟨h2, -⟩ | ⟨-, rfl, ro, rno, Q, q1, q2, rfl⟩
    · exact absurd h2 h1
    · have F := ok.fine (by omega)
      obtain ⟨rfl, rp'⟩ := settled rp F o ro no rno
      obtain rfl := rp'.panes (F.outs o) q1 q2
      exact ⟨rfl, rfl, rfl, rp'⟩
theorem nor_of (rp : Rep S R) (no : NoneOver cf.z mark S) : NoR cf.z mark R := fun q hq => no _ q (rp.mem.1 hq)
theorem both_did (rp : Rep S R) (ok : Ok cf.k S N) (hN : N ≤ 8880) (hz : ∀ nn a d l, z = some (nn, a, d, l) → nn ≤ 16 ∧ 1 ≤ l) (no : NoneOver cf.z mark S) (m : MDid cf S mark L cl x z code P c S' mark' L' cl') (r : RDid cf R mark L cl x z code2 P2 R' mark2 L2 cl2) :
    code = code2 ∧ P = P2 ∧ mark' = mark2 ∧ L' = L2 ∧ cl' = cl2 ∧ Rep S' R' := by
  have F := ok.fine (by omega)
  cases m with
  | bad h =>
    cases r with
    | bad _ => exact ⟨rfl, rfl, rfl, rfl, rfl, rp⟩
    | closed h2 => exact absurd h2 h
    | stale h2 => exact absurd h2 h
    | ask h2 => exact absurd h2 h
    | up h2 => exact absurd h2 h
    | still h2 => exact absurd h2 h
    | shut h2 => exact absurd h2 h
  | closed h hc =>
    subst hc
    cases r with
    | bad h2 => exact absurd h h2
    | closed _ _ => exact ⟨rfl, rfl, rfl, rfl, rfl, rp⟩
    | stale _ hc => cases hc
    | ask _ hc => cases hc
    | up _ hc => cases hc
    | still _ hc => cases hc
    | shut _ hc => cases hc
  | stale h hc ho ht =>
    subst hc
    cases r with
    | bad h2 => exact absurd h h2
    | closed _ hc => cases hc
    | stale _ _ _ _ => exact ⟨rfl, rfl, rfl, rfl, rfl, rp⟩
    | ask _ _ hk => rw [ho] at hk; cases hk
    | up _ _ _ ht2 => omega
    | still _ _ ho2 => omega
    | shut _ _ ho2 => omega
  | put h hc ho tk =>
    subst hc
    cases r with
    | bad h2 => exact absurd h h2
    | closed _ hc => cases hc
    | stale _ _ ho2 => simp only [puts] at ho; omega
    | ask _ _ _ a =>
      obtain ⟨h1, h2, h3, h4⟩ := both_asked rp ok hN hz (.inl ⟨ho, rfl, S, .none, no, tk⟩) a
      subst h3
      exact ⟨h1, h2, rfl, (List.append_nil L).symm, rfl, h4⟩
    | up _ _ ho2 => simp only [puts] at ho; omega
    | still _ _ ho2 => simp only [puts] at ho; omega
    | shut _ _ ho2 => simp only [puts] at ho; omega
  | up h hc ho ht o no2 =>
    subst hc
    cases r with
    | bad h2 => exact absurd h h2
    | closed _ hc => cases hc
    | stale _ _ _ ht2 => omega
    | ask _ _ hk => rw [ho] at hk; cases hk
    | up _ _ _ _ ro rno =>
      obtain ⟨rfl, rp'⟩ := settled rp F o ro no2 rno
      exact ⟨rfl, rfl, rfl, rfl, rfl, rp'⟩
    | still _ _ ho2 => omega
    | shut _ _ ho2 => omega
  | query h hc ho =>
    subst hc
    cases r with
    | bad h2 => exact absurd h h2
    | closed _ hc => cases hc
    | stale _ _ ho2 => omega
    | ask _ _ _ a =>
      obtain ⟨h1, h2, h3, h4⟩ := both_asked rp ok hN hz (.inr ⟨by simp only [puts]; omega, rfl, rfl, .none, no, rfl⟩) a
      subst h3
      exact ⟨h1, h2, rfl, (List.append_nil L).symm, rfl, h4⟩
    | up _ _ ho2 => omega
    | still _ _ ho2 => omega
    | shut _ _ ho2 => omega
  | still h hc ho =>
    subst hc
    cases r with
    | bad h2 => exact absurd h h2
    | closed _ hc => cases hc
    | stale _ _ ho2 => omega
    | ask _ _ hk => rw [ho] at hk; cases hk
    | up _ _ ho2 => omega
    | still _ _ _ => exact ⟨rfl, rfl, rfl, rfl, rfl, rp⟩
    | shut _ _ ho2 => omega
  | shut h hc ho =>
    subst hc
    cases r with
    | bad h2 => exact absurd h h2
    | closed _ hc => cases hc
    | stale _ _ ho2 => omega
    | ask _ _ hk => rw [ho] at hk; cases hk
    | up _ _ ho2 => omega
    | still _ _ ho2 => omega
    | shut _ _ _ => exact ⟨rfl, rfl, rfl, rfl, rfl, rp⟩
/-- no panes of a key have one window -/
theorem rep_apart {w : World} {g n : Nat} {F : Nat → Prop} (rp : Rep S R) (H : Gr.Is w g F cf S N n) (hN : N ≤ 8880) (key : ByteArray) : (ofKey key R).Pairwise fun p q => ¬ Eq2 p q.s q.e := rp.apart (H.fine hN) key
end
end Rm
end Go.Proofs.YtemklcckhpchaaaGreat
