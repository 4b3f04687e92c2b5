/-
  What a worker's step leaves of a model, two workers and their groups; what an Advance does to the model.
-/
import Derived.Test.YtdnigpkdnkbfbaaGreatShLaw
import Derived.Test.YtdnigpkdnkbfbaaGreatMdHead
namespace Go.Proofs.YtdnigpkdnkbfbaaGreat
open Go.ChangeShapes Go.WideShapes Go.ChangeAt Go.RowKit
set_option linter.unusedVariables false
set_option maxRecDepth 100000
namespace Sh
open Small Foot Pane Grp Ca Md
/-- a key's group -/
abbrev gk (cf : C8) (x : ByteArray) : Int := Fnv.grp (Fnv.num x.data.toList) cf.r
theorem part_upd {G : ByteArray → Int} {T T' : Lists} {k : Int} {S1 : Lists} (h1 : S1 = Sh.part G T' k) (h2 : ∀ j, j ≠ k → Sh.part G T' j = Sh.part G T j) : (fun y => if y = k then S1 else Sh.part G T y) = Sh.part G T' := funext fun y => by
  by_cases e : y = k
  · subst e; rw [if_pos rfl]; exact h1
  · rw [if_neg e]; exact (h2 y e).symm
/-- an Advance of the model -/
theorem adv {cf : C8} {S S' : Lists} {mark mark' code : Int} {L L' P : List Pn} {x : Cl} {z : Option (Nat × Int × Int × Int)} {c : Nat} {cl' : Bool} (h : MDid cf S mark L false x z code P c S' mark' L' cl') (ho : x.op = 3) :
    cl' = false ∧ c = 0 ∧ ((code = 0 ∧ mark' = x.t ∧ mark ≤ x.t ∧ ∃ O, L' = L ++ O ∧ Outs cf.z x.t S O S' ∧ NoneOver cf.z x.t S') ∨ (code ≠ 0 ∧ S' = S ∧ mark' = mark ∧ L' = L)) := by
  cases h with
  | bad h => exact ⟨rfl, rfl, .inr ⟨by decide, rfl, rfl, rfl⟩⟩
  | closed _ hc => cases hc
  | stale _ _ _ ht => exact ⟨rfl, rfl, .inr ⟨by decide, rfl, rfl, rfl⟩⟩
  | put _ _ hp => exact absurd ho (by simp [puts] at hp; omega)
  | up _ _ _ ht o no => exact ⟨rfl, rfl, .inl ⟨rfl, rfl, by omega, _, rfl, o, no⟩⟩
  | query _ _ hq => omega
  | still _ _ hs => omega
  | shut _ _ hs => omega
/-- the lengths: what went out is no more than what the model told -/
theorem count_len {A B : List Pn} (h : ∀ p, A.count p ≤ B.count p) : A.length ≤ B.length := by
  induction A generalizing B with
  | nil => exact Nat.zero_le _
  | cons p A ih =>
    have hp : p ∈ B := List.count_pos_iff.1 (by have := h p; rw [List.count_cons_self] at this; omega)
    have := ih (B := B.erase p) fun q => by
      have h1 := h q
      by_cases e : p = q
      · subst e
        rw [List.count_cons_self] at h1
        rw [List.count_erase_self]
        omega
      · rw [List.count_cons_of_ne e] at h1
        rw [List.count_erase_of_ne (Ne.symm e)]
        exact h1
    rw [List.length_erase_of_mem hp] at this
    have := List.length_pos_of_mem hp
    simp only [List.length_cons]
    omega
theorem Inv.len {G : ByteArray → Int} {z mark : Int} {T M : Lists} {out L : List Pn} (h : Inv G z mark T M out L) : out.length ≤ L.length := count_len fun p => by
  obtain ⟨X, hX, -⟩ := h.went p.key
  have c : ∀ l : List Pn, l.count p = (ofK p.key l).count p := fun l => (List.count_filter (by simp)).symm
  rw [c out, c L, hX, List.count_append]
  omega
/-- a block that is none of the parts -/
def OG (Fm Fa Fb U : Nat → Prop) (g4 : Nat) (vo : Value) (g : Nat) (T : TypeId) (cs : List Value) (w : World) : Prop := Lies w g T cs ∧ ∀ j, ¬ Sh.fam Fm Fa Fb U g4 vo j g
section
variable {w0 w w' : World} {Fm Fa Fb Fm' Fa' Fb' U U' : Nat → Prop} {g4 g : Nat} {vo vo' : Value} {TT : TypeId} {cs : List Value}
theorem OG.next (h : OG Fm Fa Fb U g4 vo g TT cs w) (k : Below w.heap.size w w') : OG Fm Fa Fb U g4 vo g TT cs w' := ⟨h.1.next k, h.2⟩
theorem OG.new (w : World) (H : Fam w0 w (Sh.fam Fm Fa Fb U g4 vo)) (k : Lies w' w.heap.size TT cs) : OG Fm Fa Fb U g4 vo w.heap.size TT cs w' := ⟨k, fun j hj => Nat.lt_irrefl _ (H.in_ j _ hj)⟩
theorem OG.model (h : OG Fm Fa Fb U g4 vo g TT cs w) (k : Moves Fm Fm' w w') : OG Fm' Fa Fb U g4 vo g TT cs w' := by
  refine ⟨k.lies (h.2 0) h.1, fun j hj => ?_⟩
  have e : ∀ j, Sh.fam Fm' Fa Fb U g4 vo j g → Sh.fam Fm Fa Fb U g4 vo j g ∨ Fm' g := fun j hj => by
    match j, hj with
    | 0, hj => exact .inr hj
    | 1, hj => exact .inl (show Sh.fam Fm Fa Fb U g4 vo 1 g from hj)
    | 2, hj => exact .inl (show Sh.fam Fm Fa Fb U g4 vo 2 g from hj)
    | 3, hj => exact .inl (show Sh.fam Fm Fa Fb U g4 vo 3 g from hj)
    | 4, hj => exact .inl (show Sh.fam Fm Fa Fb U g4 vo 4 g from hj)
    | 5, hj => exact .inl (show Sh.fam Fm Fa Fb U g4 vo 5 g from hj)
    | j + 6, hj => exact hj.elim
  rcases e j hj with q | q
  · exact h.2 j q
  · rcases (k.new _ q).1 with r | r
    · exact h.2 0 r
    · have := h.1.lt; omega
theorem OG.onA (h : OG Fm Fa Fb U g4 vo g TT cs w) (k : Moves Fa Fa' w w') : OG Fm Fa' Fb U g4 vo g TT cs w' := by
  refine ⟨k.lies (h.2 1) h.1, fun j hj => ?_⟩
  have e : ∀ j, Sh.fam Fm Fa' Fb U g4 vo j g → Sh.fam Fm Fa Fb U g4 vo j g ∨ Fa' g := fun j hj => by
    match j, hj with
    | 0, hj => exact .inl (show Sh.fam Fm Fa Fb U g4 vo 0 g from hj)
    | 1, hj => exact .inr hj
    | 2, hj => exact .inl (show Sh.fam Fm Fa Fb U g4 vo 2 g from hj)
    | 3, hj => exact .inl (show Sh.fam Fm Fa Fb U g4 vo 3 g from hj)
    | 4, hj => exact .inl (show Sh.fam Fm Fa Fb U g4 vo 4 g from hj)
    | 5, hj => exact .inl (show Sh.fam Fm Fa Fb U g4 vo 5 g from hj)
    | j + 6, hj => exact hj.elim
  rcases e j hj with q | q
  · exact h.2 j q
  · rcases (k.new _ q).1 with r | r
    · exact h.2 1 r
    · have := h.1.lt; omega
theorem OG.onB (h : OG Fm Fa Fb U g4 vo g TT cs w) (k : Moves Fb Fb' w w') : OG Fm Fa Fb' U g4 vo g TT cs w' := by
  refine ⟨k.lies (h.2 2) h.1, fun j hj => ?_⟩
  have e : ∀ j, Sh.fam Fm Fa Fb' U g4 vo j g → Sh.fam Fm Fa Fb U g4 vo j g ∨ Fb' g := fun j hj => by
    match j, hj with
    | 0, hj => exact .inl (show Sh.fam Fm Fa Fb U g4 vo 0 g from hj)
    | 1, hj => exact .inl (show Sh.fam Fm Fa Fb U g4 vo 1 g from hj)
    | 2, hj => exact .inr hj
    | 3, hj => exact .inl (show Sh.fam Fm Fa Fb U g4 vo 3 g from hj)
    | 4, hj => exact .inl (show Sh.fam Fm Fa Fb U g4 vo 4 g from hj)
    | 5, hj => exact .inl (show Sh.fam Fm Fa Fb U g4 vo 5 g from hj)
    | j + 6, hj => exact hj.elim
  rcases e j hj with q | q
  · exact h.2 j q
  · rcases (k.new _ q).1 with r | r
    · exact h.2 2 r
    · have := h.1.lt; omega
theorem OG.put (h : OG Fm Fa Fb U g4 vo g TT cs w) (k : Moves (fun b => vo.ownBlock = some b) (fun b => vo'.ownBlock = some b) w w') : OG Fm Fa Fb U g4 vo' g TT cs w' := by
  refine ⟨k.lies (h.2 5) h.1, fun j hj => ?_⟩
  have e : ∀ j, Sh.fam Fm Fa Fb U g4 vo' j g → Sh.fam Fm Fa Fb U g4 vo j g ∨ (fun b => vo'.ownBlock = some b) g := fun j hj => by
    match j, hj with
    | 0, hj => exact .inl (show Sh.fam Fm Fa Fb U g4 vo 0 g from hj)
    | 1, hj => exact .inl (show Sh.fam Fm Fa Fb U g4 vo 1 g from hj)
    | 2, hj => exact .inl (show Sh.fam Fm Fa Fb U g4 vo 2 g from hj)
    | 3, hj => exact .inl (show Sh.fam Fm Fa Fb U g4 vo 3 g from hj)
    | 4, hj => exact .inl (show Sh.fam Fm Fa Fb U g4 vo 4 g from hj)
    | 5, hj => exact .inr hj
    | j + 6, hj => exact hj.elim
  rcases e j hj with q | q
  · exact h.2 j q
  · rcases (k.new _ q).1 with r | r
    · exact h.2 5 r
    · have := h.1.lt; omega
theorem OG.allA (h : OG Fm Fa Fb U g4 vo g TT cs w) (k : Moves (Or2 Fa U) (Or2 Fa' U') w w') : OG Fm Fa' Fb U' g4 vo g TT cs w' := by
  refine ⟨k.lies (fun q => q.elim (h.2 1) (h.2 3)) h.1, fun j hj => ?_⟩
  have e : ∀ j, Sh.fam Fm Fa' Fb U' g4 vo j g → Sh.fam Fm Fa Fb U g4 vo j g ∨ Or2 Fa' U' g := fun j hj => by
    match j, hj with
    | 0, hj => exact .inl (show Sh.fam Fm Fa Fb U g4 vo 0 g from hj)
    | 1, hj => exact .inr (.inl hj)
    | 2, hj => exact .inl (show Sh.fam Fm Fa Fb U g4 vo 2 g from hj)
    | 3, hj => exact .inr (.inr hj)
    | 4, hj => exact .inl (show Sh.fam Fm Fa Fb U g4 vo 4 g from hj)
    | 5, hj => exact .inl (show Sh.fam Fm Fa Fb U g4 vo 5 g from hj)
    | j + 6, hj => exact hj.elim
  rcases e j hj with q | q
  · exact h.2 j q
  · rcases (k.new _ q).1 with r | r
    · exact r.elim (h.2 1) (h.2 3)
    · have := h.1.lt; omega
theorem OG.allB (h : OG Fm Fa Fb U g4 vo g TT cs w) (k : Moves (Or2 Fb U) (Or2 Fb' U') w w') : OG Fm Fa Fb' U' g4 vo g TT cs w' := by
  refine ⟨k.lies (fun q => q.elim (h.2 2) (h.2 3)) h.1, fun j hj => ?_⟩
  have e : ∀ j, Sh.fam Fm Fa Fb' U' g4 vo j g → Sh.fam Fm Fa Fb U g4 vo j g ∨ Or2 Fb' U' g := fun j hj => by
    match j, hj with
    | 0, hj => exact .inl (show Sh.fam Fm Fa Fb U g4 vo 0 g from hj)
    | 1, hj => exact .inl (show Sh.fam Fm Fa Fb U g4 vo 1 g from hj)
    | 2, hj => exact .inr (.inl hj)
    | 3, hj => exact .inr (.inr hj)
    | 4, hj => exact .inl (show Sh.fam Fm Fa Fb U g4 vo 4 g from hj)
    | 5, hj => exact .inl (show Sh.fam Fm Fa Fb U g4 vo 5 g from hj)
    | j + 6, hj => exact hj.elim
  rcases e j hj with q | q
  · exact h.2 j q
  · rcases (k.new _ q).1 with r | r
    · exact r.elim (h.2 2) (h.2 3)
    · have := h.1.lt; omega
end
section
variable {w0 w w' : World} {g4 : Nat} {cf : C8} {mo wa wb : Nat} {pp qa qb : Int → Option Nat} {Fm Fa Fb Fa' Fb' Fg' : Nat → Prop} {FF FF' : Int → Nat → Prop} {SM T S1 : Lists} {S' : Int → Lists} {N n1 c : Nat} {n n' : Int → Nat} {mark : Int} {L : List Pn} {La Lb La' Lb' : List Ms.M} {vo : Value} {out O : List Pn} {ks : List Int} {k : Int} {ad : Nat}
theorem LM.apA (h : LM w0 g4 cf mo wa wb pp qa qb Fm Fa Fb FF SM (Sh.part (gk cf) T) N n mark L La Lb vo out w) : Apart Fa (UF qa FF) := fun i hi ⟨x, hx, r⟩ => h.fam.ap 1 3 (by decide) i hi ⟨x, h.subA x hx ▸ hx, r⟩
theorem LM.markA (h : LM w0 g4 cf mo wa wb pp qa qb Fm Fa Fb FF SM (Sh.part (gk cf) T) N n mark L La Lb vo out w) (inv : Inv (gk cf) cf.z mark T SM out L) (hks : KeysOf qa ks) (hmk : Mk cf.z mark (Sh.part (gk cf) T) ks O S') (hi : Is w' wa Fa' cf qa La') (hp : Pool w' qa FF' cf S' N n') (ha : Apart Fa' (UF qa FF')) (hv : Moves (Or2 Fa (UF qa FF)) (Or2 Fa' (UF qa FF')) w w') :
    ∃ T' FF'' n'', LM w0 g4 cf mo wa wb pp qa qb Fm Fa' Fb FF'' SM (Sh.part (gk cf) T') N n'' mark L La' Lb vo out w' ∧ Inv (gk cf) cf.z mark T' SM (out ++ O) L ∧ (∀ x, qa (gk cf x) ≠ none → T' x = SM x) ∧ (∀ x, qa (gk cf x) = none → T' x = T x) ∧ Moves (Or2 Fa (UF pp FF)) (Or2 Fa' (UF pp FF'')) w w' := by
  obtain ⟨P, V, A⟩ := h.pool.merge h.subA hp hv (fun i hi r => h.fam.ap 1 3 (by decide) i hi r) ha
  obtain ⟨T', t1, t2, t3, t4, t5⟩ := inv.marked (hks.up.imp fun {a b} q e => by omega) hmk fun _ _ => rfl
  have e : (fun y => if qa y = none then Sh.part (gk cf) T y else S' y) = Sh.part (gk cf) T' := funext fun y => by
    by_cases e : qa y = none
    · rw [if_pos e]
      exact (t2 y fun r => (hks.mem y).1 r e).2.symm
    · rw [if_neg e]
      exact t1 y ((hks.mem y).2 e)
  rw [e] at P
  exact ⟨T', _, _, h.allA hi P V A (Nat.le_refl _), t3, fun x hx => t4 x ((hks.mem _).2 hx), fun x hx => t5 x (fun r => (hks.mem _).1 r hx), V⟩
theorem LM.askA (h : LM w0 g4 cf mo wa wb pp qa qb Fm Fa Fb FF SM (Sh.part (gk cf) T) N n mark L La Lb vo out w) (hk : qa k = some ad) (hi : Is w' wa Fa' cf qa La') (G : Gr.Is w' ad Fg' cf S1 (N + c) n1) (ha : Apart Fa' Fg') (hv : Moves (Or2 Fa (FF k)) (Or2 Fa' Fg') w w') :
    LM w0 g4 cf mo wa wb pp qa qb Fm Fa' Fb (fun y => if y = k then Fg' else FF y) SM (fun y => if y = k then S1 else Sh.part (gk cf) T y) (N + c) (fun y => if y = k then n1 else n y) mark L La' Lb vo out w' ∧ Moves (Or2 Fa (UF pp FF)) (Or2 Fa' (UF pp fun y => if y = k then Fg' else FF y)) w w' := by
  have hp : pp k = some ad := by rw [← h.subA k (by rw [hk]; simp)]; exact hk
  obtain ⟨P, V, A⟩ := h.pool.two hp G hv (fun i hi r => h.fam.ap 1 3 (by decide) i hi r) ha (Nat.le_add_right _ _)
  exact ⟨h.allA hi P V A (Nat.le_add_right _ _), V⟩
theorem LM.apB (h : LM w0 g4 cf mo wa wb pp qa qb Fm Fa Fb FF SM (Sh.part (gk cf) T) N n mark L La Lb vo out w) : Apart Fb (UF qb FF) := fun i hi ⟨x, hx, r⟩ => h.fam.ap 2 3 (by decide) i hi ⟨x, h.subB x hx ▸ hx, r⟩
theorem LM.markB (h : LM w0 g4 cf mo wa wb pp qa qb Fm Fa Fb FF SM (Sh.part (gk cf) T) N n mark L La Lb vo out w) (inv : Inv (gk cf) cf.z mark T SM out L) (hks : KeysOf qb ks) (hmk : Mk cf.z mark (Sh.part (gk cf) T) ks O S') (hi : Is w' wb Fb' cf qb Lb') (hp : Pool w' qb FF' cf S' N n') (ha : Apart Fb' (UF qb FF')) (hv : Moves (Or2 Fb (UF qb FF)) (Or2 Fb' (UF qb FF')) w w') :
    ∃ T' FF'' n'', LM w0 g4 cf mo wa wb pp qa qb Fm Fa Fb' FF'' SM (Sh.part (gk cf) T') N n'' mark L La Lb' vo out w' ∧ Inv (gk cf) cf.z mark T' SM (out ++ O) L ∧ (∀ x, qb (gk cf x) ≠ none → T' x = SM x) ∧ (∀ x, qb (gk cf x) = none → T' x = T x) ∧ Moves (Or2 Fb (UF pp FF)) (Or2 Fb' (UF pp FF'')) w w' := by
  obtain ⟨P, V, A⟩ := h.pool.merge h.subB hp hv (fun i hi r => h.fam.ap 2 3 (by decide) i hi r) ha
  obtain ⟨T', t1, t2, t3, t4, t5⟩ := inv.marked (hks.up.imp fun {a b} q e => by omega) hmk fun _ _ => rfl
  have e : (fun y => if qb y = none then Sh.part (gk cf) T y else S' y) = Sh.part (gk cf) T' := funext fun y => by
    by_cases e : qb y = none
    · rw [if_pos e]
      exact (t2 y fun r => (hks.mem y).1 r e).2.symm
    · rw [if_neg e]
      exact t1 y ((hks.mem y).2 e)
  rw [e] at P
  exact ⟨T', _, _, h.allB hi P V A (Nat.le_refl _), t3, fun x hx => t4 x ((hks.mem _).2 hx), fun x hx => t5 x (fun r => (hks.mem _).1 r hx), V⟩
theorem LM.askB (h : LM w0 g4 cf mo wa wb pp qa qb Fm Fa Fb FF SM (Sh.part (gk cf) T) N n mark L La Lb vo out w) (hk : qb k = some ad) (hi : Is w' wb Fb' cf qb Lb') (G : Gr.Is w' ad Fg' cf S1 (N + c) n1) (ha : Apart Fb' Fg') (hv : Moves (Or2 Fb (FF k)) (Or2 Fb' Fg') w w') :
    LM w0 g4 cf mo wa wb pp qa qb Fm Fa Fb' (fun y => if y = k then Fg' else FF y) SM (fun y => if y = k then S1 else Sh.part (gk cf) T y) (N + c) (fun y => if y = k then n1 else n y) mark L La Lb' vo out w' ∧ Moves (Or2 Fb (UF pp FF)) (Or2 Fb' (UF pp fun y => if y = k then Fg' else FF y)) w w' := by
  have hp : pp k = some ad := by rw [← h.subB k (by rw [hk]; simp)]; exact hk
  obtain ⟨P, V, A⟩ := h.pool.two hp G hv (fun i hi r => h.fam.ap 2 3 (by decide) i hi r) ha (Nat.le_add_right _ _)
  exact ⟨h.allB hi P V A (Nat.le_add_right _ _), V⟩
theorem LM.more {N' : Nat} (h : LM w0 g4 cf mo wa wb pp qa qb Fm Fa Fb FF SM S' N n mark L La Lb vo out w) (hN : N ≤ N') : LM w0 g4 cf mo wa wb pp qa qb Fm Fa Fb FF SM S' N' n mark L La Lb vo out w :=
  ⟨h.fam, h.cfg, h.mod.more hN, h.a, h.b, h.pool.more hN, h.out, h.every, h.subA, h.subB⟩
theorem LM.few (h : LM w0 g4 cf mo wa wb pp qa qb Fm Fa Fb FF SM S' N n mark L La Lb vo out w) : L.length ≤ N := by
  obtain ⟨g, Fg, m, G, q⟩ := h.mod.grp
  omega
theorem LM.grp (h : LM w0 g4 cf mo wa wb pp qa qb Fm Fa Fb FF SM (Sh.part (gk cf) T) N n mark L La Lb vo out w) (hk : pp k = some ad) : Gr.Is w ad (FF k) cf (Sh.part (gk cf) T k) N (n k) := h.pool.is k ad hk
end
end Sh
end Go.Proofs.YtdnigpkdnkbfbaaGreat
