/-
  What lies in memory in the midst of HandEnds: workers, one group's state, a table, a config, a list, a handoff; each made of blocks of its own; what each call leaves of it. What the one record comes to.
  The walk of HandEnds.
  HandEnds: done step by step, with two workers, a handoff is over, its group's owner is the one it was to go to, and that one has it, and no other one: for every number of shards, every shard, every value.
-/
import Derived.Test.YtdnigpkdnkbfbaaGreatShLen
import Derived.Test.YtdnigpkdnkbfbaaGreatShLawAll
import Derived.Test.YtdnigpkdnkbfbaaGreatHands
import Derived.Deep.RegionHeld3
import Derived.Test.YtdnigpkdnkbfbaaGreatLaid
namespace Go.Proofs.YtdnigpkdnkbfbaaGreat
open Go.ChangeShapes Go.WideShapes Go.ChangeAt Go.RowKit
set_option maxRecDepth 100000
set_option linter.unusedVariables false
namespace He
open Small Foot Pane Grp Ca Md Sh
/-! ### the config, the record -/
abbrev ka : ByteArray := ⟨#[97]⟩
abbrev cfs (s : Int) : C8 := ⟨0, 10, 0, 0, 0, s, 1, 1⟩
abbrev ya (v : Int) : Cl := ⟨1, ka, 3, v, 0, 0, 0⟩
section
variable {s v : Int}
theorem may_s (h : 1 ≤ s) (h2 : s ≤ 8) : Asg.may (cfs s).k (cfs s).s (cfs s).l (cfs s).g (cfs s).z (cfs s).h (cfs s).r (cfs s).c := by simp [Asg.may, Asg.mayW]; omega
theorem fit_s (h : 1 ≤ s) (h2 : s ≤ 8) : (cfOf (cfs s)).Fit := by
  have hs : (Lit.int .i64 s).wf = true := wf_of (by omega) (by omega)
  have z : (Lit.int .i64 0).wf = true := by decide
  have o : (Lit.int .i64 1).wf = true := by decide
  have t : (Lit.int .i64 10).wf = true := by decide
  exact ⟨z, t, z, z, z, hs, o, o⟩
theorem ya_fit (hv : (Lit.int .i64 v).wf = true) : (ya v).Fit := by
  have z : (Lit.int .i64 0).wf = true := by decide
  have o : (Lit.int .i64 1).wf = true := by decide
  have t : (Lit.int .i64 3).wf = true := by decide
  have k : ka.size ≤ 9223372036854775807 := by decide
  exact ⟨o, k, t, hv, z, z, z⟩
theorem ya_may (h : 1 ≤ s) (h2 : s ≤ 8) : mayC (cfOf (cfs s)) (ya v) := ⟨may_s h h2, by show (1 : Int) ≤ 1 ∧ (1 : Int) ≤ 7; decide, fun _ => by show 1 ≤ ka.size ∧ ka.size ≤ 20; decide, fun h => absurd (show (1 : Int) = 4 from h) (by decide), fun h => absurd (show (1 : Int) = 6 from h) (by decide)⟩
theorem told3 : Asg.Told 0 10 0 0 0 3 (some (1, 0, 10, 10)) := by
  have h := Asg.Told.slidesYes (k := 0) (s := 10) (l := 0) (g := 0) (z := 0) (t := 3) 0 (.inl rfl) (by omega) (by simp [Asg.slideOf]) (by simp [Asg.slideOf]) (by simp [Asg.slideOf]) (by simp [Asg.slideOf])
  simpa [Asg.slideOf] using h
theorem grp0 : grpOf (cfs s).r (ya v) = 0 := by
  unfold grpOf
  rw [if_pos (show kd 1 = true by decide)]
  have := Fnv.grp_in (Fnv.num ka.data.toList) 1
  have h1 := this.2 (by decide)
  have h0 := this.1
  show Fnv.grp (Fnv.num ka.data.toList) 1 = 0
  omega
/-- what the group is, behind the record -/
theorem took {code : Int} {P O : List Pn} {c : Nat} {S' : Lists} (h : MAsked (cfs s) (fun _ => []) 0 (ya v) (some (1, 0, 10, 10)) code P O c S') : c ≤ 1 ∧ ∃ p, S' = fun x => if x = ka then [p] else [] := by
  rcases h with ⟨-, -, S1, o, -, tk⟩ | ⟨hp, -⟩
  · obtain ⟨-, rfl⟩ := Gr.outs_none o (fun x p hp => by cases hp)
    obtain ⟨tk, -⟩ := tk
    cases tk with
    | over h ho => exact absurd (show (0 : Int) + (0 : Nat) * 10 + 10 + 0 ≤ 0 from ho) (by decide)
    | put h ho hp =>
      cases h
      rcases hp with ⟨h2, _⟩ | ⟨-, k, a, hp⟩
      · exact absurd (show (0 : Int) = 2 from h2) (by decide)
      · obtain rfl : k = 0 := by have := a.le; simpa using this
        rcases hp with ⟨p, hp, _⟩ | ⟨-, rfl⟩
        · simp at hp
        · refine ⟨by omega, Pane.one ka (0 + ((0 : Nat) : Int) * 10) (0 + ((0 : Nat) : Int) * 10 + 10) v, funext fun x => ?_⟩
          by_cases e : x = ka
          · subst e; rw [set_same, if_pos rfl]; simp
          · rw [set_other _ _ e, if_neg e]
  · exact absurd (.inl rfl) hp
theorem one_pane {w : World} {a N n : Nat} {F : Nat → Prop} {cf : C8} {p : Pn} (h : Gr.Is w a F cf (fun x => if x = ka then [p] else []) N n) (hN : N ≤ 8880) : n = 1 := by
  obtain ⟨m, tg, cnt, fm, FT, Bk, q, ok, -⟩ := h
  have t := (q.total (ok.fine (by omega)) (ss := [[97]]) (by simp)).2 fun x hx => by
    by_cases e : ab x = ka
    · have : x = [97] := ab_inj (e.trans rfl)
      simp [this]
    · simp [e] at hx
  rw [← t]
  simp [Grp.tot]
end
/-! ### the workers' list -/
abbrev Pk : Kind Nat := ⟨80, 27, 1, 8, .pointer none, fun a => [Sh.gp a]⟩
theorem pok : Pk.Ok where
  under := Tryz.underlying80
  elem := by kernel_rfl
  info := by kernel_rfl
  zs := rfl
  pos := by decide
  len := fun _ => rfl
  one := by
    intro x u hu
    simp at hu
    subst hu
    rfl
  small := by decide
/-! ### all of it -/
abbrev none0 : Nat → Prop := fun _ => False
/-- R: worker i's blocks (i below 16); the group's state's (16); the table's (17); the config's (18); the list's (19); the handoff's (20) -/
structure EM (w0 : World) (s : Int) (b gc ga : Nat) (M : List Ow.O) (S : Lists) (N n : Nat) (sl : Value) (ws : List Nat) (PP : Nat → Int → Option Nat) (LL : Nat → List Ms.M) (R : Nat → Nat → Prop) (w : World) : Prop where
  fam : Fam w0 w R
  work : ∀ i a, ws[i]? = some a → Sh.Is w a (R i) (cfs s) (PP i) (LL i)
  few : ws.length ≤ 8
  table : Ow.Is w b s M
  r17 : R 17 = Ow.Fp b
  cfg : Lies w gc 23 (cfs s).cl
  r18 : R 18 = fun j => j = gc
  list : Sl.Own Pk w0.heap.size w sl ws
  r19 : R 19 = fun j => sl.ownBlock = some j
  grp : 0 < ws.length → Gr.Is w ga (R 16) (cfs s) S N n
section
variable {w0 w w' : World} {s : Int} {b gc ga : Nat} {M M' : List Ow.O} {S S' : Lists} {N N' n n' : Nat} {sl sl' : Value} {ws : List Nat} {PP PP' : Nat → Int → Option Nat} {LL LL' : Nat → List Ms.M} {R : Nat → Nat → Prop} {F' G' : Nat → Prop} {i a : Nat}
theorem rset_same (R : Nat → Nat → Prop) (i : Nat) (F : Nat → Prop) : rset R i F i = F := if_pos rfl
theorem rset_ne (R : Nat → Nat → Prop) {i j : Nat} (F : Nat → Prop) (h : j ≠ i) : rset R i F j = R j := if_neg h
theorem EM.next (h : EM w0 s b gc ga M S N n sl ws PP LL R w) (k : Below w.heap.size w w') : EM w0 s b gc ga M S N n sl ws PP LL R w' :=
  ⟨h.fam.next k, fun i a e => (h.work i a e).next k, h.few, h.table.next k, h.r17, h.cfg.next k, h.r18, h.list.next k, h.r19, fun q => (h.grp q).next k⟩
theorem at_lt (h : EM w0 s b gc ga M S N n sl ws PP LL R w) (e : ws[i]? = some a) : i < 8 := by
  have := (List.getElem?_eq_some_iff.1 e).1
  have := h.few
  omega
/-- whose blocks stay, stays -/
theorem EM.table_keep (h : EM w0 s b gc ga M S N n sl ws PP LL R w) (k : ∀ j, R 17 j → w'.heap[j]? = w.heap[j]?) : Ow.Is w' b s M :=
  ⟨(k _ (by rw [h.r17]; exact .inr rfl)).trans h.table.lies, (k _ (by rw [h.r17]; exact .inl rfl)).trans h.table.rows⟩
/-- a worker went on, its groups aside -/
theorem EM.one (h : EM w0 s b gc ga M S N n sl ws PP LL R w) (e : ws[i]? = some a) (m : Sh.Is w' a F' (cfs s) (PP' i) (LL' i)) (k : Moves (R i) F' w w') (hP : ∀ j, j ≠ i → PP' j = PP j) (hL : ∀ j, j ≠ i → LL' j = LL j) : EM w0 s b gc ga M S N n sl ws PP' LL' (rset R i F') w' := by
  have hi := at_lt h e
  have kp : ∀ j, j ≠ i → ∀ q, R j q → w'.heap[q]? = w.heap[q]? := fun j hj => h.fam.kept k hj
  refine ⟨h.fam.one k, fun j a' e' => ?_, h.few, h.table_keep (kp 17 (by omega)), by rw [rset_ne _ _ (by omega)]; exact h.r17, (kp 18 (by omega) gc (by rw [h.r18])).trans h.cfg, by rw [rset_ne _ _ (by omega)]; exact h.r18, h.list.move fun g hg => kp 19 (by omega) g (by rw [h.r19]; exact hg), by rw [rset_ne _ _ (by omega)]; exact h.r19, fun q => ?_⟩
  · by_cases ej : j = i
    · subst ej
      rw [rset_same]
      rw [e] at e'
      cases e'
      exact m
    · rw [rset_ne _ _ ej, hP j ej, hL j ej]
      exact (h.work j a' e').keep (kp j ej)
  · rw [rset_ne _ _ (by omega)]
    exact (h.grp q).keep (kp 16 (by omega)) k.size
/-- a worker, and the group's state, went on -/
theorem EM.both (h : EM w0 s b gc ga M S N n sl ws PP LL R w) (e : ws[i]? = some a) (m : Sh.Is w' a F' (cfs s) (PP' i) (LL' i)) (g : Gr.Is w' ga G' (cfs s) S' N' n') (k : Moves (Or2 (R i) (R 16)) (Or2 F' G') w w') (A : Apart F' G') (hP : ∀ j, j ≠ i → PP' j = PP j) (hL : ∀ j, j ≠ i → LL' j = LL j) : EM w0 s b gc ga M S' N' n' sl ws PP' LL' (rset (rset R i F') 16 G') w' := by
  have hi := at_lt h e
  have kp : ∀ j, j ≠ i → j ≠ 16 → ∀ q, R j q → w'.heap[q]? = w.heap[q]? := fun j hj hj2 => h.fam.kept2 k hj hj2
  have rs : ∀ j, j ≠ i → j ≠ 16 → rset (rset R i F') 16 G' j = R j := fun j h1 h2 => by rw [rset_ne _ _ h2, rset_ne _ _ h1]
  refine ⟨h.fam.two (by omega) k A, fun j a' e' => ?_, h.few, h.table_keep (kp 17 (by omega) (by omega)), by rw [rs _ (by omega) (by omega)]; exact h.r17, (kp 18 (by omega) (by omega) gc (by rw [h.r18])).trans h.cfg, by rw [rs _ (by omega) (by omega)]; exact h.r18, h.list.move fun g hg => kp 19 (by omega) (by omega) g (by rw [h.r19]; exact hg), by rw [rs _ (by omega) (by omega)]; exact h.r19, fun q => by rw [rset_same]; exact g⟩
  have hj := at_lt h e'
  by_cases ej : j = i
  · subst ej
    rw [rset_ne _ _ (by omega), rset_same]
    rw [e] at e'
    cases e'
    exact m
  · rw [rs _ ej (by omega), hP j ej, hL j ej]
    exact (h.work j a' e').keep (kp j ej (by omega))
/-- the table alone, or the table and the handoff -/
theorem EM.tabled (h : EM w0 s b gc ga M S N n sl ws PP LL R w) (m : Ow.Is w' b s M') (k : Moves (Or2 (R 20) (R 17)) (Or2 F' (Ow.Fp b)) w w') (A : Apart F' (Ow.Fp b)) : EM w0 s b gc ga M' S N n sl ws PP LL (rset R 20 F') w' := by
  have kp : ∀ j, j ≠ 20 → j ≠ 17 → ∀ q, R j q → w'.heap[q]? = w.heap[q]? := fun j hj hj2 => h.fam.kept2 k hj hj2
  have rs : ∀ j, j ≠ 20 → rset R 20 F' j = R j := fun j h1 => rset_ne _ _ h1
  have f := h.fam.two (by decide) k A
  have e : rset (rset R 20 F') 17 (Ow.Fp b) = rset R 20 F' := by
    funext j
    by_cases ej : j = 17
    · subst ej; rw [rset_same, rs _ (by decide)]; exact h.r17.symm
    · rw [rset_ne _ _ ej]
  rw [e] at f
  refine ⟨f, fun j a' e' => ?_, h.few, m, by rw [rs _ (by decide)]; exact h.r17, (kp 18 (by decide) (by decide) gc (by rw [h.r18])).trans h.cfg, by rw [rs _ (by decide)]; exact h.r18, h.list.move fun g hg => kp 19 (by decide) (by decide) g (by rw [h.r19]; exact hg), by rw [rs _ (by decide)]; exact h.r19, fun q => ?_⟩
  · have hj := at_lt h e'
    rw [rs _ (by omega)]
    exact (h.work j a' e').keep (kp j (by omega) (by omega))
  · rw [rs _ (by decide)]
    exact (h.grp q).keep (kp 16 (by decide) (by decide)) k.size
/-- the handoff alone -/
theorem EM.handed (h : EM w0 s b gc ga M S N n sl ws PP LL R w) (k : Moves (R 20) F' w w') : EM w0 s b gc ga M S N n sl ws PP LL (rset R 20 F') w' := by
  have kp : ∀ j, j ≠ 20 → ∀ q, R j q → w'.heap[q]? = w.heap[q]? := fun j hj => h.fam.kept k hj
  have rs : ∀ j, j ≠ 20 → rset R 20 F' j = R j := fun j h1 => rset_ne _ _ h1
  refine ⟨h.fam.one k, fun j a' e' => ?_, h.few, h.table_keep (kp 17 (by decide)), by rw [rs _ (by decide)]; exact h.r17, (kp 18 (by decide) gc (by rw [h.r18])).trans h.cfg, by rw [rs _ (by decide)]; exact h.r18, h.list.move fun g hg => kp 19 (by decide) g (by rw [h.r19]; exact hg), by rw [rs _ (by decide)]; exact h.r19, fun q => ?_⟩
  · have hj := at_lt h e'
    rw [rs _ (by omega)]
    exact (h.work j a' e').keep (kp j (by omega))
  · rw [rs _ (by decide)]
    exact (h.grp q).keep (kp 16 (by decide)) k.size
/-- of no worker: whatever group and messages -/
theorem EM.anew (h : EM w0 s b gc ga M S N n sl [] PP LL R w) (ga' : Nat) (S' : Lists) (N' n' : Nat) (PP' : Nat → Int → Option Nat) (LL' : Nat → List Ms.M) : EM w0 s b gc ga' M S' N' n' sl [] PP' LL' R w :=
  ⟨h.fam, fun i a e => (by simp at e), h.few, h.table, h.r17, h.cfg, h.r18, h.list, h.r19, fun q => absurd q (by simp)⟩
theorem made_moves {F : Nat → Prop} (e : R i = none0) (k : Below w.heap.size w w') (hF : From w.heap.size F) (hin : In w' F) : Moves (R i) F w w' := by
  rw [e]
  exact ⟨k.os, k.tape, k.output, k.size, fun j hj _ => k.block j hj, fun j hj => ⟨.inr (hF j hj), hin j hj⟩⟩
/-- one more worker is made -/
theorem EM.made (h : EM w0 s b gc ga M S N n sl ws PP LL R w) (hi : ws.length ≤ i) (h16 : i < 16) (e : R i = none0) (k : Below w.heap.size w w') (hF : From w.heap.size F') (hin : In w' F') : EM w0 s b gc ga M S N n sl ws PP LL (rset R i F') w' := by
  have q := h.next k
  refine ⟨h.fam.one (made_moves e k hF hin), fun j a' e' => ?_, h.few, q.table, by rw [rset_ne _ _ (by omega)]; exact h.r17, q.cfg, by rw [rset_ne _ _ (by omega)]; exact h.r18, q.list, by rw [rset_ne _ _ (by omega)]; exact h.r19, fun hp => by rw [rset_ne _ _ (by omega)]; exact q.grp hp⟩
  have := (List.getElem?_eq_some_iff.1 e').1
  rw [rset_ne _ _ (by omega)]
  exact q.work j a' e'
/-- the first worker is made, and its group -/
theorem EM.made2 (h : EM w0 s b gc ga M S N n sl [] PP LL R w) (e0 : R 0 = none0) (e16 : R 16 = none0) (k : Below w.heap.size w w') (hF : From w.heap.size F') (hG : From w.heap.size G') (inF : In w' F') (inG : In w' G') (A : Apart F' G') : EM w0 s b gc ga M S N n sl [] PP LL (rset (rset R 0 F') 16 G') w' := by
  have q := h.next k
  have rs : ∀ j, j ≠ 0 → j ≠ 16 → rset (rset R 0 F') 16 G' j = R j := fun j h1 h2 => by rw [rset_ne _ _ h2, rset_ne _ _ h1]
  refine ⟨h.fam.two (i := 0) (j := 16) (by decide) ?_ A, fun j a' e' => (by simp at e'), h.few, q.table, by rw [rs _ (by decide) (by decide)]; exact h.r17, q.cfg, by rw [rs _ (by decide) (by decide)]; exact h.r18, q.list, by rw [rs _ (by decide) (by decide)]; exact h.r19, fun hp => absurd hp (by simp)⟩
  rw [e0, e16]
  exact ⟨k.os, k.tape, k.output, k.size, fun j hj _ => k.block j hj, fun j hj => hj.elim (fun q => ⟨.inr (hF j q), inF j q⟩) fun q => ⟨.inr (hG j q), inG j q⟩⟩
/-- it is put into the list -/
theorem EM.push (h : EM w0 s b gc ga M S N n sl ws PP LL R w) (hw : ws.length < 8) (m : Sh.Is w a (R ws.length) (cfs s) (PP ws.length) (LL ws.length)) (g : Gr.Is w ga (R 16) (cfs s) S N n) (z1 : Sl.Own Pk w0.heap.size w' sl' (ws ++ [a])) (z2 : w.grownBy w' sl.ownBlock) (z3 : sl'.ownBlock = sl.ownBlock ∨ sl'.ownBlock = some w.heap.size) :
    EM w0 s b gc ga M S N n sl' (ws ++ [a]) PP LL (rset R 19 fun j => sl'.ownBlock = some j) w' := by
  have mv : Moves (R 19) (fun j => sl'.ownBlock = some j) w w' := by
    rw [h.r19]
    exact ⟨z2.os, z2.tape, z2.output, z2.size, fun i hi hn => z2.block i hi fun q => hn q.symm, fun i hi => ⟨by
      rcases z3 with e | e
      · exact .inl (e ▸ hi)
      · rw [e] at hi; exact .inr (Nat.le_of_eq (Option.some.inj hi)), (z1.lt i hi).2⟩⟩
  have kp : ∀ j, j ≠ 19 → ∀ q, R j q → w'.heap[q]? = w.heap[q]? := fun j hj => h.fam.kept mv hj
  have rs : ∀ j, j ≠ 19 → rset R 19 (fun j => sl'.ownBlock = some j) j = R j := fun j h1 => rset_ne _ _ h1
  refine ⟨h.fam.one mv, fun j a' e' => ?_, by simp; omega, h.table_keep (kp 17 (by decide)), by rw [rs _ (by decide)]; exact h.r17, (kp 18 (by decide) gc (by rw [h.r18])).trans h.cfg, by rw [rs _ (by decide)]; exact h.r18, z1, rset_same _ _ _, fun q => by rw [rs _ (by decide)]; exact g.keep (kp 16 (by decide)) z2.size⟩
  have hj := (List.getElem?_eq_some_iff.1 e').1
  simp only [List.length_append, List.length_singleton] at hj
  rw [rs _ (by omega)]
  by_cases ej : j < ws.length
  · rw [List.getElem?_append_left ej] at e'
    exact (h.work j a' e').keep (kp j (by omega))
  · obtain rfl : j = ws.length := by omega
    rw [List.getElem?_append_right (by omega)] at e'
    simp at e'
    subst e'
    exact m.keep (kp _ (by omega))
end
end He
end Go.Proofs.YtdnigpkdnkbfbaaGreat

namespace Go.Proofs.YtdnigpkdnkbfbaaGreat
open Go.ChangeShapes Go.WideShapes Go.ChangeAt Go.RowKit
set_option maxRecDepth 100000
set_option linter.unusedVariables false
namespace He
open Small Foot Pane Grp Ca Md Sh
/-- whose groups are whose, at first -/
def pp (ga : Nat) (i : Nat) : Int → Option Nat := if i = 0 then (fun x => if x = 0 then some ga else none) else fun _ => none
theorem pp_zero {ga : Nat} : pp ga 0 = fun x => if x = 0 then some ga else none := rfl
theorem pp_succ {ga i : Nat} (h : i ≠ 0) : pp ga i = fun _ => none := if_neg h
theorem no_groups {p : Int → Option Nat} {r : Int} (h : ∀ x, p x ≠ none ↔ (0 ≤ x ∧ x < r ∧ x ∈ ([] : List Int))) : p = fun _ => none := funext fun x => Classical.byContradiction fun q => by have := ((h x).1 q).2.2; cases this
theorem one_group {p : Int → Option Nat} (h : ∀ x, p x ≠ none ↔ (0 ≤ x ∧ x < 1 ∧ x ∈ [(0 : Int)])) : ∃ a, p 0 = some a ∧ p = fun x => if x = 0 then some a else none := by
  obtain ⟨a, ha⟩ := Option.ne_none_iff_exists'.1 ((h 0).2 ⟨by omega, by omega, by simp⟩)
  refine ⟨a, ha, funext fun x => ?_⟩
  by_cases e : x = 0
  · rw [e, if_pos rfl]; exact ha
  · rw [if_neg e]
    exact Classical.byContradiction fun q => e (by have := (h x).1 q; omega)
/-- the table, at first -/
abbrev M0 (s : Int) : List Ow.O := Ow.ini s 1 1
theorem m0_at {s : Int} : (M0 s)[0]? = some ⟨0, 0, false⟩ := by
  rw [Ow.ini_at s 1 (by omega)]
  simp
theorem own_0 {s : Int} : Ow.own (M0 s) 0 1 = [0] := by simp [Ow.own, m0_at]
theorem own_k {s : Int} {k : Int} (h : k ≠ 0) : Ow.own (M0 s) k 1 = [] := by
  have : ¬ (0 : Int) = k := fun e => h e.symm
  simp [Ow.own, m0_at, this]
theorem is_nums0 {w : World} {v : Value} {b : Nat} (h : Sl.Is Ow.Gk w v [0] b) : Sl.Is Ik.k w v [(0 : Int)] b := h.elim (fun q => by cases q.2) fun ⟨off, cap, q⟩ => .inr ⟨off, cap, q⟩
theorem is_nums1 {w : World} {v : Value} {b : Nat} (h : Sl.Is Ow.Gk w v [] b) : Sl.Is Ik.k w v [] b := h.elim (fun q => .inl ⟨q.1, rfl⟩) fun ⟨off, cap, q⟩ => .inr ⟨off, cap, q⟩
theorem list_cell {base : Nat} {w : World} {bl off k c : Nat} {ws : List Nat} {i a : Nat} (h : Sl.Own Pk base w (.slice (some ⟨bl, off, none⟩) k c) ws) (e : ws[i]? = some a) : w.cell? ⟨bl, off + i, none⟩ = some (Sh.gp a) := by
  obtain ⟨b, -, q⟩ := h.is
  obtain ⟨off', cap', he, -, -, -, hc⟩ := q.some_ pok (by have := (List.getElem?_eq_some_iff.1 e).1; omega)
  simp only [Value.slice.injEq, Option.some.injEq, Addr.mk.injEq, and_true] at he
  obtain ⟨⟨rfl, rfl⟩, -, -⟩ := he
  have := hc i a e 0 _ rfl
  simpa using this
theorem list_some {base : Nat} {w : World} {A : Option Addr} {k c : Nat} {ws : List Nat} (h : Sl.Own Pk base w (.slice A k c) ws) (h0 : 0 < ws.length) : ∃ bl off, A = some ⟨bl, off, none⟩ := by
  obtain ⟨b, -, q⟩ := h.is
  obtain ⟨off', cap', he, -⟩ := q.some_ pok h0
  simp only [Value.slice.injEq] at he
  exact ⟨_, _, he.1⟩
theorem box_later {w0 : World} {wk m bx : Nat} {bv : Value} {cf : C8} {p : Int → Option Nat} {L : List Ms.M} (H : Hid (Q w0 wk m bx bv cf p L)) : Hid (∀ u : Later w0, Calls Tryz.prog 9 #[Sh.gp wk] u.w fun e w' => e = .returned (Sh.gp bx) ∧ u.w = w') := Lib.hid fun u => box_at u.w (Lib.hid (H.out.next u.below))
theorem mv_new {w w' : World} {b h : Nat} {R : Nat → Nat → Prop} (k : Moves (Ow.Fp b) (Hd.Or2 (Ow.Fp b) (Hd.At h)) w w') (e20 : R 20 = none0) (e17 : R 17 = Ow.Fp b) : Moves (Sh.Or2 (R 20) (R 17)) (Sh.Or2 (Hd.At h) (Ow.Fp b)) w w' := by
  rw [e20, e17]
  refine ⟨k.os, k.tape, k.output, k.size, fun i hi hn => k.block i hi fun q => hn (.inr q), fun i hi => ?_⟩
  have q := k.new i hi.symm
  exact ⟨q.1.imp .inr id, q.2⟩
/-- whose groups are whose: ahead of it, in its midst, behind it -/
def pq (t ga : Nat) : Nat → Nat → Int → Option Nat
  | 0 => pp ga
  | 1 => fun _ _ => none
  | _ => fun i => if i = t then (fun x => if x = 0 then some ga else none) else fun _ => none
def mm (s tt : Int) : Nat → List Ow.O
  | 2 => (M0 s).set 0 ⟨tt, 1, false⟩
  | _ => (M0 s).set 0 ⟨0, 0, true⟩
def hkd : Nat → Int
  | 0 => 3
  | 1 => 4
  | _ => 0
def hst (ga : Nat) : Nat → Option Nat
  | 1 => some ga
  | _ => none
theorem keys_one {ga : Nat} {ks : List Int} (h : KeysOf (fun x : Int => if x = 0 then some ga else none) ks) : ks = [0] := by
  have m : ∀ x, x ∈ ks → x = 0 := fun x hx => Classical.byContradiction fun q => (h.mem x).1 hx (if_neg q)
  have z : (0 : Int) ∈ ks := (h.mem 0).2 (by simp)
  match ks, h.up, m, z with
  | [], _, _, z => cases z
  | [a], _, m, _ => rw [m a (by simp)]
  | a :: b :: l, up, m, _ =>
    have h1 := m a (by simp)
    have h2 := m b (by simp)
    have h3 := (List.pairwise_cons.1 up).1 b (by simp)
    omega
theorem keys_no {ks : List Int} (h : KeysOf (fun _ : Int => none) ks) : ks = [] := List.eq_nil_iff_forall_not_mem.2 fun x hx => (h.mem x).1 hx rfl
theorem pool_one {w : World} {ga N n : Nat} {G : Nat → Prop} {cf : C8} {S : Lists} (h : Gr.Is w ga G cf S N n) : Pool w (fun x : Int => if x = 0 then some ga else none) (fun _ => G) cf (fun _ => S) N (fun _ => n) := by
  refine ⟨fun x a hx => ?_, fun x y hne hx hy => ?_⟩
  · by_cases e : x = 0
    · simp only [e, if_true] at hx
      cases hx
      exact h
    · simp [e] at hx
  · by_cases e : x = 0
    · by_cases e' : y = 0
      · exact absurd (e.trans e'.symm) hne
      · exact absurd (if_neg e') hy
    · exact absurd (if_neg e) hx
theorem pool_no {w : World} {cf : C8} {N : Nat} : Pool w (fun _ : Int => none) (fun _ => none0) cf (fun _ _ => []) N (fun _ => 0) := ⟨fun x a hx => (by cases hx), fun x y _ hx => absurd rfl hx⟩
theorem own_eq {w : World} (a b : Int) (m : Bool) : (binOp .eql 89 (Ow.av ⟨a, b, m⟩) (Ow.av ⟨a, b, m⟩)).run Tryz.prog w = .ok (.bool true) w := by
  simp [go_sem]
/-- the messages: of worker i alone -/
def LL1 (i : Nat) (L : List Ms.M) : Nat → List Ms.M := fun j => if j = i then L else []
theorem LL1_self {i : Nat} {L : List Ms.M} : LL1 i L i = L := if_pos rfl
theorem LL1_ne {i j : Nat} {L : List Ms.M} (h : j ≠ i) : LL1 i L j = [] := if_neg h
theorem LL1_nil {i : Nat} : LL1 i [] = fun _ => [] := funext fun j => by unfold LL1; split <;> rfl
end He
namespace handEnds
open Small Foot Pane Grp Ca Md Sh He
set_option maxHeartbeats 32000000 in
theorem walk_on (s : Int) (tt : Int) (v : Int) (w : World) (s1 : 1 ≤ s) (s2 : s ≤ 8) (t1 : 0 ≤ tt) (t2 : tt < s) (hv : (Lit.int .i64 v).wf = true) :
    Calls Tryz.prog 5 #[.int .i64 s, .int .i64 tt, .int .i64 v] w fun r w' => r = .returned (.bool true) ∧ Below w.heap.size w w' := by
  have q1 : ¬ tt < 0 := by omega
  have q2 : ¬ s ≤ tt := by omega
  go_enter Tryz.func5, Tryz.ntmps5
  go_wp2_with fail
  refine (Hd.up_ok w).mono ?_
  rintro r w1 ⟨rfl, k1⟩
  go_upto_region 3 with fail
  have k2 := k1.alloc k1.size (Obj.cells #[.int .i64 0, .int .i64 10, .int .i64 0, .int .i64 0, .int .i64 0, .int .i64 s, .int .i64 1, .int .i64 1] 23)
  have C2 : Hid (Lies (w1.alloc (Obj.cells #[.int .i64 0, .int .i64 10, .int .i64 0, .int .i64 0, .int .i64 0, .int .i64 s, .int .i64 1, .int .i64 1] 23)) w1.heap.size 23 (cfs s).cl) := Lib.hid (Lies.new _ _ (cfs s).cl)
  have K2 := Lib.hid k2
  have B1 := Lib.hid k1.size
  clear k1 k2
  generalize w1.heap.size = gc at C2 B1 ⊢
  generalize w1.alloc (Obj.cells #[.int .i64 0, .int .i64 10, .int .i64 0, .int .i64 0, .int .i64 0, .int .i64 s, .int .i64 1, .int .i64 1] 23) = w2 at C2 K2 ⊢
  go_wp2_with fail
  refine (Ow.new_ok 1 s w2 (by omega) (by omega) s1 s2).mono ?_
  rintro r w3 ⟨rfl, b3, k3⟩
  obtain ⟨b, hb⟩ : ∃ b, b = w2.heap.size := ⟨_, rfl⟩
  rw [← hb] at b3 ⊢
  have E3 : Hid (EM w s b gc 0 (M0 s) (fun _ => []) 0 0 (.slice none 0 0) [] (pp 0) (fun _ => []) (fun j => if j = 17 then Ow.Fp b else if j = 18 then (fun q => q = gc) else if j = 19 then (fun q => (Value.slice none 0 0).ownBlock = some q) else none0) w3) := Lib.hid (by
    have hsz := b3.in b (.inl rfl)
    have hgc := C2.out.lt
    have k := after K2.out k3
    refine ⟨⟨fun i q hq => ?_, fun i q hq => ?_, fun i j hij q h1 h2 => ?_, k⟩, fun i a e => (by simp at e), by simp, b3, rfl, C2.out.next k3, rfl, Sl.Own.nil _ _ _, rfl, fun q => absurd q (by simp)⟩
    · split at hq
      · exact b3.in q hq
      · split at hq
        · subst hq; exact Nat.lt_of_lt_of_le hgc k3.size
        · split at hq
          · cases hq
          · cases hq
    · split at hq
      · have := K2.out.size; rcases hq with rfl | rfl <;> omega
      · split at hq
        · subst hq; exact B1.out
        · split at hq
          · cases hq
          · cases hq
    · split at h1
      · split at h2
        · omega
        · split at h2
          · subst h2; rcases h1 with h1 | h1 <;> omega
          · split at h2
            · cases h2
            · cases h2
      · split at h1
        · subst h1
          split at h2
          · rcases h2 with h2 | h2 <;> omega
          · split at h2
            · omega
            · split at h2
              · cases h2
              · cases h2
        · split at h1
          · cases h1
          · cases h1)
  clear b3 k3 C2 K2 B1 hb
  go_wp2_with fail
  go_loopw [11, 12] (fun sv si wr => ∃ (k : Nat) (ws : List Nat) (ga : Nat) (R : Nat → Nat → Prop) (A1 : Option Addr) (c1 : Nat), (k : Int) ≤ s ∧ si = .int .i64 k ∧ sv = .slice A1 k c1 ∧ ws.length = k ∧ Hid (EM w s b gc ga (M0 s) (fun _ => []) 0 0 sv ws (pp ga) (fun _ => []) R wr) ∧ Hid (R 20 = none0 ∧ (∀ i, k ≤ i → i < 16 → R i = none0) ∧ (k = 0 → R 16 = none0))) (fun _ si _ => s.toNat - (intOf si).toNat)
  case atStart => exact ⟨0, [], 0, _, none, 0, by omega, rfl, rfl, rfl, E3, Lib.hid ⟨rfl, fun i _ h => by
    have h1 : i ≠ 17 := by omega
    have h2 : i ≠ 18 := by omega
    have h3 : i ≠ 19 := by omega
    simp [h1, h2, h3], fun _ => rfl⟩⟩
  case round =>
    obtain ⟨k, ws, ga, R, A1, c1, hk, rfl, rfl, hwk, E, RN⟩ := hrel
    by_cases hlt : (k : Int) < s
    · have hks : k < 16 := by omega
      have CS : Hid (∀ w', Below wr.heap.size wr w' → w'.cell? ⟨gc, 0, none⟩ = some (.int .i64 0) ∧ w'.cell? ⟨gc, 1, none⟩ = some (.int .i64 10) ∧ w'.cell? ⟨gc, 2, none⟩ = some (.int .i64 0) ∧ w'.cell? ⟨gc, 3, none⟩ = some (.int .i64 0) ∧ w'.cell? ⟨gc, 4, none⟩ = some (.int .i64 0) ∧ w'.cell? ⟨gc, 5, none⟩ = some (.int .i64 s) ∧ w'.cell? ⟨gc, 6, none⟩ = some (.int .i64 1) ∧ w'.cell? ⟨gc, 7, none⟩ = some (.int .i64 1) ∧ Below wr.heap.size wr w') := Lib.hid fun w' hB => ⟨(E.out.cfg.next hB).cell (i := 0) rfl, (E.out.cfg.next hB).cell (i := 1) rfl, (E.out.cfg.next hB).cell (i := 2) rfl, (E.out.cfg.next hB).cell (i := 3) rfl, (E.out.cfg.next hB).cell (i := 4) rfl, (E.out.cfg.next hB).cell (i := 5) rfl, (E.out.cfg.next hB).cell (i := 6) rfl, (E.out.cfg.next hB).cell (i := 7) rfl, hB⟩
      have CB : Hid (∀ w', w'.cell? ⟨gc, 0, none⟩ = some (.int .i64 0) ∧ w'.cell? ⟨gc, 1, none⟩ = some (.int .i64 10) ∧ w'.cell? ⟨gc, 2, none⟩ = some (.int .i64 0) ∧ w'.cell? ⟨gc, 3, none⟩ = some (.int .i64 0) ∧ w'.cell? ⟨gc, 4, none⟩ = some (.int .i64 0) ∧ w'.cell? ⟨gc, 5, none⟩ = some (.int .i64 s) ∧ w'.cell? ⟨gc, 6, none⟩ = some (.int .i64 1) ∧ w'.cell? ⟨gc, 7, none⟩ = some (.int .i64 1) ∧ Below wr.heap.size wr w' → Below wr.heap.size wr w') := Lib.hid fun w' h => h.2.2.2.2.2.2.2.2
      have MS : Hid (Asg.may (cfs s).k (cfs s).s (cfs s).l (cfs s).g (cfs s).z (cfs s).h (cfs s).r (cfs s).c) := Lib.hid (may_s s1 s2)
      by_cases hk0 : k = 0
      · subst hk0
        obtain rfl : ws = [] := List.eq_nil_of_length_eq_zero hwk
        go_upto_region 10 with fail
        go_region_held3 (fun w' => w'.cell? ⟨gc, 0, none⟩ = some (.int .i64 0) ∧ w'.cell? ⟨gc, 1, none⟩ = some (.int .i64 10) ∧ w'.cell? ⟨gc, 2, none⟩ = some (.int .i64 0) ∧ w'.cell? ⟨gc, 3, none⟩ = some (.int .i64 0) ∧ w'.cell? ⟨gc, 4, none⟩ = some (.int .i64 0) ∧ w'.cell? ⟨gc, 5, none⟩ = some (.int .i64 s) ∧ w'.cell? ⟨gc, 6, none⟩ = some (.int .i64 1) ∧ w'.cell? ⟨gc, 7, none⟩ = some (.int .i64 1) ∧ Below wr.heap.size wr w')
          (first | exact CS.out _ (Below.refl _ _).drew | exact CS.out _ (after (CB.out _ (by assumption)) k4) | exact CS.out _ (after (after (Below.refl _ _).drew k4) k5))
          (first
            | (go_at_call 32; refine (Ow.groups_ok (t := 0) (Lib.hid (E.out.table.next (CB.out _ (by assumption)))) (by rw [Ow.ini_len]; omega)).mono ?_; rw [Ow.ini_len, own_0]; rintro r w4 ⟨Ag, cg, rfl, g4, k4⟩; obtain ⟨bg, -, ig⟩ := g4.is; have IG := Lib.hid (is_nums0 ig))
            | (go_at_call 7; refine (Sh.new_ok (cfs s) [(0 : Int)] _ bg w4 IG (by decide) MS (by show (10 : Int) ≤ 9223372036854775807; decide)).mono ?_; rintro r w5 ⟨wk, Fk, p5, FF5, rfl, h5, P5, A5, f5, u5, k5, hp5⟩))
        rename_i hh
        have kb := CB.out _ hh
        clear hh CS CB IG
        obtain ⟨ga0, hga, rfl⟩ := one_group hp5
        have g5 := P5.is 0 ga0 hga
        have E5 := Lib.hid ((E.out.anew ga0 (fun _ => []) 0 0 (pp ga0) (fun _ => [])).made2 (RN.out.2.1 0 (Nat.le_refl _) (by decide)) (by first | exact RN.out.2.2 rfl | exact RN.out.2.2 trivial) kb (F' := Fk) (G' := FF5 0) (fun i hi => Nat.le_trans k4.size (f5 i hi)) (fun i hi => Nat.le_trans k4.size (u5 i ⟨0, by rw [hga]; simp, hi⟩)) h5.in g5.in (fun i hi q => A5 i hi ⟨0, by rw [hga]; simp, q⟩))
        have G5 := Lib.hid g5
        clear g5 hga
        have H5 := Lib.hid h5
        clear h5 P5 A5 f5 u5 k5 hp5 k4 g4 ig kb E
        go_wp2_with fail
        refine (Sh.box_ok w5 H5).mono ?_
        rintro r _ ⟨rfl, _, bx, _, rfl, -, -⟩
        have k6 := below1 w5 (Obj.cells #[Sh.gp wk] 27)
        have E6 := Lib.hid (E5.out.next k6)
        have L6 : Hid (Lies (w5.alloc (Obj.cells #[Sh.gp wk] 27)) w5.heap.size 27 [Sh.gp wk]) := Lib.hid (Lies.new _ _ _)
        have H6 := Lib.hid (H5.out.next k6)
        have e1 : Hid (([] : List Nat).length + [wk].length ≤ 1048576) := Lib.hid (by simp <;> omega)
        have e2 : Hid (w.heap.size ≤ (w5.alloc (Obj.cells #[Sh.gp wk] 27)).heap.size) := Lib.hid E6.out.fam.below.size
        have e4 : Hid (Sl.Is Pk (w5.alloc (Obj.cells #[Sh.gp wk] 27)) (.slice (some ⟨w5.heap.size, 0, none⟩) 1 1) [wk] w5.heap.size) := Lib.hid (Sl.Is.one pok (x := wk) L6.out)
        clear k6 E5 H5 L6
        go_wp2_with (at_builtin; refine wpList_plain rfl fun K' hK' => Sl.wp_append pok (.tmp 83) (.tmp 85) rfl (base := w.heap.size) (l := []) (l2 := [wk]) (b2 := w5.heap.size) E6.out.list e4.out e1.out e2.out (fun u w7 z1 z2 z3 => hK' _ _ ?_))
        obtain ⟨b7, -, i7⟩ := z1.is
        obtain ⟨A7, c7, rfl⟩ := i7.len
        have E7 := Lib.hid (E6.out.push (a := wk) (by first | omega | simp) (by rw [show (([] : List Nat).length) = 0 from rfl, rset_ne _ _ (by decide), rset_same]; exact H6.out) (by rw [rset_same]; exact G5.out.next (below1 w5 (Obj.cells #[Sh.gp wk] 27))) z1 z2 z3)
        clear z1 z2 z3 i7 E6 e1 e2 e4 H6
        exact ⟨⟨1, [wk], ga0, _, A7, c7, by omega, rfl, rfl, rfl, E7, Lib.hid ⟨by rw [rset_ne _ _ (by decide), rset_ne _ _ (by decide), rset_ne _ _ (by decide)]; exact RN.out.1, fun i h1 h2 => by rw [rset_ne _ _ (by omega), rset_ne _ _ (by omega), rset_ne _ _ (by omega)]; exact RN.out.2.1 i (by omega) h2, fun q => by omega⟩⟩, by simp [intOf]; omega⟩
      · go_upto_region 10 with fail
        go_region_held3 (fun w' => w'.cell? ⟨gc, 0, none⟩ = some (.int .i64 0) ∧ w'.cell? ⟨gc, 1, none⟩ = some (.int .i64 10) ∧ w'.cell? ⟨gc, 2, none⟩ = some (.int .i64 0) ∧ w'.cell? ⟨gc, 3, none⟩ = some (.int .i64 0) ∧ w'.cell? ⟨gc, 4, none⟩ = some (.int .i64 0) ∧ w'.cell? ⟨gc, 5, none⟩ = some (.int .i64 s) ∧ w'.cell? ⟨gc, 6, none⟩ = some (.int .i64 1) ∧ w'.cell? ⟨gc, 7, none⟩ = some (.int .i64 1) ∧ Below wr.heap.size wr w')
          (first | exact CS.out _ (Below.refl _ _).drew | exact CS.out _ (after (CB.out _ (by assumption)) k4) | exact CS.out _ (after (after (Below.refl _ _).drew k4) k5))
          (first
            | (go_at_call 32; refine (Ow.groups_ok (t := (k : Int)) (Lib.hid (E.out.table.next (CB.out _ (by assumption)))) (by rw [Ow.ini_len]; omega)).mono ?_; rw [Ow.ini_len, own_k (by omega)]; rintro r w4 ⟨Ag, cg, rfl, g4, k4⟩; obtain ⟨bg, -, ig⟩ := g4.is; have IG := Lib.hid (is_nums1 ig))
            | (go_at_call 7; refine (Sh.new_ok (cfs s) [] _ bg w4 IG (by decide) MS (by show (10 : Int) ≤ 9223372036854775807; decide)).mono ?_; rintro r w5 ⟨wk, Fk, p5, FF5, rfl, h5, P5, A5, f5, u5, k5, hp5⟩))
        rename_i hh
        have kb := CB.out _ hh
        clear hh CS CB IG
        obtain rfl := no_groups hp5
        have E5 := Lib.hid (E.out.made (i := k) (by omega) hks (RN.out.2.1 k (Nat.le_refl _) hks) kb (F' := Fk) (fun i hi => Nat.le_trans k4.size (f5 i hi)) h5.in)
        have H5 := Lib.hid h5
        clear h5 P5 A5 f5 u5 k5 hp5 k4 g4 ig kb E
        go_wp2_with fail
        refine (Sh.box_ok w5 H5).mono ?_
        rintro r _ ⟨rfl, _, bx, _, rfl, -, -⟩
        have k6 := below1 w5 (Obj.cells #[Sh.gp wk] 27)
        have E6 := Lib.hid (E5.out.next k6)
        have L6 : Hid (Lies (w5.alloc (Obj.cells #[Sh.gp wk] 27)) w5.heap.size 27 [Sh.gp wk]) := Lib.hid (Lies.new _ _ _)
        have H6 := Lib.hid (H5.out.next k6)
        have e1 : Hid ((ws : List Nat).length + [wk].length ≤ 1048576) := Lib.hid (by simp <;> omega)
        have e2 : Hid (w.heap.size ≤ (w5.alloc (Obj.cells #[Sh.gp wk] 27)).heap.size) := Lib.hid E6.out.fam.below.size
        have e4 : Hid (Sl.Is Pk (w5.alloc (Obj.cells #[Sh.gp wk] 27)) (.slice (some ⟨w5.heap.size, 0, none⟩) 1 1) [wk] w5.heap.size) := Lib.hid (Sl.Is.one pok (x := wk) L6.out)
        clear k6 E5 H5 L6
        go_wp2_with (at_builtin; refine wpList_plain rfl fun K' hK' => Sl.wp_append pok (.tmp 83) (.tmp 85) rfl (base := w.heap.size) (l := ws) (l2 := [wk]) (b2 := w5.heap.size) E6.out.list e4.out e1.out e2.out (fun u w7 z1 z2 z3 => hK' _ _ ?_))
        obtain ⟨b7, -, i7⟩ := z1.is
        obtain ⟨A7, c7, rfl⟩ := i7.len
        have E7 := Lib.hid (E6.out.push (a := wk) (by first | omega | simp) (by rw [hwk, rset_same, pp_succ hk0]; exact H6.out) (E6.out.grp (by omega)) z1 z2 z3)
        clear z1 z2 z3 i7 E6 e1 e2 e4 H6
        exact ⟨⟨k + 1, ws ++ [wk], ga, _, A7, c7, by omega, by first | rfl | go_num, by first | rfl | simp [hwk], by simp [hwk], E7, Lib.hid ⟨by rw [rset_ne _ _ (by decide), rset_ne _ _ (by omega)]; exact RN.out.1, fun i h1 h2 => by rw [rset_ne _ _ (by omega), rset_ne _ _ (by omega)]; exact RN.out.2.1 i (by omega) h2, fun q => by omega⟩⟩, by simp [intOf]; omega⟩
    · have hks : (k : Int) = s := by omega
      have hk1 : 0 < ws.length := by omega
      have i1 : ¬ (k : Int) < s := hlt
      obtain ⟨wa, hwa⟩ : ∃ a, ws[0]? = some a := ⟨_, List.getElem?_eq_getElem hk1⟩
      obtain ⟨bl, off, rfl⟩ := list_some E.out.list hk1
      have R20 := Lib.hid RN.out.1
      go_upto_region 15 with fail
      have k8 := below1 wr (Obj.cells #[.int .i64 1, .string ⟨#[97]⟩, .int .i64 3, .int .i64 v, .int .i64 0, .int .i64 0, .int .i64 0] 42)
      have Y8 : Hid (Lies (wr.alloc (Obj.cells #[.int .i64 1, .string ⟨#[97]⟩, .int .i64 3, .int .i64 v, .int .i64 0, .int .i64 0, .int .i64 0] 42)) wr.heap.size 42 [.int .i64 1, .string He.ka, .int .i64 3, .int .i64 v, .int .i64 0, .int .i64 0, .int .i64 0]) := Lib.hid (Lies.new _ _ _)
      have E8 := Lib.hid (E.out.next k8)
      clear k8 E RN i1 hlt E3
      generalize wr.heap.size = g8 at Y8 ⊢
      generalize wr.alloc (Obj.cells #[.int .i64 1, .string ⟨#[97]⟩, .int .i64 3, .int .i64 v, .int .i64 0, .int .i64 0, .int .i64 0] 42) = w8 at Y8 E8 ⊢
      obtain ⟨mA, bxA, bvA, qA, eA⟩ := E8.out.work 0 wa hwa
      have QA := Lib.hid qA
      have FA := Lib.hid (funext fun k => propext (eA k))
      have BX := box_later QA
      have c0 := list_cell E8.out.list hwa
      rw [Nat.add_zero] at c0
      have c0 := Later.cell c0
      have j0 : (0 : Int) < (k : Int) := by omega
      have l0 := Later.cell (Y8.out.cell (i := 0) rfl)
      have l1 := Later.cell (Y8.out.cell (i := 1) rfl)
      have l2 := Later.cell (Y8.out.cell (i := 2) rfl)
      have l3 := Later.cell (Y8.out.cell (i := 3) rfl)
      have l4 := Later.cell (Y8.out.cell (i := 4) rfl)
      have l5 := Later.cell (Y8.out.cell (i := 5) rfl)
      have l6 := Later.cell (Y8.out.cell (i := 6) rfl)
      have hbm := fun u : Later w8 => bm2 u.w 1 (ya v)
      clear qA eA
      refine wp_region_later_tail 6 (by kernel_rfl) (by kernel_rfl) ?_
      simp only [List.take_succ_cons, List.take_zero, List.drop_succ_cons, List.drop_zero]
      repeat (go_big_quiet_step (first
        | (go_at_call 9; with_reducible exact Later.call_same _ (BX.out _))))
      refine wpQuiet_nil ?_
      rintro _ ⟨u, rfl⟩
      have E9 := Lib.hid (E8.out.next u.below)
      have Q9 := Lib.hid (QA.out.next u.below)
      clear c0 l0 l1 l2 l3 l4 l5 l6 hbm BX QA E8 Y8
      generalize u.w = w9 at E9 Q9 ⊢
      go_wp2_with fail
      refine (Ms.put_ok bxA 1 bvA [] ⟨1, 0, ya v, 0, none⟩ w9 (Lib.hid Q9.out.box) (by decide) (by decide)).mono ?_
      rintro r w10 ⟨bw10, rfl, b10, v10⟩
      obtain ⟨h10, mv10⟩ := Q9.out.put b10 v10
      rw [← FA.out] at mv10
      have E10 := Lib.hid (E9.out.one (PP' := pp ga) (LL' := LL1 0 [⟨1, 0, ya v, 0, none⟩]) hwa h10 mv10 (fun _ _ => rfl) (fun j hj => LL1_ne hj))
      clear b10 v10 h10 mv10 Q9 FA E9
      have c0 := list_cell E10.out.list hwa
      rw [Nat.add_zero] at c0
      go_wp2_with fail
      have m10 := E10.out.work 0 wa hwa
      rw [LL1_self] at m10
      have A10 := E10.out.fam.ap 0 16 (by decide)
      have MS : Hid (Asg.may (cfs s).k (cfs s).s (cfs s).l (cfs s).g (cfs s).z (cfs s).h (cfs s).r (cfs s).c) := Lib.hid (may_s s1 s2)
      have BC : Hid ((cfs s).s ≤ 9223372036854775807 ∧ (cfs s).l ≤ 9223372036854775807 ∧ (cfs s).g ≤ 9223372036854775807 ∧ (cfs s).z ≤ 9223372036854775807) := Lib.hid ⟨by show (10 : Int) ≤ _; omega, by show (0 : Int) ≤ _; omega, by show (0 : Int) ≤ _; omega, by show (0 : Int) ≤ _; omega⟩
      have HG : Hid (pp ga 0 (grpOf (cfs s).r (ya v)) = some ga) := Lib.hid (by rw [grp0]; rfl)
      refine (step_has 0 (ya v) 0 none 0 false w10 (Lib.hid m10) (by decide) (Lib.hid (fit_s s1 s2)) (Lib.hid (ya_fit hv)) (Lib.hid (show kd 1 = true by decide)) (Lib.hid (ya_may s1 s2)) (by rw [grp0]; decide) (a := ga) HG rfl (some (1, 0, 10, 10)) (Lib.hid (E10.out.grp hk1)) (Lib.hid A10) (by decide) MS BC (Lib.hid (by decide)) (by show He.ka.size ≤ maxLen; decide) (Lib.hid told3)).mono ?_
      rintro r w11 ⟨rv, ov, code, P, O, c, S1, n1, F11, G11, rfl, ma, hn, hP, hi, G, ha, hv11, or11, oo11⟩
      obtain ⟨hc1, p, rfl⟩ := took ma
      obtain rfl : n1 = 1 := one_pane G (by omega)
      have E11 := Lib.hid (E10.out.both (PP' := pp ga) (LL' := fun _ => []) hwa hi G hv11 ha (fun _ _ => rfl) (fun j hj => (LL1_ne hj).symm))
      have R11 : Hid ((rset (rset (rset R 0 (WF wa mA bxA bw10)) 0 F11) 16 G11) 20 = none0) := Lib.hid (by rw [rset_ne _ _ (by decide), rset_ne _ _ (by decide), rset_ne _ _ (by decide)]; exact R20.out)
      clear ma hn hP hi G ha hv11 or11 oo11 m10 A10 HG E10 R20 c0
      generalize rset (rset (rset R 0 (WF wa mA bxA bw10)) 0 F11) 16 G11 = R1 at E11 R11
      go_wp2_with fail
      refine (Hd.new_ok (i := 0) (y := tt) (o := ⟨0, 0, false⟩) (Lib.hid E11.out.table) m0_at rfl t1 t2).mono ?_
      rintro r w12 ⟨h, rfl, hlt12, h12, b12, v12⟩
      have NF : Hid (¬ Ow.Fp b h) := Lib.hid fun q => by have := E11.out.table.in h q; omega
      have E12 := Lib.hid (E11.out.tabled (M' := mm s tt 0) b12 (mv_new v12 R11.out E11.out.r17) (fun j hj q => NF.out (by obtain rfl : j = h := hj; exact q)))
      have H12 := Lib.hid h12
      clear hlt12 h12 b12 v12 E11 R11
      go_wp2_with fail
      obtain ⟨t, rfl⟩ : ∃ t : Nat, tt = t := ⟨tt.toNat, by omega⟩
      go_loopw [18] (fun sj wr => ∃ (j : Nat) (R : Nat → Nat → Prop), j ≤ 2 ∧ sj = .int .i64 j ∧ Hid (EM w s b gc ga (mm s t j) (fun x => if x = He.ka then [p] else []) (0 + c) 1 (.slice (some ⟨bl, off, none⟩) k c1) ws (pq t ga j) (fun _ => []) R wr) ∧ Hid (R 20 = Hd.At h) ∧ Hid (Hd.Is wr h b 0 t (hkd j) false (hst ga j))) (fun sj _ => 2 - (intOf sj).toNat)
      case atStart => exact ⟨0, _, by omega, rfl, E12, Lib.hid (rset_same _ _ _), H12⟩
      case round =>
        obtain ⟨j, R2, hj, rfl, E13, RH, H13⟩ := hrel
        obtain rfl | rfl | rfl : j = 0 ∨ j = 1 ∨ j = 2 := by omega
        · have H13 : Hid (Hd.Is wr h b ((0 : Nat) : Int) t 3 false none) := H13
          have q0 : ¬ s ≤ 0 := by omega
          have j0 : (0 : Int) < (k : Int) := by omega
          go_wp2_with fail
          refine (Hd.ask_give (o := ⟨0, 0, true⟩) H13 (Lib.hid E13.out.table) (show ((M0 s).set 0 ⟨0, 0, true⟩)[0]? = _ by rw [List.getElem?_set_self (by rw [Ow.ini_len]; omega)])).mono ?_
          rintro r w13 ⟨rfl, k13⟩
          go_upto_region 24 with fail
          have k14 := k13.alloc k13.size (Obj.cells #[.int .i64 3, .int .i64 0, .int .i64 0, .string ⟨#[]⟩, .int .i64 0, .int .i64 0, .int .i64 0, .int .i64 0, .int .i64 0, .int .i64 0, .pointer none] 45)
          have L14 : Hid (Lies (w13.alloc (Obj.cells #[.int .i64 3, .int .i64 0, .int .i64 0, .string ⟨#[]⟩, .int .i64 0, .int .i64 0, .int .i64 0, .int .i64 0, .int .i64 0, .int .i64 0, .pointer none] 45)) w13.heap.size 45 (Ms.cl ⟨3, 0, c00, 0, none⟩)) := Lib.hid (Lies.new _ _ (Ms.cl ⟨3, 0, c00, 0, none⟩))
          have NG : Hid (∀ i, ¬ R2 i w13.heap.size) := Lib.hid fun i q => by have := E13.out.fam.in_ i _ q; have := k13.size; omega
          have NL : Hid (¬ w13.heap.size = h) := Lib.hid fun q => NG.out 20 (by rw [RH.out]; exact q)
          have E14 := Lib.hid (E13.out.next k14)
          have H14 := Lib.hid (H13.out.next k14)
          clear k13 k14 E13 H13
          generalize w13.heap.size = g14 at L14 NG NL ⊢
          generalize w13.alloc (Obj.cells #[.int .i64 3, .int .i64 0, .int .i64 0, .string ⟨#[]⟩, .int .i64 0, .int .i64 0, .int .i64 0, .int .i64 0, .int .i64 0, .int .i64 0, .pointer none] 45) = w14 at L14 E14 H14 ⊢
          go_upto_region 26 with fail
          obtain ⟨mA, bxA, bvA, qA, eA⟩ := E14.out.work 0 wa hwa
          have QA := Lib.hid (qA.next (Below.refl _ _).drew)
          have FA := Lib.hid (funext fun k => propext (eA k))
          have hD : Below w14.heap.size w14 w14.drew := (Below.refl _ _).drew
          have Ed := Lib.hid (E14.out.next hD)
          have Hd_ := Lib.hid (H14.out.next hD)
          have Ld := Lib.hid (L14.out.next hD)
          have CS : Hid (∀ w', Sl.Own Pk w.heap.size w' (.slice (some ⟨bl, off, none⟩) k c1) ws → Lies w' g14 45 (Ms.cl ⟨3, 0, c00, 0, none⟩) → w'.cell? ⟨bl, off, none⟩ = some (Sh.gp wa) ∧ w'.cell? ⟨g14, 0, none⟩ = some (.int .i64 3) ∧ w'.cell? ⟨g14, 1, none⟩ = some (.int .i64 0) ∧ w'.cell? ⟨g14, 2, none⟩ = some (.int .i64 0) ∧ w'.cell? ⟨g14, 3, none⟩ = some (.string ⟨#[]⟩) ∧ w'.cell? ⟨g14, 4, none⟩ = some (.int .i64 0) ∧ w'.cell? ⟨g14, 5, none⟩ = some (.int .i64 0) ∧ w'.cell? ⟨g14, 6, none⟩ = some (.int .i64 0) ∧ w'.cell? ⟨g14, 7, none⟩ = some (.int .i64 0) ∧ w'.cell? ⟨g14, 8, none⟩ = some (.int .i64 0) ∧ w'.cell? ⟨g14, 9, none⟩ = some (.int .i64 0) ∧ w'.cell? ⟨g14, 10, none⟩ = some (.pointer none)) := Lib.hid fun w' h1 h2 => ⟨by have := list_cell h1 hwa; rw [Nat.add_zero] at this; exact this, h2.cell (i := 0) rfl, h2.cell (i := 1) rfl, h2.cell (i := 2) rfl, h2.cell (i := 3) rfl, h2.cell (i := 4) rfl, h2.cell (i := 5) rfl, h2.cell (i := 6) rfl, h2.cell (i := 7) rfl, h2.cell (i := 8) rfl, h2.cell (i := 9) rfl, h2.cell (i := 10) rfl⟩
          have NI : Hid (¬ R2 0 h) := Lib.hid fun q => Ed.out.fam.ap 0 20 (by omega) h q (by rw [RH.out])
          clear qA eA hD E14 H14 L14
          go_region_held3 (fun w' => w'.cell? ⟨bl, off, none⟩ = some (Sh.gp wa) ∧ w'.cell? ⟨g14, 0, none⟩ = some (.int .i64 3) ∧ w'.cell? ⟨g14, 1, none⟩ = some (.int .i64 0) ∧ w'.cell? ⟨g14, 2, none⟩ = some (.int .i64 0) ∧ w'.cell? ⟨g14, 3, none⟩ = some (.string ⟨#[]⟩) ∧ w'.cell? ⟨g14, 4, none⟩ = some (.int .i64 0) ∧ w'.cell? ⟨g14, 5, none⟩ = some (.int .i64 0) ∧ w'.cell? ⟨g14, 6, none⟩ = some (.int .i64 0) ∧ w'.cell? ⟨g14, 7, none⟩ = some (.int .i64 0) ∧ w'.cell? ⟨g14, 8, none⟩ = some (.int .i64 0) ∧ w'.cell? ⟨g14, 9, none⟩ = some (.int .i64 0) ∧ w'.cell? ⟨g14, 10, none⟩ = some (.pointer none))
            (first | exact CS.out _ Ed.out.list Ld.out | exact CS.out _ E17.out.list L17.out | exact CS.out _ E16.out.list L16.out)
            (first
              | (go_at_call 9; refine (box_at _ QA).mono ?_; rintro r _ ⟨rfl, rfl⟩)
              | (go_at_call 16; refine (Ms.put_ok bxA 1 bvA [] ⟨3, 0, c00, 0, none⟩ _ (Lib.hid QA.out.box) (by decide) (by decide)).mono ?_; rintro r w16 ⟨bw16, rfl, b16, v16⟩; obtain ⟨h16, mv16⟩ := QA.out.put b16 v16; rw [← FA.out] at mv16; have E16 := Lib.hid (Ed.out.one (PP' := pq t ga 0) (LL' := LL1 0 [⟨3, 0, c00, 0, none⟩]) hwa (by rw [LL1_self]; exact h16) mv16 (fun _ _ => rfl) (fun j hj => LL1_ne hj)); have H16 := Lib.hid (mv16.lies NI.out Hd_.out); have L16 := Lib.hid (mv16.lies (NG.out 0) Ld.out))
              | (go_at_call 35; refine (Hd.sent_yes H16 (by decide)).mono ?_; rintro r w17 ⟨rfl, h17, v17⟩; have E17 := Lib.hid (E16.out.handed (F' := Hd.At h) (by rw [rset_ne _ _ (by omega), RH.out]; exact v17)); have L17 := Lib.hid (v17.lies NL.out L16.out)))
          rename_i hh
          have H17 : Hid (Hd.Is w17 h b ((0 : Nat) : Int) t 3 true none) := Lib.hid h17
          have R17 : Hid ((rset (rset R2 0 (WF wa mA bxA bw16)) 20 (Hd.At h)) 20 = Hd.At h) := Lib.hid (rset_same _ _ _)
          clear hh CS Ed Hd_ Ld E16 H16 L16 L17 h17 v17 mv16 h16 b16 v16 QA FA NI NG NL RH
          generalize rset (rset R2 0 (WF wa mA bxA bw16)) 20 (Hd.At h) = R3 at E17 R17
          have c0 := list_cell E17.out.list hwa
          rw [Nat.add_zero] at c0
          have m17 := E17.out.work 0 wa hwa
          rw [LL1_self] at m17
          have NI : Hid (¬ R3 0 h) := Lib.hid fun q => E17.out.fam.ap 0 20 (by omega) h q (by rw [R17.out])
          go_wp2_with fail
          refine (step_give 0 c00 0 none 0 false w17 (Lib.hid m17) (by decide) (by decide)).mono ?_
          rintro r w18 ⟨rfl, F18, h18, v18⟩
          rw [show (pq t ga 0 0) 0 = some ga from rfl]
          have E18 := Lib.hid (E17.out.one (PP' := pq t ga 1) (LL' := fun _ => []) hwa (by
            have e : Sh.updOf (pq t ga 0 0) 0 none = pq t ga 1 0 := funext fun x => by
              by_cases q : x = 0
              · subst q; simp [Sh.updOf, pq]
              · rw [(Sh.updOf_ok (pq t ga 0 0) 0 none).2 x q]; show (if x = 0 then some ga else none) = none; rw [if_neg q]
            rw [← e]; exact h18) v18 (fun j hj => (show (fun _ => none) = pp ga j from (pp_succ hj).symm)) (fun j hj => (LL1_ne hj).symm))
          have H18 := Lib.hid (v18.lies NI.out H17.out)
          have R18 : Hid ((rset R3 0 F18) 20 = Hd.At h) := Lib.hid (by rw [rset_ne _ _ (by omega)]; exact R17.out)
          clear h18 v18 m17 c0 E17 H17 R17 NI
          generalize rset R3 0 F18 = R4 at E18 R18
          go_upto_region 29 with (first
            | (refine wpList_plain rfl fun K' hK' => wp_store_did (cs' := dcl ⟨3, 0, c00, 0, none⟩ false 0 (.slice none 0 0) (.slice none 0 0) (some ga)) _ _ rfl rfl rfl (Lies.new _ _ zd) rfl rfl (one_did _ _ _ _ _ _ _ _ _ _ _ _ _ _) (fun w19 z1 z2 => hK' _ _ ?_))
            | fail)
          have k19 := Ms.below_over (below1 w18 _) z2 (Nat.le_refl _)
          have E19 := Lib.hid (E18.out.next k19)
          have H19 : Hid (Hd.Is w19 h b ((0 : Nat) : Int) t 3 true none) := Lib.hid (H18.out.next k19)
          have D19 := Lib.hid z1
          clear z1 z2 k19 E18 H18
          generalize w18.heap.size = g19 at D19 ⊢
          have d0 := D19.out.cell (i := 0) rfl
          have d1 := D19.out.cell (i := 1) rfl
          have d2 := D19.out.cell (i := 2) rfl
          have d3 := D19.out.cell (i := 3) rfl
          have d4 := D19.out.cell (i := 4) rfl
          have d5 := D19.out.cell (i := 5) rfl
          have d6 := D19.out.cell (i := 6) rfl
          have d7 := D19.out.cell (i := 7) rfl
          have d8 := D19.out.cell (i := 8) rfl
          have d9 := D19.out.cell (i := 9) rfl
          have d10 := D19.out.cell (i := 10) rfl
          have d11 := D19.out.cell (i := 11) rfl
          have d12 := D19.out.cell (i := 12) rfl
          have d13 := D19.out.cell (i := 13) rfl
          have d14 := D19.out.cell (i := 14) rfl
          have d15 := D19.out.cell (i := 15) rfl
          go_wp2_with fail
          refine (Hd.did_give (ms := none) (ds := some ga) H19).mono ?_
          rintro r w20 ⟨rfl, h20, v20⟩
          have E20 := Lib.hid (E19.out.handed (F' := Hd.At h) (by rw [R18.out]; exact v20))
          have H20 := Lib.hid h20
          clear E19 H19 D19 h20 v20 R18 d0 d1 d2 d3 d4 d5 d6 d7 d8 d9 d10 d11 d12 d13 d14 d15
          go_wp2_with fail
          exact ⟨⟨1, _, by omega, by first | rfl | go_num, E20, Lib.hid (rset_same _ _ _), H20⟩, by simp [intOf]⟩
        · have H13 : Hid (Hd.Is wr h b ((0 : Nat) : Int) t 4 false (some ga)) := H13
          have q0 : ¬ s ≤ (t : Int) := by omega
          obtain ⟨wt, hwt⟩ : ∃ a, ws[t]? = some a := ⟨_, List.getElem?_eq_getElem (by omega)⟩
          have j1 : (t : Int) < (k : Int) := by omega
          have j2 : (0 : Int) ≤ (t : Int) := by omega
          go_wp2_with fail
          refine (Hd.ask_have H13).mono ?_
          rintro r w13 ⟨rfl, k13⟩
          go_upto_region 24 with fail
          have k14 := k13.alloc k13.size (Obj.cells #[.int .i64 4, .int .i64 0, .int .i64 0, .string ⟨#[]⟩, .int .i64 0, .int .i64 0, .int .i64 0, .int .i64 0, .int .i64 0, .int .i64 0, .pointer (some ⟨ga, 0, none⟩)] 45)
          have L14 : Hid (Lies (w13.alloc (Obj.cells #[.int .i64 4, .int .i64 0, .int .i64 0, .string ⟨#[]⟩, .int .i64 0, .int .i64 0, .int .i64 0, .int .i64 0, .int .i64 0, .int .i64 0, .pointer (some ⟨ga, 0, none⟩)] 45)) w13.heap.size 45 (Ms.cl ⟨4, 0, c00, 0, (some ga)⟩)) := Lib.hid (Lies.new _ _ (Ms.cl ⟨4, 0, c00, 0, (some ga)⟩))
          have NG : Hid (∀ i, ¬ R2 i w13.heap.size) := Lib.hid fun i q => by have := E13.out.fam.in_ i _ q; have := k13.size; omega
          have NL : Hid (¬ w13.heap.size = h) := Lib.hid fun q => NG.out 20 (by rw [RH.out]; exact q)
          have E14 := Lib.hid (E13.out.next k14)
          have H14 := Lib.hid (H13.out.next k14)
          clear k13 k14 E13 H13
          generalize w13.heap.size = g14 at L14 NG NL ⊢
          generalize w13.alloc (Obj.cells #[.int .i64 4, .int .i64 0, .int .i64 0, .string ⟨#[]⟩, .int .i64 0, .int .i64 0, .int .i64 0, .int .i64 0, .int .i64 0, .int .i64 0, .pointer (some ⟨ga, 0, none⟩)] 45) = w14 at L14 E14 H14 ⊢
          go_upto_region 26 with fail
          obtain ⟨mA, bxA, bvA, qA, eA⟩ := E14.out.work t wt hwt
          have QA := Lib.hid (qA.next (Below.refl _ _).drew)
          have FA := Lib.hid (funext fun k => propext (eA k))
          have hD : Below w14.heap.size w14 w14.drew := (Below.refl _ _).drew
          have Ed := Lib.hid (E14.out.next hD)
          have Hd_ := Lib.hid (H14.out.next hD)
          have Ld := Lib.hid (L14.out.next hD)
          have CS : Hid (∀ w', Sl.Own Pk w.heap.size w' (.slice (some ⟨bl, off, none⟩) k c1) ws → Lies w' g14 45 (Ms.cl ⟨4, 0, c00, 0, (some ga)⟩) → w'.cell? ⟨bl, off + t, none⟩ = some (Sh.gp wt) ∧ w'.cell? ⟨g14, 0, none⟩ = some (.int .i64 4) ∧ w'.cell? ⟨g14, 1, none⟩ = some (.int .i64 0) ∧ w'.cell? ⟨g14, 2, none⟩ = some (.int .i64 0) ∧ w'.cell? ⟨g14, 3, none⟩ = some (.string ⟨#[]⟩) ∧ w'.cell? ⟨g14, 4, none⟩ = some (.int .i64 0) ∧ w'.cell? ⟨g14, 5, none⟩ = some (.int .i64 0) ∧ w'.cell? ⟨g14, 6, none⟩ = some (.int .i64 0) ∧ w'.cell? ⟨g14, 7, none⟩ = some (.int .i64 0) ∧ w'.cell? ⟨g14, 8, none⟩ = some (.int .i64 0) ∧ w'.cell? ⟨g14, 9, none⟩ = some (.int .i64 0) ∧ w'.cell? ⟨g14, 10, none⟩ = some (.pointer (some ⟨ga, 0, none⟩))) := Lib.hid fun w' h1 h2 => ⟨list_cell h1 hwt, h2.cell (i := 0) rfl, h2.cell (i := 1) rfl, h2.cell (i := 2) rfl, h2.cell (i := 3) rfl, h2.cell (i := 4) rfl, h2.cell (i := 5) rfl, h2.cell (i := 6) rfl, h2.cell (i := 7) rfl, h2.cell (i := 8) rfl, h2.cell (i := 9) rfl, h2.cell (i := 10) rfl⟩
          have NI : Hid (¬ R2 t h) := Lib.hid fun q => Ed.out.fam.ap t 20 (by omega) h q (by rw [RH.out])
          clear qA eA hD E14 H14 L14
          go_region_held3 (fun w' => w'.cell? ⟨bl, off + t, none⟩ = some (Sh.gp wt) ∧ w'.cell? ⟨g14, 0, none⟩ = some (.int .i64 4) ∧ w'.cell? ⟨g14, 1, none⟩ = some (.int .i64 0) ∧ w'.cell? ⟨g14, 2, none⟩ = some (.int .i64 0) ∧ w'.cell? ⟨g14, 3, none⟩ = some (.string ⟨#[]⟩) ∧ w'.cell? ⟨g14, 4, none⟩ = some (.int .i64 0) ∧ w'.cell? ⟨g14, 5, none⟩ = some (.int .i64 0) ∧ w'.cell? ⟨g14, 6, none⟩ = some (.int .i64 0) ∧ w'.cell? ⟨g14, 7, none⟩ = some (.int .i64 0) ∧ w'.cell? ⟨g14, 8, none⟩ = some (.int .i64 0) ∧ w'.cell? ⟨g14, 9, none⟩ = some (.int .i64 0) ∧ w'.cell? ⟨g14, 10, none⟩ = some (.pointer (some ⟨ga, 0, none⟩)))
            (first | exact CS.out _ Ed.out.list Ld.out | exact CS.out _ E17.out.list L17.out | exact CS.out _ E16.out.list L16.out)
            (first
              | (go_at_call 9; refine (box_at _ QA).mono ?_; rintro r _ ⟨rfl, rfl⟩)
              | (go_at_call 16; refine (Ms.put_ok bxA 1 bvA [] ⟨4, 0, c00, 0, (some ga)⟩ _ (Lib.hid QA.out.box) (by decide) (by decide)).mono ?_; rintro r w16 ⟨bw16, rfl, b16, v16⟩; obtain ⟨h16, mv16⟩ := QA.out.put b16 v16; rw [← FA.out] at mv16; have E16 := Lib.hid (Ed.out.one (PP' := pq t ga 1) (LL' := LL1 t [⟨4, 0, c00, 0, (some ga)⟩]) hwt (by rw [LL1_self]; exact h16) mv16 (fun _ _ => rfl) (fun j hj => LL1_ne hj)); have H16 := Lib.hid (mv16.lies NI.out Hd_.out); have L16 := Lib.hid (mv16.lies (NG.out t) Ld.out))
              | (go_at_call 35; refine (Hd.sent_yes H16 (by decide)).mono ?_; rintro r w17 ⟨rfl, h17, v17⟩; have E17 := Lib.hid (E16.out.handed (F' := Hd.At h) (by rw [rset_ne _ _ (by omega), RH.out]; exact v17)); have L17 := Lib.hid (v17.lies NL.out L16.out)))
          rename_i hh
          have H17 : Hid (Hd.Is w17 h b ((0 : Nat) : Int) t 4 true none) := Lib.hid h17
          have R17 : Hid ((rset (rset R2 t (WF wt mA bxA bw16)) 20 (Hd.At h)) 20 = Hd.At h) := Lib.hid (rset_same _ _ _)
          clear hh CS Ed Hd_ Ld E16 H16 L16 L17 h17 v17 mv16 h16 b16 v16 QA FA NI NG NL RH
          generalize rset (rset R2 t (WF wt mA bxA bw16)) 20 (Hd.At h) = R3 at E17 R17
          have c0 := list_cell E17.out.list hwt
          have m17 := E17.out.work t wt hwt
          rw [LL1_self] at m17
          have NI : Hid (¬ R3 t h) := Lib.hid fun q => E17.out.fam.ap t 20 (by omega) h q (by rw [R17.out])
          go_wp2_with fail
          refine (step_have 0 c00 0 (some ga) 0 false w17 (Lib.hid m17) (by decide) (by decide) (fun x => if x = 0 then some ga else none) (Lib.hid (by
            rw [if_neg (by simp)]
            funext x
            by_cases q : x = 0
            · subst q; simp [Sh.updOf]
            · rw [(Sh.updOf_ok _ 0 (some ga)).2 x q, if_neg q]; rfl))).mono ?_
          rintro r w18 ⟨rfl, F18, h18, v18⟩
          have E18 := Lib.hid (E17.out.one (PP' := pq t ga 2) (LL' := fun _ => []) hwt (by show Sh.Is w18 wt F18 (cfs s) (if t = t then _ else _) []; rw [if_pos rfl]; exact h18) v18 (fun j hj => (show (if j = t then _ else _) = _ from if_neg hj)) (fun j hj => (LL1_ne hj).symm))
          have H18 := Lib.hid (v18.lies NI.out H17.out)
          have R18 : Hid ((rset R3 t F18) 20 = Hd.At h) := Lib.hid (by rw [rset_ne _ _ (by omega)]; exact R17.out)
          clear h18 v18 m17 c0 E17 H17 R17 NI
          generalize rset R3 t F18 = R4 at E18 R18
          go_upto_region 29 with (first
            | (refine wpList_plain rfl fun K' hK' => wp_store_did (cs' := dcl ⟨4, 0, c00, 0, (some ga)⟩ false 0 (.slice none 0 0) (.slice none 0 0) none) _ _ rfl rfl rfl (Lies.new _ _ zd) rfl rfl (one_did _ _ _ _ _ _ _ _ _ _ _ _ _ _) (fun w19 z1 z2 => hK' _ _ ?_))
            | fail)
          have k19 := Ms.below_over (below1 w18 _) z2 (Nat.le_refl _)
          have E19 := Lib.hid (E18.out.next k19)
          have H19 : Hid (Hd.Is w19 h b ((0 : Nat) : Int) t 4 true none) := Lib.hid (H18.out.next k19)
          have D19 := Lib.hid z1
          clear z1 z2 k19 E18 H18
          generalize w18.heap.size = g19 at D19 ⊢
          have d0 := D19.out.cell (i := 0) rfl
          have d1 := D19.out.cell (i := 1) rfl
          have d2 := D19.out.cell (i := 2) rfl
          have d3 := D19.out.cell (i := 3) rfl
          have d4 := D19.out.cell (i := 4) rfl
          have d5 := D19.out.cell (i := 5) rfl
          have d6 := D19.out.cell (i := 6) rfl
          have d7 := D19.out.cell (i := 7) rfl
          have d8 := D19.out.cell (i := 8) rfl
          have d9 := D19.out.cell (i := 9) rfl
          have d10 := D19.out.cell (i := 10) rfl
          have d11 := D19.out.cell (i := 11) rfl
          have d12 := D19.out.cell (i := 12) rfl
          have d13 := D19.out.cell (i := 13) rfl
          have d14 := D19.out.cell (i := 14) rfl
          have d15 := D19.out.cell (i := 15) rfl
          go_wp2_with fail
          refine (Hd.did_have (i := 0) (ms := some ga) (ds := none) (o := ⟨0, 0, true⟩) H19 (Lib.hid E19.out.table) (show ((M0 s).set 0 ⟨0, 0, true⟩)[0]? = _ by rw [List.getElem?_set_self (by rw [Ow.ini_len]; omega)]) rfl t1 t2 (by show (0 : Int) ≤ 0; decide) (by show (0 : Int) ≤ 1000000; decide) NF.out).mono ?_
          rintro r w20 ⟨rfl, h20, b20, v20⟩
          have b20 : Ow.Is w20 b s ((M0 s).set 0 ⟨t, 1, false⟩) := by have := b20; rw [show mm s t 1 = (M0 s).set 0 ⟨0, 0, true⟩ from rfl, List.set_set] at this; exact this
          have E20 := Lib.hid (E19.out.tabled (F' := Hd.At h) (M' := mm s t 2) b20 (by rw [R18.out, E19.out.r17]; exact v20) (fun j hj q => NF.out (by obtain rfl : j = h := hj; exact q)))
          have H20 := Lib.hid h20
          clear E19 H19 D19 h20 v20 R18 d0 d1 d2 d3 d4 d5 d6 d7 d8 d9 d10 d11 d12 d13 d14 d15
          go_wp2_with fail
          exact ⟨⟨2, _, by omega, by first | rfl | go_num, E20, Lib.hid (rset_same _ _ _), H20⟩, by simp [intOf]⟩
        · have H13 : Hid (Hd.Is wr h b ((0 : Nat) : Int) t 0 false none) := H13
          go_wp2_with fail
          refine (Ow.of_yes (i := 0) (o := ⟨t, 1, false⟩) (Lib.hid E13.out.table) (show ((M0 s).set 0 ⟨t, 1, false⟩)[0]? = _ by rw [List.getElem?_set_self (by rw [Ow.ini_len]; omega)])).mono ?_
          rintro r w21 ⟨rfl, k21⟩
          go_upto_region 32 with fail
          have k22 := k21.alloc k21.size (Obj.cells #[.int .i64 t, .int .i64 1, .bool false] 89)
          have O22 : Hid (Lies (w21.alloc (Obj.cells #[.int .i64 t, .int .i64 1, .bool false] 89)) w21.heap.size 89 [.int .i64 t, .int .i64 1, .bool false]) := Lib.hid (Lies.new _ _ [.int .i64 t, .int .i64 1, .bool false])
          have E22 := Lib.hid (E13.out.next k22)
          have H22 := Lib.hid (H13.out.next k22)
          clear k21 k22 E13 H13
          generalize w21.heap.size = g22 at O22 ⊢
          generalize w21.alloc (Obj.cells #[.int .i64 t, .int .i64 1, .bool false] 89) = w22 at O22 E22 H22 ⊢
          go_wp2_with fail
          go_loopw [26] (fun si wr => ∃ i : Nat, i ≤ k ∧ si = .int .i64 i ∧ Hid (EM w s b gc ga (mm s t 2) (fun x => if x = He.ka then [p] else []) (0 + c) 1 (.slice (some ⟨bl, off, none⟩) k c1) ws (pq t ga 2) (fun _ => []) R2 wr) ∧ Hid (Lies wr g22 89 [.int .i64 t, .int .i64 1, .bool false]) ∧ Hid (Hd.Is wr h b ((0 : Nat) : Int) t 0 false none)) (fun si _ => k - (intOf si).toNat)
          case atStart => exact ⟨0, by omega, rfl, E22, O22, H22⟩
          case round =>
            obtain ⟨i, hi, rfl, E, O, HH⟩ := hrel
            by_cases hlt : i < k
            · have i0 : (i : Int) < s := by omega
              have i2 : (i : Int) < (k : Int) := by omega
              have i3 : (0 : Int) ≤ (i : Int) := by omega
              obtain ⟨wi, hwi⟩ : ∃ a, ws[i]? = some a := ⟨_, List.getElem?_eq_getElem (by omega)⟩
              have WK := E.out.work i wi hwi
              have ci := list_cell E.out.list hwi
              by_cases it : i = t
              · subst it
                rw [show pq i ga 2 i = fun x => if x = 0 then some ga else none from if_pos rfl] at WK
                go_wp2_with fail
                refine (Sh.groups_ok wr (Lib.hid WK)).mono ?_
                rintro r w23 ⟨vg, ks, rfl, hks2, og, k23⟩
                obtain rfl := keys_one hks2
                obtain ⟨bg, -, ig⟩ := og.is
                obtain ⟨Ag, cg, rfl⟩ := ig.len
                have E23 := Lib.hid (E.out.next k23)
                have O23 := Lib.hid (O.out.next k23)
                have HH23 := Lib.hid (HH.out.next k23)
                have WK := WK.next k23
                have c0 := list_cell E23.out.list hwi
                clear hks2 og ig k23 E O HH ci
                go_wp2_with fail
                refine (Sh.len_ok (N := 8880) w23 (Lib.hid WK) (Lib.hid (pool_one ((E23.out.grp hk1).more (by omega)))) (by decide)).mono ?_
                rintro r w24 ⟨⟨tl, rfl, htl⟩, k24⟩
                obtain rfl : tl = 1 := htl [0] ⟨by simp, fun x => by by_cases q : x = 0 <;> simp [q]⟩
                have E24 := Lib.hid (E23.out.next k24)
                have O24 := Lib.hid (O23.out.next k24)
                have H24 := Lib.hid (HH23.out.next k24)
                clear k24 c0 WK E23 O23 HH23 htl
                go_wp2_with fail
                exact ⟨⟨i + 1, by omega, by first | rfl | go_num, E24, O24, H24⟩, by simp [intOf]; omega⟩

              · rw [show pq t ga 2 i = fun _ => none from if_neg it] at WK
                have b0 : ((i : Int) == (t : Int)) = false := by simp; omega
                go_wp2_with fail
                refine (Sh.groups_ok wr (Lib.hid WK)).mono ?_
                rintro r w23 ⟨vg, ks, rfl, hks2, og, k23⟩
                obtain rfl := keys_no hks2
                obtain ⟨bg, -, ig⟩ := og.is
                obtain ⟨Ag, cg, rfl⟩ := ig.len
                have E23 := Lib.hid (E.out.next k23)
                have O23 := Lib.hid (O.out.next k23)
                have HH23 := Lib.hid (HH.out.next k23)
                have WK := WK.next k23
                have c0 := list_cell E23.out.list hwi
                clear hks2 og ig k23 E O HH ci
                go_wp2_with fail
                refine (Sh.len_ok (N := 8880) w23 (Lib.hid WK) (Lib.hid pool_no) (by decide)).mono ?_
                rintro r w24 ⟨⟨tl, rfl, htl⟩, k24⟩
                obtain rfl : tl = 0 := htl [] ⟨by simp, fun x => by simp⟩
                have E24 := Lib.hid (E23.out.next k24)
                have O24 := Lib.hid (O23.out.next k24)
                have H24 := Lib.hid (HH23.out.next k24)
                clear k24 c0 WK E23 O23 HH23 htl
                go_wp2_with fail
                exact ⟨⟨i + 1, by omega, by first | rfl | go_num, E24, O24, H24⟩, by simp [intOf]; omega⟩

            · have i0 : ¬ (i : Int) < s := by omega
              have o0 := O.out.cell (i := 0) rfl
              have o1 := O.out.cell (i := 1) rfl
              have o2 := O.out.cell (i := 2) rfl
              have KF := Lib.hid E.out.fam.below
              go_wp2_with fail
              refine (Hd.over_ok HH).mono ?_
              rintro r w25 ⟨rfl, rfl⟩
              go_wp2
              go_ret
              exact ⟨rfl, KF.out⟩
end handEnds
end Go.Proofs.YtdnigpkdnkbfbaaGreat

namespace Go.Proofs.YtdnigpkdnkbfbaaGreat
open Go.ChangeShapes Go.WideShapes Go.ChangeAt Go.RowKit
set_option maxRecDepth 100000
set_option linter.unusedVariables false
namespace handEnds
open Small Foot Pane Grp Ca Md Sh He
set_option maxHeartbeats 4000000 in
theorem walk_no (s tt v : Int) (w : World) (h : s < 1 ∨ 8 < s) :
    Calls Tryz.prog 5 #[.int .i64 s, .int .i64 tt, .int .i64 v] w fun r w' => r = .returned (.bool true) ∧ Below w.heap.size w w' := by
  have HX := Lib.hid h
  clear h
  go_enter Tryz.func5, Tryz.ntmps5
  go_wp2_with fail
  refine (Hd.up_ok w).mono ?_
  rintro r w1 ⟨rfl, k1⟩
  have K2 := Lib.hid (k1.alloc k1.size (Obj.cells #[.int .i64 0, .int .i64 10, .int .i64 0, .int .i64 0, .int .i64 0, .int .i64 s, .int .i64 1, .int .i64 1] 23))
  clear k1
  go_wp2_with fail
  refine (Ow.new_no 1 s _ (by have := HX.out; omega)).mono ?_
  rintro r w2 ⟨rfl, k2⟩
  have K3 := Lib.hid (after K2.out k2)
  clear k2
  go_wp2
  go_ret
  exact ⟨rfl, K3.out⟩
set_option maxHeartbeats 4000000 in
theorem walk_arg (s tt v : Int) (w : World) (s1 : 1 ≤ s) (s2 : s ≤ 8) (h : tt < 0 ∨ s ≤ tt) :
    Calls Tryz.prog 5 #[.int .i64 s, .int .i64 tt, .int .i64 v] w fun r w' => r = .returned (.bool true) ∧ Below w.heap.size w w' := by
  have HX := Lib.hid h
  clear h
  go_enter Tryz.func5, Tryz.ntmps5
  go_wp2_with fail
  refine (Hd.up_ok w).mono ?_
  rintro r w1 ⟨rfl, k1⟩
  have K2 := Lib.hid (k1.alloc k1.size (Obj.cells #[.int .i64 0, .int .i64 10, .int .i64 0, .int .i64 0, .int .i64 0, .int .i64 s, .int .i64 1, .int .i64 1] 23))
  clear k1
  go_wp2_with fail
  refine (Ow.new_ok 1 s _ (by omega) (by omega) s1 s2).mono ?_
  rintro r w2 ⟨rfl, -, k2⟩
  have K3 := Lib.hid (after K2.out k2)
  clear k2
  by_cases u1 : tt < 0
  · go_wp2
    go_ret
    exact ⟨rfl, K3.out⟩
  · have u2 : s ≤ tt := by have := HX.out; omega
    go_wp2
    go_ret
    exact ⟨rfl, K3.out⟩
theorem walk (s tt v : Int) (hv : (Lit.int .i64 v).wf = true) (w : World) :
    Calls Tryz.prog 5 #[.int .i64 s, .int .i64 tt, .int .i64 v] w fun r w' => r = .returned (.bool true) ∧ Below w.heap.size w w' := by
  by_cases h : s < 1 ∨ 8 < s
  · exact walk_no s tt v w h
  · by_cases h2 : tt < 0 ∨ s ≤ tt
    · exact walk_arg s tt v w (by omega) (by omega) h2
    · exact walk_on s tt v w (by omega) (by omega) (by omega) (by omega) hv

theorem own : ownKnob Tryz.prog.godebug = none := by kernel_rfl

set_option maxRecDepth 100000 in
theorem lifted (os : Os) (started : os.Started) (H : Type) (enc : TypeId × Value → H) :
    ReturnsInHanded {} Tryz.checked os 5 .any (Rows.handEndsSpec.pre6 enc Tryz.prog Tryz.f5 Rows.handEndsRow.domain false) (Rows.handEndsSpec.post enc Tryz.prog Tryz.f5 false true false false) := by
  refine returnsInHanded_of_change (C := Tryz.checked) own started (by kernel_rfl) Tryz.func5
    (ChangeSpec.witness6 (enc := enc) (C := Tryz.checked) false ⟨#[], #[.int .i64 0, .int .i64 0, .int .i64 0], []⟩ 8 (by kernel_rfl) (by kernel_rfl) (by kernel_rfl) (by kernel_rfl)) ?_
  intro W base args ds gs before hval0 hW hcnd _
  have hval : ∀ (j : Nat) t v, Tryz.f5.params[j]? = some t → args[j]? = some v → Value.okWide Tryz.prog W .any base t v := hval0
  have hW' := hW
  obtain ⟨p, q, hA0, hV, rfl, hfz, hnd⟩ := hW
  have hA : DataW.TrodAll enc Tryz.prog W 0 (fun _ => true) true Tryz.f5.params.toList args.toList ds p := hA0
  rw [Tryz.params5] at hA hval
  obtain ⟨v0, vs0, d0, ds0, p0, q0, hargs, rfl, rfl, h0, r0⟩ := trodAll_cons hA
  obtain ⟨v1, vs1, d1, ds1, p1, q1, rfl, rfl, rfl, h1, r1⟩ := trodAll_cons r0
  obtain ⟨v2, vs2, d2, ds2, p2, q2, rfl, rfl, rfl, h2, r2⟩ := trodAll_cons r1
  obtain ⟨rfl, rfl, rfl⟩ := trodAll_nil r2
  obtain rfl : args = #[v0, v1, v2] := by cases args; simp_all
  obtain ⟨rfl, rfl⟩ := trodVars_none hV
  obtain ⟨a0, rfl, rfl, rfl, w0⟩ := open_int Tryz.underlying3 (hval 0 3 v0 rfl rfl) h0
  obtain ⟨a1, rfl, rfl, rfl, w1⟩ := open_int Tryz.underlying3 (hval 1 3 v1 rfl rfl) h1
  obtain ⟨a2, rfl, rfl, rfl, w2⟩ := open_int Tryz.underlying2 (hval 2 2 v2 rfl rfl) h2
  clear hA0 hval0
  refine (walk a0 a1 a2 w2 W).mono fun e W' ⟨he, hg⟩ => ?_
  subst he
  exact ⟨_, rfl, Laid.post Laid.laidOut (by kernel_rfl) rfl (by kernel_rfl) Tryz.underlying4 hW' ⟨rfl, rfl, rfl⟩ hg⟩

theorem over : Rows.handEndsRow.holds Tryz.pinned (OpenSpec.ofChange Rows.handEndsSpec) :=
  OpenClaim.holds_of_wide 5 Tryz.f5 rfl rfl rfl rfl rfl rfl rfl ⟨rfl, rfl, rfl, rfl, rfl⟩ rfl rfl rfl rfl rfl (by kernel_rfl) Tryz.func5 (by kernel_rfl)
    (of_decide_eq_true (by kernel_rfl)) (by unfold Func.isWrapper; first | (rw [if_pos (by decide +kernel)]; kernel_rfl) | (rw [if_neg (by decide +kernel)]; exact ⟨rfl, rfl⟩))
    (fun os started H enc _ => lifted os started H enc)

/-- ████ THE STATEMENT ████ -/
theorem proved : Rows.HandEndsSaid :=
  over
#print axioms proved
end Go.Proofs.YtdnigpkdnkbfbaaGreat.handEnds
