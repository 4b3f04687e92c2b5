/-
  The head of the statements of layer 8 (the document's example) answers true.
-/
import Derived.Test.YtbdocnkpjlpfmaaGreatGrpTake
import Derived.Test.YtbdocnkpjlpfmaaGreatGrpLen
import Derived.Test.YtbdocnkpjlpfmaaGreatGrpNew
import Derived.Test.YtbdocnkpjlpfmaaGreatErrs
namespace Go.Proofs.YtbdocnkpjlpfmaaGreat
open Go.ChangeShapes Go.WideShapes Go.ChangeAt Go.RowKit
namespace Grp
open Small Foot Pane
set_option linter.unusedVariables false

theorem outs_empty {late mark : Int} {S S' : Lists} {O : List Pn} (h : Outs late mark S O S') (he : ∀ x, S x = []) : O = [] ∧ S' = S := by
  induction h with
  | none => exact ⟨rfl, rfl⟩
  | more h hp _ _ ih =>
    rw [ih.2, he] at hp
    simp at hp
theorem outs_one {late mark : Int} {S S' : Lists} {O : List Pn} {p : Pn} (h : Outs late mark S O S') (he : S p.key = [p]) (hn : ∀ x, x ≠ p.key → S x = []) : (O = [] ∧ S' = S) ∨ (O = [p] ∧ ∀ x, S' x = []) := by
  induction h with
  | none => exact .inl ⟨rfl, rfl⟩
  | @more O1 S1 q k h hp _ _ ih =>
    rcases ih with ⟨rfl, rfl⟩ | ⟨rfl, h2⟩
    · by_cases e : q.key = p.key
      · rw [e, he] at hp
        obtain ⟨h1, h2⟩ := List.getElem?_eq_some_iff.1 hp
        simp only [List.length_singleton] at h1
        obtain rfl : k = 0 := by omega
        obtain rfl : p = q := by simpa using h2
        refine .inr ⟨rfl, fun x => ?_⟩
        by_cases ex : x = p.key
        · subst ex; rw [set_same, he]; rfl
        · rw [set_other _ _ ex]; exact hn x ex
      · rw [hn _ e] at hp
        simp at hp
    · rw [h2] at hp
      simp at hp
abbrev ka : ByteArray := ⟨#[97]⟩
abbrev pa : Pn := ⟨ka, 0, 10, 1, 5, 5, 5⟩
abbrev cf1 : C8 := ⟨0, 10, 0, 0, 0, 1, 1, 1⟩
theorem tk_one {S' : Lists} {c : Nat} (h : Tk 0 ka 5 0 (-1) 0 10 10 (fun _ => []) 1 c S') : c = 1 ∧ S' ka = [pa] ∧ ∀ x, x ≠ ka → S' x = [] := by
  cases h with
  | over h ho => exact absurd ho (by simp)
  | put h ho hp =>
    cases h with
    | zero =>
      rcases hp with ⟨h2, _⟩ | ⟨-, k, a, hp⟩
      · exact absurd h2 (by decide)
      · obtain rfl : k = 0 := by have := a.le; simpa using this
        rcases hp with ⟨p, hp, _⟩ | ⟨-, rfl⟩
        · simp at hp
        · refine ⟨rfl, by rw [set_same]; simp [one], fun x hx => set_other _ _ hx⟩
theorem told_one : Asg.Told 0 10 0 0 0 3 (some (1, 0, 10, 10)) := by
  have h := Asg.Told.slidesYes (k := 0) (s := 10) (l := 0) (g := 0) (z := 0) (t := 3) 0 (.inl rfl) (by omega) (by simp [Asg.slideOf]) (by simp [Asg.slideOf]) (by simp [Asg.slideOf]) (by simp [Asg.slideOf])
  simpa [Asg.slideOf] using h
theorem may_one : Asg.may cf1.k cf1.s cf1.l cf1.g cf1.z cf1.h cf1.r cf1.c := by simp [Asg.may, Asg.mayW]
theorem may_zero : ¬ Asg.may 0 0 0 0 0 0 0 0 := by simp [Asg.may]
theorem ok_empty (kind : Int) (N : Nat) : Ok kind (fun _ => []) N := ⟨fun x => ⟨0, Cnt.nil, Nat.zero_le _⟩, fun x p hp => (by cases hp), fun _ x => ⟨fun p hp => (by cases hp), List.Pairwise.nil⟩⟩
theorem dues_empty (y : Tmr.Tm) : False ↔ duesOf (fun _ => []) y := ⟨fun h => h.elim, fun ⟨p, hp, _⟩ => by cases hp⟩
theorem Gq.dues {w : World} {g m tg n cnt : Nat} {cf : C8} {S : Lists} {M M' : Tmr.Tm → Prop} {f : ByteArray → Option Value} {FT Bk : Nat → Prop} (h : Gq w g m tg cf S M n cnt f FT Bk) (e : ∀ y, M y ↔ M' y) : Gq w g m tg cf S M' n cnt f FT Bk :=
  ⟨h.lies, h.map, h.ts.congr e, h.ne, h.ng, h.nm, h.lists⟩

set_option maxRecDepth 100000 in
set_option maxHeartbeats 4000000 in
theorem head_ok (w : World) : Calls Tryz.prog 4 #[] w fun e w' => e = .returned (.bool true) ∧ Below w.heap.size w w' := by
  go_enter Tryz.func4, Tryz.ntmps4
  go_wp2_with fail
  refine (new_ok cf1 _ (Lib.hid may_one) (by decide)).mono ?_
  rintro r w1 ⟨g, m, tg, FT, rfl, Q1, F1, k1⟩
  have Q1 := Lib.hid (Q1.dues dues_empty)
  have F1 := Lib.hid F1
  have K1 := Lib.hid k1
  clear k1
  go_wp2_with fail
  refine (new_no ⟨0, 0, 0, 0, 0, 0, 0, 0⟩ _ (Lib.hid may_zero) (by decide)).mono ?_
  rintro r w2 ⟨rfl, k2⟩
  have Q2 := Lib.hid (Q1.out.next k2)
  have K2 := Lib.hid (after K1.out k2)
  clear k2 Q1
  go_wp2_with fail
  refine (take_ok (N := 0) ka 3 5 (-1) (some (1, 0, 10, 10)) _ Q2 (Lib.hid (ok_empty _ _)) (by omega) (Lib.hid (fun b hb => hb.elim)) (by omega) (by omega) (Lib.hid may_one) (Lib.hid (by decide)) (Lib.hid rfl) (Lib.hid rfl) (by decide) (Lib.hid told_one)).mono ?_
  rintro r w3 ⟨sv, O, S1, code, c, S', n', cnt', f', FT', Bk', rfl, ho, -, ⟨hk, hcode⟩, E3⟩
  obtain ⟨rfl, rfl⟩ := outs_empty ho (fun _ => rfl)
  obtain ⟨rfl, hp, hnp⟩ := tk_one hk
  obtain rfl : code = 0 := by simpa using hcode
  have E3 := Lib.hid E3
  have HP := Lib.hid hp
  have HN := Lib.hid hnp
  clear hp hnp hk hcode ho
  obtain ⟨b0, -, i0⟩ := E3.out.out.is
  obtain ⟨A0, c0, e0⟩ := i0.len
  subst e0
  clear i0
  go_wp2_with fail
  refine (settle_ok 10 _ (Lib.hid E3.out.q) (Lib.hid (E3.out.ok.fine (by omega))) (Lib.hid fun b hb => (E3.out.bk b hb).2) (by have := E3.out.cnt; omega) (Lib.hid rfl) (Lib.hid rfl)).mono ?_
  rintro r w4 ⟨v4, O4, S4, n4, cnt4, f4, FT4, Bk4, rfl, Q4, NO⟩
  have hO : O4 = [pa] ∧ ∀ x, S4 x = [] := by
    rcases outs_one (p := pa) Q4.outs HP.out HN.out with ⟨rfl, rfl⟩ | h
    · exact absurd (show (10 : Int) + 0 ≤ 10 by omega) (NO ka pa (by rw [HP.out]; simp))
    · exact h
  obtain ⟨rfl, hS⟩ := hO
  obtain rfl : n4 = 0 := by
    have := Q4.len
    have := E3.out.n
    simp at this
    simp at *
    omega
  have Q4 := Lib.hid Q4
  obtain ⟨b4, -, i4⟩ := Q4.out.out.is
  have I4 := Lib.hid i4
  obtain ⟨off, c4, e4, -, -, -, hcell⟩ := i4.some_ Pn.ok (by simp)
  subst e4
  have q0 := hcell 0 pa rfl 0 _ rfl
  have q1 := hcell 0 pa rfl 1 _ rfl
  have q2 := hcell 0 pa rfl 2 _ rfl
  have q3 := hcell 0 pa rfl 3 _ rfl
  have q4 := hcell 0 pa rfl 4 _ rfl
  have q5 := hcell 0 pa rfl 5 _ rfl
  have q6 := hcell 0 pa rfl 6 _ rfl
  simp only [Nat.zero_mul, Nat.zero_add, Nat.add_zero] at q0 q1 q2 q3 q4 q5 q6
  have qe := Errs.eql_code w4 2 2
  have qp := Pn.eql_ok pa pa w4
  clear hcell i4 NO
  go_wp2_with fail
  refine (len_ok _ (Lib.hid Q4.out.q) (Lib.hid Q4.out.fine)).mono ?_
  rintro r w5 ⟨rfl, k5⟩
  clear q0 q1 q2 q3 q4 q5 q6 qe qp
  go_wp2
  go_ret
  have B2 := E3.out.v.trans Q4.out.v
  exact ⟨rfl, (K2.out.trans (B2.below F1.out K2.out.size)).trans (k5.mono (Nat.le_trans K2.out.size B2.size))⟩
end Grp
end Go.Proofs.YtbdocnkpjlpfmaaGreat
