/-
  model's Out, Mark, Panes; calls that came in, whether they are few; the head of the statements of layer 13 (the document's example) answers true.
  Layer 13's statements: calls that came in; what a call does to a model's numbers: what isn't OK changes nothing, the watermark and the output never fall, the output is fine.
-/
import Derived.Test.YtemklcckhpchaaaGreatMdAll
import Derived.Test.YtemklcckhpchaaaGreatErrs
import Derived.Test.YtemklcckhpchaaaGreatRefFine
import Derived.Test.YtemklcckhpchaaaGreatOpens
namespace Go.Proofs.YtemklcckhpchaaaGreat
open Go.ChangeShapes Go.WideShapes Go.ChangeAt Go.RowKit
set_option maxRecDepth 100000
namespace Md
open Small Foot Pane Grp Ca
set_option linter.unusedVariables false
section
variable {mo N : Nat} {F : Nat → Prop} {cf : C8} {S : Lists} {mark : Int} {L : List Pn} {cl : Bool}
set_option maxHeartbeats 1600000 in
theorem out_ok (w : World) (H : Hid (Is w mo F cf S N mark L cl)) (hN : N ≤ 8880) :
    Calls Tryz.prog 14 #[gp mo] w fun r w' => ∃ v, r = .returned v ∧ Sl.Own Pn.k w.heap.size w' v L ∧ Below w.heap.size w w' := by
  obtain ⟨g, Fg, lg, lv, n, q, hF⟩ := H.out
  have m10 := q.lies.cell (i := 10) rfl
  have few := q.few
  have G := Lib.hid q.log
  clear q
  go_enter Tryz.func14, Tryz.ntmps14
  go_wp2_with fail
  refine (Out.all_ok lg lv L w G (by omega)).mono ?_
  rintro r w1 ⟨v, rfl, o1, k1⟩
  have O1 := Lib.hid o1
  have K1 := Lib.hid k1
  clear o1 k1 m10
  go_wp2
  go_ret
  exact ⟨_, rfl, O1.out, K1.out⟩
set_option maxHeartbeats 1600000 in
theorem mark_ok (w : World) (H : Hid (Is w mo F cf S N mark L cl)) : Calls Tryz.prog 15 #[gp mo] w fun r w' => r = .returned (.int .i64 mark) ∧ Below w.heap.size w w' := by
  obtain ⟨g, Fg, lg, lv, n, q, hF⟩ := H.out
  have m9 := q.lies.cell (i := 9) rfl
  clear q
  go_enter Tryz.func15, Tryz.ntmps15
  go_wp2
  go_ret
  exact ⟨rfl, Below.refl _ _⟩
set_option maxHeartbeats 1600000 in
theorem panes_ok (key : ByteArray) (w : World) (H : Hid (Is w mo F cf S N mark L cl)) (hN : N ≤ 8880) (hk : key.size ≤ maxLen) :
    Calls Tryz.prog 16 #[gp mo, .string key] w fun r w' => ∃ v, r = .returned v ∧ Sl.Own Pn.k w.heap.size w' v (S key) ∧ Below w.heap.size w w' := by
  obtain ⟨g, Fg, lg, lv, n, q, hF⟩ := H.out
  have m8 := q.lies.cell (i := 8) rfl
  have G := Lib.hid q.grp
  clear q
  go_enter Tryz.func16, Tryz.ntmps16
  go_wp2_with fail
  refine (Gr.panes_ok key w G hN hk).mono ?_
  rintro r w1 ⟨v, rfl, o1, k1⟩
  have O1 := Lib.hid o1
  have K1 := Lib.hid k1
  clear o1 k1 m8
  go_wp2
  go_ret
  exact ⟨_, rfl, O1.out, K1.out⟩
end

/-- calls that are few, of short keys -/
def Fw (n : Nat) (f : Nat → Cl) (most : Nat) : Prop := n ≤ most ∧ ∀ i, i < n → (f i).key.size ≤ 100
/-- calls that came in -/
def Row (A : Option Addr) (n : Nat) (f : Nat → Cl) (w : World) : Prop := 0 < n → ∃ b off, A = some ⟨b, off, none⟩ ∧ ∀ i, i < n → ∀ j v, (f i).cl[j]? = some v → w.cell? ⟨b, off + (i * 7 + j), none⟩ = some v
theorem Row.next {A : Option Addr} {n : Nat} {f : Nat → Cl} {w w' : World} (h : Row A n f w) (k : Below w.heap.size w w') : Row A n f w' := fun h0 => by
  obtain ⟨b, off, e, hc⟩ := h h0
  exact ⟨b, off, e, fun i hi j v hj => cell_keep k (hc i hi j v hj)⟩
set_option maxHeartbeats 4000000 in
theorem few_ok (A : Option Addr) (n cp : Nat) (f : Nat → Cl) (most : Nat) (b : Bool) (w : World) (hb : Hid (b = true ↔ Fw n f most)) (hm : most ≤ 1000) (hn : n ≤ maxLen) (hc : Hid (Row A n f w)) :
    Calls Tryz.prog 8 #[.slice A n cp, .int .i64 most] w fun r w' => r = .returned (.int .i64 (cond b 1 0)) ∧ Below w.heap.size w w' := by
  unfold maxLen at hn
  go_enter Tryz.func8, Tryz.ntmps8
  go_wp2_with fail
  go_loopw [5] (fun si wr => ∃ i : Nat, i ≤ n ∧ i ≤ most ∧ si = .int .i64 i ∧ Hid (∀ j, j < i → (f j).key.size ≤ 100) ∧ wr = w) (fun si _ => n - (intOf si).toNat)
  case atStart => exact ⟨0, by omega, by omega, rfl, Lib.hid (fun j hj => absurd hj (by omega)), rfl⟩
  case round =>
    obtain ⟨i, hi, him, rfl, K, rfl⟩ := hrel
    by_cases h1 : i < n
    · have i1 : (i : Int) < n := by omega
      by_cases h2 : i < most
      · have i2 : (i : Int) < most := by omega
        obtain ⟨ab, off, rfl, hcell⟩ := hc.out (by omega)
        have c1 := hcell i h1 1 _ rfl
        rw [← Nat.add_assoc] at c1
        by_cases h3 : 100 < (f i).key.size
        · have e1 : decide ((100 : Int) < (f i).key.size) = true := decide_eq_true (by omega)
          have e2 : decide (100 < (f i).key.size) = true := decide_eq_true h3
          obtain rfl : b = false := by
            cases b with
            | false => rfl
            | true => have := (hb.out.1 rfl).2 i h1; omega
          clear h3 hcell
          go_wp2
          go_ret
          exact ⟨rfl, Below.refl _ _⟩
        · have e1 : decide ((100 : Int) < (f i).key.size) = false := decide_eq_false (by omega)
          have e2 : decide (100 < (f i).key.size) = false := decide_eq_false h3
          have h3 := Lib.hid h3
          clear hcell
          go_wp2_with fail
          exact ⟨⟨i + 1, by omega, by omega, by go_num, Lib.hid (fun j hj => by
            rcases Nat.lt_or_ge j i with q | q
            · exact K.out j q
            · obtain rfl : j = i := by omega
              have := h3.out; omega), trivial⟩, by simp [intOf]; omega⟩
      · have i2 : ¬ (i : Int) < most := by omega
        obtain rfl : b = false := by
          cases b with
          | false => rfl
          | true => have := (hb.out.1 rfl).1; omega
        have i3 : (most : Int) < n := by omega
        go_wp2
        go_ret
        exact ⟨rfl, Below.refl _ _⟩
    · obtain rfl : i = n := by omega
      have i1 : ¬ (i : Int) < i := by omega
      obtain rfl : b = true := hb.out.2 ⟨him, K.out⟩
      have i3 : ¬ (most : Int) < i := by omega
      go_wp2
      go_ret
      exact ⟨rfl, Below.refl _ _⟩

/-! ### the document's example -/
abbrev ka : ByteArray := ⟨#[97]⟩
abbrev pa : Pn := ⟨ka, 0, 10, 1, 0, 0, 0⟩
abbrev cf1 : C8 := ⟨0, 10, 0, 0, 0, 1, 1, 1⟩
abbrev least : Int := -9223372036854775808
abbrev sa (x : ByteArray) : List Pn := if x = ka then [pa] else []
theorem may_one : Asg.may cf1.k cf1.s cf1.l cf1.g cf1.z cf1.h cf1.r cf1.c := by simp [Asg.may, Asg.mayW]
theorem may_zero : ¬ Asg.may 0 0 0 0 0 0 0 0 := by simp [Asg.may]
theorem told3 : Asg.Told 0 10 0 0 0 3 (some (1, 0, 10, 10)) := by
  have h := Asg.Told.slidesYes (k := 0) (s := 10) (l := 0) (g := 0) (z := 0) (t := 3) 0 (.inl rfl) (by omega) (by simp [Asg.slideOf]) (by simp [Asg.slideOf]) (by simp [Asg.slideOf]) (by simp [Asg.slideOf])
  simpa [Asg.slideOf] using h
theorem told4 : Asg.Told 0 10 0 0 0 4 (some (1, 0, 10, 10)) := by
  have h := Asg.Told.slidesYes (k := 0) (s := 10) (l := 0) (g := 0) (z := 0) (t := 4) 0 (.inl rfl) (by omega) (by simp [Asg.slideOf]) (by simp [Asg.slideOf]) (by simp [Asg.slideOf]) (by simp [Asg.slideOf])
  simpa [Asg.slideOf] using h
theorem cf1_fit : (cfOf cf1).Fit := by unfold Cf.Fit; decide
theorem ex_may (t : Int) : mayC (cfOf cf1) ⟨1, ka, t, 0, 0, 0, 0⟩ := ⟨may_one, by show (1 : Int) ≤ 1 ∧ (1 : Int) ≤ 7; decide, fun _ => by show 1 ≤ ka.size ∧ ka.size ≤ 20; decide, fun h => absurd (show (1 : Int) = 4 from h) (by decide), fun h => absurd (show (1 : Int) = 6 from h) (by decide)⟩
theorem ex_up : mayC (cfOf cf1) ⟨3, ⟨#[]⟩, 10, 0, 0, 0, 0⟩ := ⟨may_one, by decide, fun h => absurd h (by decide), fun h => absurd h (by decide), fun h => absurd h (by decide)⟩
theorem ex_fit (op t : Int) (key : ByteArray) (hk : key.size ≤ 9223372036854775807) (h : (Lit.int .i64 op).wf = true) (k : (Lit.int .i64 t).wf = true) : (⟨op, key, t, 0, 0, 0, 0⟩ : Cl).Fit := by
  have z : (Lit.int .i64 0).wf = true := by decide
  exact ⟨h, hk, k, z, z, z, z⟩
theorem tk_one {S' : Lists} {c : Nat} (h : Tk 0 ka 0 0 least 0 10 10 (fun _ => []) 1 c S') : c = 1 ∧ S' = sa := by
  cases h with
  | over h ho => exact absurd ho (by simp [least])
  | put h ho hp =>
    cases h with
    | zero =>
      rcases hp with ⟨h2, _⟩ | ⟨-, k, a, hp⟩
      · exact absurd h2 (by decide)
      · obtain rfl : k = 0 := by have := a.le; simpa using this
        rcases hp with ⟨p, hp, _⟩ | ⟨-, rfl⟩
        · simp at hp
        · refine ⟨rfl, funext fun x => ?_⟩
          by_cases e : x = ka
          · subst e; rw [set_same]; simp [one, sa]
          · rw [set_other _ _ e]; simp [sa, e]
theorem ex1 {code mark' : Int} {P L' : List Pn} {c : Nat} {S' : Lists} {cl' : Bool} (h : MDid cf1 (fun _ => []) least [] false ⟨1, ka, 3, 0, 0, 0, 0⟩ (some (1, 0, 10, 10)) code P c S' mark' L' cl') : code = 0 ∧ c = 1 ∧ S' = sa ∧ mark' = least ∧ L' = [] ∧ cl' = false := by
  cases h with
  | bad h => exact absurd (ex_may 3) h
  | closed _ hc => cases hc
  | stale _ _ ho => exact absurd ho (by decide)
  | put _ _ _ tk =>
    obtain ⟨tk, rfl⟩ := tk
    obtain ⟨rfl, rfl⟩ := tk_one tk
    exact ⟨rfl, rfl, rfl, rfl, rfl, rfl⟩
  | up _ _ ho => exact absurd ho (by decide)
  | query _ _ ho => exact absurd ho (by decide)
  | still _ _ ho => exact absurd ho (by decide)
  | shut _ _ ho => exact absurd ho (by decide)
theorem outs_sa {S' : Lists} {O : List Pn} (h : Outs 0 10 sa O S') : (O = [] ∧ S' = sa) ∨ (O = [pa] ∧ ∀ x, S' x = []) := by
  induction h with
  | none => exact .inl ⟨rfl, rfl⟩
  | @more O1 S1 q k h hp _ _ ih =>
    rcases ih with ⟨rfl, rfl⟩ | ⟨rfl, h2⟩
    · by_cases e : q.key = ka
      · simp only [sa, e, if_true] at hp
        obtain ⟨h1, h2⟩ := List.getElem?_eq_some_iff.1 hp
        simp only [List.length_singleton] at h1
        obtain rfl : k = 0 := by omega
        obtain rfl : pa = q := by simpa using h2
        refine .inr ⟨rfl, fun x => ?_⟩
        by_cases ex : x = ka
        · subst ex; rw [show (pa.key : ByteArray) = ka from rfl, set_same]; simp [sa]
        · rw [set_other _ _ ex]; simp [sa, ex]
      · simp only [sa, e, if_false] at hp
        simp at hp
    · rw [h2] at hp
      simp at hp
theorem ex2 {code mark' : Int} {P L' : List Pn} {c : Nat} {S' : Lists} {cl' : Bool} {z : Option (Nat × Int × Int × Int)} (h : MDid cf1 sa least [] false ⟨3, ⟨#[]⟩, 10, 0, 0, 0, 0⟩ z code P c S' mark' L' cl') : code = 0 ∧ c = 0 ∧ S' = (fun _ => []) ∧ mark' = 10 ∧ L' = [pa] ∧ cl' = false := by
  cases h with
  | bad h => exact absurd ex_up h
  | closed _ hc => cases hc
  | stale _ _ _ ht => exact absurd ht (by decide)
  | put _ _ ho => exact absurd ho (by decide)
  | up _ _ _ _ o no =>
    rcases outs_sa o with ⟨rfl, rfl⟩ | ⟨rfl, h2⟩
    · exact absurd (show (10 : Int) + 0 ≤ 10 by omega) (no ka pa (by simp [sa]))
    · exact ⟨rfl, rfl, funext h2, rfl, rfl, rfl⟩
  | query _ _ ho => exact absurd ho (by decide)
  | still _ _ ho => exact absurd ho (by decide)
  | shut _ _ ho => exact absurd ho (by decide)
theorem ex3 {code mark' : Int} {P L' : List Pn} {c : Nat} {S' : Lists} {cl' : Bool} (h : MDid cf1 (fun _ => []) 10 [pa] false ⟨1, ka, 4, 0, 0, 0, 0⟩ (some (1, 0, 10, 10)) code P c S' mark' L' cl') : code = 1 ∧ c = 0 ∧ mark' = 10 ∧ L' = [pa] := by
  cases h with
  | bad h => exact absurd (ex_may 4) h
  | closed _ hc => cases hc
  | stale _ _ ho => exact absurd ho (by decide)
  | put _ _ _ tk =>
    obtain ⟨tk, rfl⟩ := tk
    cases tk with
    | over h ho => cases h; exact ⟨rfl, rfl, rfl, rfl⟩
    | put h ho _ => exact absurd (show (0 : Int) + (0 : Nat) * 10 + 10 + 0 ≤ 10 by decide) ho
  | up _ _ ho => exact absurd ho (by decide)
  | query _ _ ho => exact absurd ho (by decide)
  | still _ _ ho => exact absurd ho (by decide)
  | shut _ _ ho => exact absurd ho (by decide)

set_option maxHeartbeats 8000000 in
theorem up_ok (w : World) : Calls Tryz.prog 5 #[] w fun e w' => e = .returned (.bool true) ∧ Below w.heap.size w w' := by
  go_enter Tryz.func5, Tryz.ntmps5
  go_wp2_with fail
  refine (new_ok cf1 _ (Lib.hid may_one) (by decide)).mono ?_
  rintro r w1 ⟨mo, F, rfl, H1, F1, k1⟩
  have H1 := Lib.hid H1
  have F1 := Lib.hid F1
  have K1 := Lib.hid k1
  clear k1
  go_wp2_with fail
  refine (new_no ⟨0, 0, 0, 0, 0, 0, 0, 0⟩ _ (Lib.hid may_zero) (by decide)).mono ?_
  rintro r w2 ⟨rfl, k2⟩
  have H2 := Lib.hid (H1.out.next k2)
  have K2 := Lib.hid (after K1.out k2)
  clear k2 H1
  go_wp2_with fail
  refine (do_ok ⟨1, ka, 3, 0, 0, 0, 0⟩ (some (1, 0, 10, 10)) w2 H2 (by omega) (Lib.hid may_one) (Lib.hid cf1_fit) (Lib.hid (ex_fit 1 3 ka (by decide) (by decide) (by decide))) (by decide) (Lib.hid (by decide)) (Lib.hid told3)).mono ?_
  rintro r w3 ⟨rv, code, P, c, S', mark', L', cl', F', rfl, hd, -, h3, v3, o3⟩
  obtain ⟨rfl, rfl, rfl, rfl, rfl, rfl⟩ := ex1 hd
  have s2 := K2.out.size
  have H3 := Lib.hid h3
  have K3 := Lib.hid (K2.out.trans (v3.below F1.out s2))
  have F3 := Lib.hid (v3.from F1.out s2)
  obtain ⟨A3, n3, c3, rfl⟩ := lit o3
  clear hd h3 v3 o3 H2 s2
  go_wp2_with fail
  refine (do_ok ⟨3, ⟨#[]⟩, 10, 0, 0, 0, 0⟩ _ _ (Lib.hid (H3.out.next (below1 _ _))) (by omega) (Lib.hid may_one) (Lib.hid cf1_fit) (Lib.hid (ex_fit 3 10 ⟨#[]⟩ (by decide) (by decide) (by decide))) (by decide) (Lib.hid (by decide)) (Lib.hid (Asg.tells cf1.k cf1.s cf1.l cf1.g cf1.z cf1.h cf1.r cf1.c 10 (by decide) (by decide) may_one).choose_spec)).mono ?_
  rintro r w4 ⟨rv, code, P4, c, S', mark', L', cl', F4', rfl, hd, -, h4, v4, o4⟩
  obtain ⟨rfl, rfl, rfl, rfl, rfl, rfl⟩ := ex2 hd
  have n3' : ¬ F' w3.heap.size := fun q => by have := H3.out.in _ q; omega
  have s3 : w.heap.size ≤ (w3.alloc (Obj.cells #[.int .i64 0, .slice A3 n3 c3] 39)).heap.size := Nat.le_trans K3.out.size (by simp)
  have A4 := Lib.hid (v4.lies n3' (Lies.new w3 39 [.int .i64 0, .slice A3 n3 c3]))
  have H4 := Lib.hid h4
  have K4 := Lib.hid ((K3.out.trans ((below1 w3 (Obj.cells #[.int .i64 0, .slice A3 n3 c3] 39)).mono K3.out.size)).trans (v4.below F3.out s3))
  have F4 := Lib.hid (v4.from F3.out s3)
  have N4 : Hid (¬ F4' w3.heap.size) := Lib.hid fun q => by
    rcases (v4.new _ q).1 with r | r
    · exact n3' r
    · simp at r; omega
  obtain ⟨A4', n4, c4, rfl⟩ := lit o4
  clear hd h4 v4 o4 H3 n3' s3
  go_wp2_with fail
  refine (do_ok ⟨1, ka, 4, 0, 0, 0, 0⟩ (some (1, 0, 10, 10)) _ (Lib.hid (H4.out.next (below1 _ _))) (by omega) (Lib.hid may_one) (Lib.hid cf1_fit) (Lib.hid (ex_fit 1 4 ka (by decide) (by decide) (by decide))) (by decide) (Lib.hid (by decide)) (Lib.hid told4)).mono ?_
  rintro r w5 ⟨rv, code, P5, c, S', mark', L', cl', F5', rfl, hd, -, h5, v5, o5⟩
  obtain ⟨rfl, rfl, rfl, rfl⟩ := ex3 hd
  have n4' : ¬ F4' w4.heap.size := fun q => by have := H4.out.in _ q; omega
  have A5 := Lib.hid (v5.lies n4' (Lies.new w4 39 [.int .i64 0, .slice A4' n4 c4]))
  have B5 := Lib.hid (v5.lies N4.out (A4.out.next (below1 w4 (Obj.cells #[.int .i64 0, .slice A4' n4 c4] 39))))
  have H5 := Lib.hid h5
  have s4 : w.heap.size ≤ (w4.alloc (Obj.cells #[.int .i64 0, .slice A4' n4 c4] 39)).heap.size := Nat.le_trans K4.out.size (by simp)
  have K5 := Lib.hid ((K4.out.trans ((below1 w4 (Obj.cells #[.int .i64 0, .slice A4' n4 c4] 39)).mono K4.out.size)).trans (v5.below F4.out s4))
  obtain ⟨A5', n5, c5, rfl⟩ := lit o5
  clear hd h5 v5 o5 H4 n4' s4 A4
  go_upto_region 8 with fail
  have Z6 := Lib.hid (Lies.new w5 39 [.int .i64 1, .slice A5' n5 c5])
  have A6 := Lib.hid (A5.out.next (below1 w5 (Obj.cells #[.int .i64 1, .slice A5' n5 c5] 39)))
  have B6 := Lib.hid (B5.out.next (below1 w5 (Obj.cells #[.int .i64 1, .slice A5' n5 c5] 39)))
  have H6 := Lib.hid (H5.out.next (below1 w5 (Obj.cells #[.int .i64 1, .slice A5' n5 c5] 39)))
  have K6 := Lib.hid (after K5.out (below1 w5 (Obj.cells #[.int .i64 1, .slice A5' n5 c5] 39)))
  clear A5 B5 H5 K5
  obtain ⟨gz, hz⟩ : ∃ gz, gz = w5.heap.size := ⟨_, rfl⟩
  rw [← hz] at Z6 ⊢
  clear hz
  generalize w5.alloc (Obj.cells #[.int .i64 1, .slice A5' n5 c5] 39) = w6 at Z6 A6 B6 H6 K6 ⊢
  have a0 := A6.out.cell (i := 0) rfl
  have b0 := B6.out.cell (i := 0) rfl
  have d0 := Z6.out.cell (i := 0) rfl
  have qe := Errs.eql_code w6 2 2
  go_wp2_with fail
  refine (out_ok w6 H6 (by omega)).mono ?_
  rintro r w7 ⟨v, rfl, o7, k7⟩
  obtain ⟨A7, c7, rfl⟩ := (Out.Rd.own o7).len
  have H7 := Lib.hid (H6.out.next k7)
  have K7 := Lib.hid (after K6.out k7)
  clear o7 k7 a0 b0 d0 qe
  go_wp2_with fail
  refine (mark_ok w7 H7).mono ?_
  rintro r w8 ⟨rfl, k8⟩
  have K8 := Lib.hid (after K7.out k8)
  clear k8
  go_wp2
  go_ret
  exact ⟨rfl, K8.out⟩
end Md
end Go.Proofs.YtemklcckhpchaaaGreat

namespace Go.Proofs.YtemklcckhpchaaaGreat
open Go.ChangeShapes Go.WideShapes Go.ChangeAt Go.RowKit
set_option maxRecDepth 100000
instance : Inhabited Cl := ⟨⟨0, ⟨#[]⟩, 0, 0, 0, 0, 0⟩⟩
namespace Opens
theorem open_calls {H : Type} {enc : TypeId × Value → H} {w : World} {base : Nat} {held : Bool} {spare : Nat → Bool} {r : Reach} {b0 : Nat} {v : Value} {d : DataW H} {p : List MemPlace}
    (hv : Value.okWide Tryz.prog w r b0 24 v) (h : DataW.Trod enc Tryz.prog w base spare held 24 v d p) :
    ∃ x : Option Addr × Nat × Nat × (Nat → Cl), v = .slice x.1 x.2.1 x.2.2.1 ∧ IsRows Cl.cl 7 Cl.Fit w x :=
  open_rows Cl.cl Cl.Fit Tryz.underlying24 Ca.cells_call (by omega) (fun m cs y h => Ca.call_cells m cs y h) hv h
end Opens
namespace Md
open Small Foot Pane Grp Ca
theorem lit_len {base n c : Nat} {A : Option Addr} {w : World} {L : List Pn} (h : Sl.Own Pn.k base w (.slice A n c) L) : n = L.length := by
  obtain ⟨b, -, i⟩ := h.is
  obtain ⟨A', c', e⟩ := i.len
  injection e
section
variable {cf : C8} {S S' : Lists} {mark mark' : Int} {L L' P : List Pn} {cl cl' : Bool} {x : Cl} {z : Option (Nat × Int × Int × Int)} {code : Int} {c : Nat}
/-- what isn't OK, and a Rebalance, changes nothing -/
theorem MDid.still' (h : MDid cf S mark L cl x z code P c S' mark' L' cl') (hz : ∀ nn a d l, z = some (nn, a, d, l) → nn ≤ 16 ∧ 1 ≤ l) (q : code ≠ 0 ∨ x.op = 6) : P = [] ∧ S' = S ∧ mark' = mark ∧ L' = L := by
  cases h with
  | bad => exact ⟨rfl, rfl, rfl, rfl⟩
  | closed => exact ⟨rfl, rfl, rfl, rfl⟩
  | stale => exact ⟨rfl, rfl, rfl, rfl⟩
  | put _ _ ho tk =>
    refine ⟨rfl, ?_, rfl, rfl⟩
    rcases q with q | q
    · exact (Gr.taken16 tk hz).2.2 q
    · simp only [puts] at ho; omega
  | up _ _ ho =>
    rcases q with q | q
    · exact absurd rfl q
    · omega
  | query _ _ ho =>
    rcases q with q | q
    · exact absurd rfl q
    · omega
  | still => exact ⟨rfl, rfl, rfl, rfl⟩
  | shut => exact ⟨rfl, rfl, rfl, rfl⟩
theorem MDid.grow (h : MDid cf S mark L cl x z code P c S' mark' L' cl') : L.length ≤ L'.length ∧ mark ≤ mark' := by
  cases h with
  | up _ _ _ ht => exact ⟨by simp, by omega⟩
  | _ => exact ⟨Nat.le_refl _, Int.le_refl _⟩
theorem MDid.c16 (h : MDid cf S mark L cl x z code P c S' mark' L' cl') (hz : ∀ nn a d l, z = some (nn, a, d, l) → nn ≤ 16 ∧ 1 ≤ l) : c ≤ 16 := by
  cases h with
  | put _ _ _ tk => exact (Gr.taken16 tk hz).1
  | _ => exact Nat.zero_le _
theorem MDid.wf (h : MDid cf S mark L cl x z code P c S' mark' L' cl') (h1 : (Lit.int .i64 mark).wf = true) (h2 : (Lit.int .i64 x.t).wf = true) : (Lit.int .i64 mark').wf = true := by
  cases h with
  | up => exact h2
  | _ => exact h1
/-- the output is fine, and what went out is over -/
def FineOut (cf : C8) (mark : Int) (L : List Pn) : Prop := L.Pairwise FineTwo ∧ ∀ p ∈ L, p.e + cf.z ≤ mark
theorem MDid.fine (h : MDid cf S mark L cl x z code P c S' mark' L' cl') (hf : FineOut cf mark L) (no : NoneOver cf.z mark S) (F : Fine S) : FineOut cf mark' L' := by
  cases h with
  | up _ _ _ ht o _ =>
    refine ⟨List.pairwise_append.2 ⟨hf.1, o.fine F, fun a ha b hb _ => ?_⟩, fun p hp => ?_⟩
    · have h1 := hf.2 a ha
      have h2 := no _ b (o.mem F b hb).1
      exact ⟨by omega, fun e => by omega⟩
    · rcases List.mem_append.1 hp with hp | hp
      · have := hf.2 p hp; omega
      · exact (o.mem F p hp).2
  | _ => exact hf
end
end Md
end Go.Proofs.YtemklcckhpchaaaGreat
