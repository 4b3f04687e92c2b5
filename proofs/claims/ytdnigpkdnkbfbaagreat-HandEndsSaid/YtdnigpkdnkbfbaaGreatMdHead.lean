/-
  model's Out, Mark, Panes; calls that came in, whether they are few; the head of the statements of layer 13 (the document's example) answers true.
  Layer 13's statements: calls that came in; what a call does to a model's numbers: what isn't OK changes nothing, the watermark and the output never fall, the output is fine.
-/
import Derived.Test.YtdnigpkdnkbfbaaGreatMdAll
import Derived.Test.YtdnigpkdnkbfbaaGreatErrs
import Derived.Test.YtdnigpkdnkbfbaaGreatGrAll
import Derived.Test.YtdnigpkdnkbfbaaGreatOpens
namespace Go.Proofs.YtdnigpkdnkbfbaaGreat
open Go.ChangeShapes Go.WideShapes Go.ChangeAt Go.RowKit
set_option maxRecDepth 100000
namespace Md
open Small Foot Pane Grp Ca
set_option linter.unusedVariables false
section
variable {mo N : Nat} {F : Nat → Prop} {cf : C8} {S : Lists} {mark : Int} {L : List Pn} {cl : Bool}
set_option maxHeartbeats 1600000 in
theorem out_ok (w : World) (H : Hid (Is w mo F cf S N mark L cl)) (hN : N ≤ 8880) :
    Calls Tryz.prog 29 #[gp mo] w fun r w' => ∃ v, r = .returned v ∧ Sl.Own Pn.k w.heap.size w' v L ∧ Below w.heap.size w w' := by
  obtain ⟨g, Fg, lg, lv, n, q, hF⟩ := H.out
  have m10 := q.lies.cell (i := 10) rfl
  have few := q.few
  have G := Lib.hid q.log
  clear q
  go_enter Tryz.func29, Tryz.ntmps29
  go_wp2_with fail
  refine (Out.all_ok lg lv L w G (by omega)).mono ?_
  rintro r w1 ⟨v, rfl, o1, k1⟩
  have O1 := Lib.hid o1
  have K1 := Lib.hid k1
  clear o1 k1 m10
  go_wp2
  go_ret
  exact ⟨_, rfl, O1.out, K1.out⟩
end

/-- calls that are few, of short keys -/
def Fw (n : Nat) (f : Nat → Cl) (most : Nat) : Prop := n ≤ most ∧ ∀ i, i < n → (f i).key.size ≤ 100
/-- calls that came in -/
def Row (A : Option Addr) (n : Nat) (f : Nat → Cl) (w : World) : Prop := 0 < n → ∃ b off, A = some ⟨b, off, none⟩ ∧ ∀ i, i < n → ∀ j v, (f i).cl[j]? = some v → w.cell? ⟨b, off + (i * 7 + j), none⟩ = some v
theorem Row.next {A : Option Addr} {n : Nat} {f : Nat → Cl} {w w' : World} (h : Row A n f w) (k : Below w.heap.size w w') : Row A n f w' := fun h0 => by
  obtain ⟨b, off, e, hc⟩ := h h0
  exact ⟨b, off, e, fun i hi j v hj => cell_keep k (hc i hi j v hj)⟩
set_option maxHeartbeats 4000000 in
theorem few_ok (A : Option Addr) (n cp : Nat) (f : Nat → Cl) (most : Nat) (b : Bool) (w : World) (hb : Hid (b = true ↔ Fw n f most)) (hm : most ≤ 1000) (hn : n ≤ maxLen) (hc : Hid (Row A n f w)) :
    Calls Tryz.prog 24 #[.slice A n cp, .int .i64 most] w fun r w' => r = .returned (.int .i64 (cond b 1 0)) ∧ Below w.heap.size w w' := by
  unfold maxLen at hn
  go_enter Tryz.func24, Tryz.ntmps24
  go_wp2_with fail
  go_loopw [5] (fun si wr => ∃ i : Nat, i ≤ n ∧ i ≤ most ∧ si = .int .i64 i ∧ Hid (∀ j, j < i → (f j).key.size ≤ 100) ∧ wr = w) (fun si _ => n - (intOf si).toNat)
  case atStart => exact ⟨0, by omega, by omega, rfl, Lib.hid (fun j hj => absurd hj (by omega)), rfl⟩
  case round =>
    obtain ⟨i, hi, him, rfl, K, rfl⟩ := hrel
    by_cases h1 : i < n
    · have i1 : (i : Int) < n := by omega
      by_cases h2 : i < most
      · have i2 : (i : Int) < most := by omega
        obtain ⟨ab, off, rfl, hcell⟩ := hc.out (by omega)
        have c1 := hcell i h1 1 _ rfl
        rw [← Nat.add_assoc] at c1
        by_cases h3 : 100 < (f i).key.size
        · have e1 : decide ((100 : Int) < (f i).key.size) = true := decide_eq_true (by omega)
          have e2 : decide (100 < (f i).key.size) = true := decide_eq_true h3
          obtain rfl : b = false := by
            cases b with
            | false => rfl
            | true => have := (hb.out.1 rfl).2 i h1; omega
          clear h3 hcell
          go_wp2
          go_ret
          exact ⟨rfl, Below.refl _ _⟩
        · have e1 : decide ((100 : Int) < (f i).key.size) = false := decide_eq_false (by omega)
          have e2 : decide (100 < (f i).key.size) = false := decide_eq_false h3
          have h3 := Lib.hid h3
          clear hcell
          go_wp2_with fail
          exact ⟨⟨i + 1, by omega, by omega, by go_num, Lib.hid (fun j hj => by
            rcases Nat.lt_or_ge j i with q | q
            · exact K.out j q
            · obtain rfl : j = i := by omega
              have := h3.out; omega), trivial⟩, by simp [intOf]; omega⟩
      · have i2 : ¬ (i : Int) < most := by omega
        obtain rfl : b = false := by
          cases b with
          | false => rfl
          | true => have := (hb.out.1 rfl).1; omega
        have i3 : (most : Int) < n := by omega
        go_wp2
        go_ret
        exact ⟨rfl, Below.refl _ _⟩
    · obtain rfl : i = n := by omega
      have i1 : ¬ (i : Int) < i := by omega
      obtain rfl : b = true := hb.out.2 ⟨him, K.out⟩
      have i3 : ¬ (most : Int) < i := by omega
      go_wp2
      go_ret
      exact ⟨rfl, Below.refl _ _⟩

end Md
end Go.Proofs.YtdnigpkdnkbfbaaGreat

namespace Go.Proofs.YtdnigpkdnkbfbaaGreat
open Go.ChangeShapes Go.WideShapes Go.ChangeAt Go.RowKit
set_option maxRecDepth 100000
instance : Inhabited Cl := ⟨⟨0, ⟨#[]⟩, 0, 0, 0, 0, 0⟩⟩
namespace Opens
theorem open_calls {H : Type} {enc : TypeId × Value → H} {w : World} {base : Nat} {held : Bool} {spare : Nat → Bool} {r : Reach} {b0 : Nat} {v : Value} {d : DataW H} {p : List MemPlace}
    (hv : Value.okWide Tryz.prog w r b0 68 v) (h : DataW.Trod enc Tryz.prog w base spare held 68 v d p) :
    ∃ x : Option Addr × Nat × Nat × (Nat → Cl), v = .slice x.1 x.2.1 x.2.2.1 ∧ IsRows Cl.cl 7 Cl.Fit w x :=
  open_rows Cl.cl Cl.Fit Tryz.underlying68 Ca.cells_call (by omega) (fun m cs y h => Ca.call_cells m cs y h) hv h
end Opens
namespace Md
open Small Foot Pane Grp Ca
theorem lit_len {base n c : Nat} {A : Option Addr} {w : World} {L : List Pn} (h : Sl.Own Pn.k base w (.slice A n c) L) : n = L.length := by
  obtain ⟨b, -, i⟩ := h.is
  obtain ⟨A', c', e⟩ := i.len
  injection e
section
variable {cf : C8} {S S' : Lists} {mark mark' : Int} {L L' P : List Pn} {cl cl' : Bool} {x : Cl} {z : Option (Nat × Int × Int × Int)} {code : Int} {c : Nat}
/-- what isn't OK, and a Rebalance, changes nothing -/
theorem MDid.still' (h : MDid cf S mark L cl x z code P c S' mark' L' cl') (hz : ∀ nn a d l, z = some (nn, a, d, l) → nn ≤ 16 ∧ 1 ≤ l) (q : code ≠ 0 ∨ x.op = 6) : P = [] ∧ S' = S ∧ mark' = mark ∧ L' = L := by
  cases h with
  | bad => exact ⟨rfl, rfl, rfl, rfl⟩
  | closed => exact ⟨rfl, rfl, rfl, rfl⟩
  | stale => exact ⟨rfl, rfl, rfl, rfl⟩
  | put _ _ ho tk =>
    refine ⟨rfl, ?_, rfl, rfl⟩
    rcases q with q | q
    · exact (Gr.taken16 tk hz).2.2 q
    · simp only [puts] at ho; omega
  | up _ _ ho =>
    rcases q with q | q
    · exact absurd rfl q
    · omega
  | query _ _ ho =>
    rcases q with q | q
    · exact absurd rfl q
    · omega
  | still => exact ⟨rfl, rfl, rfl, rfl⟩
  | shut => exact ⟨rfl, rfl, rfl, rfl⟩
theorem MDid.grow (h : MDid cf S mark L cl x z code P c S' mark' L' cl') : L.length ≤ L'.length ∧ mark ≤ mark' := by
  cases h with
  | up _ _ _ ht => exact ⟨by simp, by omega⟩
  | _ => exact ⟨Nat.le_refl _, Int.le_refl _⟩
theorem MDid.c16 (h : MDid cf S mark L cl x z code P c S' mark' L' cl') (hz : ∀ nn a d l, z = some (nn, a, d, l) → nn ≤ 16 ∧ 1 ≤ l) : c ≤ 16 := by
  cases h with
  | put _ _ _ tk => exact (Gr.taken16 tk hz).1
  | _ => exact Nat.zero_le _
theorem MDid.wf (h : MDid cf S mark L cl x z code P c S' mark' L' cl') (h1 : (Lit.int .i64 mark).wf = true) (h2 : (Lit.int .i64 x.t).wf = true) : (Lit.int .i64 mark').wf = true := by
  cases h with
  | up => exact h2
  | _ => exact h1
/-- the output is fine, and what went out is over -/
def FineOut (cf : C8) (mark : Int) (L : List Pn) : Prop := L.Pairwise FineTwo ∧ ∀ p ∈ L, p.e + cf.z ≤ mark
theorem MDid.fine (h : MDid cf S mark L cl x z code P c S' mark' L' cl') (hf : FineOut cf mark L) (no : NoneOver cf.z mark S) (F : Fine S) : FineOut cf mark' L' := by
  cases h with
  | up _ _ _ ht o _ =>
    refine ⟨List.pairwise_append.2 ⟨hf.1, o.fine F, fun a ha b hb _ => ?_⟩, fun p hp => ?_⟩
    · have h1 := hf.2 a ha
      have h2 := no _ b (o.mem F b hb).1
      exact ⟨by omega, fun e => by omega⟩
    · rcases List.mem_append.1 hp with hp | hp
      · have := hf.2 p hp; omega
      · exact (o.mem F p hp).2
  | _ => exact hf
end
end Md
end Go.Proofs.YtdnigpkdnkbfbaaGreat
