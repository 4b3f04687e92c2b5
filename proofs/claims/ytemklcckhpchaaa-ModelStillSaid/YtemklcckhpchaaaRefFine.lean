/-
  Contract of easelref06.Fine: of each key by rising Ends, and no window twice: then it is true.
-/
import Derived.Test.YtemklcckhpchaaaPaneRef
namespace Go.Proofs.Ytemklcckhpchaaa
open Go.ChangeShapes Go.WideShapes Go.ChangeAt Go.RowKit Small
set_option linter.unusedVariables false
namespace Pane

theorem below_drewN (w : World) (n : Nat) : Below w.heap.size w (w.drewN n) := by
  induction n with
  | zero => exact Below.refl _ _
  | succ n ih => exact ih.drew
/-- what Fine asks of two panes, one ahead of the other -/
def FineTwo (p q : Pn) : Prop := p.key = q.key → p.e ≤ q.e ∧ ¬ (p.s = q.s ∧ p.e = q.e)
set_option maxRecDepth 100000 in
set_option maxHeartbeats 4000000 in
theorem fine_yes (l : Value) (L : List Pn) (b : Nat) (w : World) (H : Hid (Sl.Is Pn.k w l L b)) (hn : L.length ≤ 100000) (G : Hid (L.Pairwise FineTwo)) :
    Calls Try.prog 12 #[l] w fun r w' => r = .returned (.bool true) ∧ Below w.heap.size w w' := by
  obtain ⟨AD, cap, hl⟩ := H.out.len
  subst hl
  go_enter Try.func12, Try.ntmps12
  go_wp2_with fail
  go_loopw [3] (fun si wr => ∃ (i : Nat), i ≤ L.length ∧ si = .int .i64 i ∧ Hid (Below w.heap.size w wr)) (fun si _ => L.length - (intOf si).toNat)
  case atStart => exact ⟨0, by omega, rfl, Lib.hid (Below.refl _ _)⟩
  case round =>
    obtain ⟨i, hi, rfl, K⟩ := hrel
    by_cases hlt : i < L.length
    · obtain ⟨off, cap', he, h2, h3, h4, hcell⟩ := H.out.some_ Pn.ok (by omega)
      obtain ⟨rfl, rfl⟩ : AD = some ⟨b, off, none⟩ ∧ cap = cap' := by simpa using he
      obtain ⟨q, hq⟩ := at_some hlt
      obtain ⟨c0, c1, c2, c3, c4, c5, c6⟩ := Tmr.pane_cells hq hcell
      have i0 : (i : Int) < L.length := by omega
      have HQ := Lib.hid hq
      have HC := Lib.hid hcell
      clear hcell he h2 h3 h4 hq c3 c4 c5 c6
      go_wp2_with fail
      go_loopw [4] (fun sk wr => ∃ (k : Nat), k ≤ i ∧ sk = .int .i64 k ∧ Hid (Below w.heap.size w wr)) (fun sk _ => i - (intOf sk).toNat)
      case atStart => exact ⟨0, by omega, rfl, K⟩
      case round =>
        obtain ⟨k, hk, rfl, K2⟩ := hrel
        by_cases hlk : k < i
        · obtain ⟨p, hp⟩ := at_some (L := L) (i := k) (by omega)
          obtain ⟨d0, d1, d2, d3, d4, d5, d6⟩ := Tmr.pane_cells hp HC.out
          have hG : FineTwo p q := by
            obtain ⟨h1, e1⟩ := List.getElem?_eq_some_iff.1 hp
            obtain ⟨h2, e2⟩ := List.getElem?_eq_some_iff.1 HQ.out
            have := List.pairwise_iff_getElem.1 G.out k i h1 h2 hlk
            rwa [e1, e2] at this
          have i1 : (k : Int) < i := by omega
          have i2 : (k : Int) < L.length := by omega
          have c0 := cell_keep K2.out c0
          have c1 := cell_keep K2.out c1
          have c2 := cell_keep K2.out c2
          have d0 := cell_keep K2.out d0
          have d1 := cell_keep K2.out d1
          have d2 := cell_keep K2.out d2
          clear d3 d4 d5 d6 hp
          by_cases hkey : p.key = q.key
          · obtain ⟨g1, g2⟩ := hG hkey
            have hkk : (p.key.toList == q.key.toList) = true := by simp [hkey]
            have hgt : decide (q.e < p.e) = false := decide_eq_false (by omega)
            have ne : ∀ w' : World, (binOp .eql 59 (.agg #[.int .i64 p.s, .int .i64 p.e]) (.agg #[.int .i64 q.s, .int .i64 q.e])).run Try.prog w' = .ok (.bool false) w' := fun w' => by
              by_cases hs : p.s = q.s
              · have h1 : (p.s == q.s) = true := by simpa using hs
                have h2 : (p.e == q.e) = false := by simpa using fun e => g2 ⟨hs, e⟩
                simp [go_sem, h1, h2]
              · have h1 : (p.s == q.s) = false := by simpa using hs
                simp [go_sem, h1]
            clear g1 g2 hG hkey
            go_wp2_with fail
            go_quiet (fail)
            go_wp2
            go_roundw
            case rel => exact ⟨k + 1, by omega, by go_num, Lib.hid (K2.out.trans ((below_drewN _ _).mono K2.out.size))⟩
            case measure => simp [intOf]; omega
          · have hkk : (p.key.toList == q.key.toList) = false := by
              rw [beq_eq_false_iff_ne]
              exact fun e => hkey (Pn.bytes_ext.1 e)
            clear hG hkey c1 c2 d1 d2
            go_wp2_with fail
            go_quiet (fail)
            go_wp2
            go_roundw
            case rel => exact ⟨k + 1, by omega, by go_num, Lib.hid (K2.out.trans ((below_drewN _ _).mono K2.out.size))⟩
            case measure => simp [intOf]; omega
        · obtain rfl : k = i := by omega
          go_wp2_with fail
          exact ⟨⟨k + 1, by omega, by go_num, K2⟩, by simp [intOf]; omega⟩
    · obtain rfl : i = L.length := by omega
      go_wp2
      go_ret
      exact ⟨rfl, K.out⟩
end Pane
end Go.Proofs.Ytemklcckhpchaaa
