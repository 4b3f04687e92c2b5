/-
  Lists of events in memory; whether one of them may not be (slices.ContainsFunc over hist.wrong).
-/
import Derived.Test.YtomdgeenmmgmaaaHsLow
import Derived.LoopTactic
import Derived.Deep.LoopGhost
namespace Go.Proofs.Ytomdgeenmmgmaaa
open Go.ChangeShapes Go.WideShapes Go.ChangeAt Go.RowKit
set_option maxRecDepth 100000
set_option linter.unusedVariables false
namespace Hs
open Small
/-- a slice that reads as the list L of events; where there is none in it, it may be whatever slice of no elements -/
def Evs (w : World) (v : Value) (L : List Ev) : Prop := (∃ b, Sl.Is Ev.k w v L b) ∨ (L = [] ∧ ∃ a cap, v = .slice (some a) 0 cap)
theorem Evs.len {w : World} {v : Value} {L : List Ev} (h : Evs w v L) : ∃ A cap, v = .slice A L.length cap := by
  rcases h with ⟨b, h⟩ | ⟨rfl, a, cap, rfl⟩
  · exact h.len
  · exact ⟨some a, cap, rfl⟩
theorem Evs.next {w w' : World} {v : Value} {L : List Ev} (h : Evs w v L) (k : Below w.heap.size w w') : Evs w' v L := by
  rcases h with ⟨b, h⟩ | h
  · exact .inl ⟨b, h.next k⟩
  · exact .inr h
theorem E_some {L : List Ev} {i : Nat} (h : i < L.length) : L[i]? = some (E L i) := by rw [E_at h]; simp [h]
theorem Evs.some_ {w : World} {v : Value} {L : List Ev} (h : Evs w v L) (h0 : 0 < L.length) : ∃ b off cap, v = .slice (some ⟨b, off, none⟩) L.length cap ∧ L.length ≤ cap ∧ cap ≤ maxLen ∧ b < w.heap.size ∧ ∀ i, i < L.length → EvAt w b (off + i * 14) (E L i) := by
  rcases h with ⟨b, h⟩ | ⟨rfl, _⟩
  · obtain ⟨off, cap, h1, h2, h3, h4, h5⟩ := h.some_ Ev.ok h0
    refine ⟨b, off, cap, h1, h2, h3, h4, fun i hi j u hj => ?_⟩
    have := h5 i _ (E_some hi) j u hj
    rw [Nat.add_assoc]
    exact this
  · simp at h0
/-- as many as it has, and where -/
theorem Evs.lit {w : World} {v : Value} {L : List Ev} (h : Evs w v L) : ∃ A cap, v = .slice A L.length cap ∧ Hid (∀ i, i < L.length → ∃ b off, A = some ⟨b, off, none⟩ ∧ b < w.heap.size ∧ EvAt w b (off + i * 14) (E L i)) := by
  by_cases h0 : 0 < L.length
  · obtain ⟨b, off, cap, h1, _, _, h2, h3⟩ := h.some_ h0
    exact ⟨_, cap, h1, Lib.hid fun i hi => ⟨b, off, rfl, h2, h3 i hi⟩⟩
  · obtain ⟨A, cap, h1⟩ := h.len
    exact ⟨A, cap, h1, Lib.hid fun i hi => by omega⟩

/-- what slices.IndexFunc tells -/
def Idx (L : List Ev) (r : Ending) : Prop := ∃ k : Int, r = .returned (.int .i64 k) ∧ (0 ≤ k ↔ ¬ Alone L) ∧ -1 ≤ k ∧ k ≤ 1000000
set_option maxHeartbeats 1600000 in
theorem index_ok (v : Value) (L : List Ev) (w : World) (H : Hid (Evs w v L)) (hn : L.length ≤ 1000) :
    Calls Try.prog 19 #[v, .func (.func 12) #[] #[]] w fun r w' => Idx L r ∧ Below w.heap.size w w' := by
  obtain ⟨A, cap, rfl, HA⟩ := H.out.lit
  clear H
  obtain ⟨n, hn2⟩ : ∃ n, L.length = n := ⟨_, rfl⟩
  rw [hn2] at hn ⊢
  have HN : Hid (L.length = n) := hn2
  clear hn2
  go_enter Try.func19, Try.ntmps19
  go_wp2
  go_loopg [8] n (fun g s8 wr => ∃ i : Nat, s8 = .int .i64 i ∧ i ≤ n ∧ n - i ≤ g ∧ Hid (∀ j, j < i → bad (E L j) = false) ∧ Hid (Below w.heap.size w wr))
  case atStart => exact ⟨0, rfl, Nat.zero_le _, Nat.le_refl _, Lib.hid fun j hj => by omega, Lib.hid (Below.refl _ _)⟩
  case round =>
    obtain ⟨i, rfl, hin, hg, HB, HK⟩ := hrel
    by_cases hlt : i < n
    · have hltz : (i : Int) < (n : Int) := by omega
      obtain ⟨b, off, rfl, hb, h1⟩ := HA.out i (by rw [HN.out]; exact hlt)
      have EA : Hid (EvAt wr b (off + i * 14) (E L i)) := Lib.hid fun j u hj => cell_keep HK.out (h1 j u hj)
      clear h1
      cases hx : bad (E L i) with
      | false =>
        have HX : Hid (bad (E L i) = false) := hx
        clear hx
        go_wp2_with (first | (refine BigFrame.wpList_want rfl fun K' hK' => wp_load _ rfl rfl EA.out (hK' _ _ ?_)) | (refine (wrong_ok (E L i) _).mono ?_; rw [HX.out]; rintro r w1 ⟨rfl, k1⟩))
        go_roundg (n - (i + 1))
        case measure => omega
        case rel => exact ⟨i + 1, by go_num, by omega, Nat.le_refl _, Lib.hid fun j hj => by by_cases e : j = i; (· rw [e]; exact HX.out); (· exact HB.out j (by omega)), Lib.hid (after HK.out k1)⟩
      | true =>
        have HX : Hid (bad (E L i) = true) := hx
        clear hx
        go_wp2_with (first | (refine BigFrame.wpList_want rfl fun K' hK' => wp_load _ rfl rfl EA.out (hK' _ _ ?_)) | (refine (wrong_ok (E L i) _).mono ?_; rw [HX.out]; rintro r w1 ⟨rfl, k1⟩))
        go_ret
        exact ⟨⟨i, rfl, ⟨fun _ hA => absurd (hA _ (get_mem (by rw [HN.out]; exact hlt : i < L.length))) (by rw [HX.out]; decide), fun _ => by omega⟩, by omega, by omega⟩, after HK.out k1⟩
    · have hltz : ¬ (i : Int) < (n : Int) := by omega
      go_wp2
      go_ret
      refine ⟨⟨-1, rfl, ⟨fun h => by omega, fun h => absurd (fun e he => ?_) h⟩, by omega, by omega⟩, HK.out⟩
      obtain ⟨j, hj, rfl⟩ := List.getElem_of_mem he
      rw [← E_at hj]
      exact HB.out j (by have := HN.out; omega)

/-- what tells whether it is so -/
def Tells (p : Prop) (r : Ending) : Prop := ∃ x : Bool, r = .returned (.bool x) ∧ (x = true ↔ p)
set_option maxHeartbeats 1600000 in
theorem contains_ok (v : Value) (L : List Ev) (w : World) (H : Hid (Evs w v L)) (hn : L.length ≤ 1000) :
    Calls Try.prog 11 #[v, .func (.func 12) #[] #[]] w fun r w' => Tells (¬ Alone L) r ∧ Below w.heap.size w w' := by
  obtain ⟨A, cap, rfl⟩ := H.out.len
  go_enter Try.func11, Try.ntmps11
  go_wp2_with fail
  refine (index_ok _ L _ H hn).mono ?_
  rintro r w1 ⟨⟨k, rfl, h1, h2, h3⟩, k1⟩
  have HX : Hid (0 ≤ k ↔ ¬ Alone L) := h1
  clear h1
  go_wp2
  go_ret
  exact ⟨⟨decide (0 ≤ k), rfl, by rw [decide_eq_true_iff]; exact HX.out⟩, k1⟩
end Hs
end Go.Proofs.Ytomdgeenmmgmaaa
