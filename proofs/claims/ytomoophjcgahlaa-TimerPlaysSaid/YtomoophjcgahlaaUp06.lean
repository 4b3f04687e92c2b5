/-
  The head of the statements of layer 6 (the document's example) answers true.
-/
import Derived.Test.YtomoophjcgahlaaTmrFoot
namespace Go.Proofs.Ytomoophjcgahlaa
open Go.ChangeShapes Go.WideShapes Go.ChangeAt Go.RowKit
namespace Tmr
open Small Foot
set_option linter.unusedVariables false

theorem true_of {b : Bool} {p : Prop} (h : b = true ↔ p) (hp : p) : b = true := h.2 hp
theorem false_of {b : Bool} {p : Prop} (h : b = true ↔ p) (hp : ¬ p) : b = false := by
  cases b
  · rfl
  · exact absurd (h.1 rfl) hp

abbrev ta : Tm := ⟨⟨#[97]⟩, 0, 10⟩
abbrev tb : Tm := ⟨⟨#[98]⟩, 0, 5⟩
theorem ta_fits : Fits ta := ⟨by decide, rfl, rfl⟩
theorem tb_fits : Fits tb := ⟨by decide, rfl, rfl⟩
theorem tb_ta : tb ≠ ta := fun h => by have := congrArg Tm.e h; simp at this

set_option maxHeartbeats 2000000 in
theorem head_ok (w : World) : Calls Try.prog 5 #[] w fun e w' => e = .returned (.bool true) ∧ Below w.heap.size w w' := by
  go_enter Try.func5, Try.ntmps5
  go_wp2_with fail
  refine (new_foot _).mono ?_
  rintro e w1 ⟨g, F, rfl, T0, F0, k0⟩
  have T0 := Lib.hid T0
  have F0 := Lib.hid F0
  have K0 := Lib.hid k0
  clear k0
  go_wp2_with fail
  refine (put_foot _ ta T0 (Lib.hid ta_fits) (by omega)).mono ?_
  rintro e w2 ⟨b, n1, F1, rfl, hb, hn, T1, V1⟩
  obtain rfl := true_of hb (by simp)
  simp only [if_true] at hn
  subst hn
  have T1 := Lib.hid (T1.congr (M' := fun y => y = ta) (by simp))
  have V1 := Lib.hid V1
  clear hb
  go_wp2_with fail
  refine (put_foot _ tb T1 (Lib.hid tb_fits) (by omega)).mono ?_
  rintro e w3 ⟨b, n1, F2, rfl, hb, hn, T2, V2⟩
  obtain rfl := true_of hb tb_ta
  simp only [if_true] at hn
  subst hn
  have T2 := Lib.hid T2
  have V2 := Lib.hid V2
  clear hb
  go_wp2_with fail
  refine (put_foot _ tb T2 (Lib.hid tb_fits) (by omega)).mono ?_
  rintro e w4 ⟨b, n1, F3, rfl, hb, hn, T3, V3⟩
  obtain rfl := false_of hb (by simp)
  simp at hn
  subst hn
  have T3 := Lib.hid (T3.congr (M' := fun y => y = tb ∨ y = ta) (fun y => by simp))
  have V3 := Lib.hid V3
  clear hb
  go_wp2_with fail
  refine (pop_foot _ T3 (Lib.hid rfl) (Lib.hid rfl)).mono ?_
  rintro e w5 ⟨b, x, n1, M', F4, rfl, hp, T4, V4⟩
  have hl : IsLeast (fun y => y = tb ∨ y = ta) tb := ⟨.inl rfl, fun y hy => by rcases hy with rfl | rfl; exact le_refl _; exact le_of_lt (by simp [lt])⟩
  rcases hp with ⟨rfl, h1, h2, h3, h4⟩ | ⟨rfl, rfl, h3, h4, h5⟩
  case inr => exact absurd (by decide) (h4 _ hl)
  obtain rfl := h1.one hl
  obtain rfl : n1 = 1 := by omega
  have T4 := Lib.hid T4
  have V4 := Lib.hid V4
  clear h1 h2 h3 h4 hl
  go_wp2_with fail
  refine (len_foot _ (Lib.hid (T4.out.next (below1 _ _)))).mono ?_
  rintro e w6 ⟨rfl, rfl⟩
  go_wp2
  go_ret
  have B := K0.out.trans (((V1.out.trans V2.out).trans (V3.out.trans V4.out)).below F0.out K0.out.size)
  exact ⟨rfl, B.alloc B.size _⟩
end Tmr
end Go.Proofs.Ytomoophjcgahlaa
