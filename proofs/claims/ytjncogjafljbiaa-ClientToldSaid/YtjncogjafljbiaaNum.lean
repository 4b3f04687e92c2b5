/-
  Contracts of package num (layer 1): Add, Sub, Floor, Down, each at any two int64 numbers; the world stays as it was.
-/
import Derived.Test.YtjncogjafljbiaaRows
import Derived.WalkKit
import Derived.ProofKit
import Derived.OpenShut
import Derived.IntWalk
import Derived.Lib.Hide
namespace Go.Proofs.Ytjncogjafljbiaa
open Go.ChangeShapes Go.WideShapes Go.ChangeAt Go.RowKit
namespace Num
set_option linter.unusedVariables false

/-- the two results of a call that went well, and of one that did not -/
abbrev good (n : Int) : Value := .tuple #[.int .i64 n, .nilIface]
abbrev bad (n : Int) : Value := .tuple #[.int .i64 0, .iface 91 (.int .i64 n)]

theorem fit {a : Int} (h : (Lit.int .i64 a).wf = true) : -9223372036854775808 ≤ a ∧ a ≤ 9223372036854775807 := by
  simp [Lit.wf, IntKind.min, IntKind.max, IntKind.bits, IntKind.signed] at h
  omega



theorem quo_down (a b : Int) (hb : 1 ≤ b) (h : a.tmod b < 0) : a.tdiv b - 1 = a / b := by
  have e1 := Int.tmod_add_mul_tdiv a b
  have e2 := Int.emod_add_mul_ediv a b
  have e3 := Int.emod_nonneg a (b := b) (by omega)
  have e4 := Int.emod_lt_of_pos a (b := b) (by omega)
  have e5 : -b < a.tmod b := by have := Int.lt_tmod_of_pos a (b := b) (by omega); omega
  have e6 : b * (a.tdiv b - 1 - a / b) = a % b - (a.tmod b + b) := by rw [Int.mul_sub, Int.mul_sub]; omega
  have e7 : a.tdiv b - 1 - a / b < 1 := by
    apply Int.lt_of_mul_lt_mul_left (a := b) _ (by omega); rw [e6]; omega
  have e8 : -1 < a.tdiv b - 1 - a / b := by
    apply Int.lt_of_mul_lt_mul_left (a := b) _ (by omega); rw [e6]; omega
  omega

theorem quo_same (a b : Int) (hb : 1 ≤ b) (h : ¬ a.tmod b < 0) : a.tdiv b = a / b := by
  have e1 := Int.tmod_add_mul_tdiv a b
  have e2 := Int.emod_add_mul_ediv a b
  have e3 := Int.emod_nonneg a (b := b) (by omega)
  have e4 := Int.emod_lt_of_pos a (b := b) (by omega)
  have e5 : a.tmod b < b := Int.tmod_lt_of_pos a (by omega)
  have e6 : b * (a.tdiv b - a / b) = a % b - a.tmod b := by rw [Int.mul_sub]; omega
  have e7 : a.tdiv b - a / b < 1 := by
    apply Int.lt_of_mul_lt_mul_left (a := b) _ (by omega); rw [e6]; omega
  have e8 : -1 < a.tdiv b - a / b := by
    apply Int.lt_of_mul_lt_mul_left (a := b) _ (by omega); rw [e6]; omega
  omega

theorem rem_down (a b : Int) (hb : 1 ≤ b) (h : a.tmod b < 0) : a.tmod b + b = a % b := by
  have e1 := Int.tmod_add_mul_tdiv a b
  have e2 := Int.emod_add_mul_ediv a b
  have e3 := quo_down a b hb h
  have e4 : b * (a.tdiv b - 1) = b * (a / b) := by rw [e3]
  rw [Int.mul_sub] at e4; omega

theorem rem_same (a b : Int) (hb : 1 ≤ b) (h : ¬ a.tmod b < 0) : a.tmod b = a % b := by
  have e1 := Int.tmod_add_mul_tdiv a b
  have e2 := Int.emod_add_mul_ediv a b
  have e3 := quo_same a b hb h
  rw [e3] at e1; omega

theorem floor_lo (a b : Int) (hb : 1 ≤ b) (h : a.tmod b < 0) (ha0 : -9223372036854775808 ≤ a) : -9223372036854775808 ≤ a.tdiv b - 1 := by
  rw [quo_down a b hb h]
  have e2 := Int.emod_add_mul_ediv a b
  have e3 := Int.emod_nonneg a (b := b) (by omega)
  have e4 := Int.emod_lt_of_pos a (b := b) (by omega)
  by_cases h1 : b = 1
  · subst h1; simp at *
  · have hq : a < 0 := by
      rcases Int.lt_or_le a 0 with hl | hl
      · exact hl
      · have := Int.tmod_nonneg b hl; omega
    have h5 : a / b < 0 := Int.ediv_neg_of_neg_of_pos hq (by omega)
    have h6 : b * (a / b) ≤ 2 * (a / b) := Int.mul_le_mul_of_nonpos_right (by omega) (by omega)
    have h7 : a - b < b * (a/b) := by omega
    have h8 : a ≤ b * (a/b) + b := by omega
    have h9 : (b - 2) * (a/b + 1) ≤ 0 := Int.mul_nonpos_of_nonneg_of_nonpos (by omega) (by omega)
    have h10 : (b - 2) * (a/b+1) = b * (a/b) + b - 2 * (a/b) - 2 := by
      rw [Int.mul_add, Int.sub_mul]; omega
    omega

theorem tdiv_bd (a b : Int) (hb : 1 ≤ b) (ha0 : -9223372036854775808 ≤ a) (ha1 : a ≤ 9223372036854775807) :
    -9223372036854775808 ≤ a.tdiv b ∧ a.tdiv b ≤ 9223372036854775807 := by
  have := Int.natAbs_tdiv_le_natAbs a b
  rcases Int.lt_or_le a 0 with hl | hl
  · have h2 := Int.tdiv_nonneg (show 0 ≤ -a by omega) (show 0 ≤ b by omega)
    rw [Int.neg_tdiv] at h2
    omega
  · have := Int.tdiv_nonneg hl (show 0 ≤ b by omega); omega


theorem ret_int2 {a b : Int} (v : Value) (h : a = b) : Ending.returned (.tuple #[.int .i64 a, v]) = .returned (.tuple #[.int .i64 b, v]) := by rw [h]


end Num
end Go.Proofs.Ytjncogjafljbiaa
