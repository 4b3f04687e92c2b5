/-
  Contracts of the document's own answers to layer 1 (package easelref01): wide, plus, minus, fits, Add, Sub, Floor, Down.
-/
import Derived.Test.YtomoophjcgahlaaNum
import Derived.Below
namespace Go.Proofs.Ytomoophjcgahlaa
open Go.ChangeShapes Go.WideShapes Go.ChangeAt Go.RowKit
namespace Ref01
set_option linter.unusedVariables false

/-- an integer of more than 64 bits, as the two numbers that it is held in -/
abbrev big (h l : Int) : Value := .agg #[.int .i64 h, .int .i64 l]

theorem ret_big {h l h' l' : Int} (a : h = h') (b : l = l') : Ending.returned (big h l) = .returned (big h' l') := by rw [a, b]

set_option maxHeartbeats 400000 in
theorem wide_ok (n : Int) (w : World) (h0 : -9223372036854775808 ≤ n) (h1 : n ≤ 9223372036854775807) :
    Calls Try.prog 22 #[.int .i64 n] w fun e w' => e = .returned (big (n / 4294967296) (n % 4294967296)) ∧ Below w.heap.size w w' := by
  by_cases hn : 0 ≤ n
  · have hm : ¬ n % 4294967296 < 0 := by omega
    go_enter Try.func22, Try.ntmps22
    go_wp2
    exact bodyPost_ret (v := big _ _) (by simp [results, Try.results22, go_sem]) rfl ⟨rfl, (Below.refl _ _).alloc (Nat.le_refl _) _⟩
  · have hr : -4294967296 < n.tmod 4294967296 := by have := Int.lt_tmod_of_pos n (b := 4294967296) (by omega); omega
    have hd := Num.tdiv_bd n 4294967296 (by omega) h0 h1
    by_cases hm : n.tmod 4294967296 < 0
    · have hl := Num.floor_lo n 4294967296 (by omega) hm h0
      have E := Lib.hid (Num.quo_down n 4294967296 (by omega) hm)
      have F := Lib.hid (Num.rem_down n 4294967296 (by omega) hm)
      go_enter Try.func22, Try.ntmps22
      go_wp2
      refine bodyPost_ret (v := big _ _) (by simp [results, Try.results22, go_sem]) rfl ⟨ret_big E.out F.out, (Below.refl _ _).alloc (Nat.le_refl _) _⟩
    · have E := Lib.hid (Num.quo_same n 4294967296 (by omega) hm)
      have F := Lib.hid (Num.rem_same n 4294967296 (by omega) hm)
      go_enter Try.func22, Try.ntmps22
      go_wp2
      refine bodyPost_ret (v := big _ _) (by simp [results, Try.results22, go_sem]) rfl ⟨ret_big E.out F.out, (Below.refl _ _).alloc (Nat.le_refl _) _⟩


theorem below4 (w : World) (a b c d : Obj) : Below w.heap.size w ((((w.alloc a).alloc b).alloc c).alloc d) :=
  ((((Below.refl _ _).alloc (Nat.le_refl _) _).alloc (by simp) _).alloc (by simp; omega) _).alloc (by simp; omega) _

set_option maxHeartbeats 400000 in
theorem plus_ok (h l k m s t : Int) (w : World) (a0 : -4294967296 ≤ h) (a1 : h ≤ 4294967296) (b0 : -4294967296 ≤ k) (b1 : k ≤ 4294967296)
    (c0 : 0 ≤ l) (c1 : l < 4294967296) (d0 : 0 ≤ m) (d1 : m < 4294967296) (hs : Hid (s * 4294967296 + t = (h + k) * 4294967296 + (l + m))) (t0 : 0 ≤ t) (t1 : t < 4294967296) :
    Calls Try.prog 21 #[big h l, big k m] w fun e w' => e = .returned (big s t) ∧ Below w.heap.size w w' := by
  by_cases hc : 4294967296 ≤ l + m
  · go_enter Try.func21, Try.ntmps21
    go_wp2
    refine bodyPost_ret (v := big s t) ?_ rfl ⟨rfl, below4 _ _ _ _ _⟩
    have e := hs.out
    simp [results, Try.results21, go_sem]
    omega
  · go_enter Try.func21, Try.ntmps21
    go_wp2
    refine bodyPost_ret (v := big s t) ?_ rfl ⟨rfl, below4 _ _ _ _ _⟩
    have e := hs.out
    simp [results, Try.results21, go_sem]
    omega



theorem below_after {a b c : World} (h : Below a.heap.size a b) (k : Below b.heap.size b c) : Below a.heap.size a c := h.trans (k.mono h.size)



theorem ret_int1 {a b : Int} (h : a = b) : Ending.returned (.int .i64 a) = .returned (.int .i64 b) := by rw [h]


end Ref01
end Go.Proofs.Ytomoophjcgahlaa
