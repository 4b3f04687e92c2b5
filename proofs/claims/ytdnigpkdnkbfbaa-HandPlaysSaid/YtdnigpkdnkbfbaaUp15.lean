/-
  The head of the statements of layer 15 (the document's example) answers true.
-/
import Derived.Test.YtdnigpkdnkbfbaaHand
import Derived.Test.YtdnigpkdnkbfbaaErrs
namespace Go.Proofs.Ytdnigpkdnkbfbaa
open Go.ChangeShapes Go.WideShapes Go.ChangeAt Go.RowKit Small Foot
namespace Hd
set_option linter.unusedVariables false
set_option maxRecDepth 100000
set_option maxHeartbeats 8000000 in
theorem up_ok (w : World) : Calls Try.prog 4 #[] w fun r w' => r = .returned (.bool true) ∧ Below w.heap.size w w' := by
  go_enter Try.func4, Try.ntmps4
  go_wp2_with fail
  refine (Ow.new_ok 2 2 w (by omega) (by omega) (by omega) (by omega)).mono ?_
  rintro r w1 ⟨rfl, b1, k1⟩
  have B1 := Lib.hid b1
  have K1 := Lib.hid k1
  have S1 := Lib.hid (Ow.Is.from w.heap.size)
  clear b1 k1
  go_wp2_with fail
  refine (new_ok (i := 1) (y := 0) (o := ⟨1, 0, false⟩) B1 rfl rfl (by omega) (by omega)).mono ?_
  rintro r w2 ⟨h, rfl, hlt, h2, b2, v2⟩
  have H2 := Lib.hid h2
  have B2 := Lib.hid b2
  have K2 := Lib.hid (K1.out.trans (v2.below S1.out K1.out.size))
  clear h2 b2 v2 B1 K1 hlt
  go_wp2_with fail
  refine (new_busy (i := 1) (y := 0) (o := ⟨1, 0, true⟩) B2 rfl rfl).mono ?_
  rintro r w3 ⟨rfl, k3⟩
  have H3 := Lib.hid (H2.out.next k3)
  have B3 := Lib.hid (B2.out.next k3)
  have K3 := Lib.hid (after K2.out k3)
  clear k3 H2 B2 K2
  go_wp2_with fail
  refine (new_nil 0 0 w3).mono ?_
  rintro r w4 ⟨rfl, rfl⟩
  go_wp2_with fail
  refine (new_none (x := 9) (y := 0) B3 (.inr (by simp [Ow.ini_len]))).mono ?_
  rintro r w5 ⟨rfl, k5⟩
  have H5 := Lib.hid (H3.out.next k5)
  have B5 := Lib.hid (B3.out.next k5)
  have K5 := Lib.hid (after K3.out k5)
  clear k5 H3 B3 K3
  go_wp2_with fail
  refine (ask_give (o := ⟨1, 0, true⟩) H5 B5 rfl).mono ?_
  rintro r w6 ⟨rfl, k6⟩
  have H6 := Lib.hid (H5.out.next k6)
  have K6 := Lib.hid (after K5.out k6)
  clear k6 H5 B5 K5
  go_upto_region 11 with fail
  have k7 := below1 w6 (Obj.cells #[.int .i64 3, .int .i64 0, .int .i64 0, .string ⟨#[]⟩, .int .i64 0, .int .i64 0, .int .i64 0, .int .i64 0, .int .i64 0, .int .i64 1, .pointer none] 45)
  have L7 : Hid (Lies (w6.alloc (Obj.cells #[.int .i64 3, .int .i64 0, .int .i64 0, .string ⟨#[]⟩, .int .i64 0, .int .i64 0, .int .i64 0, .int .i64 0, .int .i64 0, .int .i64 1, .pointer none] 45)) w6.heap.size 45 (mcl 3 1 none)) := Lib.hid (Lies.new _ _ _)
  have H7 := Lib.hid (H6.out.next k7)
  have K7 := Lib.hid (after K6.out k7)
  clear k7 H6 K6
  generalize w6.heap.size = g7 at L7 ⊢
  generalize w6.alloc (Obj.cells #[.int .i64 3, .int .i64 0, .int .i64 0, .string ⟨#[]⟩, .int .i64 0, .int .i64 0, .int .i64 0, .int .i64 0, .int .i64 0, .int .i64 1, .pointer none] 45) = w7 at L7 H7 K7 ⊢
  have q1 := fun w => Errs.eql_code w 7 7
  have q2 := fun w => Errs.eql_code w 1 1
  have q3 := fun w => Errs.eql_code w 6 6
  have c0 := L7.out.cell (i := 0) rfl
  have c9 := L7.out.cell (i := 9) rfl
  go_wp2_with fail
  refine (over_ok H7).mono ?_
  rintro r w8 ⟨rfl, rfl⟩
  go_wp2
  go_ret
  exact ⟨rfl, K7.out⟩
end Hd
end Go.Proofs.Ytdnigpkdnkbfbaa
