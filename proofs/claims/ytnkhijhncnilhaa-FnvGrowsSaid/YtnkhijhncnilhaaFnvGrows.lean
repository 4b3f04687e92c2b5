/-
  FnvGrows holds: for any text, any byte and any int the law answers true (no conditions).
-/
import Derived.Test.YtnkhijhncnilhaaUp05
import Derived.Test.YtnkhijhncnilhaaLaid
import Derived.Test.YtnkhijhncnilhaaOpens
import Derived.Laws.BytesArg
import Derived.Laws.Concat
namespace Go.Proofs.Ytnkhijhncnilhaa.fnvGrows
open Go.ChangeShapes Go.WideShapes Go.ChangeAt Go.RowKit Small BigFrame Fnv
set_option linter.unusedVariables false

set_option maxHeartbeats 2000000 in
theorem walk_off (s : ByteArray) (b : Nat) (g : Int) (w : World) (hs : s.size ≤ 9223372036854775807) (h : 1000 < s.size) :
    Calls Try.prog 4 #[.string s, .int .u8 b, .int .i64 g] w fun r w' => r = .returned (.bool true) ∧ Below w.heap.size w w' := by
  go_enter Try.func4, Try.ntmps4
  go_wp2_with fail
  refine (up_ok _).mono ?_
  rintro e w1 ⟨rfl, k1⟩
  go_wp2
  go_ret
  exact ⟨rfl, k1⟩

/-- a byte alone, as a text -/
theorem text_of (w : World) (b : Nat) : (convert 28 9 (.slice (some ⟨w.heap.size, 0, none⟩) 1 1)).run Try.prog (w.alloc (Obj.cells #[.int .u8 b] 5)) = .ok (.string (strOfNums [(b : Int)])) (w.alloc (Obj.cells #[.int .u8 b] 5)) :=
  run_convert_bytes_arg _ 28 5 Try.underlying28 Try.underlying5 w.heap.size 0 1 1 [(b : Int)] rfl (fun i hi => by
    obtain rfl : i = 0 := by omega
    exact (Lies.new w 5 [.int .u8 b]).cell rfl) _ Try.underlying9

set_option maxHeartbeats 2000000 in
theorem walk_on (s : ByteArray) (b : Nat) (g : Int) (w : World) (hs : s.size ≤ 1000) (hb : b < 256) (n n' : Nat) (q : Int) (q0 : 0 ≤ q) (q1 : 1 ≤ g → q < g)
    (N : Hid (∀ w : World, Calls Try.prog 7 #[.string s] w fun r w' => r = .returned (.int .u32 (n : Nat)) ∧ Below w.heap.size w w'))
    (N' : Hid (∀ w : World, Calls Try.prog 7 #[.string (s ++ strOfNums [(b : Int)])] w fun r w' => r = .returned (.int .u32 (n' : Nat)) ∧ Below w.heap.size w w'))
    (G : Hid (∀ w : World, Calls Try.prog 9 #[.string s, .int .i64 g] w fun r w' => r = .returned (.int .i64 q) ∧ Below w.heap.size w w'))
    (E : Hid (bits .xor .u32 (n : Int) (b : Int) * 16777619 % 4294967296 = (n' : Int))) :
    Calls Try.prog 4 #[.string s, .int .u8 b, .int .i64 g] w fun r w' => r = .returned (.bool true) ∧ Below w.heap.size w w' := by
  go_enter Try.func4, Try.ntmps4
  go_wp2_with fail
  refine (up_ok _).mono ?_
  rintro e w1 ⟨rfl, k1⟩
  go_wp2_with fail
  refine (N.out _).mono ?_
  rintro e w2 ⟨rfl, k2⟩
  go_wp2_with fail
  refine (G.out _).mono ?_
  rintro e w3 ⟨rfl, k3⟩
  have hc := text_of w3 b
  have hz : (strOfNums [(b : Int)]).size = 1 := strOfNums_size _
  go_wp2_with fail
  refine (N'.out _).mono ?_
  rintro e w4 ⟨rfl, k4⟩
  clear hc hz
  have k5 := Lib.hid (after (below1 w3 (Obj.cells #[.int .u8 b] 5)) k4)
  have eE := E.out
  by_cases hg : g < 1
  · clear q1
    go_wp2
    go_ret
    exact ⟨rfl, after k1 (after k2 (after k3 k5.out))⟩
  · have q2 := q1 (by omega)
    clear q1
    go_wp2
    go_ret
    exact ⟨rfl, after k1 (after k2 (after k3 k5.out))⟩

theorem walk (s : ByteArray) (hs : s.size ≤ 9223372036854775807) (b : Nat) (hb : b < 256) (g : Int) (wg : (Lit.int .i64 g).wf = true) (w : World) :
    Calls Try.prog 4 #[.string s, .int .u8 b, .int .i64 g] w fun r w' => r = .returned (.bool true) ∧ Below w.heap.size w w' := by
  obtain ⟨g0, g1⟩ := fit wg
  by_cases h : 1000 < s.size
  · exact walk_off s b g w hs h
  · have hz : (s ++ strOfNums [(b : Int)]).size ≤ 9223372036854775807 := by rw [ByteArray.size_append', strOfNums_size]; simp; omega
    have e : (s ++ strOfNums [(b : Int)]).data.toList = s.data.toList ++ [UInt8.ofNat b] := by simp [ByteArray.data_append, strOfNums]
    have eb : (UInt8.ofNat b).toNat = b := UInt8.toNat_ofNat_of_lt hb
    refine walk_on s b g w (by omega) hb _ _ _ (grp_in _ g).1 (grp_in _ g).2 (Lib.hid fun w => sum_ok s w hs) (Lib.hid fun w => sum_ok _ w hz) (Lib.hid fun w => group_ok s g w hs g0 g1) (Lib.hid ?_)
    rw [e, num_snoc, ← step_code _ _ (num_lt _), eb, IntKind.wrap_u32', IntKind.wrap_u32', Int.emod_eq_of_lt (a := (b : Int)) (by omega) (by omega)]

theorem own : ownKnob Try.prog.godebug = none := by kernel_rfl

set_option maxRecDepth 100000 in
theorem lifted (os : Os) (started : os.Started) (H : Type) (enc : TypeId × Value → H) :
    ReturnsInHanded {} Try.checked os 4 .any (Rows.fnvGrowsSpec.pre6 enc Try.prog Try.f4 Rows.fnvGrowsRow.domain false) (Rows.fnvGrowsSpec.post enc Try.prog Try.f4 false true false false) := by
  refine returnsInHanded_of_change (C := Try.checked) own started (by kernel_rfl) Try.func4
    (ChangeSpec.witness6 (enc := enc) (C := Try.checked) false ⟨#[], #[.string ⟨#[]⟩, .int .u8 0, .int .i64 0], []⟩ 8 (by kernel_rfl) (by kernel_rfl) (by kernel_rfl) (by kernel_rfl)) ?_
  intro W base args ds gs before hval0 hW hcnd _
  have hval : ∀ (j : Nat) t v, Try.f4.params[j]? = some t → args[j]? = some v → Value.okWide Try.prog W .any base t v := hval0
  have hW' := hW
  obtain ⟨p, q, hA0, hV, rfl, hfz, hnd⟩ := hW
  have hA : DataW.TrodAll enc Try.prog W 0 (fun _ => true) true Try.f4.params.toList args.toList ds p := hA0
  rw [Try.params4] at hA hval
  obtain ⟨v0, vs0, d0, ds0, p0, q0, hargs, rfl, rfl, h0, r0⟩ := trodAll_cons hA
  obtain ⟨v1, vs1, d1, ds1, p1, q1, rfl, rfl, rfl, h1, r1⟩ := trodAll_cons r0
  obtain ⟨v2, vs2, d2, ds2, p2, q2, rfl, rfl, rfl, h2, r2⟩ := trodAll_cons r1
  obtain ⟨rfl, rfl, rfl⟩ := trodAll_nil r2
  obtain rfl : args = #[v0, v1, v2] := by cases args; simp_all
  obtain ⟨rfl, rfl⟩ := trodVars_none hV
  obtain ⟨a0, rfl, w0⟩ := Opens.open_str (hval 0 9 v0 rfl rfl) h0
  obtain ⟨a1, rfl, w1⟩ := Opens.open_byte (hval 1 5 v1 rfl rfl) h1
  obtain ⟨a2, rfl, rfl, rfl, w2⟩ := open_int Try.underlying3 (hval 2 3 v2 rfl rfl) h2
  clear hA0 hval0
  refine (walk a0 w0 a1 w1 a2 w2 W).mono fun e W' ⟨he, hg⟩ => ?_
  subst he
  exact ⟨_, rfl, Laid.post Laid.laidOut (by kernel_rfl) rfl (by kernel_rfl) Try.underlying4 hW' ⟨rfl, rfl, rfl⟩ hg⟩

theorem over : Rows.fnvGrowsRow.holds Try.pinned (OpenSpec.ofChange Rows.fnvGrowsSpec) :=
  OpenClaim.holds_of_wide 4 Try.f4 rfl rfl rfl rfl rfl rfl rfl ⟨rfl, rfl, rfl, rfl, rfl⟩ rfl rfl rfl rfl rfl (by kernel_rfl) Try.func4 (by kernel_rfl)
    (of_decide_eq_true (by kernel_rfl)) (by unfold Func.isWrapper; first | (rw [if_pos (by decide +kernel)]; kernel_rfl) | (rw [if_neg (by decide +kernel)]; exact ⟨rfl, rfl⟩))
    (fun os started H enc _ => lifted os started H enc)

/-- ████ THE STATEMENT ████ -/
theorem proved : Rows.FnvGrowsSaid :=
  over
#print axioms proved
end Go.Proofs.Ytnkhijhncnilhaa.fnvGrows
