/-
  Contracts of package fnv (layer 5) and of the document's own answers beside it: May, Sum, Group; turned, Sum, Group.
-/
import Derived.Test.YtemklcckhpchaaaGreatSmall
import Derived.LoopTactic
import Derived.Laws.BitsAllLaws
import Derived.Laws.Strings
import Derived.BigQuiet
namespace Go.Proofs.YtemklcckhpchaaaGreat
open Go.ChangeShapes Go.WideShapes Go.ChangeAt Go.RowKit Small BigFrame
namespace Fnv
set_option linter.unusedVariables false

/-- a number, turned by a byte, and multiplied -/
def step (n : Nat) (b : UInt8) : Nat := (n ^^^ b.toNat) * 16777619 % 4294967296
/-- a text's number -/
def num (l : List UInt8) : Nat := l.foldl step 2166136261
theorem step_lt (n : Nat) (b : UInt8) : step n b < 4294967296 := Nat.mod_lt _ (by decide)
theorem fold_lt (l : List UInt8) : ∀ n : Nat, n < 4294967296 → l.foldl step n < 4294967296 := by
  induction l with
  | nil => exact fun n h => h
  | cons b t ih => exact fun n _ => ih _ (step_lt n b)
theorem num_lt (l : List UInt8) : num l < 4294967296 := fold_lt l _ (by decide)
theorem fold_snoc (f : Nat → UInt8 → Nat) (l : List UInt8) (b : UInt8) (n : Nat) : (l ++ [b]).foldl f n = f (l.foldl f n) b := by rw [List.foldl_append, List.foldl_cons, List.foldl_nil]
theorem num_snoc (l : List UInt8) (b : UInt8) : num (l ++ [b]) = step (num l) b := by
  unfold num
  exact fold_snoc step l b _
theorem take_next (s : ByteArray) (k : Nat) (h : k < s.size) : s.data.toList.take (k + 1) = s.data.toList.take k ++ [s[k]] := by
  have h' : k < s.data.toList.length := by simpa using h
  rw [List.take_succ_eq_append_getElem h']
  rfl
theorem num_next (s : ByteArray) (k : Nat) (h : k < s.size) : num (s.data.toList.take (k + 1)) = step (num (s.data.toList.take k)) s[k] := by rw [take_next s k h, num_snoc]
theorem take_all (s : ByteArray) : s.data.toList.take s.size = s.data.toList := List.take_of_length_le (Nat.le_of_eq rfl)

theorem step_code (n : Nat) (b : UInt8) (h : n < 4294967296) : IntKind.u32.wrap (bits .xor .u32 (n : Int) (IntKind.u32.wrap (b.toNat : Int)) * 16777619) = ((step n b : Nat) : Int) := by
  have hb := b.toNat_lt
  have e : IntKind.u32.wrap (b.toNat : Int) = (b.toNat : Int) := by rw [IntKind.wrap_u32']; omega
  rw [e, IntKind.wrap_u32', u32_xor_nat _ _ h (by omega)]
  unfold step
  omega


set_option maxHeartbeats 400000 in
theorem may_ok (s : ByteArray) (w : World) (hs : s.size ≤ 9223372036854775807) :
    Calls Tryz.prog 75 #[.string s] w fun r w' => r = .returned (.bool (decide (1 ≤ s.size ∧ s.size ≤ 20))) ∧ Below w.heap.size w w' := by
  go_enter Tryz.func75, Tryz.ntmps75
  go_wp2
  all_goals
    go_ret
    exact ⟨ret_bool (by rw [Bool.eq_iff_iff]; simp; omega), Below.refl _ _⟩


/-- a number's group -/
def grp (n : Nat) (g : Int) : Int := if g < 1 then 0 else n % g
theorem grp_in (n : Nat) (g : Int) : 0 ≤ grp n g ∧ (1 ≤ g → grp n g < g) := by
  unfold grp
  split
  · omega
  · exact ⟨Int.emod_nonneg _ (by omega), fun h => Int.emod_lt_of_pos _ (by omega)⟩


end Fnv
end Go.Proofs.YtemklcckhpchaaaGreat
