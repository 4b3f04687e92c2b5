/-
  Contracts of package fnv (layer 5) and of the document's own answers beside it: May, Sum, Group; turned, Sum, Group.
-/
import Derived.Test.YtjncogjafljbiaaSmall
import Derived.LoopTactic
import Derived.Laws.BitsAllLaws
import Derived.Laws.Strings
import Derived.BigQuiet
namespace Go.Proofs.Ytjncogjafljbiaa
open Go.ChangeShapes Go.WideShapes Go.ChangeAt Go.RowKit Small BigFrame
namespace Fnv
set_option linter.unusedVariables false

/-- a number, turned by a byte, and multiplied -/
def step (n : Nat) (b : UInt8) : Nat := (n ^^^ b.toNat) * 16777619 % 4294967296
/-- a text's number -/
def num (l : List UInt8) : Nat := l.foldl step 2166136261
theorem step_lt (n : Nat) (b : UInt8) : step n b < 4294967296 := Nat.mod_lt _ (by decide)
theorem fold_lt (l : List UInt8) : ∀ n : Nat, n < 4294967296 → l.foldl step n < 4294967296 := by
  induction l with
  | nil => exact fun n h => h
  | cons b t ih => exact fun n _ => ih _ (step_lt n b)
theorem num_lt (l : List UInt8) : num l < 4294967296 := fold_lt l _ (by decide)
theorem fold_snoc (f : Nat → UInt8 → Nat) (l : List UInt8) (b : UInt8) (n : Nat) : (l ++ [b]).foldl f n = f (l.foldl f n) b := by rw [List.foldl_append, List.foldl_cons, List.foldl_nil]
theorem num_snoc (l : List UInt8) (b : UInt8) : num (l ++ [b]) = step (num l) b := by
  unfold num
  exact fold_snoc step l b _
theorem take_next (s : ByteArray) (k : Nat) (h : k < s.size) : s.data.toList.take (k + 1) = s.data.toList.take k ++ [s[k]] := by
  have h' : k < s.data.toList.length := by simpa using h
  rw [List.take_succ_eq_append_getElem h']
  rfl
theorem num_next (s : ByteArray) (k : Nat) (h : k < s.size) : num (s.data.toList.take (k + 1)) = step (num (s.data.toList.take k)) s[k] := by rw [take_next s k h, num_snoc]
theorem take_all (s : ByteArray) : s.data.toList.take s.size = s.data.toList := List.take_of_length_le (Nat.le_of_eq rfl)

theorem step_code (n : Nat) (b : UInt8) (h : n < 4294967296) : IntKind.u32.wrap (bits .xor .u32 (n : Int) (IntKind.u32.wrap (b.toNat : Int)) * 16777619) = ((step n b : Nat) : Int) := by
  have hb := b.toNat_lt
  have e : IntKind.u32.wrap (b.toNat : Int) = (b.toNat : Int) := by rw [IntKind.wrap_u32']; omega
  rw [e, IntKind.wrap_u32', u32_xor_nat _ _ h (by omega)]
  unfold step
  omega

set_option maxHeartbeats 800000 in
theorem sum_ok (s : ByteArray) (w : World) (hs : s.size ≤ 9223372036854775807) :
    Calls Try.prog 67 #[.string s] w fun r w' => r = .returned (.int .u32 (num s.data.toList : Nat)) ∧ Below w.heap.size w w' := by
  go_enter Try.func67, Try.ntmps67
  go_wp2
  go_loopw [3, 7] (fun sum si wr => ∃ k : Nat, k ≤ s.size ∧ si = .int .i64 k ∧ sum = .int .u32 (num (s.data.toList.take k) : Nat) ∧ Below w.heap.size w wr) (fun _ si _ => s.size - (intOf si).toNat)
  case atStart => exact ⟨0, Nat.zero_le _, rfl, rfl, Below.refl _ _⟩
  case round =>
    obtain ⟨k, hk, rfl, rfl, hb⟩ := hrel
    by_cases hlt : k < s.size
    · have e := Lib.hid (num_next s k hlt)
      have hn := num_lt (s.data.toList.take k)
      generalize num (s.data.toList.take k) = n at *
      go_wp2
      go_roundw
      case rel =>
        refine ⟨k + 1, hlt, by go_num, ?_, hb⟩
        rw [e.out, ← step_code n _ hn]
        rfl
      case measure => simp [intOf]; omega
    · obtain rfl : k = s.size := by omega
      rw [take_all] at *
      go_wp2
      go_ret
      exact ⟨rfl, hb⟩


set_option maxHeartbeats 400000 in
theorem may_ok (s : ByteArray) (w : World) (hs : s.size ≤ 9223372036854775807) :
    Calls Try.prog 72 #[.string s] w fun r w' => r = .returned (.bool (decide (1 ≤ s.size ∧ s.size ≤ 20))) ∧ Below w.heap.size w w' := by
  go_enter Try.func72, Try.ntmps72
  go_wp2
  all_goals
    go_ret
    exact ⟨ret_bool (by rw [Bool.eq_iff_iff]; simp; omega), Below.refl _ _⟩


/-- a number's group -/
def grp (n : Nat) (g : Int) : Int := if g < 1 then 0 else n % g
theorem grp_in (n : Nat) (g : Int) : 0 ≤ grp n g ∧ (1 ≤ g → grp n g < g) := by
  unfold grp
  split
  · omega
  · exact ⟨Int.emod_nonneg _ (by omega), fun h => Int.emod_lt_of_pos _ (by omega)⟩

set_option maxHeartbeats 400000 in
theorem group_ok (s : ByteArray) (g : Int) (w : World) (hs : s.size ≤ 9223372036854775807) (g0 : -9223372036854775808 ≤ g) (g1 : g ≤ 9223372036854775807) :
    Calls Try.prog 45 #[.string s, .int .i64 g] w fun r w' => r = .returned (.int .i64 (grp (num s.data.toList) g)) ∧ Below w.heap.size w w' := by
  have S := Lib.hid fun w : World => sum_ok s w hs
  have hn := num_lt s.data.toList
  generalize num s.data.toList = n at *
  by_cases h : g < 1
  · have e : grp n g = 0 := if_pos h
    rw [e]
    clear e
    go_enter Try.func45, Try.ntmps45
    go_wp2
    go_ret
    exact ⟨rfl, Below.refl _ _⟩
  · have e : grp n g = n % g := if_neg h
    have e' := Lib.hid e
    clear e
    go_enter Try.func45, Try.ntmps45
    go_wp2_with fail
    refine (S.out _).mono ?_
    rintro e w1 ⟨rfl, k1⟩
    go_wp2
    go_ret
    refine ⟨ret_int ?_, k1⟩
    rw [e'.out]
    have m0 := Int.emod_nonneg (n : Int) (b := g) (by omega)
    have m1 := Int.emod_lt_of_pos (n : Int) (b := g) (by omega)
    exact IntWalk.wrap64_in _ (by omega)


theorem bit_xor (x y j : Nat) : (x ^^^ y) % 2 ^ (j + 1) = (x ^^^ y) % 2 ^ j + (if x / 2 ^ j % 2 = y / 2 ^ j % 2 then 0 else 2 ^ j) := by
  rw [Nat.mod_pow_succ]
  congr 1
  have h := Nat.testBit_xor x y j
  rw [Nat.testBit_eq_decide_div_mod_eq, Nat.testBit_eq_decide_div_mod_eq, Nat.testBit_eq_decide_div_mod_eq] at h
  have h0 := Nat.mod_two_eq_zero_or_one ((x ^^^ y) / 2 ^ j)
  have h1 := Nat.mod_two_eq_zero_or_one (x / 2 ^ j)
  have h2 := Nat.mod_two_eq_zero_or_one (y / 2 ^ j)
  rcases h0 with h0 | h0 <;> rcases h1 with h1 | h1 <;> rcases h2 with h2 | h2 <;> simp [h0, h1, h2] at h ⊢
theorem low_xor (n b : Nat) (hb : b < 256) : n - n % 256 + (n % 256 ^^^ b) % 256 = n ^^^ b := by
  have h1 : (n ^^^ b) % 2 ^ 8 = n % 2 ^ 8 ^^^ b % 2 ^ 8 := Nat.xor_mod_two_pow
  have h2 : (n ^^^ b) / 2 ^ 8 = n / 2 ^ 8 ^^^ b / 2 ^ 8 := Nat.xor_div_two_pow
  have h3 : b / 2 ^ 8 = 0 := by omega
  have h4 : b % 2 ^ 8 = b := by omega
  rw [h3, Nat.xor_zero] at h2
  rw [h4] at h1
  rw [show (256 : Nat) = 2 ^ 8 by decide, ← h1]
  omega

/-- what is there ahead of round j -/
def part (n b j : Nat) : Nat := n - n % 256 + (n % 256 ^^^ b) % 2 ^ j
theorem part_zero (n b : Nat) : part n b 0 = n - n % 256 := by simp [part, Nat.mod_one]
theorem part_eight (n b : Nat) (hb : b < 256) : part n b 8 = n ^^^ b := low_xor n b hb
theorem part_lt (n b j : Nat) (hn : n < 4294967296) (hb : b < 256) : part n b j < 4294967552 := by
  have h : n % 256 ^^^ b < 2 ^ 8 := Nat.xor_lt_two_pow (by omega) (by omega)
  have h2 := Nat.mod_le (n % 256 ^^^ b) (2 ^ j)
  unfold part
  omega
theorem part_next (n b j : Nat) : part n b (j + 1) = if n % 256 / 2 ^ j % 2 = b / 2 ^ j % 2 then part n b j else part n b j + 2 ^ j := by
  unfold part
  rw [bit_xor]
  split <;> omega

theorem wrap_small (c : Nat) (h : c < 256) : IntKind.u64.wrap (c : Int) = c := by rw [IntKind.wrap_u64]; omega
theorem bits_cast (n b q : Nat) (hb : b < 256) :
    (((n : Int) % 256 / q).tmod 2 != (IntKind.u64.wrap ((b : Int) / q)).tmod 2) = (((n % 256 / q % 2 : Nat) : Int) != ((b / q % 2 : Nat) : Int)) := by
  have h : b / q < 256 := Nat.lt_of_le_of_lt (Nat.div_le_self _ _) hb
  have e : IntKind.u64.wrap ((b : Int) / q) = ((b / q : Nat) : Int) := wrap_small (b / q) h
  rw [e]
  rfl
theorem same_bits (n b q : Nat) (hb : b < 256) (h : n % 256 / q % 2 = b / q % 2) : (((n : Int) % 256 / q).tmod 2 != (IntKind.u64.wrap ((b : Int) / q)).tmod 2) = false := by
  rw [bits_cast n b q hb, h]
  exact bne_self_eq_false _
theorem other_bits (n b q : Nat) (hb : b < 256) (h : ¬ n % 256 / q % 2 = b / q % 2) : (((n : Int) % 256 / q).tmod 2 != (IntKind.u64.wrap ((b : Int) / q)).tmod 2) = true := by
  rw [bits_cast n b q hb]
  exact bne_iff_ne.mpr fun e => h (Int.ofNat.inj e)

theorem drewN {B : Nat} {w w' : World} (h : Below B w w') (n : Nat) : Below B w (w'.drewN n) := by
  induction n with
  | zero => exact h
  | succ n ih => exact ih.drew
/-- how far a number is from 512 -/
def left (v : Value) : Nat := 512 - (intOf v).toNat

set_option maxRecDepth 100000 in
set_option maxHeartbeats 800000 in
theorem turned_ok (n b : Nat) (w : World) (hn : n < 4294967296) (hb : b < 256) :
    Calls Try.prog 71 #[.int .u64 n, .int .u8 b] w fun r w' => r = .returned (.int .u64 (n ^^^ b : Nat)) ∧ Below w.heap.size w w' := by
  go_enter Try.func71, Try.ntmps71
  go_wp2
  go_loopw [5, 8] (fun out sp wr => ∃ j : Nat, j ≤ 8 ∧ sp = .int .u64 (2 ^ j : Nat) ∧ out = .int .u64 (part n b j : Nat) ∧ Below w.heap.size w wr) (fun _ sp _ => left sp)
  case atStart => exact ⟨0, by omega, rfl, by rw [part_zero, Int.ofNat_sub (Nat.mod_le _ _)]; rfl, Below.refl _ _⟩
  case round =>
    obtain ⟨j, hj, rfl, rfl, hbl⟩ := hrel
    have o1 := part_lt n b j hn hb
    by_cases hlt : j < 8
    · have e := Lib.hid (part_next n b j)
      have p2 : Hid (2 ^ (j + 1) = 2 * 2 ^ j) := Lib.hid (by rw [Nat.pow_succ, Nat.mul_comm])
      have q0 : 1 ≤ 2 ^ j := Nat.one_le_two_pow
      have q1 : 2 ^ j ≤ 2 ^ 7 := Nat.pow_le_pow_right (by decide) (by omega)
      rw [show 2 ^ 7 = 128 by decide] at q1
      generalize part n b j = o at *
      generalize 2 ^ j = q at *
      have qn : (q : Int) ≠ 0 := by omega
      by_cases hd : n % 256 / q % 2 = b / q % 2
      · have e1 := Lib.hid (e.out.trans (if_pos hd))
        have d := same_bits n b q hb hd
        clear hd e hj
        go_wp2_with fail
        go_quiet (fail)
        go_wp2
        go_roundw
        case rel => exact ⟨j + 1, hlt, by rw [p2.out]; rfl, by rw [e1.out], drewN hbl _⟩
        case measure => simp [left, intOf]; omega
      · have e1 := Lib.hid (e.out.trans (if_neg hd))
        have d := other_bits n b q hb hd
        clear hd e hj
        go_wp2_with fail
        go_quiet (fail)
        go_wp2
        go_roundw
        case rel => exact ⟨j + 1, hlt, by rw [p2.out]; rfl, by rw [e1.out]; rfl, drewN hbl _⟩
        case measure => simp [left, intOf]; omega
    · obtain rfl : j = 8 := by omega
      rw [part_eight n b hb, show 2 ^ 8 = 256 by decide] at *
      go_wp2
      go_ret
      exact ⟨rfl, hbl⟩

theorem step_ref (n : Nat) (b : UInt8) (h : n < 4294967296) : (IntKind.u64.wrap (((n ^^^ b.toNat : Nat) : Int) * 16777619)).tmod 4294967296 = ((step n b : Nat) : Int) := by
  have hb := b.toNat_lt
  have hx : n ^^^ b.toNat < 2 ^ 32 := Nat.xor_lt_two_pow (by omega) (by omega)
  rw [IntKind.wrap_u64, Int.tmod_eq_emod_of_nonneg (by omega)]
  unfold step
  omega

set_option maxHeartbeats 800000 in
theorem refsum_ok (s : ByteArray) (w : World) (hs : s.size ≤ 9223372036854775807) :
    Calls Try.prog 50 #[.string s] w fun r w' => r = .returned (.int .u32 (num s.data.toList : Nat)) ∧ Below w.heap.size w w' := by
  go_enter Try.func50, Try.ntmps50
  go_wp2
  go_loopw [3, 4] (fun sum si wr => ∃ k : Nat, k ≤ s.size ∧ si = .int .i64 k ∧ sum = .int .u64 (num (s.data.toList.take k) : Nat) ∧ Below w.heap.size w wr) (fun _ si _ => s.size - (intOf si).toNat)
  case atStart => exact ⟨0, Nat.zero_le _, rfl, rfl, Below.refl _ _⟩
  case round =>
    obtain ⟨k, hk, rfl, rfl, hb⟩ := hrel
    by_cases hlt : k < s.size
    · have e := Lib.hid (num_next s k hlt)
      have hn := num_lt (s.data.toList.take k)
      generalize num (s.data.toList.take k) = n at *
      go_wp2_with fail
      refine (turned_ok n s[k].toNat _ hn s[k].toNat_lt).mono ?_
      rintro e1 w1 ⟨rfl, k1⟩
      go_wp2
      go_roundw
      case rel =>
        refine ⟨k + 1, hlt, by go_num, ?_, after hb k1⟩
        rw [e.out, ← step_ref n _ hn]
      case measure => simp [intOf]; omega
    · obtain rfl : k = s.size := by omega
      rw [take_all] at *
      have hn := num_lt s.data.toList
      generalize hN : num s.data.toList = n at *
      have E := Lib.hid hN
      clear hN
      go_wp2
      go_ret
      exact ⟨by rw [E.out]; rfl, hb⟩

set_option maxHeartbeats 400000 in
theorem refgroup_ok (s : ByteArray) (g : Int) (w : World) (hs : s.size ≤ 9223372036854775807) (g0 : -9223372036854775808 ≤ g) (g1 : g ≤ 9223372036854775807) :
    Calls Try.prog 32 #[.string s, .int .i64 g] w fun r w' => r = .returned (.int .i64 (grp (num s.data.toList) g)) ∧ Below w.heap.size w w' := by
  have S := Lib.hid fun w : World => refsum_ok s w hs
  have hn := num_lt s.data.toList
  generalize num s.data.toList = n at *
  by_cases h : g < 1
  · have e : grp n g = 0 := if_pos h
    rw [e]
    clear e
    go_enter Try.func32, Try.ntmps32
    go_wp2
    go_ret
    exact ⟨rfl, Below.refl _ _⟩
  · have e : grp n g = n % g := if_neg h
    have e' := Lib.hid e
    clear e
    go_enter Try.func32, Try.ntmps32
    go_wp2_with fail
    refine (S.out _).mono ?_
    rintro e w1 ⟨rfl, k1⟩
    go_wp2
    go_ret
    refine ⟨ret_int ?_, k1⟩
    rw [e'.out]
end Fnv
end Go.Proofs.Ytjncogjafljbiaa
