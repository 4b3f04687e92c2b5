/-
  PanePlays holds: for any deeds and any text as a key the law answers true (no conditions).
-/
import Derived.Test.YtnheehodgkagfaaPanePlaysRound
namespace Go.Proofs.Ytnheehodgkagfaa.panePlays
open Go.ChangeShapes Go.WideShapes Go.ChangeAt Go.RowKit Small Pane
set_option linter.unusedVariables false

theorem lst_nil (key : ByteArray) (w : World) : Lst key 0 w (.slice none 0 0) :=
  ⟨[], 0, List.Pairwise.nil, fun p hp => absurd hp (by simp), Nat.le_refl _, Sl.Is.nil _ _ _⟩

set_option maxRecDepth 100000 in
set_option maxHeartbeats 16000000 in
theorem walk_on (A : Option Addr) (n cp : Nat) (f : Nat → Deed) (key : ByteArray) (w : World) (n1 : n ≤ 60) (n2 : key.size ≤ 100) (hf : Hid (∀ i, i < n → DFits (f i)))
    (hc : Hid (0 < n → ∃ b off, A = some ⟨b, off, none⟩ ∧ ∀ i, i < n → ∀ j v, (dl (f i))[j]? = some v → w.cell? ⟨b, off + (i * 4 + j), none⟩ = some v)) :
    Calls Try.prog 3 #[.slice A n cp, .string key] w fun r w' => r = .returned (.bool true) ∧ Below w.heap.size w w' := by
  have q1 : decide (60 < (n : Int)) = false := by simp; omega
  have q2 : decide (100 < (key.size : Int)) = false := by simp; omega
  go_enter Try.func3, Try.ntmps3
  go_wp2_with fail
  refine (head_ok _).mono ?_
  rintro e w1 ⟨rfl, k1⟩
  have K1 := Lib.hid k1
  clear k1
  go_wp2_with fail
  go_loopw [6, 7] (fun sm si wr => ∃ (i : Nat), i ≤ n ∧ si = .int .i64 i ∧ Hid (Lst key i wr sm) ∧ Hid (Below w.heap.size w wr)) (fun sm si _ => n - (intOf si).toNat)
  case atStart => exact ⟨0, Nat.zero_le _, rfl, Lib.hid (lst_nil key _), K1⟩
  case round =>
    obtain ⟨i, hin, rfl, LL, K⟩ := hrel
    clear K1
    by_cases hlt : i < n
    · obtain ⟨L, b, rl, kl, hl, il⟩ := LL.out
      have RL := Lib.hid rl
      have KL := Lib.hid kl
      obtain ⟨AV, vcap, rfl⟩ := il.len
      have IL := Lib.hid il
      clear rl kl il LL
      obtain ⟨ab, off, rfl, hcell⟩ := hc.out (by omega)
      have c0 := cell_keep K.out (hcell i hlt 0 _ rfl)
      have c1 := cell_keep K.out (hcell i hlt 1 _ rfl)
      have c2 := cell_keep K.out (hcell i hlt 2 _ rfl)
      have c3 := cell_keep K.out (hcell i hlt 3 _ rfl)
      rw [Nat.add_zero] at c0
      rw [← Nat.add_assoc] at c1 c2 c3
      have fx := Lib.hid (hf.out i hlt)
      clear hcell
      have i0 : (i : Int) < n := by omega
      go_upto_block 1 with fail
      refine round n1 i0 hl fx RL KL IL c0 c1 c2 c3 ?_ ?_
      · intros
        rename_i kz
        go_wp2_with fail
        go_ret
        exact ⟨rfl, after K.out kz.out⟩
      · intros
        rename_i hz
        obtain ⟨LN, kz⟩ := hz
        have KN := Lib.hid (after K.out kz.out)
        clear kz RL KL IL K c0 c1 c2 c3 hc hf
        go_wp2_with fail
        exact ⟨⟨i + 1, by omega, by go_num, LN, KN⟩, by simp [intOf]; omega⟩
    · obtain rfl : i = n := by omega
      go_wp2
      go_ret
      exact ⟨rfl, K.out⟩

set_option maxRecDepth 100000 in
set_option maxHeartbeats 1000000 in
theorem walk_off (A : Option Addr) (n cp : Nat) (key : ByteArray) (w : World) (hm : n ≤ maxLen) (hk : key.size ≤ 9223372036854775807) (n1 : 60 < n ∨ 100 < key.size) :
    Calls Try.prog 3 #[.slice A n cp, .string key] w fun r w' => r = .returned (.bool true) ∧ Below w.heap.size w w' := by
  unfold maxLen at hm
  by_cases h : 60 < n
  · have q1 : decide (60 < (n : Int)) = true := by simp; omega
    go_enter Try.func3, Try.ntmps3
    go_wp2_with fail
    refine (head_ok _).mono ?_
    rintro e w1 ⟨rfl, k1⟩
    have K1 := Lib.hid k1
    clear k1
    go_wp2
    go_ret
    exact ⟨rfl, K1.out⟩
  · have q1 : decide (60 < (n : Int)) = false := by simp; omega
    have q2 : decide (100 < (key.size : Int)) = true := by simp; omega
    go_enter Try.func3, Try.ntmps3
    go_wp2_with fail
    refine (head_ok _).mono ?_
    rintro e w1 ⟨rfl, k1⟩
    have K1 := Lib.hid k1
    clear k1
    go_wp2
    go_ret
    exact ⟨rfl, K1.out⟩

theorem walk (x : Option Addr × Nat × Nat × (Nat → Deed)) (w : World) (hx : Opens.IsRows dl 4 DFits w x) (key : ByteArray) (wk : key.size ≤ 9223372036854775807) :
    Calls Try.prog 3 #[.slice x.1 x.2.1 x.2.2.1, .string key] w fun r w' => r = .returned (.bool true) ∧ Below w.heap.size w w' := by
  obtain ⟨A, n, cp, f⟩ := x
  obtain ⟨hm, hf, hc⟩ := hx
  simp only at hm hf hc ⊢
  by_cases h : n ≤ 60 ∧ key.size ≤ 100
  · exact walk_on A n cp f key w h.1 h.2 (Lib.hid hf) (Lib.hid hc)
  · exact walk_off A n cp key w hm wk (by omega)

theorem own : ownKnob Try.prog.godebug = none := by kernel_rfl

set_option maxRecDepth 100000 in
theorem lifted (os : Os) (started : os.Started) (H : Type) (enc : TypeId × Value → H) :
    ReturnsInHanded {} Try.checked os 3 .any (Rows.panePlaysSpec.pre6 enc Try.prog Try.f3 Rows.panePlaysRow.domain false) (Rows.panePlaysSpec.post enc Try.prog Try.f3 false true false false) := by
  refine returnsInHanded_of_change (C := Try.checked) own started (by kernel_rfl) Try.func3
    (ChangeSpec.witness6 (enc := enc) (C := Try.checked) false ⟨#[], #[.slice none 0 0, .string ⟨#[]⟩], []⟩ 8 (by kernel_rfl) (by kernel_rfl) (by kernel_rfl) (by kernel_rfl)) ?_
  intro W base args ds gs before hval0 hW hcnd _
  have hval : ∀ (j : Nat) t v, Try.f3.params[j]? = some t → args[j]? = some v → Value.okWide Try.prog W .any base t v := hval0
  have hW' := hW
  obtain ⟨p, q, hA0, hV, rfl, hfz, hnd⟩ := hW
  have hA : DataW.TrodAll enc Try.prog W 0 (fun _ => true) true Try.f3.params.toList args.toList ds p := hA0
  rw [Try.params3] at hA hval
  obtain ⟨v0, vs0, d0, ds0, p0, q0, hargs, rfl, rfl, h0, r0⟩ := trodAll_cons hA
  obtain ⟨v1, vs1, d1, ds1, p1, q1, rfl, rfl, rfl, h1, r1⟩ := trodAll_cons r0
  obtain ⟨rfl, rfl, rfl⟩ := trodAll_nil r1
  obtain rfl : args = #[v0, v1] := by cases args; simp_all
  obtain ⟨rfl, rfl⟩ := trodVars_none hV
  obtain ⟨a0, rfl, w0⟩ := panePlays.open_deeds (hval 0 22 v0 rfl rfl) h0
  obtain ⟨a1, rfl, w1⟩ := Opens.open_str (hval 1 9 v1 rfl rfl) h1
  clear hA0 hval0
  refine (walk a0 W w0 a1 w1).mono fun e W' ⟨he, hg⟩ => ?_
  subst he
  exact ⟨_, rfl, Laid.post Laid.laidOut (by kernel_rfl) rfl (by kernel_rfl) Try.underlying4 hW' ⟨rfl, rfl, rfl⟩ hg⟩

theorem over : Rows.panePlaysRow.holds Try.pinned (OpenSpec.ofChange Rows.panePlaysSpec) :=
  OpenClaim.holds_of_wide 3 Try.f3 rfl rfl rfl rfl rfl rfl rfl ⟨rfl, rfl, rfl, rfl, rfl⟩ rfl rfl rfl rfl rfl (by kernel_rfl) Try.func3 (by kernel_rfl)
    (of_decide_eq_true (by kernel_rfl)) (by unfold Func.isWrapper; first | (rw [if_pos (by decide +kernel)]; kernel_rfl) | (rw [if_neg (by decide +kernel)]; exact ⟨rfl, rfl⟩))
    (fun os started H enc _ => lifted os started H enc)

/-- ████ THE STATEMENT ████ -/
theorem proved : Rows.PanePlaysSaid :=
  over
#print axioms proved
end Go.Proofs.Ytnheehodgkagfaa.panePlays
