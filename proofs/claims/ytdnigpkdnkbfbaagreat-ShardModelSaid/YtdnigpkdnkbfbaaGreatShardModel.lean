/-
  ShardModel: what one worker with all groups tells of any keyed calls is what the model tells, a group given to another worker, and had by it, tells on as it did: for every config, list of calls, moves and key.
-/
import Derived.Test.YtdnigpkdnkbfbaaGreatShardModelOn
import Derived.Test.YtdnigpkdnkbfbaaGreatLaid
namespace Go.Proofs.YtdnigpkdnkbfbaaGreat
open Go.ChangeShapes Go.WideShapes Go.ChangeAt Go.RowKit
set_option maxRecDepth 100000
set_option linter.unusedVariables false
namespace Opens
open Small Sh
theorem cells_int : Tryz.prog.cellsOf 3 = 1 := by kernel_rfl
/-- a slice of ints that came in -/
def IsNums (w : World) (x : Option Addr × Nat × Nat × List Int) : Prop :=
  x.2.1 ≤ maxLen ∧ (∀ z ∈ x.2.2.2, (Lit.int .i64 z).wf = true) ∧ Nums x.1 x.2.1 x.2.2.2 w
theorem open_nums {H : Type} {enc : TypeId × Value → H} {w : World} {base : Nat} {held : Bool} {spare : Nat → Bool} {r : Reach} {b0 : Nat} {v : Value} {d : DataW H} {p : List MemPlace}
    (hv : Value.okWide Tryz.prog w r b0 24 v) (h : DataW.Trod enc Tryz.prog w base spare held 24 v d p) :
    ∃ x : Option Addr × Nat × Nat × List Int, v = .slice x.1 x.2.1 x.2.2.1 ∧ IsNums w x := by
  obtain ⟨A, len, cap, rfl⟩ := okWide_slice Tryz.underlying24 hv
  obtain ⟨fuel, hf⟩ := h
  rcases ChangeShapes.open_ints Tryz.underlying24 Tryz.underlying3 cells_int hf with ⟨hcs, hx⟩ | ⟨a, len', cap', zs, hcs, _, hl, hm, hz, hx, hcell, hwz⟩
  · simp [Value.cells] at hcs
    obtain ⟨rfl, rfl, rfl⟩ := hcs
    exact ⟨(none, 0, 0, []), rfl, by simp, by simp, rfl, by simp⟩
  · simp [Value.cells] at hcs
    obtain ⟨rfl, rfl, rfl⟩ := hcs
    have hlen : len ≤ zs.length := by rw [hz]; split <;> omega
    refine ⟨(some a, len, cap, zs.take len), rfl, by simp only; omega, fun z hz => hwz z (List.mem_of_mem_take hz), by simp [hlen], fun h0 => ?_⟩
    simp only at h0 ⊢
    obtain ⟨b, off, spot⟩ := a
    have hspot : spot = none := by simpa [Addr.add] using World.cell?_spot (hcell 0 (by omega))
    subst hspot
    refine ⟨b, off, rfl, fun j hj => ?_⟩
    have := hcell j (by omega)
    rw [add_plain] at this
    rw [this]
    simp [List.getD_eq_getElem?_getD, hj]
end Opens
namespace shardModel
open Small Foot Pane Grp Ca Md Sh
set_option maxHeartbeats 4000000 in
theorem walk_no (A : Option Addr) (n cp : Nat) (B : Option Addr) (mn mc : Nat) (key : ByteArray) (cf : C8) (w : World) (M : Hid (¬ Asg.may cf.k cf.s cf.l cf.g cf.z cf.h cf.r cf.c)) (s1 : cf.s ≤ 9223372036854775807) :
    Calls Tryz.prog 4 #[cf.v, .slice A n cp, .slice B mn mc, .string key] w fun r w' => r = .returned (.bool true) ∧ Below w.heap.size w w' := by
  have X0 := Lib.hid (Lies.new w 23 cf.cl)
  have K0 := Lib.hid (below1 w (Obj.cells #[.int .i64 cf.k, .int .i64 cf.s, .int .i64 cf.l, .int .i64 cf.g, .int .i64 cf.z, .int .i64 cf.h, .int .i64 cf.r, .int .i64 cf.c] 23))
  go_enter Tryz.func4, Tryz.ntmps4
  go_upto_region 1 with fail
  generalize w.alloc (Obj.cells #[.int .i64 cf.k, .int .i64 cf.s, .int .i64 cf.l, .int .i64 cf.g, .int .i64 cf.z, .int .i64 cf.h, .int .i64 cf.r, .int .i64 cf.c] 23) = w0 at X0 K0 ⊢
  go_wp2_with fail
  refine (Sh.up_ok _).mono ?_
  rintro r w1 ⟨rfl, k1⟩
  have K1 := Lib.hid (after K0.out k1)
  have X1 := Lib.hid (X0.out.next k1)
  clear k1 X0 K0
  have c0 := X1.out.cell (i := 0) rfl
  have c1 := X1.out.cell (i := 1) rfl
  have c2 := X1.out.cell (i := 2) rfl
  have c3 := X1.out.cell (i := 3) rfl
  have c4 := X1.out.cell (i := 4) rfl
  have c5 := X1.out.cell (i := 5) rfl
  have c6 := X1.out.cell (i := 6) rfl
  have c7 := X1.out.cell (i := 7) rfl
  go_wp2_with fail
  refine (Md.new_no cf w1 M s1).mono ?_
  rintro r w2 ⟨rfl, k2⟩
  have K2 := Lib.hid (after K1.out k2)
  clear k2
  go_wp2
  go_ret
  exact ⟨rfl, K2.out⟩
set_option maxHeartbeats 4000000 in
theorem walk_far (A : Option Addr) (n cp : Nat) (f : Nat → Cl) (B : Option Addr) (mn mc : Nat) (key : ByteArray) (cf : C8) (w : World) (b : Bool) (hq : Hid (b = true ↔ Fw n f 50)) (hb : b = false ∨ 50 < mn ∨ 100 < key.size) (hnm : n ≤ maxLen)
    (hc : Hid (Row A n f w)) (M : Hid (Asg.may cf.k cf.s cf.l cf.g cf.z cf.h cf.r cf.c)) (s1 : cf.s ≤ 9223372036854775807) :
    Calls Tryz.prog 4 #[cf.v, .slice A n cp, .slice B mn mc, .string key] w fun r w' => r = .returned (.bool true) ∧ Below w.heap.size w w' := by
  have X0 := Lib.hid (Lies.new w 23 cf.cl)
  have K0 := Lib.hid (below1 w (Obj.cells #[.int .i64 cf.k, .int .i64 cf.s, .int .i64 cf.l, .int .i64 cf.g, .int .i64 cf.z, .int .i64 cf.h, .int .i64 cf.r, .int .i64 cf.c] 23))
  have HB := Lib.hid hb
  clear hb
  go_enter Tryz.func4, Tryz.ntmps4
  go_upto_region 1 with fail
  generalize w.alloc (Obj.cells #[.int .i64 cf.k, .int .i64 cf.s, .int .i64 cf.l, .int .i64 cf.g, .int .i64 cf.z, .int .i64 cf.h, .int .i64 cf.r, .int .i64 cf.c] 23) = w0 at X0 K0 ⊢
  go_wp2_with fail
  refine (Sh.up_ok _).mono ?_
  rintro r w1 ⟨rfl, k1⟩
  have K1 := Lib.hid (after K0.out k1)
  have X1 := Lib.hid (X0.out.next k1)
  clear k1 X0 K0
  have c0 := X1.out.cell (i := 0) rfl
  have c1 := X1.out.cell (i := 1) rfl
  have c2 := X1.out.cell (i := 2) rfl
  have c3 := X1.out.cell (i := 3) rfl
  have c4 := X1.out.cell (i := 4) rfl
  have c5 := X1.out.cell (i := 5) rfl
  have c6 := X1.out.cell (i := 6) rfl
  have c7 := X1.out.cell (i := 7) rfl
  go_wp2_with fail
  refine (Md.new_ok cf w1 M s1).mono ?_
  rintro r w2 ⟨mo, F, rfl, -, -, k2⟩
  have K2 := Lib.hid (after K1.out k2)
  have hc2 := Lib.hid (hc.out.next K2.out)
  clear k2
  go_wp2_with fail
  refine (Md.few_ok A n cp f 50 b w2 hq (by omega) hnm hc2).mono ?_
  rintro r w3 ⟨rfl, k3⟩
  have K3 := Lib.hid (after K2.out k3)
  clear k3
  cases b with
  | false =>
    go_wp2
    go_ret
    exact ⟨rfl, K3.out⟩
  | true =>
    by_cases hm : 50 < mn
    · have qm : decide ((50 : Int) < mn) = true := decide_eq_true (by omega)
      have qm2 : decide (50 < mn) = true := decide_eq_true hm
      go_wp2
      go_ret
      exact ⟨rfl, K3.out⟩
    · have hk : 100 < key.size := by
        rcases HB.out with q | q | q
        · cases q
        · exact absurd q hm
        · exact q
      have qm : decide ((50 : Int) < mn) = false := decide_eq_false (by omega)
      have qm2 : decide (50 < mn) = false := decide_eq_false hm
      have qk : decide ((100 : Int) < key.size) = true := decide_eq_true (by omega)
      have qk2 : decide (100 < key.size) = true := decide_eq_true hk
      go_wp2
      go_ret
      exact ⟨rfl, K3.out⟩

theorem walk (c : Cf) (hc : c.Fit) (x : Option Addr × Nat × Nat × (Nat → Cl)) (y : Option Addr × Nat × Nat × List Int) (key : ByteArray) (w : World) (hx : Opens.IsRows Cl.cl 7 Cl.Fit w x) (hy : Opens.IsNums w y) :
    Calls Tryz.prog 4 #[c.val, .slice x.1 x.2.1 x.2.2.1, .slice y.1 y.2.1 y.2.2.1, .string key] w fun r w' => r = .returned (.bool true) ∧ Below w.heap.size w w' := by
  obtain ⟨A, n, cp, f⟩ := x
  obtain ⟨B, mn, mc, ml⟩ := y
  obtain ⟨hm, hf, hr⟩ := hx
  obtain ⟨hm2, hw2, hr2⟩ := hy
  simp only at hm hf hr hm2 hw2 hr2 ⊢
  obtain ⟨k, s, l, g, z, h, r, cc⟩ := c
  by_cases M : Asg.may k s l g z h r cc
  · by_cases hq : Fw n f 50 ∧ mn ≤ 50 ∧ key.size ≤ 100
    · exact walk_on A n cp f B mn mc ml key ⟨k, s, l, g, z, h, r, cc⟩ w (Lib.hid hq.1) (Lib.hid hf) hq.2.2 hm hq.2.1 (Lib.hid hr) (Lib.hid hr2) (Lib.hid hw2) (Lib.hid M) (Lib.hid hc)
    · obtain ⟨b, hb⟩ : ∃ b : Bool, b = true ↔ Fw n f 50 := by classical exact ⟨decide (Fw n f 50), by simp⟩
      refine walk_far A n cp f B mn mc key ⟨k, s, l, g, z, h, r, cc⟩ w b (Lib.hid hb) ?_ hm (Lib.hid hr) (Lib.hid M) (fit hc.2.1).2
      cases b with
      | false => exact .inl rfl
      | true =>
        refine .inr ?_
        have h1 := hb.1 rfl
        by_cases h2 : 50 < mn
        · exact .inl h2
        · exact .inr (Nat.lt_of_not_le fun q => hq ⟨h1, by omega, q⟩)
  · exact walk_no A n cp B mn mc key ⟨k, s, l, g, z, h, r, cc⟩ w (Lib.hid M) (fit hc.2.1).2

theorem own : ownKnob Tryz.prog.godebug = none := by kernel_rfl

set_option maxRecDepth 100000 in
theorem lifted (os : Os) (started : os.Started) (H : Type) (enc : TypeId × Value → H) :
    ReturnsInHanded {} Tryz.checked os 4 .any (Rows.shardModelSpec.pre6 enc Tryz.prog Tryz.f4 Rows.shardModelRow.domain false) (Rows.shardModelSpec.post enc Tryz.prog Tryz.f4 false true false false) := by
  refine returnsInHanded_of_change (C := Tryz.checked) own started (by kernel_rfl) Tryz.func4
    (ChangeSpec.witness6 (enc := enc) (C := Tryz.checked) false ⟨#[], #[.agg #[.int .i64 0, .int .i64 0, .int .i64 0, .int .i64 0, .int .i64 0, .int .i64 0, .int .i64 0, .int .i64 0], .slice none 0 0, .slice none 0 0, .string ⟨#[]⟩], []⟩ 8 (by kernel_rfl) (by kernel_rfl) (by kernel_rfl) (by kernel_rfl)) ?_
  intro W base args ds gs before hval0 hW hcnd _
  have hval : ∀ (j : Nat) t v, Tryz.f4.params[j]? = some t → args[j]? = some v → Value.okWide Tryz.prog W .any base t v := hval0
  have hW' := hW
  obtain ⟨p, q, hA0, hV, rfl, hfz, hnd⟩ := hW
  have hA : DataW.TrodAll enc Tryz.prog W 0 (fun _ => true) true Tryz.f4.params.toList args.toList ds p := hA0
  rw [Tryz.params4] at hA hval
  obtain ⟨v0, vs0, d0, ds0, p0, q0, hargs, rfl, rfl, h0, r0⟩ := trodAll_cons hA
  obtain ⟨v1, vs1, d1, ds1, p1, q1, rfl, rfl, rfl, h1, r1⟩ := trodAll_cons r0
  obtain ⟨v2, vs2, d2, ds2, p2, q2, rfl, rfl, rfl, h2, r2⟩ := trodAll_cons r1
  obtain ⟨v3, vs3, d3, ds3, p3, q3, rfl, rfl, rfl, h3, r3⟩ := trodAll_cons r2
  obtain ⟨rfl, rfl, rfl⟩ := trodAll_nil r3
  obtain rfl : args = #[v0, v1, v2, v3] := by cases args; simp_all
  obtain ⟨rfl, rfl⟩ := trodVars_none hV
  obtain ⟨a0, rfl, w0⟩ := Opens.open_config (hval 0 23 v0 rfl rfl) h0
  obtain ⟨a1, rfl, w1⟩ := Opens.open_calls (hval 1 68 v1 rfl rfl) h1
  obtain ⟨a2, rfl, w2⟩ := Opens.open_nums (hval 2 24 v2 rfl rfl) h2
  obtain ⟨a3, rfl, w3⟩ := Opens.open_str (hval 3 9 v3 rfl rfl) h3
  clear hA0 hval0
  refine (walk a0 w0 a1 a2 a3 W w1 w2).mono fun e W' ⟨he, hg⟩ => ?_
  subst he
  exact ⟨_, rfl, Laid.post Laid.laidOut (by kernel_rfl) rfl (by kernel_rfl) Tryz.underlying4 hW' ⟨rfl, rfl, rfl⟩ hg⟩

theorem over : Rows.shardModelRow.holds Tryz.pinned (OpenSpec.ofChange Rows.shardModelSpec) :=
  OpenClaim.holds_of_wide 4 Tryz.f4 rfl rfl rfl rfl rfl rfl rfl ⟨rfl, rfl, rfl, rfl, rfl⟩ rfl rfl rfl rfl rfl (by kernel_rfl) Tryz.func4 (by kernel_rfl)
    (of_decide_eq_true (by kernel_rfl)) (by unfold Func.isWrapper; first | (rw [if_pos (by decide +kernel)]; kernel_rfl) | (rw [if_neg (by decide +kernel)]; exact ⟨rfl, rfl⟩))
    (fun os started H enc _ => lifted os started H enc)

/-- ████ THE STATEMENT ████ -/
theorem proved : Rows.ShardModelSaid :=
  over
#print axioms proved
end Go.Proofs.YtdnigpkdnkbfbaaGreat.shardModel
