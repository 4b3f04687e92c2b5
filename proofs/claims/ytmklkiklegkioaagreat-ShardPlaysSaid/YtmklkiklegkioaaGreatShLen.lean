/-
  shard's Len: how many panes there are, of all groups.
-/
import Derived.Test.YtmklkiklegkioaaGreatShards
import Derived.Test.YtmklkiklegkioaaGreatGrpLen
namespace Go.Proofs.YtmklkiklegkioaaGreat
open Go.ChangeShapes Go.WideShapes Go.ChangeAt Go.RowKit
set_option maxRecDepth 100000
set_option linter.unusedVariables false
namespace Gr
open Small Foot Pane Grp
/-- group's Len, by its footprint -/
theorem len_ok {g N n : Nat} {F : Nat → Prop} {cf : C8} {S : Lists} (w : World) (H : Hid (Is w g F cf S N n)) (hN : N ≤ 8880) : Calls Tryz.prog 37 #[gp g] w fun r w' => r = .returned (.int .i64 n) ∧ Below w.heap.size w w' := by
  obtain ⟨m, tg, cnt, fm, FT, Bk, q, ok, -⟩ := H.out
  exact Grp.len_ok w (Lib.hid q) (Lib.hid (ok.fine (by omega)))
end Gr
namespace Sh
open Small Foot Pane Grp Ca
/-- numbers met so far -/
def CI (D : DataW Value) (left : Lit → Bool) (ss : List Int) : Prop := ss.Nodup ∧ ∀ x, x ∈ ss ↔ (Maps.has D (kl x) = true ∧ left (kl x) = false)
theorem CI.start (D : DataW Value) : CI D (Maps.has D) [] := ⟨List.nodup_nil, fun x => by cases Maps.has D (kl x) <;> simp⟩
theorem CI.step {D : DataW Value} {left : Lit → Bool} {ss : List Int} (h : CI D left ss) {x : Int} {y : DataW Value} (hlk : left (kl x) = true) (hat : ∀ zd, D.atKey (kl x) zd = y) : CI D (fun z => left z && !z.sameKey (kl x)) (ss ++ [x]) := by
  have hhas : Maps.has D (kl x) = true := Maps.has_true_of_atKey hat
  have hnew : x ∉ ss := fun hx => by have := ((h.2 x).1 hx).2; rw [hlk] at this; cases this
  refine ⟨List.nodup_append.2 ⟨h.1, by simp, fun a ha b hb => by simp at hb; subst hb; exact fun e => hnew (e ▸ ha)⟩, fun y => ?_⟩
  by_cases hy : y = x
  · subst hy; simp [hhas, Lit.sameKey]
  · simp [h.2 y, hy, Lit.sameKey]
/-- how many panes some groups have -/
def tot (n : Int → Nat) (ss : List Int) : Nat := (ss.map n).sum
theorem tot_snoc (n : Int → Nat) (ss : List Int) (x : Int) : tot n (ss ++ [x]) = tot n ss + n x := by simp [tot, List.sum_append]
theorem tot_le {n : Int → Nat} {N : Nat} : ∀ ss : List Int, (∀ x ∈ ss, n x ≤ N) → tot n ss ≤ ss.length * N
  | [], _ => Nat.zero_le _
  | x :: ss, h => by
    have h1 := h x (by simp)
    have h2 := tot_le ss fun y hy => h y (by simp [hy])
    have e : tot n (x :: ss) = n x + tot n ss := by simp [tot]
    rw [e, List.length_cons, Nat.succ_mul]
    omega
theorem tot_perm {n : Int → Nat} {a b : List Int} (h : a.Perm b) : tot n a = tot n b := (h.map n).sum_nat
theorem few_nums {ss : List Int} (nd : ss.Nodup) (h : ∀ x ∈ ss, 0 ≤ x ∧ x < 16) : ss.length ≤ 16 := by
  have := List.Nodup.length_le_of_subset nd (l₂ := (List.range 16).map fun k : Nat => (k : Int)) fun x hx => by
    obtain ⟨q1, q2⟩ := h x hx
    exact List.mem_map.2 ⟨x.toNat, List.mem_range.2 (by omega), by omega⟩
  simpa using this
set_option maxHeartbeats 4000000 in
theorem len_ok {wk N : Nat} {F : Nat → Prop} {cf : C8} {p : Int → Option Nat} {L : List Ms.M} {FF : Int → Nat → Prop} {S : Int → Lists} {nn : Int → Nat} (w : World) (H : Hid (Is w wk F cf p L)) (P : Hid (Pool w p FF cf S N nn)) (hN : N ≤ 8880) :
    Calls Tryz.prog 20 #[gp wk] w fun r w' => (∃ t : Nat, r = .returned (.int .i64 t) ∧ ∀ ks, KeysOf p ks → t = tot nn ks) ∧ Below w.heap.size w w' := by
  obtain ⟨m, bx, bv, q, hF⟩ := H.out
  obtain ⟨c, hm⟩ := q.map
  have hc := hm.small q.dom
  obtain ⟨D, hown, hsz, hD⟩ := hm
  have c8 := q.lies.cell (i := 8) rfl
  have HD := Lib.hid hD
  have dom := Lib.hid q.dom
  have hlt := hown.lt
  have hsm : ∀ x a, p x = some a → nn x ≤ N := fun x a h => by obtain ⟨m, tg, cnt, fm, FT, Bk, q, ok, l, -⟩ := P.out.is x a h; exact l
  have SM := Lib.hid hsm
  have wfx : ∀ x : Int, Maps.has D (kl x) = true → Wf x := fun x hx => by
    have hle := intKeys_wf hown Tryz.underlying3
    exact hle x (((keys_nd hown).2.2 x).2 hx)
  have DI : Hid (∀ x : Int, Maps.has D (kl x) = true → ∃ a, p x = some a ∧ ∀ z, D.atKey (kl x) z = .held (gp a)) := Lib.hid fun x hx => by
    cases hp : p x with
    | none => rw [(hD x (wfx x hx)).1 hp] at hx; cases hx
    | some a => exact ⟨a, rfl, ((hD x (wfx x hx)).2 a hp).2⟩
  have DO : Hid (∀ x : Int, p x ≠ none → Maps.has D (kl x) = true) := Lib.hid fun x hx => by
    obtain ⟨a, ha⟩ := Option.ne_none_iff_exists'.1 hx
    exact ((hD x (wf_small (q.dom x hx))).2 a ha).1
  clear hD q hsm wfx
  go_enter Tryz.func20, Tryz.ntmps20
  go_wp2_with (first
    | (at_range; refine wpList_range_own _ rfl _ 70 rfl 3 43 keyed Tryz.underlying70 RV m c D rfl hown ?_; intro w0 hrg0 hg0 hs0)
    | fail)
  go_frame
  go_loopw [3] (fun sc wr => ∃ (left : Lit → Bool) (cc : Nat) (ss : List Int), wr.ranges Tryz.prog 3 RV m w.heap.size c D left cc ∧ CI D left ss ∧ sc = .int .i64 (tot nn ss) ∧ Below w.heap.size w wr)
    (fun _ wr => wr.rangeLeft m w.heap.size)
  case atStart => exact ⟨_, _, [], hrg0, CI.start D, rfl, (Below.refl _ _).grown hg0 (Nat.le_refl _) (fun j hj => by cases hj)⟩
  case round =>
    obtain ⟨left, cc, ss, hrg, hC, rfl, hnx⟩ := hrel
    go_wp2_with (first
      | (at_next; refine wpList_next_ranges _ rfl _ rfl 3 keyed RV (fun x : Int => Value.int .i64 x) (fun v => v) (fun key kl hk => by obtain ⟨x, hx, _⟩ := Maps.keyOf_int_inv Tryz.underlying3 hk; exact ⟨x, hx⟩) (fun v y hv => ⟨v, rfl⟩) m w.heap.size c _ _ _ rfl hrg ?_ ?_)
      | fail)
    · intro hc0 hl0
      have fin : ∀ ks, KeysOf p ks → tot nn ss = tot nn ks := fun ks hks => tot_perm ((List.perm_ext_iff_of_nodup hC.1 (hks.up.imp fun {a b} h e => by omega)).2 fun x => by
        rw [hC.2 x, hl0, hks.mem x]
        refine ⟨fun h => ?_, fun h => ⟨DO.out x h, rfl⟩⟩
        obtain ⟨a, ha, -⟩ := DI.out x h.1
        rw [ha]; simp)
      have FI := Lib.hid fin
      clear fin
      go_wp2
      go_ret
      exact ⟨⟨_, rfl, FI.out⟩, hnx⟩
    · intro x v kl' y ys w1 c1 hkey hlk hv hv2 hat hrg1 hlt1 hg1 hs1 hen
      obtain ⟨x', ex, rfl, hl⟩ := Maps.keyOf_int_inv Tryz.underlying3 hkey
      obtain rfl : x = x' := by injection ex
      have hhas : Maps.has D (kl x) = true := Maps.has_true_of_atKey hat
      obtain ⟨a, ha, hat2⟩ := DI.out x hhas
      have hvu : v = gp a := by
        have h1 := hat2 .nil
        rw [hat .nil] at h1
        rw [← hv] at h1
        injection h1
      subst hvu
      have hC1 := hC.step hlk hat
      have lim : ∀ z ∈ ss ++ [x], nn z ≤ N ∧ 0 ≤ z ∧ z < 16 := fun z hz => by
        obtain ⟨b, hb, -⟩ := DI.out z ((hC1.2 z).1 hz).1
        exact ⟨SM.out z b hb, dom.out z (by rw [hb]; simp)⟩
      have t1 := tot_le (n := nn) (N := N) (ss ++ [x]) fun z hz => (lim z hz).1
      have t2 := few_nums hC1.1 fun z hz => (lim z hz).2
      have t3 : (ss ++ [x]).length * N ≤ 16 * 8880 := Nat.mul_le_mul t2 hN
      rw [tot_snoc] at t1
      have hsum : (tot nn ss : Int) + (nn x : Int) = (tot nn (ss ++ [x]) : Nat) := by rw [tot_snoc]; omega
      have hb0 : (0 : Int) ≤ (tot nn ss : Int) := by omega
      have hb1 : (0 : Int) ≤ (nn x : Int) := by omega
      have hb2 : (tot nn ss : Int) + (nn x : Int) ≤ 1048576 := by omega
      have k1 : Below w.heap.size w w1 := hnx.grown hg1 hnx.size (fun j hj => by cases hj; exact Nat.le_refl _)
      have G1 := Lib.hid ((P.out.is x a ha).next k1)
      have HS := Lib.hid hsum
      clear hs1 t1 t2 t3 lim hsum
      go_wp2_with fail
      refine (Gr.len_ok w1 G1 hN).mono ?_
      rintro r w2 ⟨rfl, k2⟩
      have R2 := Lib.hid (hrg1.kept (w' := w2) (row := none) ⟨k2.os, k2.tape, k2.output, k2.size, fun i hi _ => k2.block i hi⟩ (by simp) (by simp))
      have K2 := Lib.hid (after k1 k2)
      have M2 : Hid (w2.rangeLeft m w.heap.size < wr.rangeLeft m w.heap.size) := Lib.hid (by rw [R2.out.left_eq, hrg.left_eq]; exact hlt1)
      clear k2 hrg1 hen hrg k1 G1
      go_wp2_with fail
      exact ⟨⟨_, c1, ss ++ [x], R2.out, hC1, by rw [← HS.out], K2.out⟩, M2.out⟩
end Sh
end Go.Proofs.YtmklkiklegkioaaGreat
