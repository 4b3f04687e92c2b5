/-
  AggOrder holds: for any int64 numbers and any int the law answers true (no conditions).
-/
import Derived.Test.YtfblbhncjcicpaaUp04
import Derived.Test.YtfblbhncjcicpaaLaid
import Derived.Test.YtfblbhncjcicpaaOpens
import Derived.Deep.DeepCutAuto
namespace Go.Proofs.Ytfblbhncjcicpaa.aggOrder
open Go.ChangeShapes Go.WideShapes Go.ChangeAt Go.RowKit Small BigFrame Agg
set_option linter.unusedVariables false

abbrev four (x : A4) : List Value := [.int .i64 x.c, .int .i64 x.s, .int .i64 x.l, .int .i64 x.u]
/-- block g, written over -/
abbrev over4 (w : World) (g : Nat) (x : A4) : World :=
  (((w.setCell ⟨g, 0, none⟩ (.int .i64 x.c)).setCell ⟨g, 1, none⟩ (.int .i64 x.s)).setCell ⟨g, 2, none⟩ (.int .i64 x.l)).setCell ⟨g, 3, none⟩ (.int .i64 x.u)
theorem far4 {w : World} {g h : Nat} {t : TypeId} {cs : List Value} (k : Lies w g t cs) (e : g ≠ h) (x : A4) : Lies (over4 w h x) g t cs := (((k.far e _).far e _).far e _).far e _
theorem below4 {B w : World} {g : Nat} (k : Below B.heap.size B w) (e : B.heap.size ≤ g) (x : A4) : Below B.heap.size B (over4 w g x) := (((k.setCell e _).setCell e _).setCell e _).setCell e _

/-- four aggregates in four blocks of the call's own; nothing of B has turned -/
def St (B : World) (g : Nat) (a b c d : A4) (w : World) : Prop :=
  Lies w g 23 (four a) ∧ Lies w (g + 1) 23 (four b) ∧ Lies w (g + 1 + 1) 23 (four c) ∧ Lies w (g + 1 + 1 + 1) 23 (four d) ∧ B.heap.size ≤ g ∧ Below B.heap.size B w
section
variable {B w w' : World} {g : Nat} {a b c d : A4}
theorem St.next (h : St B g a b c d w) (k : Below w.heap.size w w') : St B g a b c d w' := ⟨h.1.next k, h.2.1.next k, h.2.2.1.next k, h.2.2.2.1.next k, h.2.2.2.2.1, after h.2.2.2.2.2 k⟩
theorem St.setA (h : St B g a b c d w) (x : A4) : St B g x b c d (over4 w g x) :=
  ⟨h.1.put4 _ _ _ _, far4 h.2.1 (by omega) x, far4 h.2.2.1 (by omega) x, far4 h.2.2.2.1 (by omega) x, h.2.2.2.2.1, below4 h.2.2.2.2.2 h.2.2.2.2.1 x⟩
theorem St.setB (h : St B g a b c d w) (x : A4) : St B g a x c d (over4 w (g + 1) x) :=
  ⟨far4 h.1 (by omega) x, h.2.1.put4 _ _ _ _, far4 h.2.2.1 (by omega) x, far4 h.2.2.2.1 (by omega) x, h.2.2.2.2.1, below4 h.2.2.2.2.2 (by have := h.2.2.2.2.1; omega) x⟩
theorem St.setC (h : St B g a b c d w) (x : A4) : St B g a b x d (over4 w (g + 1 + 1) x) :=
  ⟨far4 h.1 (by omega) x, far4 h.2.1 (by omega) x, h.2.2.1.put4 _ _ _ _, far4 h.2.2.2.1 (by omega) x, h.2.2.2.2.1, below4 h.2.2.2.2.2 (by have := h.2.2.2.2.1; omega) x⟩
theorem St.setD (h : St B g a b c d w) (x : A4) : St B g a b c x (over4 w (g + 1 + 1 + 1) x) :=
  ⟨far4 h.1 (by omega) x, far4 h.2.1 (by omega) x, far4 h.2.2.1 (by omega) x, h.2.2.2.1.put4 _ _ _ _, h.2.2.2.2.1, below4 h.2.2.2.2.2 (by have := h.2.2.2.2.1; omega) x⟩
theorem St.new (B w : World) (k : Below B.heap.size B w) : St B w.heap.size ⟨0, 0, 0, 0⟩ ⟨0, 0, 0, 0⟩ ⟨0, 0, 0, 0⟩ ⟨0, 0, 0, 0⟩
    ((((w.alloc (Obj.cells #[.int .i64 0, .int .i64 0, .int .i64 0, .int .i64 0] 23)).alloc (Obj.cells #[.int .i64 0, .int .i64 0, .int .i64 0, .int .i64 0] 23)).alloc (Obj.cells #[.int .i64 0, .int .i64 0, .int .i64 0, .int .i64 0] 23)).alloc (Obj.cells #[.int .i64 0, .int .i64 0, .int .i64 0, .int .i64 0] 23)) := by
  have n := fun w : World => Lies.new w 23 [.int .i64 0, .int .i64 0, .int .i64 0, .int .i64 0]
  refine ⟨(((n w).alloc _).alloc _).alloc _, ?_, ?_, ?_, k.size, after k (after (below3 _ _ _ _) (below1 _ _))⟩
  · have := ((n (w.alloc (Obj.cells #[.int .i64 0, .int .i64 0, .int .i64 0, .int .i64 0] 23))).alloc (Obj.cells #[.int .i64 0, .int .i64 0, .int .i64 0, .int .i64 0] 23)).alloc (Obj.cells #[.int .i64 0, .int .i64 0, .int .i64 0, .int .i64 0] 23)
    simpa using this
  · have := (n ((w.alloc (Obj.cells #[.int .i64 0, .int .i64 0, .int .i64 0, .int .i64 0] 23)).alloc (Obj.cells #[.int .i64 0, .int .i64 0, .int .i64 0, .int .i64 0] 23))).alloc (Obj.cells #[.int .i64 0, .int .i64 0, .int .i64 0, .int .i64 0] 23)
    simpa using this
  · have := n (((w.alloc (Obj.cells #[.int .i64 0, .int .i64 0, .int .i64 0, .int .i64 0] 23)).alloc (Obj.cells #[.int .i64 0, .int .i64 0, .int .i64 0, .int .i64 0] 23)).alloc (Obj.cells #[.int .i64 0, .int .i64 0, .int .i64 0, .int .i64 0] 23))
    simpa using this
end

theorem take_next (zs : List Int) (i : Nat) (h : i < zs.length) : zs.take (i + 1) = zs.take i ++ [zs.getD i 0] := by
  rw [List.take_succ_eq_append_getElem h]; simp [List.getD, h]
/-- one value more -/
theorem step (zs : List Int) (i : Nat) (h : i < zs.length) (hl : zs.length ≤ 200) (hw : ∀ z ∈ zs, (Lit.int .i64 z).wf = true) : mrg (total (zs.take i)) (one4 (zs.getD i 0)) = total (zs.take (i + 1)) := by
  have hz : zs.getD i 0 ∈ zs := by simp [List.getD, h]
  obtain ⟨h0, h1⟩ := fit (hw _ hz)
  rw [← total_one _ h0 h1, total_join _ _ (by simp; omega), ← take_next zs i h]
theorem step_tail (zs : List Int) (i k : Nat) (h : i < zs.length) (hk : k ≤ i) (hl : zs.length ≤ 200) (hw : ∀ z ∈ zs, (Lit.int .i64 z).wf = true) :
    mrg (total ((zs.take i).drop k)) (one4 (zs.getD i 0)) = total ((zs.take (i + 1)).drop k) := by
  have hz : zs.getD i 0 ∈ zs := by simp [List.getD, h]
  obtain ⟨h0, h1⟩ := fit (hw _ hz)
  rw [← total_one _ h0 h1, total_join _ _ (by simp; omega), take_next zs i h, List.drop_append_of_le_length (by simp; omega)]

theorem add_of {a0 a1 a2 a3 b0 b1 b2 b3 z : Int} (e : mrg ⟨a0, a1, a2, a3⟩ (one4 z) = ⟨b0, b1, b2, b3⟩) :
    Hid (∀ w : World, Calls Try.prog 8 #[agv a0 a1 a2 a3, .int .i64 z] w fun r w' => r = .returned (agv b0 b1 b2 b3) ∧ Below w.heap.size w w') := Lib.hid fun w => add_now (x := ⟨a0, a1, a2, a3⟩) e
theorem merge_of {a0 a1 a2 a3 b0 b1 b2 b3 c0 c1 c2 c3 : Int} (e : mrg ⟨a0, a1, a2, a3⟩ ⟨c0, c1, c2, c3⟩ = ⟨b0, b1, b2, b3⟩) :
    Hid (∀ w : World, Calls Try.prog 10 #[agv a0 a1 a2 a3, agv c0 c1 c2 c3] w fun r w' => r = .returned (agv b0 b1 b2 b3) ∧ Below w.heap.size w w') := Lib.hid fun w => merge_now (x := ⟨a0, a1, a2, a3⟩) (y := ⟨c0, c1, c2, c3⟩) e

set_option maxRecDepth 100000 in
set_option maxHeartbeats 4000000 in
theorem walk_on (b off n cp k : Nat) (zs : List Int) (w : World) (n0 : 1 ≤ n) (n1 : n ≤ 200) (hk : k ≤ n) (hz : Hid (zs.length = n)) (hw : Hid (∀ z ∈ zs, (Lit.int .i64 z).wf = true))
    (hc : Hid (∀ j, j < n → w.cell? ⟨b, off + j, none⟩ = some (.int .i64 (zs.getD j 0)))) :
    Calls Try.prog 4 #[.slice (some ⟨b, off, none⟩) n cp, .int .i64 k] w fun r w' => r = .returned (.bool true) ∧ Below w.heap.size w w' := by
  have q0 : ((n : Int) == 0) = false := by simp; omega
  have q1 : decide (200 < (n : Int)) = false := by simp; omega
  have q2 : decide ((k : Int) < 0) = false := by simp
  have q3 : decide (n < k) = false := by simp; omega
  go_enter Try.func4, Try.ntmps4
  go_wp2_with fail
  refine (up_ok _).mono ?_
  rintro e w1 ⟨rfl, k1⟩
  go_wp2_with fail
  have S0 := Lib.hid (St.new w w1 k1)
  clear q0 q1 q2 q3
  generalize (((w1.alloc (Obj.cells #[.int .i64 0, .int .i64 0, .int .i64 0, .int .i64 0] 23)).alloc (Obj.cells #[.int .i64 0, .int .i64 0, .int .i64 0, .int .i64 0] 23)).alloc (Obj.cells #[.int .i64 0, .int .i64 0, .int .i64 0, .int .i64 0] 23)).alloc (Obj.cells #[.int .i64 0, .int .i64 0, .int .i64 0, .int .i64 0] 23) = w2 at *
  generalize w1.heap.size = g at *
  clear k1
  go_loopw [10] (fun si wr => ∃ i : Nat, i ≤ n ∧ si = .int .i64 i ∧ Hid (St w g (total (zs.take i)) (total (zs.reverse.take i)) (total (zs.take (min i k))) (total ((zs.take i).drop k)) wr)) (fun si _ => n - (intOf si).toNat)
  case atStart => exact ⟨0, Nat.zero_le _, rfl, by simpa [total] using S0⟩
  case round =>
    obtain ⟨i, hin, rfl, S⟩ := hrel
    clear S0
    by_cases hlt : i < n
    · have hl := hz.out
      obtain ⟨z, hz1⟩ : ∃ z, Hid (z = zs.getD i 0) := ⟨_, Lib.hid rfl⟩
      obtain ⟨z', hz2⟩ : ∃ z, Hid (z = zs.reverse.getD i 0) := ⟨_, Lib.hid rfl⟩
      have r1 : Hid (w.cell? ⟨b, off + i, none⟩ = some (.int .i64 z)) := Lib.hid (by rw [hz1.out]; exact hc.out i hlt)
      have r2 : Hid (w.cell? ⟨b, off + (n - 1 - i), none⟩ = some (.int .i64 z')) := Lib.hid (by rw [hz2.out, hc.out (n - 1 - i) (by omega)]; simp [List.getD, List.getElem?_reverse (show i < zs.length by omega), hl])
      have eA : mrg (total (zs.take i)) (one4 z) = total (zs.take (i + 1)) := by rw [hz1.out]; exact step zs i (by omega) (by omega) hw.out
      have eB : mrg (total (zs.reverse.take i)) (one4 z') = total (zs.reverse.take (i + 1)) := by rw [hz2.out]; exact step zs.reverse i (by simp; omega) (by simp; omega) (by simpa using hw.out)
      by_cases hik : i < k
      · have eC : mrg (total (zs.take (min i k))) (one4 z) = total (zs.take (min (i + 1) k)) := by
          rw [Nat.min_eq_left (by omega), Nat.min_eq_left (by omega)]; exact eA
        have eD : total ((zs.take i).drop k) = total ((zs.take (i + 1)).drop k) := by rw [List.drop_of_length_le (by simp; omega), List.drop_of_length_le (by simp; omega)]
        rw [eD] at S
        clear eD hl hz1 hz2
        have G := Lib.hid fun wx : World => fun h : St w g (total (zs.take (i + 1))) (total (zs.reverse.take (i + 1))) (total (zs.take (min (i + 1) k))) (total ((zs.take (i + 1)).drop k)) wx => h
        generalize total (zs.take i) = xa at S eA
        generalize total (zs.reverse.take i) = xb at S eB
        generalize total (zs.take (min i k)) = xc at S eC
        obtain ⟨xa', ea⟩ : ∃ x, Hid (x = total (zs.take (i + 1))) := ⟨_, Lib.hid rfl⟩
        obtain ⟨xb', eb⟩ : ∃ x, Hid (x = total (zs.reverse.take (i + 1))) := ⟨_, Lib.hid rfl⟩
        obtain ⟨xc', ec⟩ : ∃ x, Hid (x = total (zs.take (min (i + 1) k))) := ⟨_, Lib.hid rfl⟩
        rw [← ea.out] at eA
        rw [← eb.out] at eB
        rw [← ec.out] at eC
        obtain ⟨a0, a1, a2, a3⟩ := xa
        obtain ⟨b0, b1, b2, b3⟩ := xb
        obtain ⟨c0, c1, c2, c3⟩ := xc
        obtain ⟨p0, p1, p2, p3⟩ := xa'
        obtain ⟨q0, q1, q2, q3⟩ := xb'
        obtain ⟨o0, o1, o2, o3⟩ := xc'
        have A1 := add_of eA
        have B1 := add_of eB
        have C1 := add_of eC
        clear eA eB eC G
        go_wp2_with fail
        obtain ⟨y0, y1, y2, y3, -⟩ := S.out.1.four
        have f0 := Later.cell y0
        have f1 := Later.cell y1
        have f2 := Later.cell y2
        have f3 := Later.cell y3
        have y4 := cell_keep (S.out.2.2.2.2.2.mono (Nat.le_refl _)) r1.out
        have f4 := Later.cell y4
        clear y0 y1 y2 y3 y4
        refine wp_region_later_tail 6 (by kernel_rfl) (by kernel_rfl) ?_
        simp only [List.take_succ_cons, List.take_zero, List.drop_succ_cons, List.drop_zero]
        repeat (go_big_quiet_step (first | (go_at_call 8; with_reducible exact Later.call _ (A1.out _))))
        refine wpQuiet_nil ?_
        rintro _ ⟨u, rfl⟩
        have Sn := Lib.hid (S.out.next u.below)
        clear f0 f1 f2 f3 f4
        generalize u.w = w3 at *
        obtain ⟨g0, g1, g2, g3, g4, g5, g6, g7⟩ := Sn.out.1.four
        go_wp2_with fail
        clear g0 g1 g2 g3 g4 g5 g6 g7
        have S1 := Lib.hid (Sn.out.setA ⟨p0, p1, p2, p3⟩)
        dsimp only [over4] at S1
        generalize (((w3.setCell ⟨g, 0, none⟩ (.int .i64 p0)).setCell ⟨g, 1, none⟩ (.int .i64 p1)).setCell ⟨g, 2, none⟩ (.int .i64 p2)).setCell ⟨g, 3, none⟩ (.int .i64 p3) = w4 at *
        clear S Sn u
        have t1 : IntKind.i64.wrap ((n : Int) - 1) = (n : Int) - 1 := IntWalk.i64_in _ (by omega)
        have t2 : IntKind.i64.wrap ((n : Int) - 1 - i) = (n : Int) - 1 - i := IntWalk.i64_in _ (by omega)
        have t3 : 0 ≤ (n : Int) - 1 - i := by omega
        have t4 : (n : Int) - 1 - i < n := by omega
        have t5 : ((n : Int) - 1 - i).toNat = n - 1 - i := by omega
        obtain ⟨y0, y1, y2, y3, -⟩ := S1.out.2.1.four
        have f0 := Later.cell y0
        have f1 := Later.cell y1
        have f2 := Later.cell y2
        have f3 := Later.cell y3
        have y4 := cell_keep (S1.out.2.2.2.2.2.mono (Nat.le_refl _)) r2.out
        have f4 := Later.cell y4
        clear y0 y1 y2 y3 y4
        refine wp_region_later_tail 10 (by kernel_rfl) (by kernel_rfl) ?_
        simp only [List.take_succ_cons, List.take_zero, List.drop_succ_cons, List.drop_zero]
        repeat (go_big_quiet_step (first | (go_at_call 8; with_reducible exact Later.call _ (B1.out _))))
        refine wpQuiet_nil ?_
        rintro _ ⟨u, rfl⟩
        have S1n := Lib.hid (S1.out.next u.below)
        clear f0 f1 f2 f3 f4
        generalize u.w = w5 at *
        obtain ⟨g0, g1, g2, g3, g4, g5, g6, g7⟩ := S1n.out.2.1.four
        clear t1 t2 t3 t4 t5
        go_wp2_with fail
        clear g0 g1 g2 g3 g4 g5 g6 g7
        have S2 := Lib.hid (S1n.out.setB ⟨q0, q1, q2, q3⟩)
        dsimp only [over4] at S2
        generalize (((w5.setCell ⟨g + 1, 0, none⟩ (.int .i64 q0)).setCell ⟨g + 1, 1, none⟩ (.int .i64 q1)).setCell ⟨g + 1, 2, none⟩ (.int .i64 q2)).setCell ⟨g + 1, 3, none⟩ (.int .i64 q3) = w6 at *
        clear S1 S1n u
        obtain ⟨y0, y1, y2, y3, -⟩ := S2.out.2.2.1.four
        have f0 := Later.cell y0
        have f1 := Later.cell y1
        have f2 := Later.cell y2
        have f3 := Later.cell y3
        have y4 := cell_keep (S2.out.2.2.2.2.2.mono (Nat.le_refl _)) r1.out
        have f4 := Later.cell y4
        clear y0 y1 y2 y3 y4
        refine wp_region_later_tail 6 (by kernel_rfl) (by kernel_rfl) ?_
        simp only [List.take_succ_cons, List.take_zero, List.drop_succ_cons, List.drop_zero]
        repeat (go_big_quiet_step (first | (go_at_call 8; with_reducible exact Later.call _ (C1.out _))))
        refine wpQuiet_nil ?_
        rintro _ ⟨u, rfl⟩
        have S2n := Lib.hid (S2.out.next u.below)
        clear f0 f1 f2 f3 f4
        generalize u.w = w7 at *
        obtain ⟨g0, g1, g2, g3, g4, g5, g6, g7⟩ := S2n.out.2.2.1.four
        go_wp2_with fail
        clear g0 g1 g2 g3 g4 g5 g6 g7
        have S3 := Lib.hid (S2n.out.setC ⟨o0, o1, o2, o3⟩)
        dsimp only [over4] at S3
        generalize (((w7.setCell ⟨g + 1 + 1, 0, none⟩ (.int .i64 o0)).setCell ⟨g + 1 + 1, 1, none⟩ (.int .i64 o1)).setCell ⟨g + 1 + 1, 2, none⟩ (.int .i64 o2)).setCell ⟨g + 1 + 1, 3, none⟩ (.int .i64 o3) = w8 at *
        clear S2 S2n u
        rw [ea.out, eb.out, ec.out] at S3
        exact ⟨⟨i + 1, by omega, by go_num, S3⟩, by simp [intOf]; omega⟩
      · have eC : total (zs.take (min i k)) = total (zs.take (min (i + 1) k)) := by rw [Nat.min_eq_right (by omega), Nat.min_eq_right (by omega)]
        have eD : mrg (total ((zs.take i).drop k)) (one4 z) = total ((zs.take (i + 1)).drop k) := by rw [hz1.out]; exact step_tail zs i k (by omega) (by omega) (by omega) hw.out
        rw [eC] at S
        clear eC hl hz1 hz2
        have G := Lib.hid fun wx : World => fun h : St w g (total (zs.take (i + 1))) (total (zs.reverse.take (i + 1))) (total (zs.take (min (i + 1) k))) (total ((zs.take (i + 1)).drop k)) wx => h
        generalize total (zs.take i) = xa at S eA
        generalize total (zs.reverse.take i) = xb at S eB
        generalize total ((zs.take i).drop k) = xd at S eD
        obtain ⟨xa', ea⟩ : ∃ x, Hid (x = total (zs.take (i + 1))) := ⟨_, Lib.hid rfl⟩
        obtain ⟨xb', eb⟩ : ∃ x, Hid (x = total (zs.reverse.take (i + 1))) := ⟨_, Lib.hid rfl⟩
        obtain ⟨xd', ed⟩ : ∃ x, Hid (x = total ((zs.take (i + 1)).drop k)) := ⟨_, Lib.hid rfl⟩
        rw [← ea.out] at eA
        rw [← eb.out] at eB
        rw [← ed.out] at eD
        obtain ⟨a0, a1, a2, a3⟩ := xa
        obtain ⟨b0, b1, b2, b3⟩ := xb
        obtain ⟨d0, d1, d2, d3⟩ := xd
        obtain ⟨p0, p1, p2, p3⟩ := xa'
        obtain ⟨q0, q1, q2, q3⟩ := xb'
        obtain ⟨o0, o1, o2, o3⟩ := xd'
        have A1 := add_of eA
        have B1 := add_of eB
        have D1 := merge_of eD
        clear eA eB eD G
        go_wp2_with fail
        obtain ⟨y0, y1, y2, y3, -⟩ := S.out.1.four
        have f0 := Later.cell y0
        have f1 := Later.cell y1
        have f2 := Later.cell y2
        have f3 := Later.cell y3
        have y4 := cell_keep (S.out.2.2.2.2.2.mono (Nat.le_refl _)) r1.out
        have f4 := Later.cell y4
        clear y0 y1 y2 y3 y4
        refine wp_region_later_tail 6 (by kernel_rfl) (by kernel_rfl) ?_
        simp only [List.take_succ_cons, List.take_zero, List.drop_succ_cons, List.drop_zero]
        repeat (go_big_quiet_step (first | (go_at_call 8; with_reducible exact Later.call _ (A1.out _))))
        refine wpQuiet_nil ?_
        rintro _ ⟨u, rfl⟩
        have Sn := Lib.hid (S.out.next u.below)
        clear f0 f1 f2 f3 f4
        generalize u.w = w3 at *
        obtain ⟨g0, g1, g2, g3, g4, g5, g6, g7⟩ := Sn.out.1.four
        go_wp2_with fail
        clear g0 g1 g2 g3 g4 g5 g6 g7
        have S1 := Lib.hid (Sn.out.setA ⟨p0, p1, p2, p3⟩)
        dsimp only [over4] at S1
        generalize (((w3.setCell ⟨g, 0, none⟩ (.int .i64 p0)).setCell ⟨g, 1, none⟩ (.int .i64 p1)).setCell ⟨g, 2, none⟩ (.int .i64 p2)).setCell ⟨g, 3, none⟩ (.int .i64 p3) = w4 at *
        clear S Sn u
        have t1 : IntKind.i64.wrap ((n : Int) - 1) = (n : Int) - 1 := IntWalk.i64_in _ (by omega)
        have t2 : IntKind.i64.wrap ((n : Int) - 1 - i) = (n : Int) - 1 - i := IntWalk.i64_in _ (by omega)
        have t3 : 0 ≤ (n : Int) - 1 - i := by omega
        have t4 : (n : Int) - 1 - i < n := by omega
        have t5 : ((n : Int) - 1 - i).toNat = n - 1 - i := by omega
        obtain ⟨y0, y1, y2, y3, -⟩ := S1.out.2.1.four
        have f0 := Later.cell y0
        have f1 := Later.cell y1
        have f2 := Later.cell y2
        have f3 := Later.cell y3
        have y4 := cell_keep (S1.out.2.2.2.2.2.mono (Nat.le_refl _)) r2.out
        have f4 := Later.cell y4
        clear y0 y1 y2 y3 y4
        refine wp_region_later_tail 10 (by kernel_rfl) (by kernel_rfl) ?_
        simp only [List.take_succ_cons, List.take_zero, List.drop_succ_cons, List.drop_zero]
        repeat (go_big_quiet_step (first | (go_at_call 8; with_reducible exact Later.call _ (B1.out _))))
        refine wpQuiet_nil ?_
        rintro _ ⟨u, rfl⟩
        have S1n := Lib.hid (S1.out.next u.below)
        clear f0 f1 f2 f3 f4
        generalize u.w = w5 at *
        obtain ⟨g0, g1, g2, g3, g4, g5, g6, g7⟩ := S1n.out.2.1.four
        clear t1 t2 t3 t4 t5
        go_wp2_with fail
        clear g0 g1 g2 g3 g4 g5 g6 g7
        have S2 := Lib.hid (S1n.out.setB ⟨q0, q1, q2, q3⟩)
        dsimp only [over4] at S2
        generalize (((w5.setCell ⟨g + 1, 0, none⟩ (.int .i64 q0)).setCell ⟨g + 1, 1, none⟩ (.int .i64 q1)).setCell ⟨g + 1, 2, none⟩ (.int .i64 q2)).setCell ⟨g + 1, 3, none⟩ (.int .i64 q3) = w6 at *
        clear S1 S1n u
        obtain ⟨y0, y1, y2, y3, -⟩ := S2.out.2.2.2.1.four
        have f0 := Later.cell y0
        have f1 := Later.cell y1
        have f2 := Later.cell y2
        have f3 := Later.cell y3
        have y4 := cell_keep (S2.out.2.2.2.2.2.mono (Nat.le_refl _)) r1.out
        have f4 := Later.cell y4
        clear y0 y1 y2 y3 y4
        refine wp_region_later_tail 7 (by kernel_rfl) (by kernel_rfl) ?_
        simp only [List.take_succ_cons, List.take_zero, List.drop_succ_cons, List.drop_zero]
        repeat (go_big_quiet_step (first | (go_at_call 6; with_reducible exact Later.call _ (of_ok _ _)) | (go_at_call 10; with_reducible exact Later.call _ (D1.out _))))
        refine wpQuiet_nil ?_
        rintro _ ⟨u, rfl⟩
        have S2n := Lib.hid (S2.out.next u.below)
        clear f0 f1 f2 f3 f4
        generalize u.w = w7 at *
        obtain ⟨g0, g1, g2, g3, g4, g5, g6, g7⟩ := S2n.out.2.2.2.1.four
        go_wp2_with fail
        clear g0 g1 g2 g3 g4 g5 g6 g7
        have S3 := Lib.hid (S2n.out.setD ⟨o0, o1, o2, o3⟩)
        dsimp only [over4] at S3
        generalize (((w7.setCell ⟨g + 1 + 1 + 1, 0, none⟩ (.int .i64 o0)).setCell ⟨g + 1 + 1 + 1, 1, none⟩ (.int .i64 o1)).setCell ⟨g + 1 + 1 + 1, 2, none⟩ (.int .i64 o2)).setCell ⟨g + 1 + 1 + 1, 3, none⟩ (.int .i64 o3) = w8 at *
        clear S2 S2n u
        rw [ea.out, eb.out, ed.out] at S3
        exact ⟨⟨i + 1, by omega, by go_num, S3⟩, by simp [intOf]; omega⟩
    · obtain rfl : i = n := by omega
      have hl := hz.out
      have e1 : total (zs.take i) = total zs := by rw [List.take_of_length_le (by omega)]
      have e2 : total (zs.reverse.take i) = total zs := by rw [List.take_of_length_le (by simp; omega), total_reverse _ (by omega)]
      have e3 : min i k = k := by omega
      have e4 : zs.take i = zs := List.take_of_length_le (by omega)
      rw [e1, e2, e3, e4] at S
      have m1 : mrg (total (zs.take k)) (total (zs.drop k)) = total zs := by rw [total_join _ _ (by simp; omega), List.take_append_drop]
      have m2 : mrg (total (zs.drop k)) (total (zs.take k)) = total zs := by rw [total_comm]; exact m1
      have hn : (total zs).c = i := by rw [total_count]; omega
      have hle := total_le zs
      clear e1 e2 e3 e4 hl
      generalize total zs = x at *
      generalize total (zs.take k) = xc at *
      generalize total (zs.drop k) = xd at *
      obtain ⟨a0, a1, a2, a3⟩ := x
      obtain ⟨c0, c1, c2, c3⟩ := xc
      obtain ⟨d0, d1, d2, d3⟩ := xd
      simp only at hn hle
      subst hn
      have M1 := merge_of m1
      have M2 := merge_of m2
      clear m1 m2
      have hd : decide (a2 ≤ a3) = true := by simpa using hle
      clear hle
      go_wp2_with fail
      obtain ⟨y0, y1, y2, y3, -⟩ := S.out.1.four
      have f0 := Later.cell y0
      have f1 := Later.cell y1
      have f2 := Later.cell y2
      have f3 := Later.cell y3
      clear y0 y1 y2 y3
      obtain ⟨y0, y1, y2, y3, -⟩ := S.out.2.1.four
      have f4 := Later.cell y0
      have f5 := Later.cell y1
      have f6 := Later.cell y2
      have f7 := Later.cell y3
      clear y0 y1 y2 y3
      obtain ⟨y0, y1, y2, y3, -⟩ := S.out.2.2.1.four
      have f8 := Later.cell y0
      have f9 := Later.cell y1
      have f10 := Later.cell y2
      have f11 := Later.cell y3
      clear y0 y1 y2 y3
      obtain ⟨y0, y1, y2, y3, -⟩ := S.out.2.2.2.1.four
      have f12 := Later.cell y0
      have f13 := Later.cell y1
      have f14 := Later.cell y2
      have f15 := Later.cell y3
      clear y0 y1 y2 y3
      refine wp_region_later (by kernel_rfl) (by kernel_rfl) ?_
      repeat (go_big_quiet_step (first
        | (go_at_call 10; with_reducible exact Later.call _ (M1.out _))
        | (go_at_call 10; with_reducible exact Later.call _ (M2.out _))))
      refine wpQuiet_nil ?_
      rintro _ ⟨u, rfl⟩
      have S1 := S.out.next u.below
      clear f0 f1 f2 f3 f4 f5 f6 f7 f8 f9 f10 f11 f12 f13 f14 f15
      go_wp2
      go_ret
      exact ⟨rfl, S1.2.2.2.2.2⟩

set_option maxHeartbeats 1000000 in
theorem walk_off (a : Option Addr) (n cp : Nat) (k : Int) (w : World) (hm : n ≤ maxLen) (h : n = 0 ∨ 200 < n ∨ k < 0 ∨ (n : Int) < k) :
    Calls Try.prog 4 #[.slice a n cp, .int .i64 k] w fun r w' => r = .returned (.bool true) ∧ Below w.heap.size w w' := by
  unfold maxLen at hm
  by_cases h0 : n = 0
  · subst h0
    clear h
    go_enter Try.func4, Try.ntmps4
    go_wp2_with fail
    refine (up_ok _).mono ?_
    rintro e w1 ⟨rfl, k1⟩
    go_wp2
    go_ret
    exact ⟨rfl, k1⟩
  have q0 : ((n : Int) == 0) = false := by simp; omega
  by_cases h1 : 200 < n
  · have q1 : decide (200 < (n : Int)) = true := by simp; omega
    clear h h0 h1
    go_enter Try.func4, Try.ntmps4
    go_wp2_with fail
    refine (up_ok _).mono ?_
    rintro e w1 ⟨rfl, k1⟩
    go_wp2
    go_ret
    exact ⟨rfl, k1⟩
  have q1 : decide (200 < (n : Int)) = false := by simp; omega
  by_cases h2 : k < 0
  · have q2 : decide (k < 0) = true := by simpa using h2
    clear h h0 h1 h2
    go_enter Try.func4, Try.ntmps4
    go_wp2_with fail
    refine (up_ok _).mono ?_
    rintro e w1 ⟨rfl, k1⟩
    go_wp2
    go_ret
    exact ⟨rfl, k1⟩
  have q2 : decide (k < 0) = false := by simp; omega
  have q3 : decide ((n : Int) < k) = true := by simp; omega
  clear h h0 h1 h2
  go_enter Try.func4, Try.ntmps4
  go_wp2_with fail
  refine (up_ok _).mono ?_
  rintro e w1 ⟨rfl, k1⟩
  go_wp2
  go_ret
  exact ⟨rfl, k1⟩

theorem walk (x : Option Addr × Nat × Nat × List Int) (w : World) (hx : Opens.IsInts w x) (k : Int) (wk : (Lit.int .i64 k).wf = true) :
    Calls Try.prog 4 #[.slice x.1 x.2.1 x.2.2.1, .int .i64 k] w fun r w' => r = .returned (.bool true) ∧ Below w.heap.size w w' := by
  obtain ⟨a, n, cp, zs⟩ := x
  obtain ⟨hm, hl, hw, hc⟩ := hx
  simp only at hm hl hw hc ⊢
  by_cases h : n = 0 ∨ 200 < n ∨ k < 0 ∨ (n : Int) < k
  · exact walk_off a n cp k w hm h
  · obtain ⟨b, off, rfl, hd⟩ := hc (by omega)
    obtain ⟨j, rfl⟩ : ∃ j : Nat, k = j := ⟨k.toNat, by omega⟩
    exact walk_on b off n cp j zs w (by omega) (by omega) (by omega) (Lib.hid hl) (Lib.hid hw) (Lib.hid hd)

theorem own : ownKnob Try.prog.godebug = none := by kernel_rfl

set_option maxRecDepth 100000 in
theorem lifted (os : Os) (started : os.Started) (H : Type) (enc : TypeId × Value → H) :
    ReturnsInHanded {} Try.checked os 4 .any (Rows.aggOrderSpec.pre6 enc Try.prog Try.f4 Rows.aggOrderRow.domain false) (Rows.aggOrderSpec.post enc Try.prog Try.f4 false true false false) := by
  refine returnsInHanded_of_change (C := Try.checked) own started (by kernel_rfl) Try.func4
    (ChangeSpec.witness6 (enc := enc) (C := Try.checked) false ⟨#[], #[.slice none 0 0, .int .i64 0], []⟩ 8 (by kernel_rfl) (by kernel_rfl) (by kernel_rfl) (by kernel_rfl)) ?_
  intro W base args ds gs before hval0 hW hcnd _
  have hval : ∀ (j : Nat) t v, Try.f4.params[j]? = some t → args[j]? = some v → Value.okWide Try.prog W .any base t v := hval0
  have hW' := hW
  obtain ⟨p, q, hA0, hV, rfl, hfz, hnd⟩ := hW
  have hA : DataW.TrodAll enc Try.prog W 0 (fun _ => true) true Try.f4.params.toList args.toList ds p := hA0
  rw [Try.params4] at hA hval
  obtain ⟨v0, vs0, d0, ds0, p0, q0, hargs, rfl, rfl, h0, r0⟩ := trodAll_cons hA
  obtain ⟨v1, vs1, d1, ds1, p1, q1, rfl, rfl, rfl, h1, r1⟩ := trodAll_cons r0
  obtain ⟨rfl, rfl, rfl⟩ := trodAll_nil r1
  obtain rfl : args = #[v0, v1] := by cases args; simp_all
  obtain ⟨rfl, rfl⟩ := trodVars_none hV
  obtain ⟨a0, rfl, w0⟩ := Opens.open_ints (hval 0 29 v0 rfl rfl) h0
  obtain ⟨a1, rfl, rfl, rfl, w1⟩ := open_int Try.underlying3 (hval 1 3 v1 rfl rfl) h1
  clear hA0 hval0
  refine (walk a0 W w0 a1 w1).mono fun e W' ⟨he, hg⟩ => ?_
  subst he
  exact ⟨_, rfl, Laid.post Laid.laidOut (by kernel_rfl) rfl (by kernel_rfl) Try.underlying4 hW' ⟨rfl, rfl, rfl⟩ hg⟩

theorem over : Rows.aggOrderRow.holds Try.pinned (OpenSpec.ofChange Rows.aggOrderSpec) :=
  OpenClaim.holds_of_wide 4 Try.f4 rfl rfl rfl rfl rfl rfl rfl ⟨rfl, rfl, rfl, rfl, rfl⟩ rfl rfl rfl rfl rfl (by kernel_rfl) Try.func4 (by kernel_rfl)
    (of_decide_eq_true (by kernel_rfl)) (by unfold Func.isWrapper; first | (rw [if_pos (by decide +kernel)]; kernel_rfl) | (rw [if_neg (by decide +kernel)]; exact ⟨rfl, rfl⟩))
    (fun os started H enc _ => lifted os started H enc)

/-- ████ THE STATEMENT ████ -/
theorem proved : Rows.AggOrderSaid :=
  over
#print axioms proved
end Go.Proofs.Ytfblbhncjcicpaa.aggOrder
