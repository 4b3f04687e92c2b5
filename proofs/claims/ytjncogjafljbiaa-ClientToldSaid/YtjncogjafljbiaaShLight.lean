/-
  A worker that is made: its block, its mailbox; what is kept of its groups is left aside.
-/
import Derived.Test.YtjncogjafljbiaaShMsgs
import Derived.Test.YtjncogjafljbiaaShMaps
import Derived.Test.YtjncogjafljbiaaDrawn
import Derived.Deep.RegionHeld3
import Derived.Deep.DeepCutAuto
namespace Go.Proofs.Ytjncogjafljbiaa
open Go.ChangeShapes Go.WideShapes Go.ChangeAt Go.RowKit
set_option maxRecDepth 100000
set_option linter.unusedVariables false
namespace Sh
open Small Foot Ca Rel RelG
abbrev wcl (x : Cf) (m bx : Nat) : List Value := [.int .i64 x.k, .int .i64 x.s, .int .i64 x.l, .int .i64 x.g, .int .i64 x.z, .int .i64 x.h, .int .i64 x.r, .int .i64 x.c, .map (some m), .pointer (some ⟨bx, 0, none⟩)]
abbrev fcl (x : Cf) : List Value := [.int .i64 x.k, .int .i64 x.s, .int .i64 x.l, .int .i64 x.g, .int .i64 x.z, .int .i64 x.h, .int .i64 x.r, .int .i64 x.c]
theorem wf_small {x : Int} (h : 0 ≤ x ∧ x < 16) : Wf x := by
  show (Lit.int .i64 x).wf = true
  simp [Lit.wf, IntKind.min, IntKind.max, IntKind.bits, IntKind.signed]
  omega
set_option maxHeartbeats 1600000 in
theorem timer_new (w : World) : Calls Try.prog 70 #[] w fun r w' => ∃ g, r = .returned (gp g) ∧ Below w.heap.size w w' := by
  have hm := fun w' : World => run_makeMap (P := Try.prog) 145 w'
  go_enter Try.func70, Try.ntmps70
  go_wp2
  go_ret
  exact ⟨_, rfl, below2 _ _ _⟩
set_option maxHeartbeats 1600000 in
theorem group_new (cf : Cf) (w : World) (M : Hid (Asg.may cf.k cf.s cf.l cf.g cf.z cf.h cf.r cf.c)) (s1 : cf.s ≤ 9223372036854775807) :
    Calls Try.prog 49 #[cf.val] w fun r w' => ∃ g, r = .returned (.tuple #[gp g, .nilIface]) ∧ Below w.heap.size w w' := by
  have X0 := Lib.hid (Lies.new w 23 (fcl cf))
  have K0 := Lib.hid (below1 w (Obj.cells #[.int .i64 cf.k, .int .i64 cf.s, .int .i64 cf.l, .int .i64 cf.g, .int .i64 cf.z, .int .i64 cf.h, .int .i64 cf.r, .int .i64 cf.c] 23))
  go_enter Try.func49, Try.ntmps49
  go_wp2_with fail
  refine (Asg.may_ok cf.k cf.s cf.l cf.g cf.z cf.h cf.r cf.c _ true (Lib.hid (by simp [M.out])) s1).mono ?_
  rintro e w1 ⟨rfl, k1⟩
  have X1 := Lib.hid (X0.out.next k1)
  have K1 := Lib.hid (after K0.out k1)
  clear k1
  go_wp2_with fail
  have hm := fun w' : World => run_makeMap (P := Try.prog) 129 w'
  have CS : Hid (∀ w', Below w1.heap.size w1 w' → w'.cell? ⟨w.heap.size, 0, none⟩ = some (.int .i64 cf.k) ∧ w'.cell? ⟨w.heap.size, 1, none⟩ = some (.int .i64 cf.s) ∧ w'.cell? ⟨w.heap.size, 2, none⟩ = some (.int .i64 cf.l) ∧ w'.cell? ⟨w.heap.size, 3, none⟩ = some (.int .i64 cf.g) ∧ w'.cell? ⟨w.heap.size, 4, none⟩ = some (.int .i64 cf.z) ∧ w'.cell? ⟨w.heap.size, 5, none⟩ = some (.int .i64 cf.h) ∧ w'.cell? ⟨w.heap.size, 6, none⟩ = some (.int .i64 cf.r) ∧ w'.cell? ⟨w.heap.size, 7, none⟩ = some (.int .i64 cf.c) ∧ Below w1.heap.size w1 w') := Lib.hid fun w' hB =>
    ⟨(X1.out.next hB).cell (i := 0) rfl, (X1.out.next hB).cell (i := 1) rfl, (X1.out.next hB).cell (i := 2) rfl, (X1.out.next hB).cell (i := 3) rfl, (X1.out.next hB).cell (i := 4) rfl, (X1.out.next hB).cell (i := 5) rfl, (X1.out.next hB).cell (i := 6) rfl, (X1.out.next hB).cell (i := 7) rfl, hB⟩
  have CB : Hid (∀ w', w'.cell? ⟨w.heap.size, 0, none⟩ = some (.int .i64 cf.k) ∧ w'.cell? ⟨w.heap.size, 1, none⟩ = some (.int .i64 cf.s) ∧ w'.cell? ⟨w.heap.size, 2, none⟩ = some (.int .i64 cf.l) ∧ w'.cell? ⟨w.heap.size, 3, none⟩ = some (.int .i64 cf.g) ∧ w'.cell? ⟨w.heap.size, 4, none⟩ = some (.int .i64 cf.z) ∧ w'.cell? ⟨w.heap.size, 5, none⟩ = some (.int .i64 cf.h) ∧ w'.cell? ⟨w.heap.size, 6, none⟩ = some (.int .i64 cf.r) ∧ w'.cell? ⟨w.heap.size, 7, none⟩ = some (.int .i64 cf.c) ∧ Below w1.heap.size w1 w' → Below w1.heap.size w1 w') := Lib.hid fun w' h => h.2.2.2.2.2.2.2.2
  go_region_held3 (fun w' => w'.cell? ⟨w.heap.size, 0, none⟩ = some (.int .i64 cf.k) ∧ w'.cell? ⟨w.heap.size, 1, none⟩ = some (.int .i64 cf.s) ∧ w'.cell? ⟨w.heap.size, 2, none⟩ = some (.int .i64 cf.l) ∧ w'.cell? ⟨w.heap.size, 3, none⟩ = some (.int .i64 cf.g) ∧ w'.cell? ⟨w.heap.size, 4, none⟩ = some (.int .i64 cf.z) ∧ w'.cell? ⟨w.heap.size, 5, none⟩ = some (.int .i64 cf.h) ∧ w'.cell? ⟨w.heap.size, 6, none⟩ = some (.int .i64 cf.r) ∧ w'.cell? ⟨w.heap.size, 7, none⟩ = some (.int .i64 cf.c) ∧ Below w1.heap.size w1 w')
    (first | exact CS.out _ (Below.refl _ _).drew | exact CS.out _ (after (by first | assumption | exact (Below.refl _ _).drew | exact CB.out _ (by assumption)) k9) | exact CS.out _ (after (by first | assumption | exact (Below.refl _ _).drew | exact CB.out _ (by assumption)) (below1 _ _)))
    (first | (go_at_call 70; refine (timer_new _).mono ?_; rintro e w9 ⟨tg, rfl, k9⟩))
  all_goals
    have kk := CB.out _ (by assumption)
    clear CS CB
    go_wp2
    go_ret2
    exact ⟨_, rfl, after K1.out kk⟩
def Ints (w : World) (v : Value) (gs : List Int) : Prop := ∃ A cp, v = .slice A gs.length cp ∧ (0 < gs.length → ∃ b off, A = some ⟨b, off, none⟩ ∧ b < w.heap.size ∧ ∀ (k : Nat) (x : Int), gs[k]? = some x → w.cell? ⟨b, off + k, none⟩ = some (.int .i64 x))
theorem Ints.next {w w' : World} {v : Value} {gs : List Int} (h : Ints w v gs) (k : Below w.heap.size w w') : Ints w' v gs := by
  obtain ⟨A, cp, e, hc⟩ := h
  refine ⟨A, cp, e, fun h0 => ?_⟩
  obtain ⟨b, off, e2, hb, hc⟩ := hc h0
  exact ⟨b, off, e2, Nat.lt_of_lt_of_le hb k.size, fun i x hx => (World.cell?_of_block (a := ⟨b, off + i, none⟩) (k.block b hb)).trans (hc i x hx)⟩
/-- what lies in memory in the midst of New -/
structure NL (w : World) (wk m bx g2 : Nat) (cf : Cf) (k : Nat) (wr : World) : Prop where
  lies : Lies wr wk 115 (wcl cf m bx)
  map : ∃ p c, Mi wr m p c ∧ c ≤ k
  box : Ms.Box wr bx cf.c false (.slice none 0 0) []
  cfg : Lies wr g2 23 (fcl cf)
  below : Below w.heap.size w wr
  lo : w.heap.size ≤ g2 ∧ w.heap.size ≤ wk ∧ w.heap.size ≤ m ∧ w.heap.size ≤ bx
  ne : g2 ≠ wk ∧ g2 ≠ m ∧ g2 ≠ bx ∧ wk ≠ m ∧ wk ≠ bx ∧ m ≠ bx
theorem NL.next {w wr wr' : World} {wk m bx g2 k : Nat} {cf : Cf} (h : NL w wk m bx g2 cf k wr) (K : Below wr.heap.size wr wr') : NL w wk m bx g2 cf k wr' := by
  obtain ⟨p, c, hm, hc⟩ := h.map
  exact ⟨h.lies.next K, ⟨p, c, hm.next K, hc⟩, h.box.next K, h.cfg.next K, after h.below K, h.lo, h.ne⟩
theorem NL.skip {w wr : World} {wk m bx g2 k : Nat} {cf : Cf} (h : NL w wk m bx g2 cf k wr) : NL w wk m bx g2 cf (k + 1) wr := by
  obtain ⟨p, c, hm, hc⟩ := h.map
  exact ⟨h.lies, ⟨p, c, hm, by omega⟩, h.box, h.cfg, h.below, h.lo, h.ne⟩
theorem NL.put {w wr w1 w2 : World} {wk m bx g2 k c' : Nat} {cf : Cf} {q : Int → Option Nat} (h : NL w wk m bx g2 cf k wr) (K : Below wr.heap.size wr w1) (o : Mi w2 m q c') (hc : c' ≤ k + 1) (k2 : w1.grownBy w2 (some m)) : NL w wk m bx g2 cf (k + 1) w2 := by
  have h1 := h.next K
  have ne := h.ne
  have st : ∀ i, i < w1.heap.size → i ≠ m → w2.heap[i]? = w1.heap[i]? := fun i hi hn => k2.block i hi fun e => hn (Option.some.inj e)
  exact ⟨(st wk h1.lies.lt ne.2.2.2.1).trans h1.lies, ⟨q, c', o, hc⟩, ⟨(st bx h1.box.lies.lt (Ne.symm ne.2.2.2.2.2)).trans h1.box.lies, Sl.Own.nil _ _ _⟩, (st g2 h1.cfg.lt ne.2.1).trans h1.cfg, h1.below.grown k2 h1.below.size fun j hj => by cases hj; exact h.lo.2.2.1, h.lo, ne⟩
set_option maxHeartbeats 8000000 in
theorem newl_ok (cf : Cf) (gs : List Int) (gv : Value) (w : World) (H : Hid (Ints w gv gs)) (hn : gs.length ≤ 16) (M : Hid (Asg.may cf.k cf.s cf.l cf.g cf.z cf.h cf.r cf.c)) (s1 : cf.s ≤ 9223372036854775807) :
    Calls Try.prog 28 #[cf.val, gv] w fun r w' => ∃ wk m bx, r = .returned (.tuple #[gp wk, .nilIface]) ∧ Lies w' wk 115 (wcl cf m bx) ∧ Ms.Box w' bx cf.c false (.slice none 0 0) [] ∧ w.heap.size ≤ wk ∧ w.heap.size ≤ bx ∧ wk ≠ bx ∧ Below w.heap.size w w' := by
  obtain ⟨A0, cp, hv, hcl⟩ := H.out
  subst hv
  have HCL := Lib.hid hcl
  clear hcl
  have r16 : 1 ≤ cf.r ∧ cf.r ≤ 16 ∧ 1 ≤ cf.c ∧ cf.c ≤ 16 := by have := M.out; unfold Asg.may at this; omega
  have C0 := Lib.hid (Lies.new w 23 (fcl cf))
  have K0 := Lib.hid (below1 w (Obj.cells #[.int .i64 cf.k, .int .i64 cf.s, .int .i64 cf.l, .int .i64 cf.g, .int .i64 cf.z, .int .i64 cf.h, .int .i64 cf.r, .int .i64 cf.c] 23))
  go_enter Try.func28, Try.ntmps28
  go_wp2_with fail
  refine (Asg.may_ok cf.k cf.s cf.l cf.g cf.z cf.h cf.r cf.c _ true (Lib.hid (by simp [M.out])) s1).mono ?_
  rintro r w1 ⟨rfl, k1⟩
  have C1 := Lib.hid (C0.out.next k1)
  have K1 := Lib.hid (after K0.out k1)
  clear k1
  have c7 := C1.out.cell (i := 7) rfl
  go_wp2_with fail
  refine (Ms.new_ok cf.c w1 (by omega) (by omega)).mono ?_
  rintro r w2 ⟨rfl, b2, k2⟩
  have B2 := Lib.hid b2
  have C2 := Lib.hid (C1.out.next k2)
  have K2 := Lib.hid (after K1.out k2)
  have S2 : Hid (w.heap.size < w1.heap.size ∧ w1.heap.size < w2.heap.size) := Lib.hid ⟨C1.out.lt, b2.lies.lt⟩
  clear k2 b2 c7
  obtain ⟨c0, c1, c2, c3, c4, c5, c6, c7⟩ : (w2.cell? ⟨w.heap.size, 0, none⟩ = some (.int .i64 cf.k) ∧ w2.cell? ⟨w.heap.size, 1, none⟩ = some (.int .i64 cf.s) ∧ w2.cell? ⟨w.heap.size, 2, none⟩ = some (.int .i64 cf.l) ∧ w2.cell? ⟨w.heap.size, 3, none⟩ = some (.int .i64 cf.g) ∧ w2.cell? ⟨w.heap.size, 4, none⟩ = some (.int .i64 cf.z) ∧ w2.cell? ⟨w.heap.size, 5, none⟩ = some (.int .i64 cf.h) ∧ w2.cell? ⟨w.heap.size, 6, none⟩ = some (.int .i64 cf.r) ∧ w2.cell? ⟨w.heap.size, 7, none⟩ = some (.int .i64 cf.c)) :=
    ⟨C2.out.cell (i := 0) rfl, C2.out.cell (i := 1) rfl, C2.out.cell (i := 2) rfl, C2.out.cell (i := 3) rfl, C2.out.cell (i := 4) rfl, C2.out.cell (i := 5) rfl, C2.out.cell (i := 6) rfl, C2.out.cell (i := 7) rfl⟩
  have hm := run_makeMap (P := Try.prog) 113 w2
  go_upto_region 7 with fail
  have k3 := below1 w2 (.map #[] 0)
  have mi3 := Mi.made w2
  have k4 := below1 (w2.alloc (.map #[] 0)) (Obj.cells (wcl cf w2.heap.size w1.heap.size).toArray 115)
  have lw4 := Lies.new (w2.alloc (.map #[] 0)) 115 (wcl cf w2.heap.size w1.heap.size)
  have hsz : (w2.alloc (.map #[] 0)).heap.size = w2.heap.size + 1 := by simp
  have N0 : Hid (NL w (w2.heap.size + 1) w2.heap.size w1.heap.size w.heap.size cf 0 ((w2.alloc (.map #[] 0)).alloc (Obj.cells #[.int .i64 cf.k, .int .i64 cf.s, .int .i64 cf.l, .int .i64 cf.g, .int .i64 cf.z, .int .i64 cf.h, .int .i64 cf.r, .int .i64 cf.c, .map (some w2.heap.size), Bx.gp w1.heap.size] 115))) := Lib.hid (by
    have s2 := S2.out
    refine ⟨?_, ⟨_, 0, mi3.next k4, Nat.le_refl _⟩, (B2.out.next k3).next k4, (C2.out.next k3).next k4, after K2.out (after k3 k4), ⟨Nat.le_refl _, by omega, by omega, by omega⟩, ⟨by omega, by omega, by omega, by omega, by omega, by omega⟩⟩
    rw [← hsz]; exact lw4)
  generalize (w2.alloc (.map #[] 0)).alloc (Obj.cells #[.int .i64 cf.k, .int .i64 cf.s, .int .i64 cf.l, .int .i64 cf.g, .int .i64 cf.z, .int .i64 cf.h, .int .i64 cf.r, .int .i64 cf.c, .map (some w2.heap.size), Bx.gp w1.heap.size] 115) = w4 at N0 ⊢
  clear k3 k4 mi3 lw4 hsz hm c0 c1 c2 c3 c4 c5 c6 c7 B2 C2 K2 S2 C1 K1
  generalize hwk : w2.heap.size + 1 = wk at N0 ⊢
  generalize w2.heap.size = m at N0 ⊢
  generalize w1.heap.size = bx at N0 ⊢
  generalize hg2 : w.heap.size = g2 at N0 ⊢
  clear hwk
  go_wp2_with fail
  go_loopw [7, 10, 31] (fun se sn si wr => ∃ (k : Nat), k ≤ gs.length ∧ se = .nilIface ∧ si = .int .i64 k ∧ Hid (NL w wk m bx g2 cf k wr)) (fun _ _ si _ => gs.length - (intOf si).toNat)
  case atStart => exact ⟨0, Nat.zero_le _, rfl, rfl, N0⟩
  case round =>
    obtain ⟨k, hk, rfl, rfl, NN⟩ := hrel
    by_cases hlt : k < gs.length
    · have i1 : (k : Int) < gs.length := by omega
      have i0 : (0 : Int) ≤ (k : Int) := by omega
      obtain ⟨x, hx⟩ : ∃ x, gs[k]? = some x := ⟨_, List.getElem?_eq_getElem hlt⟩
      obtain ⟨b, off, rfl, hcell⟩ : ∃ b off, A0 = some ⟨b, off, none⟩ ∧ wr.cell? ⟨b, off + k, none⟩ = some (.int .i64 x) := by
        obtain ⟨b, off, e, hbl, hc⟩ := HCL.out (by omega)
        exact ⟨b, off, e, (World.cell?_of_block (a := ⟨b, off + k, none⟩) (NN.out.below.block b hbl)).trans (hc k x hx)⟩
      have HX := Lib.hid hx
      have cr := NN.out.cfg.cell (i := 6) rfl
      clear hx
      by_cases h1 : x < 0
      · go_wp2_with fail
        exact ⟨⟨k + 1, by omega, rfl, by go_num, Lib.hid NN.out.skip⟩, by simp [intOf]; omega⟩
      · by_cases h2 : cf.r ≤ x
        · go_wp2_with fail
          exact ⟨⟨k + 1, by omega, rfl, by go_num, Lib.hid NN.out.skip⟩, by simp [intOf]; omega⟩
        · have xo : 0 ≤ x ∧ x < cf.r := by omega
          have wx : Wf x := wf_small (by omega)
          obtain ⟨p, c0, hm0, hc0'⟩ := NN.out.map
          have hc0 : c0 ≤ 1048576 := by omega
          have HC := Lib.hid hc0'
          clear hc0'
          have HM := Lib.hid hm0
          have cw := NN.out.lies.cell (i := 8) rfl
          have d0 := NN.out.cfg.cell (i := 0) rfl
          have d1 := NN.out.cfg.cell (i := 1) rfl
          have d2 := NN.out.cfg.cell (i := 2) rfl
          have d3 := NN.out.cfg.cell (i := 3) rfl
          have d4 := NN.out.cfg.cell (i := 4) rfl
          have d5 := NN.out.cfg.cell (i := 5) rfl
          have d7 := NN.out.cfg.cell (i := 7) rfl
          have XO := Lib.hid (And.intro xo r16.2.1)
          clear hm0 xo
          go_upto_region 11 with fail
          go_region_with (first
            | (go_at_call 49; refine (group_new cf _ M s1).mono ?_; rintro r w9 ⟨g, rfl, k9⟩; have kk : Below wr.heap.size wr w9 := after (Below.refl _ _).drew k9; obtain ⟨w10, c10, st, o10, l10, k10⟩ := (HM.out.next kk).store wx g hc0 (updOf_ok p x (some g)); have N9 := Lib.hid (NN.out.put kk o10 (by have := HC.out; omega) k10); have cw9 := (NN.out.next kk).lies.cell (i := 8) rfl; clear k9 kk o10 k10 l10 cw d0 d1 d2 d3 d4 d5 d7 cr hcell)
            | fail)
          all_goals
            go_wp2_with fail
            exact ⟨⟨k + 1, by omega, rfl, by go_num, N9⟩, by simp [intOf]; omega⟩
    · obtain rfl : k = gs.length := by omega
      have i1 : ¬ ((gs.length : Int) < gs.length) := by omega
      clear i1
      go_wp2
      go_ret2
      have nn := NN.out
      exact ⟨wk, m, bx, rfl, nn.lies, nn.box, hg2 ▸ nn.lo.2.1, hg2 ▸ nn.lo.2.2.2, nn.ne.2.2.2.2.1, hg2 ▸ nn.below⟩
set_option maxHeartbeats 1600000 in
theorem box_at {wk m bx : Nat} {cf : Cf} (w : World) (H : Hid (Lies w wk 115 (wcl cf m bx))) : Calls Try.prog 30 #[gp wk] w fun r w' => r = .returned (gp bx) ∧ w = w' := by
  have m9 := H.out.cell (i := 9) rfl
  go_enter Try.func30, Try.ntmps30
  go_wp2
  go_ret
  exact ⟨rfl, rfl⟩
end Sh
end Go.Proofs.Ytjncogjafljbiaa
