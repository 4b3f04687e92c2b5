/-
  shard's New: ErrConfig, or a worker of some groups, without panes, and an empty mailbox.
  The head of the statements of layer 14 (the document's example) answers true; a message that is made, as a law at the operation.
-/
import Derived.Test.YtmklkiklegkioaaGreatShards
import Derived.Test.YtmklkiklegkioaaGreatShStep
import Derived.Test.YtmklkiklegkioaaGreatErrs
import Derived.Test.YtmklkiklegkioaaGreatOpens
namespace Go.Proofs.YtmklkiklegkioaaGreat
open Go.ChangeShapes Go.WideShapes Go.ChangeAt Go.RowKit
set_option maxRecDepth 100000
set_option linter.unusedVariables false
namespace Sh
open Small Foot Pane Grp Ca Rel RelG


set_option maxHeartbeats 4000000 in
theorem new_no (cf : C8) (gv : Value) (w : World) (M : Hid (¬ Asg.may cf.k cf.s cf.l cf.g cf.z cf.h cf.r cf.c)) (s1 : cf.s ≤ 9223372036854775807) :
    Calls Tryz.prog 5 #[cf.v, gv] w fun r w' => r = .returned (.tuple #[.pointer none, .iface 33 (.int .i64 2)]) ∧ Below w.heap.size w w' := by
  go_enter Tryz.func5, Tryz.ntmps5
  go_wp2_with fail
  refine (Asg.may_ok cf.k cf.s cf.l cf.g cf.z cf.h cf.r cf.c _ false (Lib.hid (by simp [M.out])) s1).mono ?_
  rintro r w1 ⟨rfl, k1⟩
  go_wp2
  go_ret2
  exact ⟨rfl, after (below1 _ _) k1⟩

theorem sl_lt {w : World} {v : Value} {gs : List Int} {b : Nat} (h : Sl.Is Ik.k w v gs b) (hn : gs ≠ []) : b < w.heap.size := by
  obtain ⟨_, _, _, _, _, q, _⟩ := h.some_ Ik.ok (List.length_pos_iff.2 hn)
  exact q
/-- what lies in memory in the midst of New -/
structure NS (w : World) (wk m bx g2 : Nat) (cf : C8) (gs : List Int) (k : Nat) (p : Int → Option Nat) (FF : Int → Nat → Prop) (wr : World) : Prop where
  q : Q wr wk m bx (.slice none 0 0) cf p []
  pool : Pool wr p FF cf (fun _ _ => []) 0 (fun _ => 0)
  cfg : Lies wr g2 23 cf.cl
  below : Below w.heap.size w wr
  lo : w.heap.size ≤ g2 ∧ w.heap.size ≤ wk ∧ w.heap.size ≤ m ∧ w.heap.size ≤ bx
  nf : ∀ i, UF p FF i → w.heap.size ≤ i ∧ i ≠ wk ∧ i ≠ m ∧ i ≠ bx ∧ i ≠ g2
  ne : g2 ≠ wk ∧ g2 ≠ m ∧ g2 ≠ bx
  has : ∀ x, p x ≠ none ↔ (0 ≤ x ∧ x < cf.r ∧ x ∈ gs.take k)
theorem NS.next {w : World} {wk m bx g2 : Nat} {cf : C8} {gs : List Int} {k : Nat} {p : Int → Option Nat} {FF : Int → Nat → Prop} {wr wr' : World} (h : NS w wk m bx g2 cf gs k p FF wr) (K : Below wr.heap.size wr wr') : NS w wk m bx g2 cf gs k p FF wr' :=
  ⟨h.q.keep fun i hi => K.block i (h.q.in i hi), h.pool.next K, h.cfg.next K, after h.below K, h.lo, h.nf, h.ne, h.has⟩
theorem NS.skip {w : World} {wk m bx g2 : Nat} {cf : C8} {gs : List Int} {k : Nat} {p : Int → Option Nat} {FF : Int → Nat → Prop} {wr : World} {x : Int} (h : NS w wk m bx g2 cf gs k p FF wr) (hx : gs[k]? = some x) (ho : ¬ (0 ≤ x ∧ x < cf.r)) : NS w wk m bx g2 cf gs (k + 1) p FF wr :=
  ⟨h.q, h.pool, h.cfg, h.below, h.lo, h.nf, h.ne, fun y => by
    rw [h.has y, List.take_add_one, hx]
    simp only [Option.toList_some, List.mem_append, List.mem_singleton]
    exact ⟨fun ⟨a, b, c⟩ => ⟨a, b, .inl c⟩, fun ⟨a, b, c⟩ => ⟨a, b, c.elim id fun e => absurd (e ▸ ⟨a, b⟩) ho⟩⟩⟩
theorem NS.put {w : World} {wk m bx g2 : Nat} {cf : C8} {gs : List Int} {k : Nat} {p : Int → Option Nat} {FF : Int → Nat → Prop} {wr w1 w2 : World} {x : Int} {g c' : Nat} {F : Nat → Prop} (h : NS w wk m bx g2 cf gs k p FF wr) (hx : gs[k]? = some x) (ho : 0 ≤ x ∧ x < cf.r) (h16 : cf.r ≤ 16)
    (K : Below wr.heap.size wr w1) (G : Gr.Is w1 g F cf (fun _ => []) 0 0) (hF : From wr.heap.size F) (o : Mi w2 m (updOf p x (some g)) c') (k2 : w1.grownBy w2 (some m)) :
    NS w wk m bx g2 cf gs (k + 1) (updOf p x (some g)) (fun y => if y = x then F else FF y) w2 := by
  have h1 := h.next K
  obtain ⟨c0, hm0⟩ := h.q.map
  have lts : wk < wr.heap.size ∧ m < wr.heap.size ∧ bx < wr.heap.size ∧ g2 < wr.heap.size := ⟨h.q.lies.lt, hm0.lt, h.q.box.lies.lt, h.cfg.lt⟩
  have pn : ∀ y, y ≠ x → updOf p x (some g) y = p y := fun y hy => by simp [updOf, hy]
  have px : updOf p x (some g) x = some g := by simp [updOf]
  have uf : ∀ i, UF (updOf p x (some g)) (fun y => if y = x then F else FF y) i → wr.heap.size ≤ i ∨ UF p FF i := fun i ⟨y, hy, hi⟩ => by
    by_cases e : y = x
    · simp only [e, if_true] at hi
      exact .inl (hF i hi)
    · simp only [e, if_false] at hi
      exact .inr ⟨y, by rwa [pn y e] at hy, hi⟩
  have ap : ∀ y, p y ≠ none → Apart F (FF y) := fun y hy i hi q => by
    have := hF i hi
    have := h.pool.in i ⟨y, hy, q⟩
    omega
  have nm : ∀ i, UF (updOf p x (some g)) (fun y => if y = x then F else FF y) i → i ≠ m := fun i hi => by
    rcases uf i hi with q | q
    · omega
    · exact (h.nf i q).2.2.1
  have P2 : Pool w2 (updOf p x (some g)) (fun y => if y = x then F else FF y) cf (fun _ _ => []) 0 (fun _ => 0) := by
    have P1 : Pool w1 (updOf p x (some g)) (fun y => if y = x then F else FF y) cf (fun _ _ => []) 0 (fun _ => 0) := ⟨fun y a ha => by
      by_cases e : y = x
      · subst e
        rw [px] at ha
        obtain rfl := Option.some.inj ha
        simpa using G
      · simp only [e, if_false]
        rw [pn y e] at ha
        exact h1.pool.is y a ha, fun y z hne hy hz => by
      by_cases e : y = x
      · subst e
        rw [if_pos rfl, if_neg (Ne.symm hne)]
        rw [pn z (Ne.symm hne)] at hz
        exact ap z hz
      · rw [pn y e] at hy
        by_cases e' : z = x
        · subst e'
          rw [if_pos rfl, if_neg e]
          exact (ap y hy).symm
        · rw [if_neg e, if_neg e']
          rw [pn z e'] at hz
          exact h.pool.apart y z hne hy hz⟩
    exact P1.row k2 fun b e q => nm b q (Option.some.inj e).symm
  obtain ⟨q2, v2⟩ := h1.q.mapped o k2 fun y hy => by
    by_cases e : y = x
    · subst e; omega
    · rw [pn y e] at hy; exact h.q.dom y hy
  refine ⟨q2, P2, (k2.block g2 h1.cfg.lt fun e => h.ne.2.1 (Option.some.inj e)).trans h1.cfg, h1.below.grown k2 h1.below.size fun j hj => by cases hj; exact h.lo.2.2.1, h.lo, fun i hi => ?_, h.ne, fun y => ?_⟩
  · rcases uf i hi with q | q
    · have := h.below.size
      omega
    · exact h.nf i q
  · rw [List.take_add_one, hx]
    simp only [Option.toList_some, List.mem_append, List.mem_singleton]
    by_cases e : y = x
    · subst e
      rw [px]
      exact ⟨fun _ => ⟨ho.1, ho.2, .inr rfl⟩, fun _ => by simp⟩
    · rw [pn y e, h.has y]
      exact ⟨fun ⟨a, b, c⟩ => ⟨a, b, .inl c⟩, fun ⟨a, b, c⟩ => ⟨a, b, c.elim id fun q => absurd q e⟩⟩

/-- numbers, one behind the other -/
def Ints (w : World) (v : Value) (gs : List Int) : Prop := ∃ A cp, v = .slice A gs.length cp ∧ (0 < gs.length → ∃ b off, A = some ⟨b, off, none⟩ ∧ b < w.heap.size ∧ ∀ (k : Nat) (x : Int), gs[k]? = some x → w.cell? ⟨b, off + k, none⟩ = some (.int .i64 x))
theorem Ints.next {w w' : World} {v : Value} {gs : List Int} (h : Ints w v gs) (k : Below w.heap.size w w') : Ints w' v gs := by
  obtain ⟨A, cp, e, hc⟩ := h
  refine ⟨A, cp, e, fun h0 => ?_⟩
  obtain ⟨b, off, e2, hb, hc⟩ := hc h0
  exact ⟨b, off, e2, Nat.lt_of_lt_of_le hb k.size, fun i x hx => (World.cell?_of_block (a := ⟨b, off + i, none⟩) (k.block b hb)).trans (hc i x hx)⟩
theorem Ints.of {w : World} {v : Value} {gs : List Int} {b : Nat} (h : Sl.Is Ik.k w v gs b) : Ints w v gs := by
  obtain ⟨A0, cp, hv⟩ := h.len
  subst hv
  refine ⟨A0, cp, rfl, fun h0 => ?_⟩
  obtain ⟨off, cap', e, -, -, hbl, hc⟩ := h.some_ Ik.ok h0
  simp only [Value.slice.injEq] at e
  refine ⟨b, off, e.1, hbl, fun k x hx => ?_⟩
  have h1 := hc k x hx 0 _ rfl
  simpa using h1
set_option maxHeartbeats 8000000 in
theorem new_any (cf : C8) (gs : List Int) (gv : Value) (w : World) (H : Hid (Ints w gv gs)) (hn : gs.length ≤ maxLen) (M : Hid (Asg.may cf.k cf.s cf.l cf.g cf.z cf.h cf.r cf.c)) (s1 : cf.s ≤ 9223372036854775807) :
    Calls Tryz.prog 5 #[cf.v, gv] w fun r w' => ∃ wk F p FF, r = .returned (.tuple #[gp wk, .nilIface]) ∧ Is w' wk F cf p [] ∧ Pool w' p FF cf (fun _ _ => []) 0 (fun _ => 0) ∧ Apart F (UF p FF) ∧ From w.heap.size F ∧ From w.heap.size (UF p FF) ∧ Below w.heap.size w w' ∧ ∀ x, p x ≠ none ↔ (0 ≤ x ∧ x < cf.r ∧ x ∈ gs) := by
  obtain ⟨A0, cp, hv, hcl⟩ := H.out
  subst hv
  have HCL := Lib.hid hcl
  clear hcl
  have r16 : 1 ≤ cf.r ∧ cf.r ≤ 16 ∧ 1 ≤ cf.c ∧ cf.c ≤ 16 := by have := M.out; unfold Asg.may at this; omega
  unfold maxLen at hn
  have C0 := Lib.hid (Lies.new w 23 cf.cl)
  have K0 := Lib.hid (below1 w (Obj.cells #[.int .i64 cf.k, .int .i64 cf.s, .int .i64 cf.l, .int .i64 cf.g, .int .i64 cf.z, .int .i64 cf.h, .int .i64 cf.r, .int .i64 cf.c] 23))
  go_enter Tryz.func5, Tryz.ntmps5
  go_wp2_with fail
  refine (Asg.may_ok cf.k cf.s cf.l cf.g cf.z cf.h cf.r cf.c _ true (Lib.hid (by simp [M.out])) s1).mono ?_
  rintro r w1 ⟨rfl, k1⟩
  have C1 := Lib.hid (C0.out.next k1)
  have K1 := Lib.hid (after K0.out k1)
  clear k1
  have c7 := C1.out.cell (i := 7) rfl
  go_wp2_with fail
  refine (Ms.new_ok cf.c w1 (by omega) (by omega)).mono ?_
  rintro r w2 ⟨rfl, b2, k2⟩
  have B2 := Lib.hid b2
  have C2 := Lib.hid (C1.out.next k2)
  have K2 := Lib.hid (after K1.out k2)
  have S2 : Hid (w.heap.size < w1.heap.size ∧ w1.heap.size < w2.heap.size) := Lib.hid ⟨C1.out.lt, b2.lies.lt⟩
  clear k2 b2 c7
  obtain ⟨c0, c1, c2, c3, c4, c5, c6, c7⟩ : (w2.cell? ⟨w.heap.size, 0, none⟩ = some (.int .i64 cf.k) ∧ w2.cell? ⟨w.heap.size, 1, none⟩ = some (.int .i64 cf.s) ∧ w2.cell? ⟨w.heap.size, 2, none⟩ = some (.int .i64 cf.l) ∧ w2.cell? ⟨w.heap.size, 3, none⟩ = some (.int .i64 cf.g) ∧ w2.cell? ⟨w.heap.size, 4, none⟩ = some (.int .i64 cf.z) ∧ w2.cell? ⟨w.heap.size, 5, none⟩ = some (.int .i64 cf.h) ∧ w2.cell? ⟨w.heap.size, 6, none⟩ = some (.int .i64 cf.r) ∧ w2.cell? ⟨w.heap.size, 7, none⟩ = some (.int .i64 cf.c)) :=
    ⟨C2.out.cell (i := 0) rfl, C2.out.cell (i := 1) rfl, C2.out.cell (i := 2) rfl, C2.out.cell (i := 3) rfl, C2.out.cell (i := 4) rfl, C2.out.cell (i := 5) rfl, C2.out.cell (i := 6) rfl, C2.out.cell (i := 7) rfl⟩
  have hm := run_makeMap (P := Tryz.prog) 70 w2
  go_upto_region 7 with fail
  have k3 := below1 w2 (.map #[] 0)
  have mi3 := Mi.made w2
  have k4 := below1 (w2.alloc (.map #[] 0)) (Obj.cells (wcl cf w2.heap.size w1.heap.size).toArray 72)
  have lw4 := Lies.new (w2.alloc (.map #[] 0)) 72 (wcl cf w2.heap.size w1.heap.size)
  have hsz : (w2.alloc (.map #[] 0)).heap.size = w2.heap.size + 1 := by simp
  have N0 : Hid (NS w (w2.heap.size + 1) w2.heap.size w1.heap.size w.heap.size cf gs 0 (fun _ => none) (fun _ _ => False) ((w2.alloc (.map #[] 0)).alloc (Obj.cells #[.int .i64 cf.k, .int .i64 cf.s, .int .i64 cf.l, .int .i64 cf.g, .int .i64 cf.z, .int .i64 cf.h, .int .i64 cf.r, .int .i64 cf.c, .map (some w2.heap.size), Bx.gp w1.heap.size] 72))) := Lib.hid (by
    have s2 := S2.out
    refine ⟨⟨?_, ⟨0, mi3.next k4⟩, (B2.out.next k3).next k4, fun x hx => absurd rfl hx, by omega, by omega, by omega, (by intro h; cases h), (by intro h; cases h)⟩, ⟨fun x a h => (by cases h), fun x y _ h => absurd rfl h⟩, (C2.out.next k3).next k4, after K2.out (after k3 k4), ⟨Nat.le_refl _, by omega, by omega, by omega⟩, fun i ⟨x, h, _⟩ => absurd rfl h, ⟨by omega, by omega, by omega⟩, fun x => ⟨fun h => absurd rfl h, fun h => by simp at h⟩⟩
    rw [← hsz]; exact lw4)
  generalize (w2.alloc (.map #[] 0)).alloc (Obj.cells #[.int .i64 cf.k, .int .i64 cf.s, .int .i64 cf.l, .int .i64 cf.g, .int .i64 cf.z, .int .i64 cf.h, .int .i64 cf.r, .int .i64 cf.c, .map (some w2.heap.size), Bx.gp w1.heap.size] 72) = w4 at N0 ⊢
  clear k3 k4 mi3 lw4 hsz hm c0 c1 c2 c3 c4 c5 c6 c7 B2 C2 K2 S2 C1 K1
  generalize hwk : w2.heap.size + 1 = wk at N0 ⊢
  generalize w2.heap.size = m at N0 ⊢
  generalize w1.heap.size = bx at N0 ⊢
  generalize hg2 : w.heap.size = g2 at N0 ⊢
  clear hwk
  go_wp2_with fail
  go_loopw [7, 10, 31] (fun se sn si wr => ∃ (k : Nat) (p : Int → Option Nat) (FF : Int → Nat → Prop), k ≤ gs.length ∧ se = .nilIface ∧ si = .int .i64 k ∧ Hid (NS w wk m bx g2 cf gs k p FF wr)) (fun _ _ si _ => gs.length - (intOf si).toNat)
  case atStart => exact ⟨0, _, _, Nat.zero_le _, rfl, rfl, N0⟩
  case round =>
    obtain ⟨k, p, FF, hk, rfl, rfl, NN⟩ := hrel
    by_cases hlt : k < gs.length
    · have i1 : (k : Int) < gs.length := by omega
      have i0 : (0 : Int) ≤ (k : Int) := by omega
      obtain ⟨x, hx⟩ : ∃ x, gs[k]? = some x := ⟨_, List.getElem?_eq_getElem hlt⟩
      obtain ⟨b, off, rfl, hcell⟩ : ∃ b off, A0 = some ⟨b, off, none⟩ ∧ wr.cell? ⟨b, off + k, none⟩ = some (.int .i64 x) := by
        obtain ⟨b, off, e, hbl, hc⟩ := HCL.out (by omega)
        exact ⟨b, off, e, (World.cell?_of_block (a := ⟨b, off + k, none⟩) (NN.out.below.block b hbl)).trans (hc k x hx)⟩
      have HX := Lib.hid hx
      have cr := NN.out.cfg.cell (i := 6) rfl
      clear hx
      by_cases h1 : x < 0
      · go_wp2_with fail
        exact ⟨⟨k + 1, p, FF, by omega, rfl, by go_num, Lib.hid (NN.out.skip HX.out (by omega))⟩, by simp [intOf]; omega⟩
      · by_cases h2 : cf.r ≤ x
        · go_wp2_with fail
          exact ⟨⟨k + 1, p, FF, by omega, rfl, by go_num, Lib.hid (NN.out.skip HX.out (by omega))⟩, by simp [intOf]; omega⟩
        · have xo : 0 ≤ x ∧ x < cf.r := by omega
          have wx : Wf x := wf_small (by omega)
          obtain ⟨c0, hm0⟩ := NN.out.q.map
          have hc0 : c0 ≤ 1048576 := Nat.le_trans (hm0.small NN.out.q.dom) (by omega)
          have HM := Lib.hid hm0
          have cw := NN.out.q.lies.cell (i := 8) rfl
          have d0 := NN.out.cfg.cell (i := 0) rfl
          have d1 := NN.out.cfg.cell (i := 1) rfl
          have d2 := NN.out.cfg.cell (i := 2) rfl
          have d3 := NN.out.cfg.cell (i := 3) rfl
          have d4 := NN.out.cfg.cell (i := 4) rfl
          have d5 := NN.out.cfg.cell (i := 5) rfl
          have d7 := NN.out.cfg.cell (i := 7) rfl
          have XO := Lib.hid (And.intro xo r16.2.1)
          clear hm0 xo
          go_upto_region 11 with fail
          go_region_with (first
            | (go_at_call 23; refine (Gr.new_ok cf _ M s1).mono ?_; rintro r w9 ⟨g, F, rfl, G, hF, k9⟩; have kk : Below wr.heap.size wr w9 := after (Below.refl _ _).drew k9; obtain ⟨w10, c10, st, o10, -, k10⟩ := (HM.out.next kk).store wx g hc0 (updOf_ok p x (some g)); have N9 := Lib.hid (NN.out.put HX.out XO.out.1 XO.out.2 kk G hF o10 k10); have cw9 := (NN.out.next kk).q.lies.cell (i := 8) rfl; clear G hF k9 kk o10 k10 cw d0 d1 d2 d3 d4 d5 d7 cr hcell)
            | fail)
          all_goals
            go_wp2_with fail
            exact ⟨⟨k + 1, _, _, by omega, rfl, by go_num, N9⟩, by simp [intOf]; omega⟩
    · obtain rfl : k = gs.length := by omega
      have i1 : ¬ ((gs.length : Int) < gs.length) := by omega
      clear i1
      go_wp2
      go_ret2
      have nn := NN.out
      have hh := nn.has
      rw [List.take_length] at hh
      refine ⟨wk, WF wk m bx (.slice none 0 0), p, FF, rfl, ⟨m, bx, .slice none 0 0, nn.q, fun _ => Iff.rfl⟩, nn.pool, fun i hi q => ?_, fun i hi => ?_, fun i hi => ?_, hg2 ▸ nn.below, hh⟩
      · have := nn.nf i q
        rcases hi with rfl | rfl | rfl | hi
        · exact this.2.1 rfl
        · exact this.2.2.1 rfl
        · exact this.2.2.2.1 rfl
        · cases hi
      · have lo := nn.lo
        rcases hi with rfl | rfl | rfl | hi
        · omega
        · omega
        · omega
        · cases hi
      · have := (nn.nf i hi).1
        omega
theorem new_ok (cf : C8) (gs : List Int) (gv : Value) (b : Nat) (w : World) (H : Hid (Sl.Is Ik.k w gv gs b)) (hn : gs.length ≤ maxLen) (M : Hid (Asg.may cf.k cf.s cf.l cf.g cf.z cf.h cf.r cf.c)) (s1 : cf.s ≤ 9223372036854775807) :
    Calls Tryz.prog 5 #[cf.v, gv] w fun r w' => ∃ wk F p FF, r = .returned (.tuple #[gp wk, .nilIface]) ∧ Is w' wk F cf p [] ∧ Pool w' p FF cf (fun _ _ => []) 0 (fun _ => 0) ∧ Apart F (UF p FF) ∧ From w.heap.size F ∧ From w.heap.size (UF p FF) ∧ Below w.heap.size w w' ∧ ∀ x, p x ≠ none ↔ (0 ≤ x ∧ x < cf.r ∧ x ∈ gs) :=
  new_any cf gs gv w (Lib.hid (Ints.of H.out)) hn M s1
end Sh
end Go.Proofs.YtmklkiklegkioaaGreat

namespace Go.Proofs.YtmklkiklegkioaaGreat
open Go.ChangeShapes Go.WideShapes Go.ChangeAt Go.RowKit
set_option maxRecDepth 100000
set_option linter.unusedVariables false
namespace Sh
open Small Foot Pane Grp Ca Md

/-- a call that says nothing -/
abbrev c00 : Cl := ⟨0, ⟨#[]⟩, 0, 0, 0, 0, 0⟩
section
variable {w : World} {o : Oper} {a : Act} {K : Act → World → Prop} {Q : Exit → Act → World → Prop}
theorem bm1 (w : World) (k : Int) : (Instr.build 45 #[(0, .int .i64 k)]).run Tryz.prog w = .ok (Ms.val ⟨k, 0, c00, 0, none⟩) w := by kernel_rfl
theorem bm2 (w : World) (k : Int) (y : Cl) : (Instr.build 45 #[(0, .int .i64 k), (2, y.val)]).run Tryz.prog w = .ok (Ms.val ⟨k, 0, y, 0, none⟩) w := by kernel_rfl
theorem bm3 (w : World) (k g : Int) : (Instr.build 45 #[(0, .int .i64 k), (3, .int .i64 g)]).run Tryz.prog w = .ok (Ms.val ⟨k, 0, c00, g, none⟩) w := by kernel_rfl
theorem bm4 (w : World) (k g : Int) (s : Option Nat) : (Instr.build 45 #[(0, .int .i64 k), (3, .int .i64 g), (4, Ms.stv s)]).run Tryz.prog w = .ok (Ms.val ⟨k, 0, c00, g, s⟩) w := by kernel_rfl
theorem wp_bm1 {k : Int} (ho : o.op = .build 45 #[(0, .const (.int .i64 k))]) (hK : K (a.put o.dst (Ms.val ⟨k, 0, c00, 0, none⟩)) w) : o.wp Tryz.prog a w K Q := by
  unfold Oper.wp execOp
  simp only [ho, List.map_toArray, List.map_cons, List.map_nil, show a.eval (.const (.int .i64 k)) = .int .i64 k from rfl, Sem.run_bind, Sem.run_pure, Result.andThen_ok, bm1]
  exact hK
theorem wp_bm2 {k : Int} (x : Operand) (y : Cl) (ho : o.op = .build 45 #[(0, .const (.int .i64 k)), (2, x)]) (hx : a.eval x = y.val) (hK : K (a.put o.dst (Ms.val ⟨k, 0, y, 0, none⟩)) w) : o.wp Tryz.prog a w K Q := by
  unfold Oper.wp execOp
  simp only [ho, List.map_toArray, List.map_cons, List.map_nil, show a.eval (.const (.int .i64 k)) = .int .i64 k from rfl, hx, Sem.run_bind, Sem.run_pure, Result.andThen_ok, bm2]
  exact hK
theorem wp_bm3 {k : Int} (x : Operand) (g : Int) (ho : o.op = .build 45 #[(0, .const (.int .i64 k)), (3, x)]) (hx : a.eval x = .int .i64 g) (hK : K (a.put o.dst (Ms.val ⟨k, 0, c00, g, none⟩)) w) : o.wp Tryz.prog a w K Q := by
  unfold Oper.wp execOp
  simp only [ho, List.map_toArray, List.map_cons, List.map_nil, show a.eval (.const (.int .i64 k)) = .int .i64 k from rfl, hx, Sem.run_bind, Sem.run_pure, Result.andThen_ok, bm3]
  exact hK
theorem wp_bm4 {k : Int} (x z : Operand) (g : Int) (s : Option Nat) (ho : o.op = .build 45 #[(0, .const (.int .i64 k)), (3, x), (4, z)]) (hx : a.eval x = .int .i64 g) (hz : a.eval z = Ms.stv s) (hK : K (a.put o.dst (Ms.val ⟨k, 0, c00, g, s⟩)) w) : o.wp Tryz.prog a w K Q := by
  unfold Oper.wp execOp
  simp only [ho, List.map_toArray, List.map_cons, List.map_nil, show a.eval (.const (.int .i64 k)) = .int .i64 k from rfl, hx, hz, Sem.run_bind, Sem.run_pure, Result.andThen_ok, bm4]
  exact hK
end
theorem one_zd : ∀ v ∈ zd, v.oneCell' = true := by
  intro v hv
  simp only [List.mem_cons, List.not_mem_nil, or_false] at hv
  rcases hv with rfl | rfl | rfl | rfl | rfl | rfl | rfl | rfl | rfl | rfl | rfl | rfl | rfl | rfl | rfl | rfl <;> rfl

/-! ### the document's example -/
abbrev ka : ByteArray := ⟨#[97]⟩
abbrev cf4 : C8 := ⟨0, 10, 0, 0, 0, 1, 1, 4⟩
abbrev yq : Cl := ⟨5, ka, 0, 0, 0, 0, 0⟩
theorem may_four : Asg.may cf4.k cf4.s cf4.l cf4.g cf4.z cf4.h cf4.r cf4.c := by simp [Asg.may, Asg.mayW]
theorem may_zero : ¬ Asg.may 0 0 0 0 0 0 0 0 := by simp [Asg.may]
theorem cf4_fit : (Md.cfOf cf4).Fit := by unfold Cf.Fit; decide
theorem yq_may : mayC (Md.cfOf cf4) yq := ⟨may_four, by show (1 : Int) ≤ 5 ∧ (5 : Int) ≤ 7; decide, fun _ => by show 1 ≤ ka.size ∧ ka.size ≤ 20; decide, fun h => absurd (show (5 : Int) = 4 from h) (by decide), fun h => absurd (show (5 : Int) = 6 from h) (by decide)⟩
theorem yq_fit : yq.Fit := ⟨by decide, by decide, by decide, by decide, by decide, by decide, by decide⟩
/-- a message is put into a worker's mailbox -/
theorem Q.put {w w' : World} {wk m bx : Nat} {bv bv' : Value} {cf : C8} {p : Int → Option Nat} {L L' : List Ms.M} (h : Q w wk m bx bv cf p L) (o : Ms.Box w' bx cf.c false bv' L') (k : Moves (Bx.Fp bx bv) (Bx.Fp bx bv') w w') : Is w' wk (WF wk m bx bv') cf p L' ∧ Moves (WF wk m bx bv) (WF wk m bx bv') w w' :=
  ⟨⟨m, bx, bv', (h.boxed o k).1, fun _ => Iff.rfl⟩, (h.boxed o k).2⟩

set_option maxHeartbeats 8000000 in
theorem up_ok (w : World) : Calls Tryz.prog 4 #[] w fun e w' => e = .returned (.bool true) ∧ Below w.heap.size w w' := by
  go_enter Tryz.func4, Tryz.ntmps4
  go_wp2_with fail
  refine (new_ok cf4 [] (.slice none 0 0) 0 _ (Lib.hid (Sl.Is.nil _ _ _)) (by decide) (Lib.hid may_four) (by decide)).mono ?_
  rintro r w1 ⟨wk, F, p, FF, rfl, h1, P1, -, f1, -, k1, hp⟩
  have H1 := Lib.hid h1
  have F1 := Lib.hid f1
  have K1 := Lib.hid (after (below1 w _) k1)
  have HP : Hid (∀ x, p x = none) := Lib.hid fun x => Classical.byContradiction fun h => by have := ((hp x).1 h).2.2; cases this
  clear P1 k1 hp h1 f1
  go_wp2_with fail
  refine (new_no ⟨0, 0, 0, 0, 0, 0, 0, 0⟩ (.slice none 0 0) w1 (Lib.hid may_zero) (by decide)).mono ?_
  rintro r w2 ⟨rfl, k2⟩
  have H2 := Lib.hid (H1.out.next k2)
  have K2 := Lib.hid (after K1.out k2)
  have S2 := Lib.hid (Nat.le_trans K1.out.size k2.size)
  clear k2
  go_wp2_with fail
  refine (box_ok w2 H2).mono ?_
  rintro r _ ⟨rfl, m, bx, bv, rfl, q2, rfl⟩
  go_wp2_with fail
  refine (box_ok w2 H2).mono ?_
  rintro r _ ⟨rfl, m', bx', bv', rfl, q2', hF⟩
  have Q2 := Lib.hid q2'
  have HF := Lib.hid hF
  clear q2' hF q2
  go_wp2_with (first
    | (refine wpList_plain rfl fun K' hK' => wp_bm2 _ yq rfl rfl (hK' _ _ ?_))
    | fail)
  refine (Ms.put_ok bx' 4 bv' [] ⟨1, 0, yq, 0, none⟩ w2 (Lib.hid Q2.out.box) (by decide) (by decide)).mono ?_
  rintro r w3 ⟨bv3, rfl, b3, v3⟩
  obtain ⟨h3, m3⟩ := Q2.out.put b3 v3
  have H3 := Lib.hid h3
  have B0 : Hid (From w.heap.size (WF wk m' bx' bv')) := Lib.hid (HF.out ▸ fun i hi => Nat.le_trans (below1 w _).size (F1.out i hi))
  have K3 := Lib.hid (K2.out.trans (m3.below B0.out S2.out))
  have F3 := Lib.hid (m3.from B0.out S2.out)
  have wg : Wf (grpOf cf4.r yq) := by
    have := Fnv.grp_in (Fnv.num ka.data.toList) 1
    exact wf_of (by show -9223372036854775808 ≤ Fnv.grp (Fnv.num ka.data.toList) 1; omega) (by show Fnv.grp (Fnv.num ka.data.toList) 1 ≤ _; have := this.2 (by decide); omega)
  clear b3 v3 h3 m3 H1 H2 F1 K2 HF B0 Q2
  go_wp2_with fail
  refine (step_moved 0 yq 0 none 0 false w3 H3 (by decide) (Lib.hid cf4_fit) (Lib.hid yq_fit) (Lib.hid (by decide)) (Lib.hid yq_may) wg (Lib.hid (HP.out _))).mono ?_
  rintro r w4 ⟨rfl, F4, h4, m4⟩
  have s3 := K3.out.size
  have H4 := Lib.hid h4
  have K4 := Lib.hid (K3.out.trans (m4.below F3.out s3))
  have F4 := Lib.hid (m4.from F3.out s3)
  clear h4 m4 H3 F3 s3 K3
  go_upto_region 6 with (first
    | (refine wpList_plain rfl fun K' hK' => wp_store_did (cs' := dcl ⟨1, 0, yq, 0, none⟩ true 0 (.slice none 0 0) (.slice none 0 0) none) _ _ rfl rfl rfl (Lies.new _ _ zd) rfl rfl (one_did _ _ _ _ _ _ _ _ _ _ _ _ _ _) (fun w5 z1 z2 => hK' _ _ ?_))
    | fail)
  have k5 := Ms.below_over (below1 w4 _) z2 (Nat.le_refl _)
  have D5 := Lib.hid z1
  have H5 := Lib.hid (H4.out.next k5)
  have K5 := Lib.hid (after K4.out k5)
  have F5 := F4
  clear z1 z2 k5 H4 K4
  generalize w4.heap.size = g7 at D5 ⊢
  go_wp2_with fail
  refine (step_none 0 false w5 H5).mono ?_
  rintro r w6 ⟨rfl, k6⟩
  have D6 := Lib.hid (D5.out.next k6)
  have H6 := Lib.hid (H5.out.next k6)
  have K6 := Lib.hid (after K5.out k6)
  clear k6 D5 H5 K5
  go_upto_region 9 with (first
    | (refine wpList_plain rfl fun K' hK' => wp_store_did (cs' := zd) _ _ rfl rfl rfl (Lies.new _ _ zd) rfl rfl one_zd (fun w7 z1 z2 => hK' _ _ ?_))
    | fail)
  have k7 := Ms.below_over (below1 w6 _) z2 (Nat.le_refl _)
  have D7 := Lib.hid (D6.out.next k7)
  have H7 := Lib.hid (H6.out.next k7)
  have K7 := Lib.hid (after K6.out k7)
  clear z1 z2 k7 D6 H6 K6
  generalize w6.heap.size = g9
  have d11 := D7.out.cell (i := 11) rfl
  have qe := Errs.eql_code w7 2 2
  go_wp2_with fail
  refine (groups_ok w7 H7).mono ?_
  rintro r w8 ⟨v, ks, rfl, hks, o8, k8⟩
  have e0 : ks = [] := List.eq_nil_iff_forall_not_mem.2 fun x hx => (hks.mem x).1 hx (HP.out x)
  subst e0
  obtain ⟨b8, -, i8⟩ := o8.is
  obtain ⟨A8, c8, rfl⟩ := i8.len
  have K8 := Lib.hid (after K7.out k8)
  clear hks o8 i8 k8 d11 qe
  go_wp2
  go_ret
  exact ⟨rfl, K8.out⟩
end Sh
end Go.Proofs.YtmklkiklegkioaaGreat
