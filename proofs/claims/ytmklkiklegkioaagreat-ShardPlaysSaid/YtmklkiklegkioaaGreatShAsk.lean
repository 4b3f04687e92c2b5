/-
  shard's ask: a call that may not be, of a group that isn't there, closed, or done: what it tells.
-/
import Derived.Test.YtmklkiklegkioaaGreatShards
import Derived.BigQuiet
namespace Go.Proofs.YtmklkiklegkioaaGreat
open Go.ChangeShapes Go.WideShapes Go.ChangeAt Go.RowKit
set_option maxRecDepth 100000
set_option linter.unusedVariables false
namespace Sh
open Small Foot Pane Grp Ca Md

/-- a reply that tells nothing -/
abbrev rep0 (c : Int) : Value := rep c (.slice none 0 0)

set_option maxHeartbeats 4000000 in
/-- of a call that isn't keyed -/
theorem ask_nokey {wk : Nat} {F : Nat → Prop} {cf : C8} {p : Int → Option Nat} {L : List Ms.M} (x : Cl) (mark : Int) (sh : Bool) (w : World) (H : Hid (Is w wk F cf p L)) (hc : Hid (Md.cfOf cf).Fit) (hx : Hid x.Fit) (hk : Hid (kd x.op = false)) :
    Calls Tryz.prog 31 #[gp wk, x.val, .int .i64 mark, .bool sh] w fun r w' => r = .returned (.tuple #[.bool false, rep0 0, .slice none 0 0]) ∧ Below w.heap.size w w' := by
  obtain ⟨m, bx, bv, q, hF⟩ := H.out
  obtain ⟨c, hm⟩ := q.map
  have KD := Lib.hid fun w => (hk.out ▸ Ca.keyed_ok x w : Calls Tryz.prog 49 #[x.val] w fun r w' => r = .returned (.bool false) ∧ Below w.heap.size w w')
  have HQ := Lib.hid q
  have HM0 := Lib.hid hm
  obtain ⟨op, key, t, v, e, u, s⟩ := x
  dsimp only at *
  have X0 := Lib.hid ((Lies.new w 42 [.int .i64 op, .string key, .int .i64 t, .int .i64 v, .int .i64 e, .int .i64 u, .int .i64 s]).next (below1 _ (Obj.cells #[.int .i64 0, .slice none 0 0] 47)))
  have y00 := Lies.new (w.alloc (Obj.cells #[.int .i64 op, .string key, .int .i64 t, .int .i64 v, .int .i64 e, .int .i64 u, .int .i64 s] 42)) 47 [.int .i64 0, .slice none 0 0]
  simp only [World.size_alloc] at y00
  have Y0 := Lib.hid y00
  have k00 := below2 w (Obj.cells #[.int .i64 op, .string key, .int .i64 t, .int .i64 v, .int .i64 e, .int .i64 u, .int .i64 s] 42) (Obj.cells #[.int .i64 0, .slice none 0 0] 47)
  have Q0 := Lib.hid (HQ.out.keep fun i hi => k00.block i (HQ.out.in i hi))
  have MM0 := Lib.hid (HM0.out.next k00)
  have K0 := Lib.hid k00
  clear k00 y00 q hm
  go_enter Tryz.func31, Tryz.ntmps31
  go_upto_region 1 with fail
  generalize ((w.alloc (Obj.cells #[.int .i64 op, .string key, .int .i64 t, .int .i64 v, .int .i64 e, .int .i64 u, .int .i64 s] 42)).alloc (Obj.cells #[.int .i64 0, .slice none 0 0] 47)) = w2 at X0 Y0 K0 Q0 MM0 ⊢
  have c0 := Later.cell (Q0.out.lies.cell (i := 0) rfl)
  have c1 := Later.cell (Q0.out.lies.cell (i := 1) rfl)
  have c2 := Later.cell (Q0.out.lies.cell (i := 2) rfl)
  have c3 := Later.cell (Q0.out.lies.cell (i := 3) rfl)
  have c4 := Later.cell (Q0.out.lies.cell (i := 4) rfl)
  have c5 := Later.cell (Q0.out.lies.cell (i := 5) rfl)
  have c6 := Later.cell (Q0.out.lies.cell (i := 6) rfl)
  have c7 := Later.cell (Q0.out.lies.cell (i := 7) rfl)
  have d0 := Later.cell (X0.out.cell (i := 0) rfl)
  have d1 := Later.cell (X0.out.cell (i := 1) rfl)
  have d2 := Later.cell (X0.out.cell (i := 2) rfl)
  have d3 := Later.cell (X0.out.cell (i := 3) rfl)
  have d4 := Later.cell (X0.out.cell (i := 4) rfl)
  have d5 := Later.cell (X0.out.cell (i := 5) rfl)
  have d6 := Later.cell (X0.out.cell (i := 6) rfl)
  refine wp_region_later (by kernel_rfl) (by kernel_rfl) ?_
  repeat (go_big_quiet_step (first
    | (go_at_call 49; with_reducible exact Later.call _ (KD.out _))))
  refine wpQuiet_nil ?_
  rintro _ ⟨u3, rfl⟩
  have B3 := Lib.hid u3.below
  generalize u3.w = w3 at B3 ⊢
  have Y3 := Lib.hid (Y0.out.next B3.out)
  have y0 := Y3.out.cell (i := 0) rfl
  have y1 := Y3.out.cell (i := 1) rfl
  have f0 := Y3.out.open_ 0
  have f1 := Y3.out.open_ 1
  clear c0 c1 c2 c3 c4 c5 c6 c7 d0 d1 d2 d3 d4 d5 d6
  go_wp2_with fail
  have Z := (Y3.out.put 0 (.int .i64 0)).put 1 (.slice none 0 0)
  have q0 := Z.cell (i := 0) rfl
  have q1 := Z.cell (i := 1) rfl
  have k9 := put_two (w := w3) (gy := w.heap.size + 1) (a := .int .i64 0) (b := .int .i64 0) (.int .i64 0) (.slice none 0 0)
  exact bodyPost_ret (v := .tuple #[.bool false, rep0 0, .slice none 0 0]) (by simp [results, Tryz.results31, go_sem, q0, q1]) rfl ⟨rfl, Ms.below_over (after K0.out B3.out) k9 (by omega)⟩

set_option maxHeartbeats 4000000 in
/-- of a call that may not be -/
theorem ask_nomay {wk : Nat} {F : Nat → Prop} {cf : C8} {p : Int → Option Nat} {L : List Ms.M} (x : Cl) (mark : Int) (sh : Bool) (w : World) (H : Hid (Is w wk F cf p L)) (hc : Hid (Md.cfOf cf).Fit) (hx : Hid x.Fit) (hk : Hid (kd x.op = true)) (HM : Hid (¬ mayC (Md.cfOf cf) x)) :
    Calls Tryz.prog 31 #[gp wk, x.val, .int .i64 mark, .bool sh] w fun r w' => r = .returned (.tuple #[.bool false, rep0 0, .slice none 0 0]) ∧ Below w.heap.size w w' := by
  obtain ⟨m, bx, bv, q, hF⟩ := H.out
  obtain ⟨c, hm⟩ := q.map
  have M1 := Lib.hid fun w => Ca.may_ok (Md.cfOf cf) x w false (Lib.hid (by simp [HM.out])) hc.out hx.out
  have KD := Lib.hid fun w => (hk.out ▸ Ca.keyed_ok x w : Calls Tryz.prog 49 #[x.val] w fun r w' => r = .returned (.bool true) ∧ Below w.heap.size w w')
  have HQ := Lib.hid q
  have HM0 := Lib.hid hm
  obtain ⟨op, key, t, v, e, u, s⟩ := x
  dsimp only at *
  have X0 := Lib.hid ((Lies.new w 42 [.int .i64 op, .string key, .int .i64 t, .int .i64 v, .int .i64 e, .int .i64 u, .int .i64 s]).next (below1 _ (Obj.cells #[.int .i64 0, .slice none 0 0] 47)))
  have y00 := Lies.new (w.alloc (Obj.cells #[.int .i64 op, .string key, .int .i64 t, .int .i64 v, .int .i64 e, .int .i64 u, .int .i64 s] 42)) 47 [.int .i64 0, .slice none 0 0]
  simp only [World.size_alloc] at y00
  have Y0 := Lib.hid y00
  have k00 := below2 w (Obj.cells #[.int .i64 op, .string key, .int .i64 t, .int .i64 v, .int .i64 e, .int .i64 u, .int .i64 s] 42) (Obj.cells #[.int .i64 0, .slice none 0 0] 47)
  have Q0 := Lib.hid (HQ.out.keep fun i hi => k00.block i (HQ.out.in i hi))
  have MM0 := Lib.hid (HM0.out.next k00)
  have K0 := Lib.hid k00
  clear k00 y00 q hm
  go_enter Tryz.func31, Tryz.ntmps31
  go_upto_region 1 with fail
  generalize ((w.alloc (Obj.cells #[.int .i64 op, .string key, .int .i64 t, .int .i64 v, .int .i64 e, .int .i64 u, .int .i64 s] 42)).alloc (Obj.cells #[.int .i64 0, .slice none 0 0] 47)) = w2 at X0 Y0 K0 Q0 MM0 ⊢
  have c0 := Later.cell (Q0.out.lies.cell (i := 0) rfl)
  have c1 := Later.cell (Q0.out.lies.cell (i := 1) rfl)
  have c2 := Later.cell (Q0.out.lies.cell (i := 2) rfl)
  have c3 := Later.cell (Q0.out.lies.cell (i := 3) rfl)
  have c4 := Later.cell (Q0.out.lies.cell (i := 4) rfl)
  have c5 := Later.cell (Q0.out.lies.cell (i := 5) rfl)
  have c6 := Later.cell (Q0.out.lies.cell (i := 6) rfl)
  have c7 := Later.cell (Q0.out.lies.cell (i := 7) rfl)
  have d0 := Later.cell (X0.out.cell (i := 0) rfl)
  have d1 := Later.cell (X0.out.cell (i := 1) rfl)
  have d2 := Later.cell (X0.out.cell (i := 2) rfl)
  have d3 := Later.cell (X0.out.cell (i := 3) rfl)
  have d4 := Later.cell (X0.out.cell (i := 4) rfl)
  have d5 := Later.cell (X0.out.cell (i := 5) rfl)
  have d6 := Later.cell (X0.out.cell (i := 6) rfl)
  refine wp_region_later (by kernel_rfl) (by kernel_rfl) ?_
  repeat (go_big_quiet_step (first
    | (go_at_call 49; with_reducible exact Later.call _ (KD.out _))
    | (go_at_call 50; with_reducible exact Later.call _ (M1.out _))))
  refine wpQuiet_nil ?_
  rintro _ ⟨u3, rfl⟩
  have B3 := Lib.hid u3.below
  generalize u3.w = w3 at B3 ⊢
  have Y3 := Lib.hid (Y0.out.next B3.out)
  have y0 := Y3.out.cell (i := 0) rfl
  have y1 := Y3.out.cell (i := 1) rfl
  have f0 := Y3.out.open_ 0
  have f1 := Y3.out.open_ 1
  clear c0 c1 c2 c3 c4 c5 c6 c7 d0 d1 d2 d3 d4 d5 d6
  go_wp2_with fail
  have Z := (Y3.out.put 0 (.int .i64 0)).put 1 (.slice none 0 0)
  have q0 := Z.cell (i := 0) rfl
  have q1 := Z.cell (i := 1) rfl
  have k9 := put_two (w := w3) (gy := w.heap.size + 1) (a := .int .i64 0) (b := .int .i64 0) (.int .i64 0) (.slice none 0 0)
  exact bodyPost_ret (v := .tuple #[.bool false, rep0 0, .slice none 0 0]) (by simp [results, Tryz.results31, go_sem, q0, q1]) rfl ⟨rfl, Ms.below_over (after K0.out B3.out) k9 (by omega)⟩

set_option maxHeartbeats 4000000 in
/-- of a group that it doesn't have -/
theorem ask_moved {wk : Nat} {F : Nat → Prop} {cf : C8} {p : Int → Option Nat} {L : List Ms.M} (x : Cl) (mark : Int) (sh : Bool) (w : World) (H : Hid (Is w wk F cf p L)) (hc : Hid (Md.cfOf cf).Fit) (hx : Hid x.Fit) (hk : Hid (kd x.op = true)) (HM : Hid (mayC (Md.cfOf cf) x)) (wg : Wf (grpOf cf.r x)) (HG : Hid (p (grpOf cf.r x) = none)) :
    Calls Tryz.prog 31 #[gp wk, x.val, .int .i64 mark, .bool sh] w fun r w' => r = .returned (.tuple #[.bool true, rep0 0, .slice none 0 0]) ∧ Below w.heap.size w w' := by
  obtain ⟨m, bx, bv, q, hF⟩ := H.out
  obtain ⟨c, hm⟩ := q.map
  have M1 := Lib.hid fun w => Ca.may_ok (Md.cfOf cf) x w true (Lib.hid (by simp [HM.out])) hc.out hx.out
  have KD := Lib.hid fun w => (hk.out ▸ Ca.keyed_ok x w : Calls Tryz.prog 49 #[x.val] w fun r w' => r = .returned (.bool true) ∧ Below w.heap.size w w')
  have GR := Lib.hid fun w => Ca.group_ok (Md.cfOf cf) x w hc.out hx.out
  obtain ⟨gk, hgk⟩ : ∃ gk, gk = grpOf cf.r x := ⟨_, rfl⟩
  rw [← hgk] at wg HG
  have GK := Lib.hid hgk
  have GR : Hid (∀ w, Calls Tryz.prog 51 #[(Md.cfOf cf).val, x.val] w fun r w' => r = .returned (.int .i64 gk) ∧ Below w.heap.size w w') := Lib.hid (by rw [GK.out]; exact GR.out)
  clear hgk
  have HQ := Lib.hid q
  have HM0 := Lib.hid hm
  obtain ⟨op, key, t, v, e, u, s⟩ := x
  dsimp only at *
  have X0 := Lib.hid ((Lies.new w 42 [.int .i64 op, .string key, .int .i64 t, .int .i64 v, .int .i64 e, .int .i64 u, .int .i64 s]).next (below1 _ (Obj.cells #[.int .i64 0, .slice none 0 0] 47)))
  have y00 := Lies.new (w.alloc (Obj.cells #[.int .i64 op, .string key, .int .i64 t, .int .i64 v, .int .i64 e, .int .i64 u, .int .i64 s] 42)) 47 [.int .i64 0, .slice none 0 0]
  simp only [World.size_alloc] at y00
  have Y0 := Lib.hid y00
  have k00 := below2 w (Obj.cells #[.int .i64 op, .string key, .int .i64 t, .int .i64 v, .int .i64 e, .int .i64 u, .int .i64 s] 42) (Obj.cells #[.int .i64 0, .slice none 0 0] 47)
  have Q0 := Lib.hid (HQ.out.keep fun i hi => k00.block i (HQ.out.in i hi))
  have MM0 := Lib.hid (HM0.out.next k00)
  have K0 := Lib.hid k00
  clear k00 y00 q hm
  go_enter Tryz.func31, Tryz.ntmps31
  go_upto_region 1 with fail
  generalize ((w.alloc (Obj.cells #[.int .i64 op, .string key, .int .i64 t, .int .i64 v, .int .i64 e, .int .i64 u, .int .i64 s] 42)).alloc (Obj.cells #[.int .i64 0, .slice none 0 0] 47)) = w2 at X0 Y0 K0 Q0 MM0 ⊢
  have c0 := Later.cell (Q0.out.lies.cell (i := 0) rfl)
  have c1 := Later.cell (Q0.out.lies.cell (i := 1) rfl)
  have c2 := Later.cell (Q0.out.lies.cell (i := 2) rfl)
  have c3 := Later.cell (Q0.out.lies.cell (i := 3) rfl)
  have c4 := Later.cell (Q0.out.lies.cell (i := 4) rfl)
  have c5 := Later.cell (Q0.out.lies.cell (i := 5) rfl)
  have c6 := Later.cell (Q0.out.lies.cell (i := 6) rfl)
  have c7 := Later.cell (Q0.out.lies.cell (i := 7) rfl)
  have d0 := Later.cell (X0.out.cell (i := 0) rfl)
  have d1 := Later.cell (X0.out.cell (i := 1) rfl)
  have d2 := Later.cell (X0.out.cell (i := 2) rfl)
  have d3 := Later.cell (X0.out.cell (i := 3) rfl)
  have d4 := Later.cell (X0.out.cell (i := 4) rfl)
  have d5 := Later.cell (X0.out.cell (i := 5) rfl)
  have d6 := Later.cell (X0.out.cell (i := 6) rfl)
  refine wp_region_later (by kernel_rfl) (by kernel_rfl) ?_
  repeat (go_big_quiet_step (first
    | (go_at_call 49; with_reducible exact Later.call _ (KD.out _))
    | (go_at_call 50; with_reducible exact Later.call _ (M1.out _))))
  refine wpQuiet_nil ?_
  rintro _ ⟨u3, rfl⟩
  have B3 := Lib.hid u3.below
  generalize u3.w = w3 at B3 ⊢
  have Y3 := Lib.hid (Y0.out.next B3.out)
  have y0 := Y3.out.cell (i := 0) rfl
  have y1 := Y3.out.cell (i := 1) rfl
  have f0 := Y3.out.open_ 0
  have f1 := Y3.out.open_ 1
  clear c0 c1 c2 c3 c4 c5 c6 c7 d0 d1 d2 d3 d4 d5 d6
  have Q3 := Lib.hid (Q0.out.keep fun i hi => B3.out.block i (Q0.out.in i hi))
  have M3 := Lib.hid (MM0.out.next B3.out)
  have X3 := Lib.hid (X0.out.next B3.out)
  have lk : ∀ u : Later w3, (Instr.lookup 70 (.map (some m)) (.int .i64 gk) true).run Tryz.prog u.w = .ok (.tuple #[(.pointer none), .bool false] ) u.w := fun u => by
    have := (M3.out.next u.below).look_ok wg
    rw [HG.out] at this
    exact this
  clear y0 y1 f0 f1
  have c0 := Later.cell (Q3.out.lies.cell (i := 0) rfl)
  have c1 := Later.cell (Q3.out.lies.cell (i := 1) rfl)
  have c2 := Later.cell (Q3.out.lies.cell (i := 2) rfl)
  have c3 := Later.cell (Q3.out.lies.cell (i := 3) rfl)
  have c4 := Later.cell (Q3.out.lies.cell (i := 4) rfl)
  have c5 := Later.cell (Q3.out.lies.cell (i := 5) rfl)
  have c6 := Later.cell (Q3.out.lies.cell (i := 6) rfl)
  have c7 := Later.cell (Q3.out.lies.cell (i := 7) rfl)
  have c8 := Later.cell (Q3.out.lies.cell (i := 8) rfl)
  have d0 := Later.cell (X3.out.cell (i := 0) rfl)
  have d1 := Later.cell (X3.out.cell (i := 1) rfl)
  have d2 := Later.cell (X3.out.cell (i := 2) rfl)
  have d3 := Later.cell (X3.out.cell (i := 3) rfl)
  have d4 := Later.cell (X3.out.cell (i := 4) rfl)
  have d5 := Later.cell (X3.out.cell (i := 5) rfl)
  have d6 := Later.cell (X3.out.cell (i := 6) rfl)
  go_upto_region 3 with fail
  refine wp_region_later (by kernel_rfl) (by kernel_rfl) ?_
  repeat (go_big_quiet_step (first
    | (go_at_call 51; with_reducible exact Later.call _ (GR.out _))))
  refine wpQuiet_nil ?_
  rintro _ ⟨u4, rfl⟩
  have B4 := Lib.hid u4.below
  generalize u4.w = w4 at B4 ⊢
  have Y4 := Lib.hid (Y3.out.next B4.out)
  have X4 := Lib.hid (X3.out.next B4.out)
  have B34 := Lib.hid (after K0.out (after B3.out B4.out))
  clear lk c0 c1 c2 c3 c4 c5 c6 c7 c8 d0 d1 d2 d3 d4 d5 d6
  have y0 := Y4.out.cell (i := 0) rfl
  have y1 := Y4.out.cell (i := 1) rfl
  have f0 := Y4.out.open_ 0
  have f1 := Y4.out.open_ 1
  go_wp2_with fail
  have Z := (Y4.out.put 0 (.int .i64 0)).put 1 (.slice none 0 0)
  have q0 := Z.cell (i := 0) rfl
  have q1 := Z.cell (i := 1) rfl
  have k9 := put_two (w := w4) (gy := w.heap.size + 1) (a := .int .i64 0) (b := .int .i64 0) (.int .i64 0) (.slice none 0 0)
  exact bodyPost_ret (v := .tuple #[.bool true, rep0 0, .slice none 0 0]) (by simp [results, Tryz.results31, go_sem, q0, q1]) rfl ⟨rfl, Ms.below_over B34.out k9 (by omega)⟩

set_option maxHeartbeats 4000000 in
/-- closed -/
theorem ask_closed {wk : Nat} {F : Nat → Prop} {cf : C8} {p : Int → Option Nat} {L : List Ms.M} (x : Cl) (mark : Int) (sh : Bool) (w : World) (H : Hid (Is w wk F cf p L)) (hc : Hid (Md.cfOf cf).Fit) (hx : Hid x.Fit) (hk : Hid (kd x.op = true)) (HM : Hid (mayC (Md.cfOf cf) x)) (wg : Wf (grpOf cf.r x)) {a : Nat} (HG : Hid (p (grpOf cf.r x) = some a)) (hs : sh = true) :
    Calls Tryz.prog 31 #[gp wk, x.val, .int .i64 mark, .bool sh] w fun r w' => r = .returned (.tuple #[.bool false, rep0 3, .slice none 0 0]) ∧ Below w.heap.size w w' := by
  subst hs
  obtain ⟨m, bx, bv, q, hF⟩ := H.out
  obtain ⟨c, hm⟩ := q.map
  have M1 := Lib.hid fun w => Ca.may_ok (Md.cfOf cf) x w true (Lib.hid (by simp [HM.out])) hc.out hx.out
  have KD := Lib.hid fun w => (hk.out ▸ Ca.keyed_ok x w : Calls Tryz.prog 49 #[x.val] w fun r w' => r = .returned (.bool true) ∧ Below w.heap.size w w')
  have GR := Lib.hid fun w => Ca.group_ok (Md.cfOf cf) x w hc.out hx.out
  obtain ⟨gk, hgk⟩ : ∃ gk, gk = grpOf cf.r x := ⟨_, rfl⟩
  rw [← hgk] at wg HG
  have GK := Lib.hid hgk
  have GR : Hid (∀ w, Calls Tryz.prog 51 #[(Md.cfOf cf).val, x.val] w fun r w' => r = .returned (.int .i64 gk) ∧ Below w.heap.size w w') := Lib.hid (by rw [GK.out]; exact GR.out)
  clear hgk
  have HQ := Lib.hid q
  have HM0 := Lib.hid hm
  obtain ⟨op, key, t, v, e, u, s⟩ := x
  dsimp only at *
  have X0 := Lib.hid ((Lies.new w 42 [.int .i64 op, .string key, .int .i64 t, .int .i64 v, .int .i64 e, .int .i64 u, .int .i64 s]).next (below1 _ (Obj.cells #[.int .i64 0, .slice none 0 0] 47)))
  have y00 := Lies.new (w.alloc (Obj.cells #[.int .i64 op, .string key, .int .i64 t, .int .i64 v, .int .i64 e, .int .i64 u, .int .i64 s] 42)) 47 [.int .i64 0, .slice none 0 0]
  simp only [World.size_alloc] at y00
  have Y0 := Lib.hid y00
  have k00 := below2 w (Obj.cells #[.int .i64 op, .string key, .int .i64 t, .int .i64 v, .int .i64 e, .int .i64 u, .int .i64 s] 42) (Obj.cells #[.int .i64 0, .slice none 0 0] 47)
  have Q0 := Lib.hid (HQ.out.keep fun i hi => k00.block i (HQ.out.in i hi))
  have MM0 := Lib.hid (HM0.out.next k00)
  have K0 := Lib.hid k00
  clear k00 y00 q hm
  go_enter Tryz.func31, Tryz.ntmps31
  go_upto_region 1 with fail
  generalize ((w.alloc (Obj.cells #[.int .i64 op, .string key, .int .i64 t, .int .i64 v, .int .i64 e, .int .i64 u, .int .i64 s] 42)).alloc (Obj.cells #[.int .i64 0, .slice none 0 0] 47)) = w2 at X0 Y0 K0 Q0 MM0 ⊢
  have c0 := Later.cell (Q0.out.lies.cell (i := 0) rfl)
  have c1 := Later.cell (Q0.out.lies.cell (i := 1) rfl)
  have c2 := Later.cell (Q0.out.lies.cell (i := 2) rfl)
  have c3 := Later.cell (Q0.out.lies.cell (i := 3) rfl)
  have c4 := Later.cell (Q0.out.lies.cell (i := 4) rfl)
  have c5 := Later.cell (Q0.out.lies.cell (i := 5) rfl)
  have c6 := Later.cell (Q0.out.lies.cell (i := 6) rfl)
  have c7 := Later.cell (Q0.out.lies.cell (i := 7) rfl)
  have d0 := Later.cell (X0.out.cell (i := 0) rfl)
  have d1 := Later.cell (X0.out.cell (i := 1) rfl)
  have d2 := Later.cell (X0.out.cell (i := 2) rfl)
  have d3 := Later.cell (X0.out.cell (i := 3) rfl)
  have d4 := Later.cell (X0.out.cell (i := 4) rfl)
  have d5 := Later.cell (X0.out.cell (i := 5) rfl)
  have d6 := Later.cell (X0.out.cell (i := 6) rfl)
  refine wp_region_later (by kernel_rfl) (by kernel_rfl) ?_
  repeat (go_big_quiet_step (first
    | (go_at_call 49; with_reducible exact Later.call _ (KD.out _))
    | (go_at_call 50; with_reducible exact Later.call _ (M1.out _))))
  refine wpQuiet_nil ?_
  rintro _ ⟨u3, rfl⟩
  have B3 := Lib.hid u3.below
  generalize u3.w = w3 at B3 ⊢
  have Y3 := Lib.hid (Y0.out.next B3.out)
  have y0 := Y3.out.cell (i := 0) rfl
  have y1 := Y3.out.cell (i := 1) rfl
  have f0 := Y3.out.open_ 0
  have f1 := Y3.out.open_ 1
  clear c0 c1 c2 c3 c4 c5 c6 c7 d0 d1 d2 d3 d4 d5 d6
  have Q3 := Lib.hid (Q0.out.keep fun i hi => B3.out.block i (Q0.out.in i hi))
  have M3 := Lib.hid (MM0.out.next B3.out)
  have X3 := Lib.hid (X0.out.next B3.out)
  have lk : ∀ u : Later w3, (Instr.lookup 70 (.map (some m)) (.int .i64 gk) true).run Tryz.prog u.w = .ok (.tuple #[gp a, .bool true] ) u.w := fun u => by
    have := (M3.out.next u.below).look_ok wg
    rw [HG.out] at this
    exact this
  clear y0 y1 f0 f1
  have c0 := Later.cell (Q3.out.lies.cell (i := 0) rfl)
  have c1 := Later.cell (Q3.out.lies.cell (i := 1) rfl)
  have c2 := Later.cell (Q3.out.lies.cell (i := 2) rfl)
  have c3 := Later.cell (Q3.out.lies.cell (i := 3) rfl)
  have c4 := Later.cell (Q3.out.lies.cell (i := 4) rfl)
  have c5 := Later.cell (Q3.out.lies.cell (i := 5) rfl)
  have c6 := Later.cell (Q3.out.lies.cell (i := 6) rfl)
  have c7 := Later.cell (Q3.out.lies.cell (i := 7) rfl)
  have c8 := Later.cell (Q3.out.lies.cell (i := 8) rfl)
  have d0 := Later.cell (X3.out.cell (i := 0) rfl)
  have d1 := Later.cell (X3.out.cell (i := 1) rfl)
  have d2 := Later.cell (X3.out.cell (i := 2) rfl)
  have d3 := Later.cell (X3.out.cell (i := 3) rfl)
  have d4 := Later.cell (X3.out.cell (i := 4) rfl)
  have d5 := Later.cell (X3.out.cell (i := 5) rfl)
  have d6 := Later.cell (X3.out.cell (i := 6) rfl)
  go_upto_region 3 with fail
  refine wp_region_later (by kernel_rfl) (by kernel_rfl) ?_
  repeat (go_big_quiet_step (first
    | (go_at_call 51; with_reducible exact Later.call _ (GR.out _))))
  refine wpQuiet_nil ?_
  rintro _ ⟨u4, rfl⟩
  have B4 := Lib.hid u4.below
  generalize u4.w = w4 at B4 ⊢
  have Y4 := Lib.hid (Y3.out.next B4.out)
  have X4 := Lib.hid (X3.out.next B4.out)
  have B34 := Lib.hid (after K0.out (after B3.out B4.out))
  clear lk c0 c1 c2 c3 c4 c5 c6 c7 c8 d0 d1 d2 d3 d4 d5 d6
  have y0 := Y4.out.cell (i := 0) rfl
  have y1 := Y4.out.cell (i := 1) rfl
  have f0 := Y4.out.open_ 0
  have f1 := Y4.out.open_ 1
  go_wp2_with fail
  have Z := (Y4.out.put 0 (.int .i64 3)).put 1 (.slice none 0 0)
  have q0 := Z.cell (i := 0) rfl
  have q1 := Z.cell (i := 1) rfl
  have k9 := put_two (w := w4) (gy := w.heap.size + 1) (a := .int .i64 0) (b := .int .i64 0) (.int .i64 3) (.slice none 0 0)
  exact bodyPost_ret (v := .tuple #[.bool false, rep0 3, .slice none 0 0]) (by simp [results, Tryz.results31, go_sem, q0, q1]) rfl ⟨rfl, Ms.below_over B34.out k9 (by omega)⟩

set_option maxHeartbeats 4000000 in
/-- of a group that it has: what the model tells of it -/
theorem ask_has {wk : Nat} {F : Nat → Prop} {cf : C8} {p : Int → Option Nat} {L : List Ms.M} (x : Cl) (mark : Int) (sh : Bool) (w : World) (H : Hid (Is w wk F cf p L)) (hc : Hid (Md.cfOf cf).Fit) (hx : Hid x.Fit) (hk : Hid (kd x.op = true)) (HM : Hid (mayC (Md.cfOf cf) x)) (wg : Wf (grpOf cf.r x)) {a N n : Nat} {Fg : Nat → Prop} {S : Lists} (HG : Hid (p (grpOf cf.r x) = some a)) (hs : sh = false) (z : Option (Nat × Int × Int × Int)) (G : Hid (Gr.Is w a Fg cf S N n)) (hN : N ≤ 8880) (M : Hid (Asg.may cf.k cf.s cf.l cf.g cf.z cf.h cf.r cf.c)) (B : Hid (cf.s ≤ 9223372036854775807 ∧ cf.l ≤ 9223372036854775807 ∧ cf.g ≤ 9223372036854775807 ∧ cf.z ≤ 9223372036854775807)) (fk : Hid ((Lit.int .i64 mark).wf = true)) (hkey : x.key.size ≤ maxLen) (T : Hid (Asg.Told cf.k cf.s cf.l cf.g cf.z x.t z)) :
    Calls Tryz.prog 31 #[gp wk, x.val, .int .i64 mark, .bool sh] w fun r w' => ∃ rv ov code P O c S' n' F', r = .returned (.tuple #[.bool false, rep code rv, ov]) ∧ MAsked cf S mark x z code P O c S' ∧ n' ≤ n + c ∧ P.length ≤ 9000 ∧ Gr.Is w' a F' cf S' (N + c) n' ∧ Moves Fg F' w w' ∧ Sl.Own Pn.k w.heap.size w' rv P ∧ Sl.Own Pn.k w.heap.size w' ov O := by
  subst hs
  obtain ⟨m, bx, bv, q, hF⟩ := H.out
  obtain ⟨c, hm⟩ := q.map
  have M1 := Lib.hid fun w => Ca.may_ok (Md.cfOf cf) x w true (Lib.hid (by simp [HM.out])) hc.out hx.out
  have KD := Lib.hid fun w => (hk.out ▸ Ca.keyed_ok x w : Calls Tryz.prog 49 #[x.val] w fun r w' => r = .returned (.bool true) ∧ Below w.heap.size w w')
  have GR := Lib.hid fun w => Ca.group_ok (Md.cfOf cf) x w hc.out hx.out
  obtain ⟨gk, hgk⟩ : ∃ gk, gk = grpOf cf.r x := ⟨_, rfl⟩
  rw [← hgk] at wg HG
  have GK := Lib.hid hgk
  have GR : Hid (∀ w, Calls Tryz.prog 51 #[(Md.cfOf cf).val, x.val] w fun r w' => r = .returned (.int .i64 gk) ∧ Below w.heap.size w w') := Lib.hid (by rw [GK.out]; exact GR.out)
  clear hgk
  have ft : Hid ((Lit.int .i64 x.t).wf = true) := Lib.hid hx.out.2.2.1
  have HQ := Lib.hid q
  have HM0 := Lib.hid hm
  obtain ⟨op, key, t, v, e, u, s⟩ := x
  dsimp only at *
  have X0 := Lib.hid ((Lies.new w 42 [.int .i64 op, .string key, .int .i64 t, .int .i64 v, .int .i64 e, .int .i64 u, .int .i64 s]).next (below1 _ (Obj.cells #[.int .i64 0, .slice none 0 0] 47)))
  have y00 := Lies.new (w.alloc (Obj.cells #[.int .i64 op, .string key, .int .i64 t, .int .i64 v, .int .i64 e, .int .i64 u, .int .i64 s] 42)) 47 [.int .i64 0, .slice none 0 0]
  simp only [World.size_alloc] at y00
  have Y0 := Lib.hid y00
  have k00 := below2 w (Obj.cells #[.int .i64 op, .string key, .int .i64 t, .int .i64 v, .int .i64 e, .int .i64 u, .int .i64 s] 42) (Obj.cells #[.int .i64 0, .slice none 0 0] 47)
  have Q0 := Lib.hid (HQ.out.keep fun i hi => k00.block i (HQ.out.in i hi))
  have MM0 := Lib.hid (HM0.out.next k00)
  have K0 := Lib.hid k00
  clear k00 y00 q hm
  go_enter Tryz.func31, Tryz.ntmps31
  go_upto_region 1 with fail
  generalize ((w.alloc (Obj.cells #[.int .i64 op, .string key, .int .i64 t, .int .i64 v, .int .i64 e, .int .i64 u, .int .i64 s] 42)).alloc (Obj.cells #[.int .i64 0, .slice none 0 0] 47)) = w2 at X0 Y0 K0 Q0 MM0 ⊢
  have c0 := Later.cell (Q0.out.lies.cell (i := 0) rfl)
  have c1 := Later.cell (Q0.out.lies.cell (i := 1) rfl)
  have c2 := Later.cell (Q0.out.lies.cell (i := 2) rfl)
  have c3 := Later.cell (Q0.out.lies.cell (i := 3) rfl)
  have c4 := Later.cell (Q0.out.lies.cell (i := 4) rfl)
  have c5 := Later.cell (Q0.out.lies.cell (i := 5) rfl)
  have c6 := Later.cell (Q0.out.lies.cell (i := 6) rfl)
  have c7 := Later.cell (Q0.out.lies.cell (i := 7) rfl)
  have d0 := Later.cell (X0.out.cell (i := 0) rfl)
  have d1 := Later.cell (X0.out.cell (i := 1) rfl)
  have d2 := Later.cell (X0.out.cell (i := 2) rfl)
  have d3 := Later.cell (X0.out.cell (i := 3) rfl)
  have d4 := Later.cell (X0.out.cell (i := 4) rfl)
  have d5 := Later.cell (X0.out.cell (i := 5) rfl)
  have d6 := Later.cell (X0.out.cell (i := 6) rfl)
  refine wp_region_later (by kernel_rfl) (by kernel_rfl) ?_
  repeat (go_big_quiet_step (first
    | (go_at_call 49; with_reducible exact Later.call _ (KD.out _))
    | (go_at_call 50; with_reducible exact Later.call _ (M1.out _))))
  refine wpQuiet_nil ?_
  rintro _ ⟨u3, rfl⟩
  have B3 := Lib.hid u3.below
  generalize u3.w = w3 at B3 ⊢
  have Y3 := Lib.hid (Y0.out.next B3.out)
  have y0 := Y3.out.cell (i := 0) rfl
  have y1 := Y3.out.cell (i := 1) rfl
  have f0 := Y3.out.open_ 0
  have f1 := Y3.out.open_ 1
  clear c0 c1 c2 c3 c4 c5 c6 c7 d0 d1 d2 d3 d4 d5 d6
  have Q3 := Lib.hid (Q0.out.keep fun i hi => B3.out.block i (Q0.out.in i hi))
  have M3 := Lib.hid (MM0.out.next B3.out)
  have X3 := Lib.hid (X0.out.next B3.out)
  have lk : ∀ u : Later w3, (Instr.lookup 70 (.map (some m)) (.int .i64 gk) true).run Tryz.prog u.w = .ok (.tuple #[gp a, .bool true] ) u.w := fun u => by
    have := (M3.out.next u.below).look_ok wg
    rw [HG.out] at this
    exact this
  clear y0 y1 f0 f1
  have c0 := Later.cell (Q3.out.lies.cell (i := 0) rfl)
  have c1 := Later.cell (Q3.out.lies.cell (i := 1) rfl)
  have c2 := Later.cell (Q3.out.lies.cell (i := 2) rfl)
  have c3 := Later.cell (Q3.out.lies.cell (i := 3) rfl)
  have c4 := Later.cell (Q3.out.lies.cell (i := 4) rfl)
  have c5 := Later.cell (Q3.out.lies.cell (i := 5) rfl)
  have c6 := Later.cell (Q3.out.lies.cell (i := 6) rfl)
  have c7 := Later.cell (Q3.out.lies.cell (i := 7) rfl)
  have c8 := Later.cell (Q3.out.lies.cell (i := 8) rfl)
  have d0 := Later.cell (X3.out.cell (i := 0) rfl)
  have d1 := Later.cell (X3.out.cell (i := 1) rfl)
  have d2 := Later.cell (X3.out.cell (i := 2) rfl)
  have d3 := Later.cell (X3.out.cell (i := 3) rfl)
  have d4 := Later.cell (X3.out.cell (i := 4) rfl)
  have d5 := Later.cell (X3.out.cell (i := 5) rfl)
  have d6 := Later.cell (X3.out.cell (i := 6) rfl)
  go_upto_region 3 with fail
  refine wp_region_later (by kernel_rfl) (by kernel_rfl) ?_
  repeat (go_big_quiet_step (first
    | (go_at_call 51; with_reducible exact Later.call _ (GR.out _))))
  refine wpQuiet_nil ?_
  rintro _ ⟨u4, rfl⟩
  have B4 := Lib.hid u4.below
  generalize u4.w = w4 at B4 ⊢
  have Y4 := Lib.hid (Y3.out.next B4.out)
  have X4 := Lib.hid (X3.out.next B4.out)
  have B34 := Lib.hid (after K0.out (after B3.out B4.out))
  clear lk c0 c1 c2 c3 c4 c5 c6 c7 c8 d0 d1 d2 d3 d4 d5 d6
  have x0 := X4.out.cell (i := 0) rfl
  have x1 := X4.out.cell (i := 1) rfl
  have x2 := X4.out.cell (i := 2) rfl
  have x3 := X4.out.cell (i := 3) rfl
  have x4 := X4.out.cell (i := 4) rfl
  have x5 := X4.out.cell (i := 5) rfl
  have x6 := X4.out.cell (i := 6) rfl
  have G4 := Lib.hid (G.out.next B34.out)
  go_wp2_with fail
  refine (Md.keyed_ok ⟨op, key, t, v, e, u, s⟩ mark z w4 G4 hN M B ft fk hkey T).mono ?_
  rintro r w5 ⟨rv, ov, code, P, O, c', S', n', F', rfl, ma, hn', hP, G5, V5, o5, oo5⟩
  obtain ⟨Av, nv, cv, rfl⟩ := Md.lit o5
  obtain ⟨Bv, mv, ev, rfl⟩ := Md.lit oo5
  have hw := Lib.hid HQ.out.in
  have nF : ¬ F' (w.heap.size + 1) := fun q => by
    rcases (V5.new _ q).1 with r | r
    · have := G.out.in _ r; omega
    · have := Y4.out.lt; omega
  have Y5 := Lib.hid (V5.lies (fun q => by have := G.out.in _ q; omega) Y4.out)
  have G5 := Lib.hid G5
  have V5 := Lib.hid V5
  have O5 := Lib.hid (And.intro o5 oo5)
  have R5 := Lib.hid (And.intro ma (And.intro hn' (And.intro hP nF)))
  clear o5 oo5 ma hn' hP nF x0 x1 x2 x3 x4 x5 x6
  go_upto_region 9 with fail
  have k6 := below1 w5 (Obj.cells #[.int .i64 code, .slice Av nv cv] 47)
  have Z6 := Lib.hid (Lies.new w5 47 [.int .i64 code, .slice Av nv cv])
  have Y6 := Lib.hid (Y5.out.next k6)
  have G6 := Lib.hid (G5.out.next k6)
  have V6 := Lib.hid (V5.out.trans (Moves.of_below k6 G5.out.in))
  have O6 := Lib.hid (And.intro (O5.out.1.next k6) (O5.out.2.next k6))
  clear k6
  generalize hg13 : w5.heap.size = g13 at Z6 ⊢
  generalize w5.alloc (Obj.cells #[.int .i64 code, .slice Av nv cv] 47) = w6 at Z6 Y6 G6 V6 O6 ⊢
  have z0 := Z6.out.cell (i := 0) rfl
  have z1 := Z6.out.cell (i := 1) rfl
  have y0 := Y6.out.cell (i := 0) rfl
  have y1 := Y6.out.cell (i := 1) rfl
  have f0 := Y6.out.open_ 0
  have f1 := Y6.out.open_ 1
  clear hg13
  go_region
  all_goals
    have Z := (Y6.out.put 0 (.int .i64 code)).put 1 (.slice Av nv cv)
    have q0 := Z.cell (i := 0) rfl
    have q1 := Z.cell (i := 1) rfl
    have k9 := put_two (w := w6) (gy := w.heap.size + 1) (a := .int .i64 0) (b := .int .i64 0) (.int .i64 code) (.slice Av nv cv)
    have k9 : w6.grownBy ((w6.setCell ⟨w.heap.size + 1, 0, none⟩ (.int .i64 code)).setCell ⟨w.heap.size + 1, 1, none⟩ (.slice Av nv cv)).drew (some (w.heap.size + 1)) := ⟨k9.os, k9.tape, k9.output, k9.size, k9.block⟩
    have s4 : w.heap.size ≤ w4.heap.size := B34.out.size
    have y4 := Y4.out.lt
    obtain ⟨ma, hn', hP, nF⟩ := R5.out
    have V9 := moves_grown ((Moves.of_below B34.out G.out.in).trans V6.out) k9 (fun b e => by have := Option.some.inj e; omega)
    go_wp2_with fail
    exact bodyPost_ret (v := .tuple #[.bool false, rep code (.slice Av nv cv), .slice Bv mv ev]) (by simp [results, Tryz.results31, go_sem, q0, q1]) rfl
      ⟨_, _, code, P, O, c', S', n', F', rfl, ma, hn', hP, G6.out.grown k9 nF, V9, Gr.own_base (Gr.own_grown O6.out.1 k9 (by omega)) s4, Gr.own_base (Gr.own_grown O6.out.2 k9 (by omega)) s4⟩
end Sh
end Go.Proofs.YtmklkiklegkioaaGreat
