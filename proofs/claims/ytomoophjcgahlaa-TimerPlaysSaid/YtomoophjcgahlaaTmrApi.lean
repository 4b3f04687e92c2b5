/-
  Contracts of package timer: New, Put, Drop, Next, Pop, Len.
-/
import Derived.Test.YtomoophjcgahlaaTmrHeap
import Derived.Test.YtomoophjcgahlaaSpan
namespace Go.Proofs.Ytomoophjcgahlaa
open Go.ChangeShapes Go.WideShapes Go.ChangeAt Go.RowKit
namespace Tmr
open Small
set_option linter.unusedVariables false

/-- timers, as they are handed on -/
abbrev tp (g : Nat) : Value := .pointer (some ⟨g, 0, none⟩)
/-- a zero one -/
abbrev tz : Value := .agg #[.string ⟨#[]⟩, .int .i64 0, .int .i64 0]

section
variable {w w' w'' : World} {g m r n : Nat} {M : Tm → Prop}
theorem Tim.next (h : Tim w g m r n M) (k : Below w.heap.size w w') : Tim w' g m r n M := by
  obtain ⟨f, v, p, q, hh, hm⟩ := h
  exact ⟨f, v, p, q.next k, hh, hm⟩
theorem Turns.of_below (h : Tim w g m r n M) (k : Below w.heap.size w w') : Turns g m r n M w w' := ⟨r, h.next k, Mv.of_below k, .inl rfl⟩
theorem Turns.after (k : Below w.heap.size w w') (h : Turns g m r n M w' w'') : Turns g m r n M w w'' := by
  obtain ⟨r', a, b, c⟩ := h
  exact ⟨r', a, (Mv.of_below k).trans (.inl rfl) b, by have := k.size; omega⟩
theorem Turns.then (h : Turns g m r n M w w') (k : Below w'.heap.size w' w'') : Turns g m r n M w w'' := by
  obtain ⟨r', a, b, c⟩ := h
  exact ⟨r', a.next k, b.then k, c⟩
end

def Made (w : World) (e : Ending) (w' : World) : Prop := ∃ g m, e = .returned (tp g) ∧ Tim w' g m g 0 (fun _ => False) ∧ Below w.heap.size w w' ∧ w.heap.size ≤ g ∧ w.heap.size ≤ m

theorem tim_new {w W : World} {g m : Nat} (h1 : Lies W g 52 [.slice none 0 0, .map (some m)]) (h2 : Mp W m (fun _ => none) 0) : Tim W g m g 0 (fun _ => False) :=
  ⟨fun _ => ⟨⟨#[]⟩, 0, 0⟩, _, _, ⟨h1, World.ownsRow_nil _ _ _ _, .inl rfl, h2, fun x i => ⟨fun h => (by cases h), fun h => (by omega)⟩, fun i hi => (by omega), by omega⟩, fun k _ h => (by omega), fun y => ⟨fun h => h.elim, fun ⟨k, hk, _⟩ => (by omega)⟩⟩

set_option maxHeartbeats 400000 in
theorem new_ok (w : World) : Calls Try.prog 6 #[] w (Made w) := by
  have hm := run_makeMap (P := Try.prog) 48 w
  go_enter Try.func6, Try.ntmps6
  go_wp2
  go_ret
  refine ⟨w.heap.size + 1, w.heap.size, rfl, tim_new (w := w) ?_ ?_, below2 _ _ _, by omega, by omega⟩
  · have := Lies.new (w.alloc (.map #[] 0)) 52 [.slice none 0 0, .map (some w.heap.size)]
    rwa [show (w.alloc (.map #[] 0)).heap.size = w.heap.size + 1 by simp] at this
  · exact (Mp.made w).kept ((below1 _ _).block _ (by simp))

set_option maxHeartbeats 400000 in
theorem tlen_ok {g m r n : Nat} {M : Tm → Prop} (w : World) (H : Hid (Tim w g m r n M)) :
    Calls Try.prog 14 #[tp g] w fun e w' => e = .returned (.int .i64 n) ∧ w = w' := by
  obtain ⟨f, v, p, q, _, _⟩ := H.out
  have Q := Lib.hid q
  clear q
  go_enter Try.func14, Try.ntmps14
  go_wp2_with fail
  refine (len_ok w Q).mono ?_
  rintro e w1 ⟨rfl, rfl⟩
  go_wp2
  go_ret
  exact ⟨rfl, rfl⟩

theorem Tim.fits {w : World} {g m r n : Nat} {M : Tm → Prop} (h : Tim w g m r n M) {x : Tm} (hx : M x) : Fits x := by
  obtain ⟨f, v, p, q, _, hm⟩ := h
  obtain ⟨k, hk, rfl⟩ := (hm x).1 hx
  exact q.fits k hk

/-- the lookup's answer, whatever is drawn -/
theorem look_there {w : World} {g m r n : Nat} {f : Nat → Tm} {v : Value} {p : Tm → Option Nat} (q : Qu w g m r f n v p) {x : Tm} {i : Nat} (hi : i < n) (hx : f i = x) (k : Nat) :
    (Instr.lookup 48 (.map (some m)) (tv x) true).run Try.prog (w.drewN k) = .ok (.tuple #[.int .i64 i, .bool true]) (w.drewN k) :=
  Mp.look_some (q.map.kept (w' := w.drewN k) rfl) (by rw [← hx]; exact q.fits i hi) ((q.place x i).2 ⟨hi, hx⟩)
theorem look_not {w : World} {g m r n : Nat} {f : Nat → Tm} {v : Value} {p : Tm → Option Nat} (q : Qu w g m r f n v p) {x : Tm} (fx : Fits x) (hx : p x = none) (k : Nat) :
    (Instr.lookup 48 (.map (some m)) (tv x) true).run Try.prog (w.drewN k) = .ok (.tuple #[.int .i64 0, .bool false]) (w.drewN k) :=
  Mp.look_none (q.map.kept (w' := w.drewN k) rfl) fx hx

theorem below_drewN (w : World) (n : Nat) : Below w.heap.size w (w.drewN n) := by
  induction n with
  | zero => exact Below.refl _ _
  | succ n ih => exact ih.drew

set_option maxHeartbeats 1600000 in
theorem put_old {g m r n : Nat} {M : Tm → Prop} (w : World) (x : Tm) (H : Hid (Tim w g m r n M)) (hx : Hid (M x)) :
    Calls Try.prog 9 #[tp g, tv x] w (Ends g m r n M w (.bool false)) := by
  obtain ⟨f, v, p, q, hh, hm⟩ := H.out
  obtain ⟨i, hi, hfi⟩ := (hm x).1 hx.out
  have B0 := below1 w (Obj.cells #[.string x.key, .int .i64 x.s, .int .i64 x.e] 30)
  have lk := look_there (q.next B0) hi hfi
  have c1 := q.lies.cell (i := 1) rfl
  have gl := q.lies.lt
  have gs : ¬ g = w.heap.size := by omega
  clear q hh hm hfi
  go_enter Try.func9, Try.ntmps9
  go_wp2_with fail
  go_quiet (fail)
  go_wp2
  go_ret
  exact ⟨rfl, Turns.of_below H.out (after B0 (below_drewN _ _))⟩

set_option maxHeartbeats 1600000 in
theorem put_new {g m r n : Nat} {M : Tm → Prop} (w : World) (x : Tm) (H : Hid (Tim w g m r n M)) (hx : Hid (¬ M x)) (fx : Hid (Fits x)) (hn : n < 1048576) :
    Calls Try.prog 9 #[tp g, tv x] w (Ends g m r (n + 1) (fun y => y = x ∨ M y) w (.bool true)) := by
  obtain ⟨f, v, p, q, hh, hm⟩ := H.out
  have px : p x = none := by
    cases hp : p x with
    | none => rfl
    | some i => exact absurd ((hm x).2 ⟨i, (q.place x i).1 hp⟩) hx.out
  have B0 := below1 w (Obj.cells #[.string x.key, .int .i64 x.s, .int .i64 x.e] 30)
  have lk := look_not (q.next B0) fx.out px
  have c1 := q.lies.cell (i := 1) rfl
  have gl := q.lies.lt
  have gs : ¬ g = w.heap.size := by omega
  have Q := Lib.hid q
  have HH := Lib.hid hh
  have HM := Lib.hid hm
  have PX := Lib.hid px
  have B0 := Lib.hid B0
  clear q hh hm px
  go_enter Try.func9, Try.ntmps9
  go_wp2_with fail
  go_quiet (fail)
  go_wp2_with fail
  have B1 := Lib.hid (after B0.out (below_drewN _ nq))
  have X : Lies ((w.alloc (Obj.cells #[.string x.key, .int .i64 x.s, .int .i64 x.e] 30)).drewN nq) w.heap.size 30 [.string x.key, .int .i64 x.s, .int .i64 x.e] := (Lies.new w 30 _).next (below_drewN _ _)
  obtain ⟨W, hW⟩ : ∃ W, W = (w.alloc (Obj.cells #[.string x.key, .int .i64 x.s, .int .i64 x.e] 30)).drewN nq := ⟨_, rfl⟩
  rw [← hW] at X B1 ⊢
  have x0 := X.cell (i := 0) rfl
  have x1 := X.cell (i := 1) rfl
  have x2 := X.cell (i := 2) rfl
  clear hW X lk c1
  go_still_tail 6, (by kernel_rfl)
  go_wp2_with fail
  have B2 := Lib.hid (after B1.out (Below.refl _ W).drew)
  refine (hpush_ok _ x M (Lib.hid (Q.out.next B2.out)) HH HM PX fx hn).mono ?_
  rintro e w3 ⟨rfl, t3⟩
  have T3 := Lib.hid t3
  clear t3 x0 x1 x2
  go_wp2
  go_ret
  exact ⟨rfl, Turns.after B2.out T3.out⟩

set_option maxHeartbeats 1600000 in
theorem drop_not {g m r n : Nat} {M : Tm → Prop} (w : World) (x : Tm) (H : Hid (Tim w g m r n M)) (hx : Hid (¬ M x)) (fx : Hid (Fits x)) :
    Calls Try.prog 10 #[tp g, tv x] w (Ends g m r n M w (.bool false)) := by
  obtain ⟨f, v, p, q, hh, hm⟩ := H.out
  have px : p x = none := by
    cases hp : p x with
    | none => rfl
    | some i => exact absurd ((hm x).2 ⟨i, (q.place x i).1 hp⟩) hx.out
  have B0 := below1 w (Obj.cells #[.string x.key, .int .i64 x.s, .int .i64 x.e] 30)
  have lk := look_not (q.next B0) fx.out px
  have c1 := q.lies.cell (i := 1) rfl
  have gl := q.lies.lt
  have gs : ¬ g = w.heap.size := by omega
  clear q hh hm px
  go_enter Try.func10, Try.ntmps10
  go_wp2_with fail
  go_quiet (fail)
  go_wp2
  go_ret
  exact ⟨rfl, Turns.of_below H.out (after B0 (below_drewN _ _))⟩

set_option maxHeartbeats 1600000 in
theorem drop_there {g m r k : Nat} {M : Tm → Prop} (w : World) (x : Tm) (H : Hid (Tim w g m r (k + 1) M)) (hx : Hid (M x)) :
    Calls Try.prog 10 #[tp g, tv x] w (Ends g m r k (fun y => y ≠ x ∧ M y) w (.bool true)) := by
  obtain ⟨f, v, p, q, hh, hm⟩ := H.out
  obtain ⟨i, hi, hfi⟩ := (hm x).1 hx.out
  have few := q.few
  have B0 := below1 w (Obj.cells #[.string x.key, .int .i64 x.s, .int .i64 x.e] 30)
  have lk := look_there (q.next B0) hi hfi
  have c1 := q.lies.cell (i := 1) rfl
  have gl := q.lies.lt
  have gs : ¬ g = w.heap.size := by omega
  have Q := Lib.hid q
  have HH := Lib.hid hh
  have HM := Lib.hid hm
  have FI := Lib.hid hfi
  have B0 := Lib.hid B0
  clear q hh hm hfi
  go_enter Try.func10, Try.ntmps10
  go_wp2_with fail
  go_quiet (fail)
  go_wp2_with fail
  have B1 := Lib.hid (after B0.out (below_drewN _ nq))
  refine (hremove_ok (i := i) _ M (Lib.hid (Q.out.next B1.out)) HH HM hi).mono ?_
  rintro e w3 ⟨rfl, t3⟩
  have T3 := Lib.hid t3
  clear t3 lk c1
  go_wp2
  go_ret
  have t := T3.out
  rw [FI.out] at t
  exact ⟨rfl, Turns.after B1.out t⟩

def IsLeast (M : Tm → Prop) (x : Tm) : Prop := M x ∧ ∀ y, M y → le x y
theorem IsLeast.one {M : Tm → Prop} {x y : Tm} (h : IsLeast M x) (k : IsLeast M y) : x = y := le_antisymm (h.2 y k.1) (k.2 x h.1)
theorem Tim.least {w : World} {g m r k : Nat} {M : Tm → Prop} {f : Nat → Tm} (hh : Heap f (k + 1)) (hm : ∀ y, M y ↔ ∃ j, j < k + 1 ∧ f j = y) : IsLeast M (f 0) :=
  ⟨(hm _).2 ⟨0, by omega, rfl⟩, fun y hy => by obtain ⟨j, hj, rfl⟩ := (hm y).1 hy; exact heap_least hh j hj⟩

set_option maxHeartbeats 1600000 in
theorem next_none {g m r : Nat} {M : Tm → Prop} (w : World) (H : Hid (Tim w g m r 0 M)) :
    Calls Try.prog 13 #[tp g] w fun e w' => e = .returned (.tuple #[tz, .bool false]) ∧ Below w.heap.size w w' := by
  have B0 := below1 w (Obj.cells #[.string ⟨#[]⟩, .int .i64 0, .int .i64 0] 30)
  go_enter Try.func13, Try.ntmps13
  go_wp2_with fail
  refine (tlen_ok _ (Lib.hid (H.out.next B0))).mono ?_
  rintro e w1 ⟨rfl, rfl⟩
  go_wp2
  exact bodyPost_ret (v := .tuple #[tz, .bool false]) (by simp [results, Try.results13, go_sem]) rfl ⟨rfl, below1 _ _⟩

set_option maxHeartbeats 1600000 in
theorem next_some {g m r k : Nat} {M : Tm → Prop} {x : Tm} (w : World) (H : Hid (Tim w g m r (k + 1) M)) (L : Hid (IsLeast M x)) :
    Calls Try.prog 13 #[tp g] w fun e w' => e = .returned (.tuple #[tv x, .bool true]) ∧ Below w.heap.size w w' := by
  obtain ⟨f, v, p, q, hh, hm⟩ := H.out
  have hx : f 0 = x := IsLeast.one (Tim.least (w := w) (g := g) (m := m) (r := r) hh hm) L.out
  obtain ⟨cap, rfl, cap1, cap2, R⟩ := q.rw_ (by omega)
  obtain ⟨x0, x1, x2⟩ := R.cells (i := 0) (by omega)
  rw [hx] at x0 x1 x2
  have gl := q.lies.lt
  have rl := R.lt
  have few := q.few
  have c0 := q.lies.cell (i := 0) rfl
  have n1 : ¬ r = w.heap.size := by omega
  have n2 : ¬ g = w.heap.size := by omega
  have n3 : ¬ (k : Int) + 1 = 0 := by omega
  have n4 : ((k : Int) + 1 == 0) = false := by simp; omega
  have B0 := Lib.hid (below1 w (Obj.cells #[.string ⟨#[]⟩, .int .i64 0, .int .i64 0] 30))
  clear q hh hm hx R
  go_enter Try.func13, Try.ntmps13
  go_wp2_with fail
  refine (tlen_ok _ (Lib.hid (H.out.next B0.out))).mono ?_
  rintro e w1 ⟨rfl, rfl⟩
  go_wp2
  exact bodyPost_ret (v := .tuple #[tv x, .bool true]) (by simp [results, Try.results13, go_sem]) rfl ⟨rfl, below1 _ _⟩

/-- the zero one and false, where a zero one was laid into the result's own cell -/
theorem pop_zero {w w1 W : World} {z : Nat} {a b c : Value} (hz : z = w.heap.size) (k : Below w.heap.size w w1) (X : Lies w1 z 30 [a, b, c]) (o : Obj)
    (hW : W = (((w1.setCell ⟨z, 0, none⟩ (.string ⟨#[]⟩)).setCell ⟨z, 1, none⟩ (.int .i64 0)).setCell ⟨z, 2, none⟩ (.int .i64 0)).alloc o) :
    Lies W z 30 [.string ⟨#[]⟩, .int .i64 0, .int .i64 0] ∧ Below w.heap.size w W := by
  subst hz
  have sz := k.size
  exact ⟨by rw [hW]; exact (((X.put 0 _).put 1 _).put 2 _).alloc _, by rw [hW]; exact (((k.setCell (Nat.le_refl _) _).setCell (Nat.le_refl _) _).setCell (Nat.le_refl _) _).alloc (by simpa [World.setCell] using sz) _⟩

theorem pop_zero' {w w1 W : World} {z : Nat} {a b c : Value} (hz : z = w.heap.size) (k : Below w.heap.size w w1) (X : Lies w1 z 30 [a, b, c])
    (hW : W = (((w1.setCell ⟨z, 0, none⟩ (.string ⟨#[]⟩)).setCell ⟨z, 1, none⟩ (.int .i64 0)).setCell ⟨z, 2, none⟩ (.int .i64 0))) :
    Lies W z 30 [.string ⟨#[]⟩, .int .i64 0, .int .i64 0] ∧ Below w.heap.size w W := by
  subst hz
  exact ⟨by rw [hW]; exact (((X.put 0 _).put 1 _).put 2 _), by rw [hW]; exact (((k.setCell (Nat.le_refl _) _).setCell (Nat.le_refl _) _).setCell (Nat.le_refl _) _)⟩

set_option maxHeartbeats 1600000 in
theorem pop_none {g m r : Nat} {late mark : Int} {M : Tm → Prop} (w : World) (H : Hid (Tim w g m r 0 M)) :
    Calls Try.prog 11 #[tp g, .int .i64 late, .int .i64 mark] w fun e w' => e = .returned (.tuple #[tz, .bool false]) ∧ Below w.heap.size w w' := by
  have B0 := Lib.hid (below1 w (Obj.cells #[.string ⟨#[]⟩, .int .i64 0, .int .i64 0] 30))
  go_enter Try.func11, Try.ntmps11
  go_wp2_with fail
  refine (next_none _ (Lib.hid (H.out.next B0.out))).mono ?_
  rintro e w1 ⟨rfl, k1⟩
  have X : Lies w1 w.heap.size 30 [.string ⟨#[]⟩, .int .i64 0, .int .i64 0] := (Lies.new w 30 _).next k1
  have x0 := X.cell (i := 0) rfl
  have x1 := X.cell (i := 1) rfl
  have x2 := X.cell (i := 2) rfl
  have f0 := X.open_ 0
  have f1 := X.open_ 1
  have f2 := X.open_ 2
  have sz := X.lt
  have nn : ¬ w.heap.size = w1.heap.size := by omega
  have K1 := Lib.hid (after B0.out k1)
  have X := Lib.hid X
  clear k1
  go_wp2
  obtain ⟨W, hW⟩ : ∃ W, W = (((w1.setCell ⟨w.heap.size, 0, none⟩ (.string ⟨#[]⟩)).setCell ⟨w.heap.size, 1, none⟩ (.int .i64 0)).setCell ⟨w.heap.size, 2, none⟩ (.int .i64 0)).alloc
    (Obj.cells #[.string ⟨#[]⟩, .int .i64 0, .int .i64 0] 30) := ⟨_, rfl⟩
  rw [← hW]
  obtain ⟨Y, K⟩ := pop_zero rfl K1.out X.out _ hW
  have y0 := Y.cell (i := 0) rfl
  have y1 := Y.cell (i := 1) rfl
  have y2 := Y.cell (i := 2) rfl
  exact bodyPost_ret (v := .tuple #[tz, .bool false]) (by simp [results, Try.results11, go_sem, y0, y1, y2]) rfl ⟨rfl, K⟩

set_option maxHeartbeats 1600000 in
theorem pop_not {g m r k : Nat} {late mark : Int} {M : Tm → Prop} {x : Tm} (w : World) (H : Hid (Tim w g m r (k + 1) M)) (L : Hid (IsLeast M x)) (hl : Hid ((Lit.int .i64 late).wf = true)) (hm : Hid ((Lit.int .i64 mark).wf = true)) (ho : Hid (¬ x.e + late ≤ mark)) :
    Calls Try.prog 11 #[tp g, .int .i64 late, .int .i64 mark] w fun e w' => e = .returned (.tuple #[tz, .bool false]) ∧ Below w.heap.size w w' := by
  have B0 := Lib.hid (below1 w (Obj.cells #[.string ⟨#[]⟩, .int .i64 0, .int .i64 0] 30))
  have fx := Lib.hid (H.out.fits L.out.1)
  go_enter Try.func11, Try.ntmps11
  go_wp2_with fail
  refine (next_some _ (Lib.hid (H.out.next B0.out)) L).mono ?_
  rintro e w1 ⟨rfl, k1⟩
  have X : Hid (Lies w1 w.heap.size 30 [.string ⟨#[]⟩, .int .i64 0, .int .i64 0]) := Lib.hid ((Lies.new w 30 _).next k1)
  have K1 := Lib.hid (after B0.out k1)
  clear k1
  go_wp2_with fail
  refine (Spn.over_ok x.s x.e late mark _ (fit fx.out.2.2).1 (fit fx.out.2.2).2 (fit hl.out).1 (fit hl.out).2 (fit hm.out).1 (fit hm.out).2).mono ?_
  rintro e w2 ⟨rfl, k2⟩
  rw [show decide (x.e + late ≤ mark) = false by simp; have := ho.out; omega]
  have B2 := Lib.hid (after (below1 w1 _) k2)
  have X2 := Lib.hid (X.out.next B2.out)
  have x0 := X2.out.cell (i := 0) rfl
  have x1 := X2.out.cell (i := 1) rfl
  have x2 := X2.out.cell (i := 2) rfl
  have f0 := X2.out.open_ 0
  have f1 := X2.out.open_ 1
  have f2 := X2.out.open_ 2
  have sz := X2.out.lt
  have nn : ¬ w.heap.size = w2.heap.size := by omega
  have K2 := Lib.hid (after K1.out B2.out)
  clear k2
  go_wp2
  obtain ⟨W, hW⟩ : ∃ W, W = (((w2.setCell ⟨w.heap.size, 0, none⟩ (.string ⟨#[]⟩)).setCell ⟨w.heap.size, 1, none⟩ (.int .i64 0)).setCell ⟨w.heap.size, 2, none⟩ (.int .i64 0)) := ⟨_, rfl⟩
  rw [← hW]
  obtain ⟨Y, K⟩ := pop_zero' rfl K2.out X2.out hW
  have y0 := Y.cell (i := 0) rfl
  have y1 := Y.cell (i := 1) rfl
  have y2 := Y.cell (i := 2) rfl
  exact bodyPost_ret (v := .tuple #[tz, .bool false]) (by simp [results, Try.results11, go_sem, y0, y1, y2]) rfl ⟨rfl, K⟩

set_option maxHeartbeats 1600000 in
theorem pop_some {g m r k : Nat} {late mark : Int} {M : Tm → Prop} {x : Tm} (w : World) (H : Hid (Tim w g m r (k + 1) M)) (L : Hid (IsLeast M x)) (hl : Hid ((Lit.int .i64 late).wf = true)) (hm : Hid ((Lit.int .i64 mark).wf = true)) (ho : Hid (x.e + late ≤ mark)) :
    Calls Try.prog 11 #[tp g, .int .i64 late, .int .i64 mark] w (Ends g m r k (fun y => y ≠ x ∧ M y) w (.tuple #[tv x, .bool true])) := by
  have B0 := Lib.hid (below1 w (Obj.cells #[.string ⟨#[]⟩, .int .i64 0, .int .i64 0] 30))
  have fx := Lib.hid (H.out.fits L.out.1)
  go_enter Try.func11, Try.ntmps11
  go_wp2_with fail
  refine (next_some _ (Lib.hid (H.out.next B0.out)) L).mono ?_
  rintro e w1 ⟨rfl, k1⟩
  have X : Hid (Lies w1 w.heap.size 30 [.string ⟨#[]⟩, .int .i64 0, .int .i64 0]) := Lib.hid ((Lies.new w 30 _).next k1)
  have K1 := Lib.hid (after B0.out k1)
  clear k1
  go_wp2_with fail
  refine (Spn.over_ok x.s x.e late mark _ (fit fx.out.2.2).1 (fit fx.out.2.2).2 (fit hl.out).1 (fit hl.out).2 (fit hm.out).1 (fit hm.out).2).mono ?_
  rintro e w2 ⟨rfl, k2⟩
  rw [show decide (x.e + late ≤ mark) = true by simp; have := ho.out; omega]
  have B2 := Lib.hid (after (below1 w1 _) k2)
  have X2 := Lib.hid (X.out.next B2.out)
  have F2 : Hid (Lies w2 w1.heap.size 30 [.string x.key, .int .i64 x.s, .int .i64 x.e]) := Lib.hid ((Lies.new w1 30 _).next k2)
  have K2 := Lib.hid (after K1.out B2.out)
  have gl : Hid (g < w.heap.size ∧ m < w.heap.size ∧ r < w.heap.size) := Lib.hid (by obtain ⟨f, v, p, q, _⟩ := H.out; obtain ⟨cap, rfl, _, _, R⟩ := q.rw_ (by omega); exact ⟨q.lies.lt, q.map.lt, R.lt⟩)
  clear k2
  obtain ⟨f, v, p, q, hh, hm'⟩ := H.out.next K2.out
  have hx : Hid (f 0 = x) := Lib.hid (IsLeast.one (Tim.least (w := w) (g := g) (m := m) (r := r) hh hm') L.out)
  have Q := Lib.hid q
  have HH := Lib.hid hh
  have HM := Lib.hid hm'
  clear q hh hm'
  go_wp2_with fail
  refine (hpop_ok _ M Q HH HM).mono ?_
  rintro e w3 ⟨rfl, t3⟩
  rw [hx.out]
  rw [hx.out] at t3
  obtain ⟨g1, g2, g3⟩ := gl.out
  have s1 := K1.out.size
  have s2 := B2.out.size
  have M3 : Mv g m r w2 w3 := by obtain ⟨_, _, h, _⟩ := t3; exact h
  have X3 : Lies w3 w.heap.size 30 [.string ⟨#[]⟩, .int .i64 0, .int .i64 0] := (M3.block _ X2.out.lt (by omega) (by omega) (by omega)).trans X2.out
  have F3 : Lies w3 w1.heap.size 30 [.string x.key, .int .i64 x.s, .int .i64 x.e] := (M3.block _ F2.out.lt (by omega) (by omega) (by omega)).trans F2.out
  have T3 := Lib.hid t3
  have x0 := F3.cell (i := 0) rfl
  have x1 := F3.cell (i := 1) rfl
  have x2 := F3.cell (i := 2) rfl
  have f0 := X3.open_ 0
  have f1 := X3.open_ 1
  have f2 := X3.open_ 2
  have c0 := X3.cell (i := 0) rfl
  have c1 := X3.cell (i := 1) rfl
  have c2 := X3.cell (i := 2) rfl
  have X3 := Lib.hid X3
  have nn : ¬ w.heap.size = w1.heap.size := by have := X.out.lt; omega
  clear M3 F3 t3 s1 s2 g1 g2 g3
  go_wp2
  obtain ⟨W, hW⟩ : ∃ W, W = (((w3.setCell ⟨w.heap.size, 0, none⟩ (.string x.key)).setCell ⟨w.heap.size, 1, none⟩ (.int .i64 x.s)).setCell ⟨w.heap.size, 2, none⟩ (.int .i64 x.e)) := ⟨_, rfl⟩
  rw [← hW]
  have Y : Lies W w.heap.size 30 [.string x.key, .int .i64 x.s, .int .i64 x.e] := by rw [hW]; exact (((X3.out.put 0 _).put 1 _).put 2 _)
  have y0 := Y.cell (i := 0) rfl
  have y1 := Y.cell (i := 1) rfl
  have y2 := Y.cell (i := 2) rfl
  refine bodyPost_ret (v := .tuple #[tv x, .bool true]) (by simp [results, Try.results11, go_sem, y0, y1, y2]) rfl ⟨rfl, ?_⟩
  obtain ⟨r', a, b, c⟩ := T3.out
  obtain ⟨g1, g2, g3⟩ := gl.out
  have s2 := K2.out.size
  have X2lt := X2.out.lt
  have kp : ∀ i, i ≠ w.heap.size → W.heap[i]? = w3.heap[i]? := fun i hi => by rw [hW]; exact put3_other w3 _ _ _ _ _ _ _ hi
  refine ⟨r', ?_, ⟨?_, ?_, ?_, ?_, fun i hi a1 a2 a3 => ?_⟩, by omega⟩
  · obtain ⟨f, v, p, q, hh, hm⟩ := a
    exact ⟨f, v, p, q.keep (kp _ (by omega)) (kp _ (by omega)) (fun _ => kp _ (by omega)), hh, hm⟩
  · rw [hW]; exact b.os.trans K2.out.os
  · rw [hW]; exact b.tape.trans K2.out.tape
  · rw [hW]; exact b.output.trans K2.out.output
  · have := b.size; rw [hW]; simp [World.setCell]; omega
  · rw [kp i (by omega), b.block i (by omega) a1 a2 a3]; exact K2.out.block i hi
end Tmr
end Go.Proofs.Ytomoophjcgahlaa
