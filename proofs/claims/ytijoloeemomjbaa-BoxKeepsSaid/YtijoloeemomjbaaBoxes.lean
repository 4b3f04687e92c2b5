/-
  A mailbox in memory (its room, its list, whether it is closed); contracts of box's New, Put, Take, Len, Close, Closed.
-/
import Derived.Test.YtijoloeemomjbaaBoxDel
import Derived.Test.YtijoloeemomjbaaFoot
namespace Go.Proofs.Ytijoloeemomjbaa
open Go.ChangeShapes Go.WideShapes Go.ChangeAt Go.RowKit Small Foot
set_option linter.unusedVariables false
namespace Bx

abbrev gp (g : Nat) : Value := .pointer (some ⟨g, 0, none⟩)
/-- its blocks -/
def Fp (g : Nat) (v : Value) : Nat → Prop := fun i => i = g ∨ v.ownBlock = some i
/-- a mailbox at g: its room, its list v, that reads as L, and whether it is closed -/
structure Is {α : Type} (K : Kind α) (T : TypeId) (w : World) (g : Nat) (room : Int) (cl : Bool) (v : Value) (L : List α) : Prop where
  lies : Lies w g T [.int .i64 room, v, .bool cl]
  own : Sl.Own K (g + 1) w v L
section
variable {α : Type} {K : Kind α} {T : TypeId} {w w' : World} {g : Nat} {room : Int} {cl : Bool} {v : Value} {L : List α}
theorem Is.next (h : Is K T w g room cl v L) (k : Below w.heap.size w w') : Is K T w' g room cl v L := ⟨h.lies.next k, h.own.next k⟩
theorem Is.in (h : Is K T w g room cl v L) : In w (Fp g v) := fun i hi => by
  rcases hi with rfl | hi
  · exact h.lies.lt
  · exact (h.own.lt i hi).2
theorem Is.from (h : Is K T w g room cl v L) : From g (Fp g v) := fun i hi => by
  rcases hi with rfl | hi
  · exact Nat.le_refl _
  · have := (h.own.lt i hi).1; omega
theorem Is.keep {F F' : Nat → Prop} (h : Is K T w g room cl v L) (k : Moves F F' w w') (a : Apart F (Fp g v)) : Is K T w' g room cl v L :=
  ⟨(k.kept a h.in g (.inl rfl)).trans h.lies, h.own.move fun i hi => k.kept a h.in i (.inr hi)⟩
theorem Is.not (h : Is K T w g room cl v L) : v.ownBlock ≠ some g := fun e => by have := (h.own.lt g e).1; omega
theorem Is.val (h : Is K T w g room cl v L) : ∃ A c, v = .slice A L.length c := by
  obtain ⟨b, _, h⟩ := h.own.is
  exact h.len
/-- with another list, and whether it is closed, written into it -/
theorem Is.put {w1 : World} {v' : Value} {L' : List α} (h : Is K T w g room cl v L) (k : w.grownBy w1 v.ownBlock) (o : Sl.Own K (g + 1) w1 v' L') (e : v'.ownBlock = v.ownBlock ∨ v'.ownBlock = some w.heap.size) :
    Is K T (w1.setCell ⟨g, 1, none⟩ v') g room cl v' L' ∧ Moves (Fp g v) (Fp g v') w (w1.setCell ⟨g, 1, none⟩ v') := by
  have l1 : Lies w1 g T [.int .i64 room, v, .bool cl] := (k.block g h.lies.lt (fun e => h.not e.symm)).trans h.lies
  refine ⟨⟨l1.put 1 v', o.move fun a ha => Below.heap_setCell w1 _ _ _ fun e => ?_⟩, k.os, k.tape, k.output, Nat.le_trans k.size (by simp), fun i hi hf => ?_, fun i hi => ?_⟩
  · have := (o.lt a ha).1
    simp at e
    omega
  · rw [Below.heap_setCell w1 ⟨g, 1, none⟩ v' i (fun e => hf (.inl e))]
    exact k.block i hi fun e => hf (.inr e.symm)
  · have s := k.size
    rcases hi with rfl | hi
    · exact ⟨.inl (.inl rfl), by have := h.lies.lt; simp; omega⟩
    · have := (o.lt i hi).2
      refine ⟨?_, by simpa using this⟩
      rcases e with e | e
      · exact .inl (.inr (e ▸ hi))
      · rw [e] at hi
        exact .inr (by have := Option.some.inj hi; omega)
theorem Is.shut (h : Is K T w g room cl v L) (x : Bool) : Is K T (w.setCell ⟨g, 2, none⟩ (.bool x)) g room x v L ∧ Moves (Fp g v) (Fp g v) w (w.setCell ⟨g, 2, none⟩ (.bool x)) := by
  refine ⟨⟨h.lies.put 2 _, h.own.move fun a ha => Below.heap_setCell w _ _ _ fun e => ?_⟩, rfl, rfl, rfl, by simp, fun i hi hf => Below.heap_setCell w ⟨g, 2, none⟩ _ i (fun e => hf (.inl e)), fun i hi => ⟨.inl hi, by simpa using h.in i hi⟩⟩
  have := (h.own.lt a ha).1
  simp at e
  omega
end

theorem below_drewN (w : World) (n : Nat) : Below w.heap.size w (w.drewN n) := by
  induction n with
  | zero => exact Below.refl _ _
  | succ n ih => exact ih.drew
/-- append, what it yields as a slice; a block of three stays -/
theorem wp_append_bx {α : Type} {K : Kind α} (O : K.Ok) {w : World} {o : Oper} {a : Act} {Kc : Act → World → Prop} {Q : Exit → Act → World → Prop} {l l2 : List α} {base b2 : Nat} (s x : Operand) (hop : o.op = Op.call { callee := Callee.builtin Builtin.append, args := #[s, x], argTypes := #[K.t, K.t] })
    (h : Sl.Own K base w (a.eval s) l) (hx : Sl.Is K w (a.eval x) l2 b2) (hn : l.length + l2.length ≤ 1048576) (hb : base ≤ w.heap.size) {g : Nat} {T : TypeId} {u0 u1 u2 : Value} (hl : Lies w g T [u0, u1, u2]) (hg : (a.eval s).ownBlock ≠ some g)
    (hK : ∀ A c w', w'.cell? ⟨g, 1, none⟩ = some u1 → w'.frozen? ⟨g, 1, none⟩ = false → Sl.Own K base w' (.slice A (l ++ l2).length c) (l ++ l2) → w.grownBy w' (a.eval s).ownBlock → ((Value.slice A (l ++ l2).length c).ownBlock = (a.eval s).ownBlock ∨ (Value.slice A (l ++ l2).length c).ownBlock = some w.heap.size) → Kc (a.put o.dst (.slice A (l ++ l2).length c)) w') : o.wp Try.prog a w Kc Q := by
  obtain ⟨v', w', hr, q1, q2, q3⟩ := Sl.run_append O o.type h hx hn hb
  obtain ⟨A, c, rfl⟩ : ∃ A c, v' = .slice A (l ++ l2).length c := by obtain ⟨b, _, h⟩ := q1.is; exact h.len
  have lw : Lies w' g T [u0, u1, u2] := (q2.block g hl.lt fun e => hg e.symm).trans hl
  unfold Oper.wp
  simp [execOp, hop, resolve, invoke, builtin, hr, Result.andThen]
  have := hK A c w' (lw.cell rfl) (lw.open_ 1) q1 q2 q3
  rw [List.length_append] at this
  exact this
end Bx

namespace Nu
open Bx
set_option maxRecDepth 100000
abbrev Box (w : World) (g : Nat) (room : Int) (cl : Bool) (v : Value) (L : List Int) : Prop := Bx.Is k 49 w g room cl v L

set_option maxHeartbeats 800000 in
theorem new_ok (room : Int) (w : World) (h1 : 1 ≤ room) (h2 : room ≤ 16) :
    Calls Try.prog 6 #[.int .i64 room] w fun r w' => r = .returned (.tuple #[gp w.heap.size, .nilIface]) ∧ Box w' w.heap.size room false (.slice none 0 0) [] ∧ Below w.heap.size w w' := by
  have q1 : ¬ room < 1 := by omega
  have q2 : ¬ 16 < room := by omega
  go_enter Try.func6, Try.ntmps6
  go_wp2
  go_ret2
  exact ⟨rfl, ⟨Lies.new _ _ _, Sl.Own.nil _ _ _⟩, below1 _ _⟩

set_option maxHeartbeats 800000 in
theorem new_no (room : Int) (w : World) (h : room < 1 ∨ 16 < room) :
    Calls Try.prog 6 #[.int .i64 room] w fun r w' => r = .returned (.tuple #[.pointer none, .iface 29 (.int .i64 1)]) ∧ Below w.heap.size w w' := by
  rcases h with h | h
  · have q1 : room < 1 := h
    go_enter Try.func6, Try.ntmps6
    go_wp2
    go_ret2
    exact ⟨rfl, Below.refl _ _⟩
  · have q1 : ¬ room < 1 := by omega
    go_enter Try.func6, Try.ntmps6
    go_wp2
    go_ret2
    exact ⟨rfl, Below.refl _ _⟩

set_option maxHeartbeats 1600000 in
/-- into one that has room -/
theorem put_ok (g : Nat) (room : Int) (v : Value) (L : List Int) (x : Int) (w : World) (H : Hid (Box w g room false v L)) (hn : L.length < room) (hr : room ≤ 16) :
    Calls Try.prog 9 #[gp g, .int .i64 x] w fun r w' => ∃ v', r = .returned .nilIface ∧ Box w' g room false v' (L ++ [x]) ∧ Moves (Fp g v) (Fp g v') w w' := by
  obtain ⟨A0, cp, hv⟩ := H.out.val
  subst hv
  have c0 := H.out.lies.cell (i := 0) rfl
  have c1 := H.out.lies.cell (i := 1) rfl
  have c2 := H.out.lies.cell (i := 2) rfl
  have fz := H.out.lies.open_ 1
  have q1 : ¬ room ≤ (L.length : Int) := by omega
  have HL : Hid (L.length ≤ 100) := Lib.hid (by omega)
  have I0 := Lib.hid H.out.in
  go_enter Try.func9, Try.ntmps9
  go_wp2_with fail
  go_quiet (fail)
  generalize hw1 : w.drewN _ = w1
  have B1 : Hid (Below w.heap.size w w1) := Lib.hid (by rw [← hw1]; exact below_drewN _ _)
  have H1 := Lib.hid (H.out.next B1.out)
  have c1 := H1.out.lies.cell (i := 1) rfl
  clear hw1 c0 c2 fz H
  go_wp2_with (at_builtin; refine wpList_plain rfl fun K' hK' => wp_append_bx ok (.tmp 25) (.tmp 27) rfl (base := g + 1) (l := L) (l2 := [x]) (b2 := w1.heap.size) (by exact H1.out.own.next (below1 _ _)) (by exact Sl.Is.one ok (x := x) (Lies.new _ _ _)) (by have := HL.out; simp; omega) (by have := H1.out.lies.lt; simp; omega) (g := g) (T := 49) (u0 := .int .i64 room) (u1 := .slice A0 L.length cp) (u2 := .bool false) (by exact H1.out.lies.next (below1 _ _)) (by exact H1.out.not) (fun A cap w3 y1 y2 x1 x2 x3 => hK' _ _ ?_))
  have H2 := Lib.hid (H1.out.next (below1 w1 (Obj.cells #[.int .i64 x] 3)))
  have P := Lib.hid (H2.out.put x2 x1 x3)
  have M1 : Hid (Moves (Fp g (.slice A0 L.length cp)) (Fp g (.slice A0 L.length cp)) w (w1.alloc (Obj.cells #[.int .i64 x] 3))) := Lib.hid (.of_below (after B1.out (below1 _ _)) I0.out)
  rw [show (L ++ [x]).length = L.length + 1 by simp] at P
  clear x1 x2 x3
  go_wp2
  go_ret
  exact ⟨_, rfl, P.out.1, M1.out.trans P.out.2⟩

set_option maxHeartbeats 800000 in
/-- into one that is full -/
theorem put_full (g : Nat) (room : Int) (v : Value) (L : List Int) (x : Int) (w : World) (H : Hid (Box w g room false v L)) (hn : room ≤ (L.length : Int)) :
    Calls Try.prog 9 #[gp g, .int .i64 x] w fun r w' => r = .returned (.iface 29 (.int .i64 4)) ∧ Below w.heap.size w w' := by
  obtain ⟨A0, cp, hv⟩ := H.out.val
  subst hv
  have c0 := H.out.lies.cell (i := 0) rfl
  have c1 := H.out.lies.cell (i := 1) rfl
  have c2 := H.out.lies.cell (i := 2) rfl
  go_enter Try.func9, Try.ntmps9
  go_wp2_with fail
  go_quiet (fail)
  go_wp2
  go_ret
  exact ⟨rfl, below_drewN _ _⟩

set_option maxHeartbeats 800000 in
/-- into one that is closed -/
theorem put_shut (g : Nat) (room : Int) (v : Value) (L : List Int) (x : Int) (w : World) (H : Hid (Box w g room true v L)) :
    Calls Try.prog 9 #[gp g, .int .i64 x] w fun r w' => r = .returned (.iface 29 (.int .i64 5)) ∧ Below w.heap.size w w' := by
  have c2 := H.out.lies.cell (i := 2) rfl
  go_enter Try.func9, Try.ntmps9
  go_wp2
  go_ret
  exact ⟨rfl, Below.refl _ _⟩

set_option maxHeartbeats 800000 in
theorem take_none (g : Nat) (room : Int) (cl : Bool) (v : Value) (w : World) (H : Hid (Box w g room cl v [])) :
    Calls Try.prog 10 #[gp g] w fun r w' => r = .returned (.tuple #[.int .i64 0, .bool false]) ∧ Below w.heap.size w w' := by
  obtain ⟨A0, cp, hv⟩ := H.out.val
  subst hv
  have c1 := H.out.lies.cell (i := 1) rfl
  go_enter Try.func10, Try.ntmps10
  go_wp2
  go_ret2
  exact ⟨rfl, Below.refl _ _⟩

set_option maxHeartbeats 1600000 in
theorem take_ok (g : Nat) (room : Int) (cl : Bool) (v : Value) (x : Int) (L : List Int) (w : World) (H : Hid (Box w g room cl v (x :: L))) (hn : L.length ≤ 100) :
    Calls Try.prog 10 #[gp g] w fun r w' => ∃ v', r = .returned (.tuple #[.int .i64 x, .bool true]) ∧ Box w' g room cl v' L ∧ Moves (Fp g v) (Fp g v') w w' := by
  obtain ⟨b, -, hb⟩ := H.out.own.is
  obtain ⟨off, cp, rfl, h2, h3, h4, hcell⟩ := hb.some_ ok (by simp)
  have d0 := hcell 0 x rfl 0 _ rfl
  simp only [Nat.zero_mul, Nat.add_zero] at d0
  have c1 := H.out.lies.cell (i := 1) rfl
  have q1 : ((x :: L).length : Int) ≠ 0 := by simp; omega
  have q2 : (0 : Int) < (x :: L).length := by simp
  have D := Lib.hid (del_ok _ x L (g + 1) w H.out.own (by omega))
  clear hcell hb
  generalize hl : (x :: L).length = n at *
  go_enter Try.func10, Try.ntmps10
  go_wp2_with fail
  refine D.out.mono ?_
  rintro r w1 ⟨A, c, rfl, o1, k1, e1⟩
  have l1 := (k1.block g H.out.lies.lt (fun e => H.out.not e.symm)).trans H.out.lies
  have y1 := Lies.cell l1 (i := 1) rfl
  have y2 := Lies.open_ l1 1
  have P := Lib.hid (H.out.put k1 o1 (.inl e1))
  clear o1 k1 e1 l1 D c1 d0
  go_wp2
  go_ret2
  exact ⟨_, rfl, P.out.1, P.out.2⟩

set_option maxHeartbeats 800000 in
theorem len_ok (g : Nat) (room : Int) (cl : Bool) (v : Value) (L : List Int) (w : World) (H : Hid (Box w g room cl v L)) :
    Calls Try.prog 12 #[gp g] w fun r w' => r = .returned (.int .i64 L.length) ∧ w = w' := by
  obtain ⟨A0, cp, hv⟩ := H.out.val
  subst hv
  have c1 := H.out.lies.cell (i := 1) rfl
  go_enter Try.func12, Try.ntmps12
  go_wp2
  go_ret
  exact ⟨rfl, rfl⟩

set_option maxHeartbeats 800000 in
theorem close_ok (g : Nat) (room : Int) (cl : Bool) (v : Value) (L : List Int) (w : World) (H : Hid (Box w g room cl v L)) :
    Calls Try.prog 11 #[gp g] w fun r w' => r = .returned (.bool (!cl)) ∧ Box w' g room true v L ∧ Moves (Fp g v) (Fp g v) w w' := by
  have c2 := H.out.lies.cell (i := 2) rfl
  have fz := H.out.lies.open_ 2
  go_enter Try.func11, Try.ntmps11
  go_wp2
  go_ret
  exact ⟨rfl, H.out.shut true⟩

set_option maxHeartbeats 800000 in
theorem closed_ok (g : Nat) (room : Int) (cl : Bool) (v : Value) (L : List Int) (w : World) (H : Hid (Box w g room cl v L)) :
    Calls Try.prog 13 #[gp g] w fun r w' => r = .returned (.bool cl) ∧ w = w' := by
  have c2 := H.out.lies.cell (i := 2) rfl
  go_enter Try.func13, Try.ntmps13
  go_wp2
  go_ret
  exact ⟨rfl, rfl⟩
end Nu

namespace Tt
open Bx
set_option maxRecDepth 100000
abbrev Box (w : World) (g : Nat) (room : Int) (cl : Bool) (v : Value) (L : List ByteArray) : Prop := Bx.Is k 52 w g room cl v L

set_option maxHeartbeats 800000 in
theorem new_ok (room : Int) (w : World) (h1 : 1 ≤ room) (h2 : room ≤ 16) :
    Calls Try.prog 14 #[.int .i64 room] w fun r w' => r = .returned (.tuple #[gp w.heap.size, .nilIface]) ∧ Box w' w.heap.size room false (.slice none 0 0) [] ∧ Below w.heap.size w w' := by
  have q1 : ¬ room < 1 := by omega
  have q2 : ¬ 16 < room := by omega
  go_enter Try.func14, Try.ntmps14
  go_wp2
  go_ret2
  exact ⟨rfl, ⟨Lies.new _ _ _, Sl.Own.nil _ _ _⟩, below1 _ _⟩

set_option maxHeartbeats 800000 in
theorem new_no (room : Int) (w : World) (h : room < 1 ∨ 16 < room) :
    Calls Try.prog 14 #[.int .i64 room] w fun r w' => r = .returned (.tuple #[.pointer none, .iface 29 (.int .i64 1)]) ∧ Below w.heap.size w w' := by
  rcases h with h | h
  · have q1 : room < 1 := h
    go_enter Try.func14, Try.ntmps14
    go_wp2
    go_ret2
    exact ⟨rfl, Below.refl _ _⟩
  · have q1 : ¬ room < 1 := by omega
    go_enter Try.func14, Try.ntmps14
    go_wp2
    go_ret2
    exact ⟨rfl, Below.refl _ _⟩

set_option maxHeartbeats 1600000 in
/-- into one that has room -/
theorem put_ok (g : Nat) (room : Int) (v : Value) (L : List ByteArray) (x : ByteArray) (w : World) (H : Hid (Box w g room false v L)) (hn : L.length < room) (hr : room ≤ 16) :
    Calls Try.prog 16 #[gp g, .string x] w fun r w' => ∃ v', r = .returned .nilIface ∧ Box w' g room false v' (L ++ [x]) ∧ Moves (Fp g v) (Fp g v') w w' := by
  obtain ⟨A0, cp, hv⟩ := H.out.val
  subst hv
  have c0 := H.out.lies.cell (i := 0) rfl
  have c1 := H.out.lies.cell (i := 1) rfl
  have c2 := H.out.lies.cell (i := 2) rfl
  have fz := H.out.lies.open_ 1
  have q1 : ¬ room ≤ (L.length : Int) := by omega
  have HL : Hid (L.length ≤ 100) := Lib.hid (by omega)
  have I0 := Lib.hid H.out.in
  go_enter Try.func16, Try.ntmps16
  go_wp2_with fail
  go_quiet (fail)
  generalize hw1 : w.drewN _ = w1
  have B1 : Hid (Below w.heap.size w w1) := Lib.hid (by rw [← hw1]; exact below_drewN _ _)
  have H1 := Lib.hid (H.out.next B1.out)
  have c1 := H1.out.lies.cell (i := 1) rfl
  clear hw1 c0 c2 fz H
  go_wp2_with (at_builtin; refine wpList_plain rfl fun K' hK' => wp_append_bx ok (.tmp 25) (.tmp 27) rfl (base := g + 1) (l := L) (l2 := [x]) (b2 := w1.heap.size) (by exact H1.out.own.next (below1 _ _)) (by exact Sl.Is.one ok (x := x) (Lies.new _ _ _)) (by have := HL.out; simp; omega) (by have := H1.out.lies.lt; simp; omega) (g := g) (T := 52) (u0 := .int .i64 room) (u1 := .slice A0 L.length cp) (u2 := .bool false) (by exact H1.out.lies.next (below1 _ _)) (by exact H1.out.not) (fun A cap w3 y1 y2 x1 x2 x3 => hK' _ _ ?_))
  have H2 := Lib.hid (H1.out.next (below1 w1 (Obj.cells #[.string x] 9)))
  have P := Lib.hid (H2.out.put x2 x1 x3)
  have M1 : Hid (Moves (Fp g (.slice A0 L.length cp)) (Fp g (.slice A0 L.length cp)) w (w1.alloc (Obj.cells #[.string x] 9))) := Lib.hid (.of_below (after B1.out (below1 _ _)) I0.out)
  rw [show (L ++ [x]).length = L.length + 1 by simp] at P
  clear x1 x2 x3
  go_wp2
  go_ret
  exact ⟨_, rfl, P.out.1, M1.out.trans P.out.2⟩

set_option maxHeartbeats 800000 in
/-- into one that is full -/
theorem put_full (g : Nat) (room : Int) (v : Value) (L : List ByteArray) (x : ByteArray) (w : World) (H : Hid (Box w g room false v L)) (hn : room ≤ (L.length : Int)) :
    Calls Try.prog 16 #[gp g, .string x] w fun r w' => r = .returned (.iface 29 (.int .i64 4)) ∧ Below w.heap.size w w' := by
  obtain ⟨A0, cp, hv⟩ := H.out.val
  subst hv
  have c0 := H.out.lies.cell (i := 0) rfl
  have c1 := H.out.lies.cell (i := 1) rfl
  have c2 := H.out.lies.cell (i := 2) rfl
  go_enter Try.func16, Try.ntmps16
  go_wp2_with fail
  go_quiet (fail)
  go_wp2
  go_ret
  exact ⟨rfl, below_drewN _ _⟩

set_option maxHeartbeats 800000 in
/-- into one that is closed -/
theorem put_shut (g : Nat) (room : Int) (v : Value) (L : List ByteArray) (x : ByteArray) (w : World) (H : Hid (Box w g room true v L)) :
    Calls Try.prog 16 #[gp g, .string x] w fun r w' => r = .returned (.iface 29 (.int .i64 5)) ∧ Below w.heap.size w w' := by
  have c2 := H.out.lies.cell (i := 2) rfl
  go_enter Try.func16, Try.ntmps16
  go_wp2
  go_ret
  exact ⟨rfl, Below.refl _ _⟩

set_option maxHeartbeats 800000 in
theorem take_none (g : Nat) (room : Int) (cl : Bool) (v : Value) (w : World) (H : Hid (Box w g room cl v [])) :
    Calls Try.prog 15 #[gp g] w fun r w' => r = .returned (.tuple #[.string ⟨#[]⟩, .bool false]) ∧ Below w.heap.size w w' := by
  obtain ⟨A0, cp, hv⟩ := H.out.val
  subst hv
  have c1 := H.out.lies.cell (i := 1) rfl
  go_enter Try.func15, Try.ntmps15
  go_wp2
  go_ret2
  exact ⟨rfl, Below.refl _ _⟩

set_option maxHeartbeats 1600000 in
theorem take_ok (g : Nat) (room : Int) (cl : Bool) (v : Value) (x : ByteArray) (L : List ByteArray) (w : World) (H : Hid (Box w g room cl v (x :: L))) (hn : L.length ≤ 100) :
    Calls Try.prog 15 #[gp g] w fun r w' => ∃ v', r = .returned (.tuple #[.string x, .bool true]) ∧ Box w' g room cl v' L ∧ Moves (Fp g v) (Fp g v') w w' := by
  obtain ⟨b, -, hb⟩ := H.out.own.is
  obtain ⟨off, cp, rfl, h2, h3, h4, hcell⟩ := hb.some_ ok (by simp)
  have d0 := hcell 0 x rfl 0 _ rfl
  simp only [Nat.zero_mul, Nat.add_zero] at d0
  have c1 := H.out.lies.cell (i := 1) rfl
  have q1 : ((x :: L).length : Int) ≠ 0 := by simp; omega
  have q2 : (0 : Int) < (x :: L).length := by simp
  have D := Lib.hid (del_ok _ x L (g + 1) w H.out.own (by omega))
  clear hcell hb
  generalize hl : (x :: L).length = n at *
  go_enter Try.func15, Try.ntmps15
  go_wp2_with fail
  refine D.out.mono ?_
  rintro r w1 ⟨A, c, rfl, o1, k1, e1⟩
  have l1 := (k1.block g H.out.lies.lt (fun e => H.out.not e.symm)).trans H.out.lies
  have y1 := Lies.cell l1 (i := 1) rfl
  have y2 := Lies.open_ l1 1
  have P := Lib.hid (H.out.put k1 o1 (.inl e1))
  clear o1 k1 e1 l1 D c1 d0
  go_wp2
  go_ret2
  exact ⟨_, rfl, P.out.1, P.out.2⟩

set_option maxHeartbeats 800000 in
theorem len_ok (g : Nat) (room : Int) (cl : Bool) (v : Value) (L : List ByteArray) (w : World) (H : Hid (Box w g room cl v L)) :
    Calls Try.prog 17 #[gp g] w fun r w' => r = .returned (.int .i64 L.length) ∧ w = w' := by
  obtain ⟨A0, cp, hv⟩ := H.out.val
  subst hv
  have c1 := H.out.lies.cell (i := 1) rfl
  go_enter Try.func17, Try.ntmps17
  go_wp2
  go_ret
  exact ⟨rfl, rfl⟩

end Tt

end Go.Proofs.Ytijoloeemomjbaa
