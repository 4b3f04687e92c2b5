/-
  Panes: what one is, a list of them in memory, and which one's timer is ahead (easelref06.Less).
-/
import Derived.Test.YtemklcckhpchaaaGreatHeapMath
import Derived.Test.YtemklcckhpchaaaGreatLists
import Derived.Laws.StructEq
namespace Go.Proofs.YtemklcckhpchaaaGreat
open Go.ChangeShapes Go.WideShapes Go.ChangeAt Go.RowKit Small
set_option linter.unusedVariables false

/-- a pane: key, Start, End, Count, Sum, Min, Max -/
structure Pn where
  key : ByteArray
  s : Int
  e : Int
  c : Int
  m : Int
  l : Int
  u : Int
  deriving DecidableEq
instance : Inhabited Pn := ⟨⟨⟨#[]⟩, 0, 0, 0, 0, 0, 0⟩⟩

namespace Pn
abbrev tm (p : Pn) : Tmr.Tm := ⟨p.key, p.s, p.e⟩
abbrev cl (p : Pn) : List Value := [.string p.key, .int .i64 p.s, .int .i64 p.e, .int .i64 p.c, .int .i64 p.m, .int .i64 p.l, .int .i64 p.u]
abbrev v (p : Pn) : Value := .agg #[.string p.key, .int .i64 p.s, .int .i64 p.e, .int .i64 p.c, .int .i64 p.m, .int .i64 p.l, .int .i64 p.u]
/-- a timer, as a pane with no values -/
abbrev of (x : Tmr.Tm) : Pn := ⟨x.key, x.s, x.e, 0, 0, 0, 0⟩
theorem of_inj {x y : Tmr.Tm} (h : Pn.of x = Pn.of y) : x = y := by
  obtain ⟨a, b, c⟩ := x
  obtain ⟨a', b', c'⟩ := y
  simpa [Pn.of] using h

abbrev k : Kind Pn := ⟨37, 76, 7, 64, .agg #[.string ⟨#[]⟩, .int .i64 0, .int .i64 0, .int .i64 0, .int .i64 0, .int .i64 0, .int .i64 0], Pn.cl⟩
theorem ok : Pn.k.Ok where
  under := Tryz.underlying37
  elem := by kernel_rfl
  info := by kernel_rfl
  zs := by kernel_rfl
  pos := by decide
  len := fun _ => rfl
  one := fun x u h => by simp at h; rcases h with rfl | rfl | rfl | rfl | rfl | rfl | rfl <;> rfl
  small := by decide

theorem lit1 (p : Pn) (w : World) : (Instr.buildSlice Pn.k.t 1 #[(0, p.v)]).run Tryz.prog w = .ok (.slice (some ⟨w.heap.size, 0, none⟩) 1 1) (w.alloc (.cells p.cl.toArray Pn.k.e)) := by
  simp [go_sem, Instr.buildSlice, Instr.fill, newRow]
theorem wp_load {w : World} {o : Oper} {a : Act} {Kc : Act → World → Prop} {Q : Exit → Act → World → Prop} (x : Operand) (p : Pn) {b off : Nat} (hop : o.op = Op.load 76 x) (hx : a.eval x = .pointer (some ⟨b, off, none⟩)) 
  (h : ∀ j u, p.cl[j]? = some u → w.cell? ⟨b, off + j, none⟩ = some u) (hK : Kc (a.put o.dst p.v) w) : o.wp Tryz.prog a w Kc Q := by
  have h0 := h 0 _ rfl
  have h1 := h 1 _ rfl
  have h2 := h 2 _ rfl
  have h3 := h 3 _ rfl
  have h4 := h 4 _ rfl
  have h5 := h 5 _ rfl
  have h6 := h 6 _ rfl
  rw [Nat.add_zero] at h0
  have hr : (execOp a.eval o).run Tryz.prog w = .ok (.value p.v) w := by
    generalize a.eval = ev at hx
    simp [execOp, hop, hx, go_sem, h0, h1, h2, h3, h4, h5, h6]
  unfold Oper.wp
  rw [hr]
  exact hK
theorem val : Pn.k.Val Pn.v where
  load := fun x w o a Kc Q p b off h1 h2 h3 h4 => wp_load p x h1 h2 h3 h4
  lit1 := lit1

theorem bytes_ext {a b : ByteArray} : a.toList = b.toList ↔ a = b := by
  refine ⟨fun h => ?_, fun h => by rw [h]⟩
  obtain ⟨⟨x⟩⟩ := a
  obtain ⟨⟨y⟩⟩ := b
  have : x = y := by simpa [ByteArray.toList_eq] using h
  rw [this]
set_option maxHeartbeats 1600000 in
theorem eql_ok (a b : Pn) (w : World) : (binOp .eql 76 a.v b.v).run Tryz.prog w = .ok (.bool (decide (a = b))) w := by
  have h : decide (a = b) = (a.key.toList == b.key.toList && (a.s == b.s && (a.e == b.e && (a.c == b.c && (a.m == b.m && (a.l == b.l && a.u == b.u)))))) := by
    obtain ⟨a0, a1, a2, a3, a4, a5, a6⟩ := a
    obtain ⟨b0, b1, b2, b3, b4, b5, b6⟩ := b
    rw [Bool.eq_iff_iff]
    simp [bytes_ext]
  rw [h]
  cases h0 : (a.key.toList == b.key.toList)
  · simp [go_sem, h0]
  cases h1 : (a.s == b.s)
  · simp [go_sem, h0, h1]
  cases h2 : (a.e == b.e)
  · simp [go_sem, h0, h1, h2]
  cases h3 : (a.c == b.c)
  · simp [go_sem, h0, h1, h2, h3]
  cases h4 : (a.m == b.m)
  · simp [go_sem, h0, h1, h2, h3, h4]
  cases h5 : (a.l == b.l)
  · simp [go_sem, h0, h1, h2, h3, h4, h5]
  cases h6 : (a.u == b.u)
  · simp [go_sem, h0, h1, h2, h3, h4, h5, h6]
  simp [go_sem, h0, h1, h2, h3, h4, h5, h6]

set_option maxHeartbeats 800000 in
theorem less_ok (a b : Pn) (w : World) : Calls Tryz.prog 50 #[a.v, b.v] w fun r w' => r = .returned (.bool (Tmr.lt a.tm b.tm)) ∧ Below w.heap.size w w' := by
  have H : Hid (Tmr.lt a.tm b.tm = if a.e = b.e then (if a.s = b.s then Op.bytesLess a.key.toList b.key.toList else decide (a.s < b.s)) else decide (a.e < b.e)) := Lib.hid rfl
  by_cases he : a.e = b.e
  · have he' : (a.e == b.e) = true := by simpa using he
    by_cases hs : a.s = b.s
    · rw [H.out, if_pos he, if_pos hs]
      have hn1 : (a.e != b.e) = false := by simp [he]
      have hn2 : (a.s != b.s) = false := by simp [hs]
      clear he hs he' H
      go_enter Tryz.func50, Tryz.ntmps50
      go_wp2
      go_ret
      exact ⟨rfl, below2 _ _ _⟩
    · rw [H.out, if_pos he, if_neg hs]
      have hn1 : (a.e != b.e) = false := by simp [he]
      have hn2 : (a.s != b.s) = true := by simp [hs]
      clear he hs he' H
      go_enter Tryz.func50, Tryz.ntmps50
      go_wp2
      go_ret
      exact ⟨rfl, below2 _ _ _⟩
  · rw [H.out, if_neg he]
    have hn1 : (a.e != b.e) = true := by simp [he]
    clear he H
    go_enter Tryz.func50, Tryz.ntmps50
    go_wp2
    go_ret
    exact ⟨rfl, below2 _ _ _⟩
end Pn
end Go.Proofs.YtemklcckhpchaaaGreat
