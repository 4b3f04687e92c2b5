/-
  A map of numbers to pointers that lies in memory: what it tells at each number, what a store and a delete do to it.
  slices.Sorted(maps.Keys(m)) of a map of numbers: those that it has, rising, in a list of the call's own.
-/
import Derived.Test.YtjncogjafljbiaaSmall
import Derived.Test.YtjncogjafljbiaaFoot
import Derived.Maps.OwnSet
import Derived.Maps.Ext
import Derived.Test.YtjncogjafljbiaaLists
namespace Go.Proofs.Ytjncogjafljbiaa
open Go.ChangeShapes Go.WideShapes Go.ChangeAt Go.RowKit
namespace Sh
open Small Foot
set_option linter.unusedVariables false
set_option maxRecDepth 100000

theorem keyed : Maps.Keyed Try.prog 3 := Maps.int_keyed Try.underlying3
abbrev kl (x : Int) : Lit := .int .i64 x
abbrev Wf (x : Int) : Prop := (Lit.int .i64 x).wf = true
theorem kl_ok {x : Int} (h : Wf x) : keyOf Try.prog 3 (.int .i64 x) = some (kl x) := Maps.keyOf_int_mk Try.underlying3 h
theorem kl_ne {x y : Int} (h : x ≠ y) : kl x ≠ kl y := fun e => h (by injection e)
abbrev gp (g : Nat) : Value := .pointer (some ⟨g, 0, none⟩)
/-- a pointer, or nil -/
abbrev ptr (s : Option Nat) : Value := .pointer (s.map fun g => ⟨g, 0, none⟩)
/-- how an element reads: as itself -/
abbrev RV (v : Value) : Option (DataW Value × List MemPlace) := some (.held v, [])
/-- block m is a map that has p x at x, and nothing else -/
def Mi (w : World) (m : Nat) (p : Int → Option Nat) (c : Nat) : Prop :=
  ∃ D : DataW Value, w.ownsMap Try.prog 3 RV m c D ∧ Maps.size D = c ∧
    ∀ x : Int, Wf x → (p x = none → Maps.has D (kl x) = false) ∧ (∀ a, p x = some a → Maps.has D (kl x) = true ∧ ∀ z, D.atKey (kl x) z = .held (gp a))
theorem tight {w : World} {P : Program} {k : TypeId} {R : Value → Option (DataW Value × List MemPlace)} {b n : Nat} {D : DataW Value} (h : w.ownsMap P k R b n D) : w.ownsMap P k R b (Maps.size D) D := by
  obtain ⟨es, clock, hb, F, hs, rfl⟩ := h
  exact ⟨es, clock, hb, F, by simp [Maps.size, length_sorted], rfl⟩
theorem zero_ptr (w : World) : (zeroValue 50).run Try.prog w = .ok (.pointer none) w := by kernel_rfl
/-- what was there at x is v from now on -/
def upd (p : Int → Option Nat) (x : Int) (v : Option Nat) (q : Int → Option Nat) : Prop := q x = v ∧ ∀ y, y ≠ x → q y = p y
def updOf (p : Int → Option Nat) (x : Int) (v : Option Nat) : Int → Option Nat := fun y => if y = x then v else p y
theorem updOf_ok (p : Int → Option Nat) (x : Int) (v : Option Nat) : upd p x v (updOf p x v) := ⟨by simp [updOf], fun y hy => by simp [updOf, hy]⟩
section
variable {w w' : World} {m c : Nat} {p : Int → Option Nat}
theorem Mi.kept (h : Mi w m p c) (hb : w'.heap[m]? = w.heap[m]?) : Mi w' m p c := by
  obtain ⟨D, ⟨es, clock, h1, F, hs, hD⟩, h2, h3⟩ := h
  exact ⟨D, ⟨es, clock, hb.trans h1, F, hs, hD⟩, h2, h3⟩
theorem Mi.lt (h : Mi w m p c) : m < w.heap.size := by
  obtain ⟨D, h1, _⟩ := h
  exact h1.lt
theorem Mi.next (h : Mi w m p c) (k : Below w.heap.size w w') : Mi w' m p c := h.kept (k.block m h.lt)
theorem Mi.made (w : World) : Mi (w.alloc (.map #[] 0)) w.heap.size (fun _ => none) 0 :=
  ⟨.map [], World.ownsMap_made w _ _ _, rfl, fun x _ => ⟨fun _ => rfl, fun i h => by cases h⟩⟩
/-- what m[x] tells: nil, where there is none -/
theorem Mi.look (h : Mi w m p c) {x : Int} (hx : Wf x) :
    (Instr.lookup 113 (.map (some m)) (.int .i64 x) false).run Try.prog w = .ok (ptr (p x)) w := by
  obtain ⟨D, h1, h2, h3⟩ := h
  obtain ⟨v, ps, hrun, hv⟩ := h1.lookup keyed Try.underlying113 (zero_ptr w) (R := RV) rfl (kl_ok hx)
  rw [hrun]
  have hh := h3 x hx
  cases hp : p x with
  | none =>
    rw [Maps.atKey_of_not_has (hh.1 hp)] at hv
    simp only [RV, Option.some.injEq, Prod.mk.injEq, DataW.held.injEq] at hv
    rw [hv.1]; rfl
  | some u =>
    rw [(hh.2 u hp).2] at hv
    simp only [RV, Option.some.injEq, Prod.mk.injEq, DataW.held.injEq] at hv
    rw [hv.1]; rfl
/-- and whether there is one -/
theorem Mi.look_ok (h : Mi w m p c) {x : Int} (hx : Wf x) :
    (Instr.lookup 113 (.map (some m)) (.int .i64 x) true).run Try.prog w = .ok (.tuple #[ptr (p x), .bool (p x).isSome]) w := by
  obtain ⟨D, h1, h2, h3⟩ := h
  obtain ⟨v, ps, hrun, hv⟩ := h1.look_ok keyed Try.underlying113 (zero_ptr w) (R := RV) rfl (kl_ok hx)
  rw [hrun]
  have hh := h3 x hx
  cases hp : p x with
  | none =>
    rw [Maps.atKey_of_not_has (hh.1 hp)] at hv
    simp only [RV, Option.some.injEq, Prod.mk.injEq, DataW.held.injEq] at hv
    rw [hv.1, hh.1 hp]; rfl
  | some u =>
    rw [(hh.2 u hp).2] at hv
    simp only [RV, Option.some.injEq, Prod.mk.injEq, DataW.held.injEq] at hv
    rw [hv.1, (hh.2 u hp).1]; rfl
/-- a store -/
theorem Mi.store (h : Mi w m p c) {x : Int} (hx : Wf x) (v : Nat) (hc : c ≤ 1048576) {q : Int → Option Nat} (hq : upd p x (some v) q) :
    ∃ w' c', (Instr.mapUpdate 113 (.map (some m)) (.int .i64 x) (gp v)).run Try.prog w = .ok () w' ∧ Mi w' m q c' ∧ c' ≤ c + 1 ∧ w.grownBy w' (some m) := by
  obtain ⟨D, h1, h2, h3⟩ := h
  obtain ⟨w', hrun, ho, hg⟩ := h1.update keyed Try.underlying113 (by unfold maxLen; omega) (kl_ok hx) (val := gp v) (d := .held (gp v)) (ps := []) rfl
  have hk := keyed.key (kl_ok hx)
  have hsz := Maps.size_put (k := kl x) (h1.tidy keyed) (.held (gp v))
  refine ⟨w', _, hrun, ⟨_, tight ho, rfl, fun y hy => ?_⟩, by rw [hsz, h2]; split <;> omega, hg⟩
  by_cases e : y = x
  · subst e
    refine ⟨(fun hn => by rw [hq.1] at hn; cases hn), fun j hj => ?_⟩
    rw [hq.1] at hj
    cases hj
    exact ⟨Maps.has_put_same h1.isMap hk _, fun z => Maps.atKey_put_same h1.isMap hk _ z⟩
  · have hne := kl_ne e
    rw [hq.2 y e, Maps.has_put_other hne]
    refine ⟨(h3 y hy).1, fun j hj => ?_⟩
    obtain ⟨a, cc⟩ := (h3 y hy).2 j hj
    exact ⟨a, fun z => by rw [Maps.atKey_put_other hne]; exact cc z⟩
/-- a delete, of one that is there, or not -/
theorem Mi.drop (h : Mi w m p c) {x : Int} (hx : Wf x) {q : Int → Option Nat} (hq : upd p x none q) (ty : TypeId) :
    ∃ w' c', (Builtin.delete_ #[113, 3] ty #[.map (some m), .int .i64 x]).run Try.prog w = .ok (.tuple #[]) w' ∧ Mi w' m q c' ∧ c' ≤ c ∧ w.grownBy w' (some m) := by
  obtain ⟨D, h1, h2, h3⟩ := h
  obtain ⟨w', hrun, ho, hg⟩ := h1.drop keyed Try.underlying113 (kl_ok hx) ty
  have hsz := Maps.size_del (k := kl x) (h1.tidy keyed)
  refine ⟨w', _, hrun, ⟨_, tight ho, rfl, fun y hy => ?_⟩, by have := h2; split at hsz <;> omega, hg.grown⟩
  by_cases e : y = x
  · subst e
    exact ⟨fun _ => Maps.has_del_same, (fun j hj => by rw [hq.1] at hj; cases hj)⟩
  · have hne := kl_ne e
    rw [hq.2 y e, Maps.has_del_other hne]
    refine ⟨(h3 y hy).1, fun j hj => ?_⟩
    obtain ⟨a, cc⟩ := (h3 y hy).2 j hj
    exact ⟨a, fun z => by rw [Maps.atKey_del_other hne]; exact cc z⟩
end
end Sh
end Go.Proofs.Ytjncogjafljbiaa
