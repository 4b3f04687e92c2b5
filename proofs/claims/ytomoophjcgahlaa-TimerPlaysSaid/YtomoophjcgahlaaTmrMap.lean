/-
  A map of timers to numbers that lies in memory: what it tells at each timer, what a store and a delete do to it.
-/
import Derived.Test.YtomoophjcgahlaaTmrCmp
import Derived.Maps.OwnSet
import Derived.Maps.Ext
import Derived.DeepKeys4
namespace Go.Proofs.Ytomoophjcgahlaa
open Go.ChangeShapes Go.WideShapes Go.ChangeAt Go.RowKit
namespace Tmr
open Small
set_option linter.unusedVariables false

theorem laidOut : laidOutB Try.prog = true := by kernel_rfl
theorem rowT : (30 : TypeId) < Try.prog.types.size := of_decide_eq_true (by kernel_rfl)
theorem wideT : (match Try.prog.underlying 30 with | some (.array _ _) | some (.struct _) => true | _ => false) = true := by rw [Try.underlying30]
theorem lawT : WideMaps.KeyLaw Try.prog 30 := deep_law_laid laidOut (m := 3) (by omega) rowT (by kernel_rfl) wideT
theorem keyed : Maps.Keyed Try.prog 30 := Maps.Keyed.of_law lawT
theorem cellsT : Try.prog.cellsOf 30 = 3 := by kernel_rfl
theorem cellsSp : Try.prog.cellsOf 28 = 2 := by kernel_rfl
theorem cellsI : Try.prog.cellsOf 2 = 1 := by kernel_rfl
theorem cellsS : Try.prog.cellsOf 9 = 1 := by kernel_rfl
theorem keyTypeT : Try.prog.keyType 30 = true := by kernel_rfl
theorem formedT {a b c : Value} : (Value.agg #[a, b, c]).formed Try.prog 30 = true := by simp [Value.formed, Try.underlying30, cellsT]

/-- numbers and texts of a timer are such as there are -/
def Fits (x : Tm) : Prop := x.key.size ≤ maxLen ∧ (Lit.int .i64 x.s).wf = true ∧ (Lit.int .i64 x.e).wf = true

theorem lits_ok (d : Nat) (x : Tm) (h : Fits x) : ∃ l, Try.prog.keyLits (d + 3) 30 [.string x.key, .int .i64 x.s, .int .i64 x.e] = some l := by
  obtain ⟨h1, h2, h3⟩ := h
  simp [Program.keyLits, Try.underlying30, Try.underlying28, Try.underlying2, Try.underlying9, cellsT, cellsSp, cellsI, cellsS, h1, h2, h3]
  rw [if_pos (by intro i hi; match i, hi with | 0, _ => simp | 1, _ => simp)]
  exact ⟨_, rfl⟩
theorem key_ok (x : Tm) (h : Fits x) : ∃ l, keyOf Try.prog 30 (tv x) = some l := by
  obtain ⟨l, hl⟩ := lits_ok (Try.prog.types.size - 2) x h
  have hs : Try.prog.types.size - 2 + 3 = Try.prog.types.size + 1 := by
    have h1 : 30 < Try.prog.types.size := rowT
    omega
  rw [hs] at hl
  refine ⟨.string (keyBytes l), ?_⟩
  unfold keyOf
  rw [Try.underlying30]
  simp only [keyTypeT, formedT, Bool.and_self, if_true, Value.cells, hl, Option.map_some]
/-- a timer, as a map's key -/
noncomputable def kl (x : Tm) : Lit := (keyOf Try.prog 30 (tv x)).getD (.bool false)
theorem kl_ok {x : Tm} (h : Fits x) : keyOf Try.prog 30 (tv x) = some (kl x) := by
  obtain ⟨l, hl⟩ := key_ok x h
  rw [kl, hl]; rfl
theorem tv_inj {x y : Tm} (h : tv x = tv y) : x = y := by
  cases x; cases y; simp [tv] at h; simp [h]
theorem kl_ne {x y : Tm} (hx : Fits x) (hy : Fits y) (h : x ≠ y) : kl x ≠ kl y := fun e => h (tv_inj (keyed.inj (kl_ok hx) (e ▸ kl_ok hy)))

/-- block m is a map that has p x at x, and nothing else; it has c of them -/
def Mp (w : World) (m : Nat) (p : Tm → Option Nat) (c : Nat) : Prop :=
  ∃ D : DataW Unit, w.ownsMap Try.prog 30 (plainElem Try.prog 3) m c D ∧ Maps.size D = c ∧
    ∀ x, Fits x → (p x = none → Maps.has D (kl x) = false) ∧ (∀ i, p x = some i → i ≤ 1048576 ∧ Maps.has D (kl x) = true ∧ ∀ z, D.atKey (kl x) z = .lit (.int .i64 i))

theorem tight {w : World} {P : Program} {k : TypeId} {R : Value → Option (DataW Unit × List MemPlace)} {b n : Nat} {D : DataW Unit} (h : w.ownsMap P k R b n D) : w.ownsMap P k R b (Maps.size D) D := by
  obtain ⟨es, clock, hb, F, hs, rfl⟩ := h
  exact ⟨es, clock, hb, F, by simp [Maps.size, length_sorted], rfl⟩

theorem zero_int (w : World) : (zeroValue 3).run Try.prog w = .ok (.int .i64 0) w := by kernel_rfl

/-- what was there at x is i from now on -/
def upd (p : Tm → Option Nat) (x : Tm) (i : Option Nat) (q : Tm → Option Nat) : Prop := q x = i ∧ ∀ y, y ≠ x → q y = p y

theorem Mp.kept {w w' : World} {m c : Nat} {p : Tm → Option Nat} (h : Mp w m p c) (hb : w'.heap[m]? = w.heap[m]?) : Mp w' m p c := by
  obtain ⟨D, ⟨es, clock, h1, F, hs, hD⟩, h2, h3⟩ := h
  exact ⟨D, ⟨es, clock, hb.trans h1, F, hs, hD⟩, h2, h3⟩
theorem Mp.lt {w : World} {m c : Nat} {p : Tm → Option Nat} (h : Mp w m p c) : m < w.heap.size := by
  obtain ⟨D, h1, _⟩ := h
  exact h1.lt
theorem Mp.made (w : World) : Mp (w.alloc (.map #[] 0)) w.heap.size (fun _ => none) 0 :=
  ⟨.map [], World.ownsMap_made w _ _ _, rfl, fun x _ => ⟨fun _ => rfl, fun i h => by cases h⟩⟩
theorem Mp.map {w : World} {m c : Nat} {p : Tm → Option Nat} (h : Mp w m p c) : ∃ es clock, w.heap[m]? = some (.map es clock) := by
  obtain ⟨D, ⟨es, clock, h1, _⟩, _⟩ := h
  exact ⟨es, clock, h1⟩

/-- a look at one that isn't there, or is -/
theorem Mp.look_none {w : World} {m c : Nat} {p : Tm → Option Nat} (h : Mp w m p c) {x : Tm} (hx : Fits x) (hp : p x = none) :
    (Instr.lookup 48 (.map (some m)) (tv x) true).run Try.prog w = .ok (.tuple #[.int .i64 0, .bool false]) w := by
  obtain ⟨D, h1, h2, h3⟩ := h
  have hh := (h3 x hx).1 hp
  obtain ⟨v, ps, hrun, hv⟩ := h1.look_ok keyed Try.underlying48 (zero_int w) (plainElem_int Try.underlying3 (q := .i64) (a := 0) (by decide)) (kl_ok hx)
  rw [Maps.atKey_of_not_has hh] at hv
  obtain ⟨c', rfl, hc, _⟩ := plainElem_int_inv Try.underlying3 hv
  simp only [Prod.mk.injEq, DataW.lit.injEq, Lit.int.injEq, true_and] at hc
  rw [hrun, hh, ← hc.1]
theorem Mp.look_some {w : World} {m c : Nat} {p : Tm → Option Nat} (h : Mp w m p c) {x : Tm} (hx : Fits x) {i : Nat} (hp : p x = some i) :
    (Instr.lookup 48 (.map (some m)) (tv x) true).run Try.prog w = .ok (.tuple #[.int .i64 i, .bool true]) w := by
  obtain ⟨D, h1, h2, h3⟩ := h
  obtain ⟨_, hh, ha⟩ := (h3 x hx).2 i hp
  obtain ⟨v, ps, hrun, hv⟩ := h1.look_ok keyed Try.underlying48 (zero_int w) (plainElem_int Try.underlying3 (q := .i64) (a := 0) (by decide)) (kl_ok hx)
  rw [ha] at hv
  obtain ⟨c', rfl, hc, _⟩ := plainElem_int_inv Try.underlying3 hv
  simp only [Prod.mk.injEq, DataW.lit.injEq, Lit.int.injEq, true_and] at hc
  rw [hrun, hh, ← hc.1]

theorem wf_small {i : Nat} (h : i ≤ 1048576) : (Lit.int .i64 (i : Int)).wf = true := by
  simp [Lit.wf, IntKind.min, IntKind.max, IntKind.bits, IntKind.signed]; omega

/-- a store -/
theorem Mp.store {w : World} {m c : Nat} {p : Tm → Option Nat} (h : Mp w m p c) {x : Tm} (hx : Fits x) {i : Nat} (hi : i ≤ 1048576) (hc : c ≤ 1048576) {q : Tm → Option Nat} (hq : upd p x (some i) q) :
    ∃ w', (Instr.mapUpdate 48 (.map (some m)) (tv x) (.int .i64 i)).run Try.prog w = .ok () w' ∧ Mp w' m q (if p x = none then c + 1 else c) ∧ w.grownBy w' (some m) := by
  obtain ⟨D, h1, h2, h3⟩ := h
  obtain ⟨w', hrun, ho, hg⟩ := h1.update keyed Try.underlying48 (by unfold maxLen; omega) (kl_ok hx) (plainElem_int Try.underlying3 (q := .i64) (a := i) (wf_small hi))
  have hk := keyed.key (kl_ok hx)
  have hsz := Maps.size_put (k := kl x) (h1.tidy keyed) (.lit (.int .i64 (i : Int)))
  have hs : Maps.size (D.put (kl x) (.lit (.int .i64 (i : Int)))) = if p x = none then c + 1 else c := by
    rw [hsz, h2]
    cases hp : p x with
    | none => rw [(h3 x hx).1 hp]; simp
    | some j => rw [((h3 x hx).2 j hp).2.1]; simp
  have ho' := tight ho
  rw [hs] at ho'
  refine ⟨w', hrun, ⟨_, ho', hs, fun y hy => ?_⟩, hg⟩
  by_cases e : y = x
  · subst e
    refine ⟨(fun hn => by rw [hq.1] at hn; cases hn), fun j hj => ?_⟩
    rw [hq.1] at hj
    cases hj
    exact ⟨hi, Maps.has_put_same h1.isMap hk _, fun z => Maps.atKey_put_same h1.isMap hk _ z⟩
  · have hne := kl_ne hy hx e
    rw [hq.2 y e, Maps.has_put_other hne]
    refine ⟨(h3 y hy).1, fun j hj => ?_⟩
    obtain ⟨a, b, cc⟩ := (h3 y hy).2 j hj
    exact ⟨a, b, fun z => by rw [Maps.atKey_put_other hne]; exact cc z⟩

/-- a delete of one that is there -/
theorem Mp.drop {w : World} {m c : Nat} {p : Tm → Option Nat} (h : Mp w m p c) {x : Tm} (hx : Fits x) {i : Nat} (hp : p x = some i) {q : Tm → Option Nat} (hq : upd p x none q) (ty : TypeId) :
    ∃ w', (Builtin.delete_ #[48, 30] ty #[.map (some m), tv x]).run Try.prog w = .ok (.tuple #[]) w' ∧ Mp w' m q (c - 1) ∧ w.grownBy w' (some m) := by
  obtain ⟨D, h1, h2, h3⟩ := h
  obtain ⟨w', hrun, ho, hg⟩ := h1.drop keyed Try.underlying48 (kl_ok hx) ty
  have hsz := Maps.size_del (k := kl x) (h1.tidy keyed)
  rw [((h3 x hx).2 i hp).2.1, h2] at hsz
  simp at hsz
  have hs : Maps.size (D.del (kl x)) = c - 1 := by omega
  have ho' := tight ho
  rw [hs] at ho'
  refine ⟨w', hrun, ⟨_, ho', hs, fun y hy => ?_⟩, hg.grown⟩
  by_cases e : y = x
  · subst e
    exact ⟨fun _ => Maps.has_del_same, (fun j hj => by rw [hq.1] at hj; cases hj)⟩
  · have hne := kl_ne hy hx e
    rw [hq.2 y e, Maps.has_del_other hne]
    refine ⟨(h3 y hy).1, fun j hj => ?_⟩
    obtain ⟨a, b, cc⟩ := (h3 y hy).2 j hj
    exact ⟨a, b, fun z => by rw [Maps.atKey_del_other hne]; exact cc z⟩
end Tmr
end Go.Proofs.Ytomoophjcgahlaa
