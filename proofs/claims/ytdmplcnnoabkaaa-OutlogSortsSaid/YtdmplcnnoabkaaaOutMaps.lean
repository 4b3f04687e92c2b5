/-
  The two maps of a Log's Fine, as they lie in memory: of texts to numbers, and of keys' windows to nothing: what they tell at each key, what a store does to them.
-/
import Derived.Test.YtdmplcnnoabkaaaPn
import Derived.Maps.OwnSet
import Derived.Maps.Ext
import Derived.DeepKeys4
import Derived.Laws.OwnMore
namespace Go.Proofs.Ytdmplcnnoabkaaa
open Go.ChangeShapes Go.WideShapes Go.ChangeAt Go.RowKit
namespace Out
open Small
set_option linter.unusedVariables false
set_option maxRecDepth 100000

/-- how an element reads: as itself -/
abbrev RV (v : Value) : Option (DataW Value × List MemPlace) := some (.held v, [])
theorem tight {w : World} {P : Program} {k : TypeId} {R : Value → Option (DataW Value × List MemPlace)} {b n : Nat} {D : DataW Value} (h : w.ownsMap P k R b n D) : w.ownsMap P k R b (Maps.size D) D := by
  obtain ⟨es, clock, hb, F, hs, rfl⟩ := h
  exact ⟨es, clock, hb, F, by simp [Maps.size, length_sorted], rfl⟩

/-! ### a map of texts to numbers -/
namespace Km
theorem keyed : Maps.Keyed Try.prog 9 := Maps.string_keyed Try.underlying9
/-- a text that may be a key -/
def Ft (x : ByteArray) : Prop := x.size ≤ maxLen
/-- a text, as a map's key -/
noncomputable def kl (x : ByteArray) : Lit := (keyOf Try.prog 9 (.string x)).getD (.bool false)
theorem kl_ok {x : ByteArray} (h : Ft x) : keyOf Try.prog 9 (.string x) = some (kl x) := by
  have : ∃ l, keyOf Try.prog 9 (.string x) = some l := by
    unfold keyOf
    rw [Try.underlying9]
    have h' : x.size ≤ maxLen := h
    simp [mapKey, Try.underlying9, h']
  obtain ⟨l, hl⟩ := this
  rw [kl, hl]; rfl
theorem kl_ne {x y : ByteArray} (hx : Ft x) (hy : Ft y) (h : x ≠ y) : kl x ≠ kl y := fun e => h (by
  have := keyed.inj (kl_ok hx) (e ▸ kl_ok hy)
  injection this)
/-- block m is a map that has p x at x, and nothing else; it has c of them -/
def Mp (w : World) (m : Nat) (p : ByteArray → Option Value) (c : Nat) : Prop :=
  ∃ D : DataW Value, w.ownsMap Try.prog 9 RV m c D ∧ Maps.size D = c ∧
    ∀ x : ByteArray, Ft x → (p x = none → Maps.has D (kl x) = false) ∧ (∀ v, p x = some v → Maps.has D (kl x) = true ∧ ∀ z, D.atKey (kl x) z = .held v)
theorem zero_ok (w : World) : (zeroValue 2).run Try.prog w = .ok (.int .i64 0) w := by kernel_rfl
/-- what was there at x is v from now on -/
def upd (p : ByteArray → Option Value) (x : ByteArray) (v : Option Value) (q : ByteArray → Option Value) : Prop := q x = v ∧ ∀ y, y ≠ x → q y = p y
noncomputable def updOf (p : ByteArray → Option Value) (x : ByteArray) (v : Option Value) : ByteArray → Option Value := fun y => open Classical in if y = x then v else p y
theorem updOf_ok (p : ByteArray → Option Value) (x : ByteArray) (v : Option Value) : upd p x v (updOf p x v) := ⟨by simp [updOf], fun y hy => by simp [updOf, hy]⟩
theorem Mp.kept {w w' : World} {m c : Nat} {p : ByteArray → Option Value} (h : Mp w m p c) (hb : w'.heap[m]? = w.heap[m]?) : Mp w' m p c := by
  obtain ⟨D, ⟨es, clock, h1, F, hs, hD⟩, h2, h3⟩ := h
  exact ⟨D, ⟨es, clock, hb.trans h1, F, hs, hD⟩, h2, h3⟩
theorem Mp.lt {w : World} {m c : Nat} {p : ByteArray → Option Value} (h : Mp w m p c) : m < w.heap.size := by
  obtain ⟨D, h1, _⟩ := h
  exact h1.lt
theorem Mp.made (w : World) : Mp (w.alloc (.map #[] 0)) w.heap.size (fun _ => none) 0 :=
  ⟨.map [], World.ownsMap_made w _ _ _, rfl, fun x _ => ⟨fun _ => rfl, fun i h => by cases h⟩⟩
theorem Mp.look {w : World} {m c : Nat} {p : ByteArray → Option Value} (h : Mp w m p c) {x : ByteArray} (hx : Ft x) :
    (Instr.lookup 43 (.map (some m)) (.string x) true).run Try.prog w = .ok (.tuple #[(p x).getD (.int .i64 0), .bool (p x).isSome]) w := by
  obtain ⟨D, h1, h2, h3⟩ := h
  obtain ⟨v, ps, hrun, hv⟩ := h1.look_ok keyed Try.underlying43 (zero_ok w) (R := RV) rfl (kl_ok hx)
  rw [hrun]
  have hh := h3 x hx
  cases hp : p x with
  | none =>
    rw [Maps.atKey_of_not_has (hh.1 hp)] at hv
    simp only [RV, Option.some.injEq, Prod.mk.injEq, DataW.held.injEq] at hv
    rw [hv.1, hh.1 hp]; rfl
  | some u =>
    rw [(hh.2 u hp).2] at hv
    simp only [RV, Option.some.injEq, Prod.mk.injEq, DataW.held.injEq] at hv
    rw [hv.1, (hh.2 u hp).1]; rfl
theorem Mp.store {w : World} {m c : Nat} {p : ByteArray → Option Value} (h : Mp w m p c) {x : ByteArray} (hx : Ft x) (v : Value) (hc : c ≤ 1048576) {q : ByteArray → Option Value} (hq : upd p x (some v) q) :
    ∃ w', (Instr.mapUpdate 43 (.map (some m)) (.string x) v).run Try.prog w = .ok () w' ∧ Mp w' m q (if p x = none then c + 1 else c) ∧ w.grownBy w' (some m) := by
  obtain ⟨D, h1, h2, h3⟩ := h
  obtain ⟨w', hrun, ho, hg⟩ := h1.update keyed Try.underlying43 (by unfold maxLen; omega) (kl_ok hx) (val := v) (d := .held v) (ps := []) rfl
  have hk := keyed.key (kl_ok hx)
  have hsz := Maps.size_put (k := kl x) (h1.tidy keyed) (.held v)
  have hs : Maps.size (D.put (kl x) (.held v)) = if p x = none then c + 1 else c := by
    rw [hsz, h2]
    cases hp : p x with
    | none => rw [(h3 x hx).1 hp]; simp
    | some j => rw [((h3 x hx).2 j hp).1]; simp
  have ho' := tight ho
  rw [hs] at ho'
  refine ⟨w', hrun, ⟨_, ho', hs, fun y hy => ?_⟩, hg⟩
  by_cases e : y = x
  · subst e
    refine ⟨(fun hn => by rw [hq.1] at hn; cases hn), fun j hj => ?_⟩
    rw [hq.1] at hj
    cases hj
    exact ⟨Maps.has_put_same h1.isMap hk _, fun z => Maps.atKey_put_same h1.isMap hk _ z⟩
  · have hne := kl_ne hy hx e
    rw [hq.2 y e, Maps.has_put_other hne]
    refine ⟨(h3 y hy).1, fun j hj => ?_⟩
    obtain ⟨a, cc⟩ := (h3 y hy).2 j hj
    exact ⟨a, fun z => by rw [Maps.atKey_put_other hne]; exact cc z⟩
/-- a store in the map -/
theorem wpList_store {w : World} {ops : Array Oper} {rest : List Oper} {o : Oper} {a : Act} {Q : Exit → Act → World → Prop} (hg : o.guard = none) (mo xo vo : Operand) (hop : o.op = Op.mapUpdate 43 mo xo vo)
    {m c : Nat} {p : ByteArray → Option Value} (x : ByteArray) (v : Value) (hm : a.eval mo = .map (some m)) (hx : a.eval xo = (.string x)) (hv : a.eval vo = v) (h : Mp w m p c) (fx : Ft x) (hc : c ≤ 1048576)
    (hK : ∀ w', Mp w' m (updOf p x (some v)) (if p x = none then c + 1 else c) → w.grownBy w' (some m) → wpList Try.prog ops Q rest (a.put o.dst undef) w') : wpList Try.prog ops Q (o :: rest) a w := by
  refine wpList_plain hg fun K' hK' => ?_
  obtain ⟨w', hrun, r1, r2⟩ := h.store fx v hc (updOf_ok p x (some v))
  unfold Oper.wp
  simp [execOp, hop, hm, hx, hv, hrun, Result.andThen]
  exact hK' _ _ (hK w' r1 r2)
end Km

/-! ### a map of keys' windows to nothing -/
namespace Wm
theorem laidOut : laidOutB Try.prog = true := by kernel_rfl
theorem rowT : (46 : TypeId) < Try.prog.types.size := of_decide_eq_true (by kernel_rfl)
theorem wideT : (match Try.prog.underlying 46 with | some (.array _ _) | some (.struct _) => true | _ => false) = true := by rw [Try.underlying46]
theorem lawT : WideMaps.KeyLaw Try.prog 46 := deep_law_laid laidOut (m := 3) (by omega) rowT (by kernel_rfl) wideT
theorem keyed : Maps.Keyed Try.prog 46 := Maps.Keyed.of_law lawT
theorem cellsT : Try.prog.cellsOf 46 = 3 := by kernel_rfl
theorem cellsSp : Try.prog.cellsOf 28 = 2 := by kernel_rfl
theorem cellsI : Try.prog.cellsOf 2 = 1 := by kernel_rfl
theorem cellsS : Try.prog.cellsOf 9 = 1 := by kernel_rfl
theorem keyTypeT : Try.prog.keyType 46 = true := by kernel_rfl
theorem formedT {a b c : Value} : (Value.agg #[a, b, c]).formed Try.prog 46 = true := by simp [Value.formed, Try.underlying46, cellsT]
abbrev tv (x : Tmr.Tm) : Value := .agg #[.string x.key, .int .i64 x.s, .int .i64 x.e]
/-- numbers and texts of a window are such as there are -/
def Ft (x : Tmr.Tm) : Prop := x.key.size ≤ maxLen ∧ (Lit.int .i64 x.s).wf = true ∧ (Lit.int .i64 x.e).wf = true
theorem lits_ok (d : Nat) (x : Tmr.Tm) (h : Ft x) : ∃ l, Try.prog.keyLits (d + 3) 46 [.string x.key, .int .i64 x.s, .int .i64 x.e] = some l := by
  obtain ⟨h1, h2, h3⟩ := h
  simp [Program.keyLits, Try.underlying46, Try.underlying28, Try.underlying2, Try.underlying9, cellsT, cellsSp, cellsI, cellsS, h1, h2, h3]
  rw [if_pos (by intro i hi; match i, hi with | 0, _ => simp | 1, _ => simp)]
  exact ⟨_, rfl⟩
theorem key_ok (x : Tmr.Tm) (h : Ft x) : ∃ l, keyOf Try.prog 46 (tv x) = some l := by
  obtain ⟨l, hl⟩ := lits_ok (Try.prog.types.size - 2) x h
  have hs : Try.prog.types.size - 2 + 3 = Try.prog.types.size + 1 := by
    have h1 : 46 < Try.prog.types.size := rowT
    omega
  rw [hs] at hl
  refine ⟨.string (keyBytes l), ?_⟩
  unfold keyOf
  rw [Try.underlying46]
  simp only [keyTypeT, formedT, Bool.and_self, if_true, Value.cells, hl, Option.map_some]
/-- a window, as a map's key -/
noncomputable def kl (x : Tmr.Tm) : Lit := (keyOf Try.prog 46 (tv x)).getD (.bool false)
theorem kl_ok {x : Tmr.Tm} (h : Ft x) : keyOf Try.prog 46 (tv x) = some (kl x) := by
  obtain ⟨l, hl⟩ := key_ok x h
  rw [kl, hl]; rfl
theorem tv_inj {x y : Tmr.Tm} (h : tv x = tv y) : x = y := by
  cases x; cases y; simp [tv] at h; simp [h]
theorem kl_ne {x y : Tmr.Tm} (hx : Ft x) (hy : Ft y) (h : x ≠ y) : kl x ≠ kl y := fun e => h (tv_inj (keyed.inj (kl_ok hx) (e ▸ kl_ok hy)))
/-- block m is a map that has p x at x, and nothing else; it has c of them -/
def Mp (w : World) (m : Nat) (p : Tmr.Tm → Option Value) (c : Nat) : Prop :=
  ∃ D : DataW Value, w.ownsMap Try.prog 46 RV m c D ∧ Maps.size D = c ∧
    ∀ x : Tmr.Tm, Ft x → (p x = none → Maps.has D (kl x) = false) ∧ (∀ v, p x = some v → Maps.has D (kl x) = true ∧ ∀ z, D.atKey (kl x) z = .held v)
theorem zero_ok (w : World) : (zeroValue 48).run Try.prog w = .ok (.agg #[]) w := by kernel_rfl
/-- what was there at x is v from now on -/
def upd (p : Tmr.Tm → Option Value) (x : Tmr.Tm) (v : Option Value) (q : Tmr.Tm → Option Value) : Prop := q x = v ∧ ∀ y, y ≠ x → q y = p y
noncomputable def updOf (p : Tmr.Tm → Option Value) (x : Tmr.Tm) (v : Option Value) : Tmr.Tm → Option Value := fun y => open Classical in if y = x then v else p y
theorem updOf_ok (p : Tmr.Tm → Option Value) (x : Tmr.Tm) (v : Option Value) : upd p x v (updOf p x v) := ⟨by simp [updOf], fun y hy => by simp [updOf, hy]⟩
theorem Mp.kept {w w' : World} {m c : Nat} {p : Tmr.Tm → Option Value} (h : Mp w m p c) (hb : w'.heap[m]? = w.heap[m]?) : Mp w' m p c := by
  obtain ⟨D, ⟨es, clock, h1, F, hs, hD⟩, h2, h3⟩ := h
  exact ⟨D, ⟨es, clock, hb.trans h1, F, hs, hD⟩, h2, h3⟩
theorem Mp.lt {w : World} {m c : Nat} {p : Tmr.Tm → Option Value} (h : Mp w m p c) : m < w.heap.size := by
  obtain ⟨D, h1, _⟩ := h
  exact h1.lt
theorem Mp.made (w : World) : Mp (w.alloc (.map #[] 0)) w.heap.size (fun _ => none) 0 :=
  ⟨.map [], World.ownsMap_made w _ _ _, rfl, fun x _ => ⟨fun _ => rfl, fun i h => by cases h⟩⟩
theorem Mp.look {w : World} {m c : Nat} {p : Tmr.Tm → Option Value} (h : Mp w m p c) {x : Tmr.Tm} (hx : Ft x) :
    (Instr.lookup 44 (.map (some m)) (tv x) true).run Try.prog w = .ok (.tuple #[(p x).getD (.agg #[]), .bool (p x).isSome]) w := by
  obtain ⟨D, h1, h2, h3⟩ := h
  obtain ⟨v, ps, hrun, hv⟩ := h1.look_ok keyed Try.underlying44 (zero_ok w) (R := RV) rfl (kl_ok hx)
  rw [hrun]
  have hh := h3 x hx
  cases hp : p x with
  | none =>
    rw [Maps.atKey_of_not_has (hh.1 hp)] at hv
    simp only [RV, Option.some.injEq, Prod.mk.injEq, DataW.held.injEq] at hv
    rw [hv.1, hh.1 hp]; rfl
  | some u =>
    rw [(hh.2 u hp).2] at hv
    simp only [RV, Option.some.injEq, Prod.mk.injEq, DataW.held.injEq] at hv
    rw [hv.1, (hh.2 u hp).1]; rfl
theorem Mp.store {w : World} {m c : Nat} {p : Tmr.Tm → Option Value} (h : Mp w m p c) {x : Tmr.Tm} (hx : Ft x) (v : Value) (hc : c ≤ 1048576) {q : Tmr.Tm → Option Value} (hq : upd p x (some v) q) :
    ∃ w', (Instr.mapUpdate 44 (.map (some m)) (tv x) v).run Try.prog w = .ok () w' ∧ Mp w' m q (if p x = none then c + 1 else c) ∧ w.grownBy w' (some m) := by
  obtain ⟨D, h1, h2, h3⟩ := h
  obtain ⟨w', hrun, ho, hg⟩ := h1.update keyed Try.underlying44 (by unfold maxLen; omega) (kl_ok hx) (val := v) (d := .held v) (ps := []) rfl
  have hk := keyed.key (kl_ok hx)
  have hsz := Maps.size_put (k := kl x) (h1.tidy keyed) (.held v)
  have hs : Maps.size (D.put (kl x) (.held v)) = if p x = none then c + 1 else c := by
    rw [hsz, h2]
    cases hp : p x with
    | none => rw [(h3 x hx).1 hp]; simp
    | some j => rw [((h3 x hx).2 j hp).1]; simp
  have ho' := tight ho
  rw [hs] at ho'
  refine ⟨w', hrun, ⟨_, ho', hs, fun y hy => ?_⟩, hg⟩
  by_cases e : y = x
  · subst e
    refine ⟨(fun hn => by rw [hq.1] at hn; cases hn), fun j hj => ?_⟩
    rw [hq.1] at hj
    cases hj
    exact ⟨Maps.has_put_same h1.isMap hk _, fun z => Maps.atKey_put_same h1.isMap hk _ z⟩
  · have hne := kl_ne hy hx e
    rw [hq.2 y e, Maps.has_put_other hne]
    refine ⟨(h3 y hy).1, fun j hj => ?_⟩
    obtain ⟨a, cc⟩ := (h3 y hy).2 j hj
    exact ⟨a, fun z => by rw [Maps.atKey_put_other hne]; exact cc z⟩
/-- a store in the map -/
theorem wpList_store {w : World} {ops : Array Oper} {rest : List Oper} {o : Oper} {a : Act} {Q : Exit → Act → World → Prop} (hg : o.guard = none) (mo xo vo : Operand) (hop : o.op = Op.mapUpdate 44 mo xo vo)
    {m c : Nat} {p : Tmr.Tm → Option Value} (x : Tmr.Tm) (v : Value) (hm : a.eval mo = .map (some m)) (hx : a.eval xo = (tv x)) (hv : a.eval vo = v) (h : Mp w m p c) (fx : Ft x) (hc : c ≤ 1048576)
    (hK : ∀ w', Mp w' m (updOf p x (some v)) (if p x = none then c + 1 else c) → w.grownBy w' (some m) → wpList Try.prog ops Q rest (a.put o.dst undef) w') : wpList Try.prog ops Q (o :: rest) a w := by
  refine wpList_plain hg fun K' hK' => ?_
  obtain ⟨w', hrun, r1, r2⟩ := h.store fx v hc (updOf_ok p x (some v))
  unfold Oper.wp
  simp [execOp, hop, hm, hx, hv, hrun, Result.andThen]
  exact hK' _ _ (hK w' r1 r2)
end Wm
end Out
end Go.Proofs.Ytdmplcnnoabkaaa
