/-
  A map of numbers to pointers that lies in memory: what it tells at each number, what a store and a delete do to it.
  slices.Sorted(maps.Keys(m)) of a map of numbers: those that it has, rising, in a list of the call's own.
-/
import Derived.Test.YtmklkiklegkioaaGreatSmall
import Derived.Test.YtmklkiklegkioaaGreatFoot
import Derived.Maps.OwnSet
import Derived.Maps.Ext
import Derived.Shelf.SlIterI.Sorted
import Derived.Shelf.SortM.Plain
import Derived.Shelf.SortM.SortNone
import Derived.Test.YtmklkiklegkioaaGreatLists
namespace Go.Proofs.YtmklkiklegkioaaGreat
open Go.ChangeShapes Go.WideShapes Go.ChangeAt Go.RowKit
namespace Sh
open Small Foot
set_option linter.unusedVariables false
set_option maxRecDepth 100000

theorem keyed : Maps.Keyed Tryz.prog 3 := Maps.int_keyed Tryz.underlying3
abbrev kl (x : Int) : Lit := .int .i64 x
abbrev Wf (x : Int) : Prop := (Lit.int .i64 x).wf = true
theorem kl_ok {x : Int} (h : Wf x) : keyOf Tryz.prog 3 (.int .i64 x) = some (kl x) := Maps.keyOf_int_mk Tryz.underlying3 h
theorem kl_ne {x y : Int} (h : x ≠ y) : kl x ≠ kl y := fun e => h (by injection e)
abbrev gp (g : Nat) : Value := .pointer (some ⟨g, 0, none⟩)
/-- a pointer, or nil -/
abbrev ptr (s : Option Nat) : Value := .pointer (s.map fun g => ⟨g, 0, none⟩)
/-- how an element reads: as itself -/
abbrev RV (v : Value) : Option (DataW Value × List MemPlace) := some (.held v, [])
/-- block m is a map that has p x at x, and nothing else -/
def Mi (w : World) (m : Nat) (p : Int → Option Nat) (c : Nat) : Prop :=
  ∃ D : DataW Value, w.ownsMap Tryz.prog 3 RV m c D ∧ Maps.size D = c ∧
    ∀ x : Int, Wf x → (p x = none → Maps.has D (kl x) = false) ∧ (∀ a, p x = some a → Maps.has D (kl x) = true ∧ ∀ z, D.atKey (kl x) z = .held (gp a))
theorem tight {w : World} {P : Program} {k : TypeId} {R : Value → Option (DataW Value × List MemPlace)} {b n : Nat} {D : DataW Value} (h : w.ownsMap P k R b n D) : w.ownsMap P k R b (Maps.size D) D := by
  obtain ⟨es, clock, hb, F, hs, rfl⟩ := h
  exact ⟨es, clock, hb, F, by simp [Maps.size, length_sorted], rfl⟩
theorem zero_ptr (w : World) : (zeroValue 43).run Tryz.prog w = .ok (.pointer none) w := by kernel_rfl
/-- what was there at x is v from now on -/
def upd (p : Int → Option Nat) (x : Int) (v : Option Nat) (q : Int → Option Nat) : Prop := q x = v ∧ ∀ y, y ≠ x → q y = p y
def updOf (p : Int → Option Nat) (x : Int) (v : Option Nat) : Int → Option Nat := fun y => if y = x then v else p y
theorem updOf_ok (p : Int → Option Nat) (x : Int) (v : Option Nat) : upd p x v (updOf p x v) := ⟨by simp [updOf], fun y hy => by simp [updOf, hy]⟩
section
variable {w w' : World} {m c : Nat} {p : Int → Option Nat}
theorem Mi.kept (h : Mi w m p c) (hb : w'.heap[m]? = w.heap[m]?) : Mi w' m p c := by
  obtain ⟨D, ⟨es, clock, h1, F, hs, hD⟩, h2, h3⟩ := h
  exact ⟨D, ⟨es, clock, hb.trans h1, F, hs, hD⟩, h2, h3⟩
theorem Mi.lt (h : Mi w m p c) : m < w.heap.size := by
  obtain ⟨D, h1, _⟩ := h
  exact h1.lt
theorem Mi.next (h : Mi w m p c) (k : Below w.heap.size w w') : Mi w' m p c := h.kept (k.block m h.lt)
theorem Mi.made (w : World) : Mi (w.alloc (.map #[] 0)) w.heap.size (fun _ => none) 0 :=
  ⟨.map [], World.ownsMap_made w _ _ _, rfl, fun x _ => ⟨fun _ => rfl, fun i h => by cases h⟩⟩
/-- what m[x] tells: nil, where there is none -/
theorem Mi.look (h : Mi w m p c) {x : Int} (hx : Wf x) :
    (Instr.lookup 70 (.map (some m)) (.int .i64 x) false).run Tryz.prog w = .ok (ptr (p x)) w := by
  obtain ⟨D, h1, h2, h3⟩ := h
  obtain ⟨v, ps, hrun, hv⟩ := h1.lookup keyed Tryz.underlying70 (zero_ptr w) (R := RV) rfl (kl_ok hx)
  rw [hrun]
  have hh := h3 x hx
  cases hp : p x with
  | none =>
    rw [Maps.atKey_of_not_has (hh.1 hp)] at hv
    simp only [RV, Option.some.injEq, Prod.mk.injEq, DataW.held.injEq] at hv
    rw [hv.1]; rfl
  | some u =>
    rw [(hh.2 u hp).2] at hv
    simp only [RV, Option.some.injEq, Prod.mk.injEq, DataW.held.injEq] at hv
    rw [hv.1]; rfl
/-- and whether there is one -/
theorem Mi.look_ok (h : Mi w m p c) {x : Int} (hx : Wf x) :
    (Instr.lookup 70 (.map (some m)) (.int .i64 x) true).run Tryz.prog w = .ok (.tuple #[ptr (p x), .bool (p x).isSome]) w := by
  obtain ⟨D, h1, h2, h3⟩ := h
  obtain ⟨v, ps, hrun, hv⟩ := h1.look_ok keyed Tryz.underlying70 (zero_ptr w) (R := RV) rfl (kl_ok hx)
  rw [hrun]
  have hh := h3 x hx
  cases hp : p x with
  | none =>
    rw [Maps.atKey_of_not_has (hh.1 hp)] at hv
    simp only [RV, Option.some.injEq, Prod.mk.injEq, DataW.held.injEq] at hv
    rw [hv.1, hh.1 hp]; rfl
  | some u =>
    rw [(hh.2 u hp).2] at hv
    simp only [RV, Option.some.injEq, Prod.mk.injEq, DataW.held.injEq] at hv
    rw [hv.1, (hh.2 u hp).1]; rfl
/-- a store -/
theorem Mi.store (h : Mi w m p c) {x : Int} (hx : Wf x) (v : Nat) (hc : c ≤ 1048576) {q : Int → Option Nat} (hq : upd p x (some v) q) :
    ∃ w' c', (Instr.mapUpdate 70 (.map (some m)) (.int .i64 x) (gp v)).run Tryz.prog w = .ok () w' ∧ Mi w' m q c' ∧ c' ≤ c + 1 ∧ w.grownBy w' (some m) := by
  obtain ⟨D, h1, h2, h3⟩ := h
  obtain ⟨w', hrun, ho, hg⟩ := h1.update keyed Tryz.underlying70 (by unfold maxLen; omega) (kl_ok hx) (val := gp v) (d := .held (gp v)) (ps := []) rfl
  have hk := keyed.key (kl_ok hx)
  have hsz := Maps.size_put (k := kl x) (h1.tidy keyed) (.held (gp v))
  refine ⟨w', _, hrun, ⟨_, tight ho, rfl, fun y hy => ?_⟩, by rw [hsz, h2]; split <;> omega, hg⟩
  by_cases e : y = x
  · subst e
    refine ⟨(fun hn => by rw [hq.1] at hn; cases hn), fun j hj => ?_⟩
    rw [hq.1] at hj
    cases hj
    exact ⟨Maps.has_put_same h1.isMap hk _, fun z => Maps.atKey_put_same h1.isMap hk _ z⟩
  · have hne := kl_ne e
    rw [hq.2 y e, Maps.has_put_other hne]
    refine ⟨(h3 y hy).1, fun j hj => ?_⟩
    obtain ⟨a, cc⟩ := (h3 y hy).2 j hj
    exact ⟨a, fun z => by rw [Maps.atKey_put_other hne]; exact cc z⟩
/-- a delete, of one that is there, or not -/
theorem Mi.drop (h : Mi w m p c) {x : Int} (hx : Wf x) {q : Int → Option Nat} (hq : upd p x none q) (ty : TypeId) :
    ∃ w' c', (Builtin.delete_ #[70, 3] ty #[.map (some m), .int .i64 x]).run Tryz.prog w = .ok (.tuple #[]) w' ∧ Mi w' m q c' ∧ c' ≤ c ∧ w.grownBy w' (some m) := by
  obtain ⟨D, h1, h2, h3⟩ := h
  obtain ⟨w', hrun, ho, hg⟩ := h1.drop keyed Tryz.underlying70 (kl_ok hx) ty
  have hsz := Maps.size_del (k := kl x) (h1.tidy keyed)
  refine ⟨w', _, hrun, ⟨_, tight ho, rfl, fun y hy => ?_⟩, by have := h2; split at hsz <;> omega, hg.grown⟩
  by_cases e : y = x
  · subst e
    exact ⟨fun _ => Maps.has_del_same, (fun j hj => by rw [hq.1] at hj; cases hj)⟩
  · have hne := kl_ne e
    rw [hq.2 y e, Maps.has_del_other hne]
    refine ⟨(h3 y hy).1, fun j hj => ?_⟩
    obtain ⟨a, cc⟩ := (h3 y hy).2 j hj
    exact ⟨a, fun z => by rw [Maps.atKey_del_other hne]; exact cc z⟩
end
end Sh
end Go.Proofs.YtmklkiklegkioaaGreat

namespace Go.Proofs.YtmklkiklegkioaaGreat
open Go.ChangeShapes Go.WideShapes Go.ChangeAt Go.RowKit Go.Shelf Go.Maps Go.Sort
set_option linter.unusedVariables false

def KI.keys_ren : Go.Shelf.Ren := ⟨fun | 7 => 36 | 10 => 56 | n => n, fun | 23 => 70 | 26 => 3 | 3 => 43 | 28 => 98 | 0 => 0 | 27 => 97 | 33 => 122 | 4 => 4 | n => n, fun | n => n⟩
theorem KI.keys : SlLaysZI.n7 Tryz.prog KI.keys_ren := {
  mixed := by kernel_rfl
  f7 := ⟨Tryz.f36.name, by decide, Tryz.func36.trans (congrArg some (by kernel_rfl))⟩
  f10 := ⟨Tryz.f56.name, by decide, Tryz.func56.trans (congrArg some (by kernel_rfl))⟩
  t0 := Tryz.underlying0
  a0 := Tryz.isAgg0
  z0 := Tryz.sizeOf0
  v0 := Tryz.zeroValue0
  t4 := Tryz.underlying4
  a4 := Tryz.isAgg4
  z4 := Tryz.sizeOf4
  v4 := Tryz.zeroValue4
  t23 := Tryz.underlying70
  a23 := Tryz.isAgg70
  z23 := Tryz.sizeOf70
  v23 := Tryz.zeroValue70
  t26 := Tryz.underlying3
  a26 := Tryz.isAgg3
  z26 := Tryz.sizeOf3
  v26 := Tryz.zeroValue3
  t27 := Tryz.underlying97
  a27 := Tryz.isAgg97
  z27 := Tryz.sizeOf97
  v27 := Tryz.zeroValue97
  t28 := Tryz.underlying98
  a28 := Tryz.isAgg98
  z28 := Tryz.sizeOf98
  v28 := Tryz.zeroValue98
  t33 := Tryz.underlying122
  a33 := Tryz.isAgg122
  z33 := Tryz.sizeOf122
  v33 := Tryz.zeroValue122 }

def KI.sorted_ren : Go.Shelf.Ren := ⟨fun | 6 => 35 | 8 => 54 | 9 => 55 | 11 => 76 | n => n, fun | 24 => 24 | 26 => 3 | 28 => 98 | 0 => 0 | 3 => 3 | 33 => 122 | 4 => 4 | n => n, fun | n => n⟩
theorem KI.sorted : SlLaysZI.n6 Tryz.prog KI.sorted_ren := {
  mixed := by kernel_rfl
  f6 := ⟨Tryz.f35.name, by decide, Tryz.func35.trans (congrArg some (by kernel_rfl))⟩
  f8 := ⟨Tryz.f54.name, by decide, Tryz.func54.trans (congrArg some (by kernel_rfl))⟩
  f11 := ⟨Tryz.f76.name, by decide, Tryz.func76.trans (congrArg some (by kernel_rfl))⟩
  t0 := Tryz.underlying0
  a0 := Tryz.isAgg0
  z0 := Tryz.sizeOf0
  v0 := Tryz.zeroValue0
  t24 := Tryz.underlying24
  a24 := Tryz.isAgg24
  z24 := Tryz.sizeOf24
  v24 := Tryz.zeroValue24
  t26 := Tryz.underlying3
  a26 := Tryz.isAgg3
  z26 := Tryz.sizeOf3
  v26 := Tryz.zeroValue3
  t28 := Tryz.underlying98
  a28 := Tryz.isAgg98
  z28 := Tryz.sizeOf98
  v28 := Tryz.zeroValue98
  i26 := by kernel_rfl }

def KI.sort_ren : Go.Shelf.Ren := ⟨fun | 5 => 55 | 7 => 77 | 8 => 78 | 10 => 94 | 11 => 95 | 12 => 96 | 13 => 97 | 14 => 98 | 15 => 99 | 16 => 100 | 17 => 101 | 18 => 102 | 19 => 103 | 20 => 104 | 30 => 116 | 31 => 117 | 32 => 118 | 33 => 119 | 34 => 120 | 35 => 121 | 40 => 141 | n => n, fun | 0 => 0 | 3 => 3 | 4 => 4 | 5 => 5 | 9 => 9 | 22 => 24 | 23 => 24 | 25 => 3 | 32 => 149 | 35 => 164 | 36 => 165 | 41 => 169 | 44 => 106 | 46 => 130 | 53 => 188 | 57 => 192 | 63 => 204 | 64 => 205 | n => n, fun | n => n⟩
theorem KI.sort : SlLaysM.n5 Tryz.prog KI.sort_ren := {
  mixed := by kernel_rfl
  f5 := ⟨Tryz.f55.name, by decide, Tryz.func55.trans (congrArg some (by kernel_rfl))⟩
  f7 := ⟨Tryz.f77.name, by decide, Tryz.func77.trans (congrArg some (by kernel_rfl))⟩
  f8 := Tryz.func78.trans (congrArg some (by kernel_rfl))
  f10 := ⟨Tryz.f94.name, by decide, Tryz.func94.trans (congrArg some (by kernel_rfl))⟩
  f11 := ⟨Tryz.f95.name, by decide, Tryz.func95.trans (congrArg some (by kernel_rfl))⟩
  f12 := ⟨Tryz.f96.name, by decide, Tryz.func96.trans (congrArg some (by kernel_rfl))⟩
  f13 := ⟨Tryz.f97.name, by decide, Tryz.func97.trans (congrArg some (by kernel_rfl))⟩
  f14 := ⟨Tryz.f98.name, by decide, Tryz.func98.trans (congrArg some (by kernel_rfl))⟩
  f15 := ⟨Tryz.f99.name, by decide, Tryz.func99.trans (congrArg some (by kernel_rfl))⟩
  f16 := ⟨Tryz.f100.name, by decide, Tryz.func100.trans (congrArg some (by kernel_rfl))⟩
  f17 := ⟨Tryz.f101.name, by decide, Tryz.func101.trans (congrArg some (by kernel_rfl))⟩
  f18 := ⟨Tryz.f102.name, by decide, Tryz.func102.trans (congrArg some (by kernel_rfl))⟩
  f19 := Tryz.func103.trans (congrArg some (by kernel_rfl))
  f20 := Tryz.func104.trans (congrArg some (by kernel_rfl))
  f30 := ⟨Tryz.f116.name, by decide, Tryz.func116.trans (congrArg some (by kernel_rfl))⟩
  f31 := Tryz.func117.trans (congrArg some (by kernel_rfl))
  f32 := Tryz.func118.trans (congrArg some (by kernel_rfl))
  f33 := ⟨Tryz.f119.name, by decide, Tryz.func119.trans (congrArg some (by kernel_rfl))⟩
  f34 := ⟨Tryz.f120.name, by decide, Tryz.func120.trans (congrArg some (by kernel_rfl))⟩
  f35 := ⟨Tryz.f121.name, by decide, Tryz.func121.trans (congrArg some (by kernel_rfl))⟩
  f40 := ⟨Tryz.f141.name, by decide, Tryz.func141.trans (congrArg some (by kernel_rfl))⟩
  t0 := Tryz.underlying0
  a0 := Tryz.isAgg0
  z0 := Tryz.sizeOf0
  v0 := Tryz.zeroValue0
  t3 := Tryz.underlying3
  a3 := Tryz.isAgg3
  z3 := Tryz.sizeOf3
  v3 := Tryz.zeroValue3
  t4 := Tryz.underlying4
  a4 := Tryz.isAgg4
  z4 := Tryz.sizeOf4
  v4 := Tryz.zeroValue4
  t5 := Tryz.underlying5
  a5 := Tryz.isAgg5
  z5 := Tryz.sizeOf5
  v5 := Tryz.zeroValue5
  t9 := Tryz.underlying9
  a9 := Tryz.isAgg9
  z9 := Tryz.sizeOf9
  v9 := Tryz.zeroValue9
  t22 := Tryz.underlying24
  a22 := Tryz.isAgg24
  z22 := Tryz.sizeOf24
  v22 := Tryz.zeroValue24
  t23 := Tryz.underlying24
  a23 := Tryz.isAgg24
  z23 := Tryz.sizeOf24
  v23 := Tryz.zeroValue24
  t25 := Tryz.underlying3
  a25 := Tryz.isAgg3
  z25 := Tryz.sizeOf3
  v25 := Tryz.zeroValue3
  t32 := Tryz.underlying149
  a32 := Tryz.isAgg149
  z32 := Tryz.sizeOf149
  v32 := Tryz.zeroValue149
  t35 := Tryz.underlying164
  a35 := Tryz.isAgg164
  z35 := Tryz.sizeOf164
  v35 := Tryz.zeroValue164
  t36 := Tryz.underlying165
  a36 := Tryz.isAgg165
  z36 := Tryz.sizeOf165
  v36 := Tryz.zeroValue165
  t41 := Tryz.underlying169
  a41 := Tryz.isAgg169
  z41 := Tryz.sizeOf169
  v41 := Tryz.zeroValue169
  t44 := Tryz.underlying106
  a44 := Tryz.isAgg106
  z44 := Tryz.sizeOf106
  v44 := Tryz.zeroValue106
  t46 := Tryz.underlying130
  a46 := Tryz.isAgg130
  z46 := Tryz.sizeOf130
  v46 := Tryz.zeroValue130
  t53 := Tryz.underlying188
  a53 := Tryz.isAgg188
  z53 := Tryz.sizeOf188
  v53 := Tryz.zeroValue188
  t57 := Tryz.underlying192
  a57 := Tryz.isAgg192
  z57 := Tryz.sizeOf192
  v57 := Tryz.zeroValue192
  t63 := Tryz.underlying204
  a63 := Tryz.isAgg204
  z63 := Tryz.sizeOf204
  v63 := Tryz.zeroValue204
  t64 := Tryz.underlying205
  a64 := Tryz.isAgg205
  z64 := Tryz.sizeOf205
  v64 := Tryz.zeroValue205 }

namespace KI
theorem sorts (m : Nat) : AnyZI.SortsIn Tryz.prog KI.sorted_ren Fence.wide m :=
  ⟨fun blk off cap ss W hH hblk hsz => callsIn_wide.2 (AnyM.slices_Sort_int KI.sort blk off cap ss W hH hblk hsz),
   fun p cap W => callsIn_wide.2 (AnyM.slices_Sort_int_none KI.sort p cap W)⟩
theorem keys_call (mb : Option Nat) (W : World) : Calls Tryz.prog 36 #[.map mb] W fun e w' => e = .returned (.func (.func 56) #[] #[.pointer (some ⟨W.heap.size, 0, none⟩)]) ∧ w' = W.alloc (.cells #[.map mb] 70) :=
  (callsIn_wide (n := 5)).1 (AnyZI.keys_in KI.keys Fence.wide 5 trivial rfl mb W)
set_option maxHeartbeats 1000000 in
theorem sorted_call {H : Type} (b nn : Nat) (D0 : DataW H) (R : Value → Option (DataW H × List MemPlace)) (w : World) (hown : w.ownsMap Tryz.prog 3 R b nn D0) (hmax : Maps.size D0 ≤ maxLen) (hbytes : Maps.size D0 * 8 ≤ 140737488355328) :
    Calls Tryz.prog 35 #[.func (.func 56) #[] #[.pointer (some ⟨w.heap.size, 0, none⟩)]] (w.alloc (.cells #[.map (some b)] 70)) fun e w' => ∃ (v : Value) (ss : List Int), e = .returned v ∧ ss.Perm (intKeys D0) ∧
      w'.ownsRow (w.alloc (.cells #[.map (some b)] 70)).heap.size 3 1 v ss.length ((ss.mergeSort (fun x y => decide (x ≤ y))).map encZ) ∧ (v = .slice none 0 0 ↔ ss = []) ∧ Below (w.alloc (.cells #[.map (some b)] 70)).heap.size (w.alloc (.cells #[.map (some b)] 70)) w' := by
  have hbl := hown.lt
  have hseq : SeqGives Fence.wide 2 Tryz.prog 56 #[.pointer (some ⟨w.heap.size, 0, none⟩)] encZ (fun ss => ss.Perm (intKeys D0)) (Maps.size D0) (w.alloc (.cells #[.map (some b)] 70)) :=
    AnyZI.keys_gives (ρ := KI.keys_ren) { KI.keys with } Fence.wide _ trivial rfl (by omega) w.heap.size b nn D0 _ (by simp) (by simp) (by
      obtain ⟨es, clock, hb, Ft, hs, hD⟩ := hown
      exact ⟨es, clock, (Below.heap_alloc _ _ b hbl).trans hb, Ft, hs, hD⟩)
  exact (callsIn_wide (n := 5)).1 (AnyZI.sorted_in KI.sorted Fence.wide 5 trivial trivial trivial trivial rfl (by omega) (KI.sorts _) (enters_of Tryz.func55 (by kernel_rfl) rfl) 56 #[.pointer (some ⟨w.heap.size, 0, none⟩)] trivial (enters_of Tryz.func56 (by kernel_rfl) rfl) _ _ hmax hbytes _ hseq)
end KI
namespace Ik
/-- numbers, as elements of a slice -/
abbrev k : Kind Int := ⟨24, 3, 1, 8, .int .i64 0, fun x => [.int .i64 x]⟩
theorem ok : Ik.k.Ok where
  under := Tryz.underlying24
  elem := by kernel_rfl
  info := by kernel_rfl
  zs := by kernel_rfl
  pos := by decide
  len := fun _ => rfl
  one := fun x u h => by simp at h; subst h; rfl
  small := by decide
theorem flat_enc (ss : List Int) : Sl.flat Ik.k ss = ss.map encZ := by
  induction ss with
  | nil => rfl
  | cons x ss ih => simp only [Sl.flat, List.map_cons, List.flatMap_cons] at ih ⊢; rw [ih]; rfl
end Ik
namespace Sh
open Small Foot
/-- numbers that rise, just those that the map has -/
structure KeysOf (p : Int → Option Nat) (ks : List Int) : Prop where
  up : ks.Pairwise (· < ·)
  mem : ∀ x, x ∈ ks ↔ p x ≠ none
section
variable {w : World} {m c : Nat} {p : Int → Option Nat} {D : DataW Value} {ss : List Int}
theorem keys_nd (hown : w.ownsMap Tryz.prog 3 RV m c D) : (intKeys D).Nodup ∧ (intKeys D).length = Maps.size D ∧ ∀ x, x ∈ intKeys D ↔ has D (.int .i64 x) = true := by
  obtain ⟨es, hes, hpw, _⟩ := hown.entries keyed
  obtain ⟨es', hes', hko⟩ := hown.keysOf
  obtain rfl : es = es' := by rw [hes] at hes'; simpa using hes'
  subst hes
  have hk : ∀ p ∈ es, ∃ x, p.1 = .int .i64 x := fun p hp => by
    obtain ⟨v, hv⟩ := hko p hp
    have : ∃ x, p.1 = .int .i64 x := by
      cases v <;> simp [keyOf, Tryz.underlying3, mapKey] at hv
      obtain ⟨⟨rfl, _⟩, h⟩ := hv
      exact ⟨_, h.symm⟩
    exact this
  refine ⟨?_, ?_, fun x => ?_⟩
  · show (es.map fun p => Go.intOf p.1).Nodup
    refine List.pairwise_map.2 (hpw.imp_of_mem fun {p q} hp' hq' hne e => hne ?_)
    obtain ⟨a, ha⟩ := hk p hp'
    obtain ⟨b, hb⟩ := hk q hq'
    rw [ha, hb] at e ⊢
    exact congrArg _ e
  · show (es.map fun p => Go.intOf p.1).length = _
    rw [List.length_map]; rfl
  · rw [has_eq, List.any_eq_true]
    show x ∈ es.map (fun p => Go.intOf p.1) ↔ _
    rw [List.mem_map]
    constructor
    · rintro ⟨p, hp', rfl⟩
      obtain ⟨a, ha⟩ := hk p hp'
      exact ⟨p, hp', by rw [ha]; simp [Lit.sameKey, Go.intOf]⟩
    · rintro ⟨p, hp', hs⟩
      obtain ⟨a, ha⟩ := hk p hp'
      rw [ha] at hs
      exact ⟨p, hp', by rw [ha]; simpa [Lit.sameKey, Go.intOf] using hs⟩
theorem keys_fin (hown : w.ownsMap Tryz.prog 3 RV m c D) (hD : ∀ x : Int, Wf x → (p x = none → Maps.has D (kl x) = false) ∧ (∀ a, p x = some a → Maps.has D (kl x) = true ∧ ∀ z, D.atKey (kl x) z = .held (gp a)))
    (hw : ∀ x, p x ≠ none → Wf x) (hp : ss.Perm (intKeys D)) : KeysOf p (ss.mergeSort (fun x y => decide (x ≤ y))) := by
  have hle := intKeys_wf hown Tryz.underlying3
  obtain ⟨nd, -, hmem⟩ := keys_nd hown
  have perm := (List.mergeSort_perm ss (fun x y => decide (x ≤ y))).trans hp
  have tr : ∀ a b c : Int, decide (a ≤ b) = true → decide (b ≤ c) = true → decide (a ≤ c) = true := fun a b c h1 h2 => by simp only [decide_eq_true_eq] at *; omega
  have ttl : ∀ a b : Int, (decide (a ≤ b) || decide (b ≤ a)) = true := fun a b => by simp only [Bool.or_eq_true, decide_eq_true_eq]; omega
  have hs := List.pairwise_mergeSort (le := fun x y => decide (x ≤ y)) tr ttl ss
  have nd2 : (ss.mergeSort (fun x y => decide (x ≤ y))).Nodup := perm.symm.nodup nd
  refine ⟨(hs.and nd2).imp fun {a b} h => ?_, fun x => ?_⟩
  · have h1 : a ≤ b := by simpa using h.1
    have h2 : a ≠ b := h.2
    omega
  · constructor
    · intro hy e
      have hy2 := perm.mem_iff.1 hy
      have hh := (hmem x).1 hy2
      rw [(hD x (hle x hy2)).1 e] at hh; cases hh
    · intro hx
      obtain ⟨a, ha⟩ := Option.ne_none_iff_exists'.1 hx
      exact perm.mem_iff.2 ((hmem _).2 ((hD x (hw x hx)).2 a ha).1)
/-- the numbers lie below 16: there are at most 16 -/
theorem Mi.small (h : Mi w m p c) (hd : ∀ x, p x ≠ none → 0 ≤ x ∧ x < 16) : c ≤ 16 := by
  obtain ⟨D, h1, h2, h3⟩ := h
  obtain ⟨nd, hl, hmem⟩ := keys_nd h1
  have hle := intKeys_wf h1 Tryz.underlying3
  have := List.Nodup.length_le_of_subset nd (l₂ := (List.range 16).map fun k : Nat => (k : Int)) fun x hx => by
    have hh := (hmem x).1 hx
    have hp : p x ≠ none := fun e => by rw [(h3 x (hle x hx)).1 e] at hh; cases hh
    obtain ⟨q1, q2⟩ := hd x hp
    exact List.mem_map.2 ⟨x.toNat, List.mem_range.2 (by omega), by omega⟩
  rw [List.length_map, List.length_range, hl, h2] at this
  exact this
end
end Sh
end Go.Proofs.YtmklkiklegkioaaGreat
