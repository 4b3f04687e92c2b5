/-
  slices.Sorted(maps.Keys(m)) of a map of numbers: those that it has, rising, in a list of the call's own.
-/
import Derived.Shelf.SlIterI.Sorted
import Derived.Shelf.SortM.Plain
import Derived.Shelf.SortM.SortNone
import Derived.Test.YtdnigpkdnkbfbaaGreatShMap
import Derived.Test.YtdnigpkdnkbfbaaGreatLists
namespace Go.Proofs.YtdnigpkdnkbfbaaGreat
open Go.ChangeShapes Go.WideShapes Go.ChangeAt Go.RowKit Go.Shelf Go.Maps Go.Sort
set_option linter.unusedVariables false

def KI.keys_ren : Go.Shelf.Ren := ⟨fun | 7 => 54 | 10 => 84 | n => n, fun | 23 => 95 | 26 => 3 | 3 => 43 | 28 => 123 | 0 => 0 | 27 => 122 | 33 => 132 | 4 => 4 | n => n, fun | n => n⟩
theorem KI.keys : SlLaysZI.n7 Tryz.prog KI.keys_ren := {
  mixed := by kernel_rfl
  f7 := ⟨Tryz.f54.name, by decide, Tryz.func54.trans (congrArg some (by kernel_rfl))⟩
  f10 := ⟨Tryz.f84.name, by decide, Tryz.func84.trans (congrArg some (by kernel_rfl))⟩
  t0 := Tryz.underlying0
  a0 := Tryz.isAgg0
  z0 := Tryz.sizeOf0
  v0 := Tryz.zeroValue0
  t4 := Tryz.underlying4
  a4 := Tryz.isAgg4
  z4 := Tryz.sizeOf4
  v4 := Tryz.zeroValue4
  t23 := Tryz.underlying95
  a23 := Tryz.isAgg95
  z23 := Tryz.sizeOf95
  v23 := Tryz.zeroValue95
  t26 := Tryz.underlying3
  a26 := Tryz.isAgg3
  z26 := Tryz.sizeOf3
  v26 := Tryz.zeroValue3
  t27 := Tryz.underlying122
  a27 := Tryz.isAgg122
  z27 := Tryz.sizeOf122
  v27 := Tryz.zeroValue122
  t28 := Tryz.underlying123
  a28 := Tryz.isAgg123
  z28 := Tryz.sizeOf123
  v28 := Tryz.zeroValue123
  t33 := Tryz.underlying132
  a33 := Tryz.isAgg132
  z33 := Tryz.sizeOf132
  v33 := Tryz.zeroValue132 }

def KI.sorted_ren : Go.Shelf.Ren := ⟨fun | 6 => 53 | 8 => 82 | 9 => 83 | 11 => 104 | n => n, fun | 24 => 24 | 26 => 3 | 28 => 123 | 0 => 0 | 3 => 3 | 33 => 132 | 4 => 4 | n => n, fun | n => n⟩
theorem KI.sorted : SlLaysZI.n6 Tryz.prog KI.sorted_ren := {
  mixed := by kernel_rfl
  f6 := ⟨Tryz.f53.name, by decide, Tryz.func53.trans (congrArg some (by kernel_rfl))⟩
  f8 := ⟨Tryz.f82.name, by decide, Tryz.func82.trans (congrArg some (by kernel_rfl))⟩
  f11 := ⟨Tryz.f104.name, by decide, Tryz.func104.trans (congrArg some (by kernel_rfl))⟩
  t0 := Tryz.underlying0
  a0 := Tryz.isAgg0
  z0 := Tryz.sizeOf0
  v0 := Tryz.zeroValue0
  t24 := Tryz.underlying24
  a24 := Tryz.isAgg24
  z24 := Tryz.sizeOf24
  v24 := Tryz.zeroValue24
  t26 := Tryz.underlying3
  a26 := Tryz.isAgg3
  z26 := Tryz.sizeOf3
  v26 := Tryz.zeroValue3
  t28 := Tryz.underlying123
  a28 := Tryz.isAgg123
  z28 := Tryz.sizeOf123
  v28 := Tryz.zeroValue123
  i26 := by kernel_rfl }

def KI.sort_ren : Go.Shelf.Ren := ⟨fun | 5 => 83 | 7 => 105 | 8 => 106 | 10 => 118 | 11 => 119 | 12 => 120 | 13 => 121 | 14 => 122 | 15 => 123 | 16 => 124 | 17 => 125 | 18 => 126 | 19 => 127 | 20 => 128 | 30 => 140 | 31 => 141 | 32 => 142 | 33 => 143 | 34 => 144 | 35 => 145 | 40 => 165 | n => n, fun | 0 => 0 | 3 => 3 | 4 => 4 | 5 => 5 | 9 => 9 | 22 => 24 | 23 => 24 | 25 => 3 | 32 => 192 | 35 => 204 | 36 => 205 | 41 => 209 | 44 => 146 | 46 => 174 | 53 => 228 | 57 => 232 | 63 => 244 | 64 => 245 | n => n, fun | n => n⟩
theorem KI.sort : SlLaysM.n5 Tryz.prog KI.sort_ren := {
  mixed := by kernel_rfl
  f5 := ⟨Tryz.f83.name, by decide, Tryz.func83.trans (congrArg some (by kernel_rfl))⟩
  f7 := ⟨Tryz.f105.name, by decide, Tryz.func105.trans (congrArg some (by kernel_rfl))⟩
  f8 := Tryz.func106.trans (congrArg some (by kernel_rfl))
  f10 := ⟨Tryz.f118.name, by decide, Tryz.func118.trans (congrArg some (by kernel_rfl))⟩
  f11 := ⟨Tryz.f119.name, by decide, Tryz.func119.trans (congrArg some (by kernel_rfl))⟩
  f12 := ⟨Tryz.f120.name, by decide, Tryz.func120.trans (congrArg some (by kernel_rfl))⟩
  f13 := ⟨Tryz.f121.name, by decide, Tryz.func121.trans (congrArg some (by kernel_rfl))⟩
  f14 := ⟨Tryz.f122.name, by decide, Tryz.func122.trans (congrArg some (by kernel_rfl))⟩
  f15 := ⟨Tryz.f123.name, by decide, Tryz.func123.trans (congrArg some (by kernel_rfl))⟩
  f16 := ⟨Tryz.f124.name, by decide, Tryz.func124.trans (congrArg some (by kernel_rfl))⟩
  f17 := ⟨Tryz.f125.name, by decide, Tryz.func125.trans (congrArg some (by kernel_rfl))⟩
  f18 := ⟨Tryz.f126.name, by decide, Tryz.func126.trans (congrArg some (by kernel_rfl))⟩
  f19 := Tryz.func127.trans (congrArg some (by kernel_rfl))
  f20 := Tryz.func128.trans (congrArg some (by kernel_rfl))
  f30 := ⟨Tryz.f140.name, by decide, Tryz.func140.trans (congrArg some (by kernel_rfl))⟩
  f31 := Tryz.func141.trans (congrArg some (by kernel_rfl))
  f32 := Tryz.func142.trans (congrArg some (by kernel_rfl))
  f33 := ⟨Tryz.f143.name, by decide, Tryz.func143.trans (congrArg some (by kernel_rfl))⟩
  f34 := ⟨Tryz.f144.name, by decide, Tryz.func144.trans (congrArg some (by kernel_rfl))⟩
  f35 := ⟨Tryz.f145.name, by decide, Tryz.func145.trans (congrArg some (by kernel_rfl))⟩
  f40 := ⟨Tryz.f165.name, by decide, Tryz.func165.trans (congrArg some (by kernel_rfl))⟩
  t0 := Tryz.underlying0
  a0 := Tryz.isAgg0
  z0 := Tryz.sizeOf0
  v0 := Tryz.zeroValue0
  t3 := Tryz.underlying3
  a3 := Tryz.isAgg3
  z3 := Tryz.sizeOf3
  v3 := Tryz.zeroValue3
  t4 := Tryz.underlying4
  a4 := Tryz.isAgg4
  z4 := Tryz.sizeOf4
  v4 := Tryz.zeroValue4
  t5 := Tryz.underlying5
  a5 := Tryz.isAgg5
  z5 := Tryz.sizeOf5
  v5 := Tryz.zeroValue5
  t9 := Tryz.underlying9
  a9 := Tryz.isAgg9
  z9 := Tryz.sizeOf9
  v9 := Tryz.zeroValue9
  t22 := Tryz.underlying24
  a22 := Tryz.isAgg24
  z22 := Tryz.sizeOf24
  v22 := Tryz.zeroValue24
  t23 := Tryz.underlying24
  a23 := Tryz.isAgg24
  z23 := Tryz.sizeOf24
  v23 := Tryz.zeroValue24
  t25 := Tryz.underlying3
  a25 := Tryz.isAgg3
  z25 := Tryz.sizeOf3
  v25 := Tryz.zeroValue3
  t32 := Tryz.underlying192
  a32 := Tryz.isAgg192
  z32 := Tryz.sizeOf192
  v32 := Tryz.zeroValue192
  t35 := Tryz.underlying204
  a35 := Tryz.isAgg204
  z35 := Tryz.sizeOf204
  v35 := Tryz.zeroValue204
  t36 := Tryz.underlying205
  a36 := Tryz.isAgg205
  z36 := Tryz.sizeOf205
  v36 := Tryz.zeroValue205
  t41 := Tryz.underlying209
  a41 := Tryz.isAgg209
  z41 := Tryz.sizeOf209
  v41 := Tryz.zeroValue209
  t44 := Tryz.underlying146
  a44 := Tryz.isAgg146
  z44 := Tryz.sizeOf146
  v44 := Tryz.zeroValue146
  t46 := Tryz.underlying174
  a46 := Tryz.isAgg174
  z46 := Tryz.sizeOf174
  v46 := Tryz.zeroValue174
  t53 := Tryz.underlying228
  a53 := Tryz.isAgg228
  z53 := Tryz.sizeOf228
  v53 := Tryz.zeroValue228
  t57 := Tryz.underlying232
  a57 := Tryz.isAgg232
  z57 := Tryz.sizeOf232
  v57 := Tryz.zeroValue232
  t63 := Tryz.underlying244
  a63 := Tryz.isAgg244
  z63 := Tryz.sizeOf244
  v63 := Tryz.zeroValue244
  t64 := Tryz.underlying245
  a64 := Tryz.isAgg245
  z64 := Tryz.sizeOf245
  v64 := Tryz.zeroValue245 }

namespace KI
theorem sorts (m : Nat) : AnyZI.SortsIn Tryz.prog KI.sorted_ren Fence.wide m :=
  ⟨fun blk off cap ss W hH hblk hsz => callsIn_wide.2 (AnyM.slices_Sort_int KI.sort blk off cap ss W hH hblk hsz),
   fun p cap W => callsIn_wide.2 (AnyM.slices_Sort_int_none KI.sort p cap W)⟩
theorem keys_call (mb : Option Nat) (W : World) : Calls Tryz.prog 54 #[.map mb] W fun e w' => e = .returned (.func (.func 84) #[] #[.pointer (some ⟨W.heap.size, 0, none⟩)]) ∧ w' = W.alloc (.cells #[.map mb] 95) :=
  (callsIn_wide (n := 5)).1 (AnyZI.keys_in KI.keys Fence.wide 5 trivial rfl mb W)
set_option maxHeartbeats 1000000 in
theorem sorted_call {H : Type} (b nn : Nat) (D0 : DataW H) (R : Value → Option (DataW H × List MemPlace)) (w : World) (hown : w.ownsMap Tryz.prog 3 R b nn D0) (hmax : Maps.size D0 ≤ maxLen) (hbytes : Maps.size D0 * 8 ≤ 140737488355328) :
    Calls Tryz.prog 53 #[.func (.func 84) #[] #[.pointer (some ⟨w.heap.size, 0, none⟩)]] (w.alloc (.cells #[.map (some b)] 95)) fun e w' => ∃ (v : Value) (ss : List Int), e = .returned v ∧ ss.Perm (intKeys D0) ∧
      w'.ownsRow (w.alloc (.cells #[.map (some b)] 95)).heap.size 3 1 v ss.length ((ss.mergeSort (fun x y => decide (x ≤ y))).map encZ) ∧ (v = .slice none 0 0 ↔ ss = []) ∧ Below (w.alloc (.cells #[.map (some b)] 95)).heap.size (w.alloc (.cells #[.map (some b)] 95)) w' := by
  have hbl := hown.lt
  have hseq : SeqGives Fence.wide 2 Tryz.prog 84 #[.pointer (some ⟨w.heap.size, 0, none⟩)] encZ (fun ss => ss.Perm (intKeys D0)) (Maps.size D0) (w.alloc (.cells #[.map (some b)] 95)) :=
    AnyZI.keys_gives (ρ := KI.keys_ren) { KI.keys with } Fence.wide _ trivial rfl (by omega) w.heap.size b nn D0 _ (by simp) (by simp) (by
      obtain ⟨es, clock, hb, Ft, hs, hD⟩ := hown
      exact ⟨es, clock, (Below.heap_alloc _ _ b hbl).trans hb, Ft, hs, hD⟩)
  exact (callsIn_wide (n := 5)).1 (AnyZI.sorted_in KI.sorted Fence.wide 5 trivial trivial trivial trivial rfl (by omega) (KI.sorts _) (enters_of Tryz.func83 (by kernel_rfl) rfl) 84 #[.pointer (some ⟨w.heap.size, 0, none⟩)] trivial (enters_of Tryz.func84 (by kernel_rfl) rfl) _ _ hmax hbytes _ hseq)
end KI
namespace Ik
/-- numbers, as elements of a slice -/
abbrev k : Kind Int := ⟨24, 3, 1, 8, .int .i64 0, fun x => [.int .i64 x]⟩
theorem ok : Ik.k.Ok where
  under := Tryz.underlying24
  elem := by kernel_rfl
  info := by kernel_rfl
  zs := by kernel_rfl
  pos := by decide
  len := fun _ => rfl
  one := fun x u h => by simp at h; subst h; rfl
  small := by decide
theorem flat_enc (ss : List Int) : Sl.flat Ik.k ss = ss.map encZ := by
  induction ss with
  | nil => rfl
  | cons x ss ih => simp only [Sl.flat, List.map_cons, List.flatMap_cons] at ih ⊢; rw [ih]; rfl
end Ik
namespace Sh
open Small Foot
/-- numbers that rise, just those that the map has -/
structure KeysOf (p : Int → Option Nat) (ks : List Int) : Prop where
  up : ks.Pairwise (· < ·)
  mem : ∀ x, x ∈ ks ↔ p x ≠ none
section
variable {w : World} {m c : Nat} {p : Int → Option Nat} {D : DataW Value} {ss : List Int}
theorem keys_nd (hown : w.ownsMap Tryz.prog 3 RV m c D) : (intKeys D).Nodup ∧ (intKeys D).length = Maps.size D ∧ ∀ x, x ∈ intKeys D ↔ has D (.int .i64 x) = true := by
  obtain ⟨es, hes, hpw, _⟩ := hown.entries keyed
  obtain ⟨es', hes', hko⟩ := hown.keysOf
  obtain rfl : es = es' := by rw [hes] at hes'; simpa using hes'
  subst hes
  have hk : ∀ p ∈ es, ∃ x, p.1 = .int .i64 x := fun p hp => by
    obtain ⟨v, hv⟩ := hko p hp
    have : ∃ x, p.1 = .int .i64 x := by
      cases v <;> simp [keyOf, Tryz.underlying3, mapKey] at hv
      obtain ⟨⟨rfl, _⟩, h⟩ := hv
      exact ⟨_, h.symm⟩
    exact this
  refine ⟨?_, ?_, fun x => ?_⟩
  · show (es.map fun p => Go.intOf p.1).Nodup
    refine List.pairwise_map.2 (hpw.imp_of_mem fun {p q} hp' hq' hne e => hne ?_)
    obtain ⟨a, ha⟩ := hk p hp'
    obtain ⟨b, hb⟩ := hk q hq'
    rw [ha, hb] at e ⊢
    exact congrArg _ e
  · show (es.map fun p => Go.intOf p.1).length = _
    rw [List.length_map]; rfl
  · rw [has_eq, List.any_eq_true]
    show x ∈ es.map (fun p => Go.intOf p.1) ↔ _
    rw [List.mem_map]
    constructor
    · rintro ⟨p, hp', rfl⟩
      obtain ⟨a, ha⟩ := hk p hp'
      exact ⟨p, hp', by rw [ha]; simp [Lit.sameKey, Go.intOf]⟩
    · rintro ⟨p, hp', hs⟩
      obtain ⟨a, ha⟩ := hk p hp'
      rw [ha] at hs
      exact ⟨p, hp', by rw [ha]; simpa [Lit.sameKey, Go.intOf] using hs⟩
theorem keys_fin (hown : w.ownsMap Tryz.prog 3 RV m c D) (hD : ∀ x : Int, Wf x → (p x = none → Maps.has D (kl x) = false) ∧ (∀ a, p x = some a → Maps.has D (kl x) = true ∧ ∀ z, D.atKey (kl x) z = .held (gp a)))
    (hw : ∀ x, p x ≠ none → Wf x) (hp : ss.Perm (intKeys D)) : KeysOf p (ss.mergeSort (fun x y => decide (x ≤ y))) := by
  have hle := intKeys_wf hown Tryz.underlying3
  obtain ⟨nd, -, hmem⟩ := keys_nd hown
  have perm := (List.mergeSort_perm ss (fun x y => decide (x ≤ y))).trans hp
  have tr : ∀ a b c : Int, decide (a ≤ b) = true → decide (b ≤ c) = true → decide (a ≤ c) = true := fun a b c h1 h2 => by simp only [decide_eq_true_eq] at *; omega
  have ttl : ∀ a b : Int, (decide (a ≤ b) || decide (b ≤ a)) = true := fun a b => by simp only [Bool.or_eq_true, decide_eq_true_eq]; omega
  have hs := List.pairwise_mergeSort (le := fun x y => decide (x ≤ y)) tr ttl ss
  have nd2 : (ss.mergeSort (fun x y => decide (x ≤ y))).Nodup := perm.symm.nodup nd
  refine ⟨(hs.and nd2).imp fun {a b} h => ?_, fun x => ?_⟩
  · have h1 : a ≤ b := by simpa using h.1
    have h2 : a ≠ b := h.2
    omega
  · constructor
    · intro hy e
      have hy2 := perm.mem_iff.1 hy
      have hh := (hmem x).1 hy2
      rw [(hD x (hle x hy2)).1 e] at hh; cases hh
    · intro hx
      obtain ⟨a, ha⟩ := Option.ne_none_iff_exists'.1 hx
      exact perm.mem_iff.2 ((hmem _).2 ((hD x (hw x hx)).2 a ha).1)
/-- the numbers lie below 16: there are at most 16 -/
theorem Mi.small (h : Mi w m p c) (hd : ∀ x, p x ≠ none → 0 ≤ x ∧ x < 16) : c ≤ 16 := by
  obtain ⟨D, h1, h2, h3⟩ := h
  obtain ⟨nd, hl, hmem⟩ := keys_nd h1
  have hle := intKeys_wf h1 Tryz.underlying3
  have := List.Nodup.length_le_of_subset nd (l₂ := (List.range 16).map fun k : Nat => (k : Int)) fun x hx => by
    have hh := (hmem x).1 hx
    have hp : p x ≠ none := fun e => by rw [(h3 x (hle x hx)).1 e] at hh; cases hh
    obtain ⟨q1, q2⟩ := hd x hp
    exact List.mem_map.2 ⟨x.toNat, List.mem_range.2 (by omega), by omega⟩
  rw [List.length_map, List.length_range, hl, h2] at this
  exact this
end
end Sh
end Go.Proofs.YtdnigpkdnkbfbaaGreat
