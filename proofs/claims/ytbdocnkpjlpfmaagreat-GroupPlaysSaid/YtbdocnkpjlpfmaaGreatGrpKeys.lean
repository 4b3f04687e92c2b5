/-
  group's Keys, slices.Sorted(maps.Keys(m)): the keys that have panes, by rising bytes, in a list of the call's own; and Due.
-/
import Derived.Shelf.SlIter.Nil
import Derived.Shelf.SortM.Plain
import Derived.Shelf.SortM.SortNone
import Derived.Test.YtbdocnkpjlpfmaaGreatGrpLen
namespace Go.Proofs.YtbdocnkpjlpfmaaGreat
open Go.ChangeShapes Go.WideShapes Go.ChangeAt Go.RowKit Go.Shelf Go.Maps Go.Sort
set_option linter.unusedVariables false

def K.keys_ren : Go.Shelf.Ren := ⟨fun | 7 => 31 | 10 => 59 | n => n, fun | 23 => 54 | 26 => 9 | 3 => 34 | 28 => 75 | 0 => 0 | 27 => 74 | 33 => 113 | 4 => 4 | n => n, fun | n => n⟩
theorem K.keys : SlLaysZ.n7 Tryz.prog K.keys_ren := {
  mixed := by kernel_rfl
  f7 := ⟨Tryz.f31.name, by decide, Tryz.func31.trans (congrArg some (by kernel_rfl))⟩
  f10 := ⟨Tryz.f59.name, by decide, Tryz.func59.trans (congrArg some (by kernel_rfl))⟩
  t0 := Tryz.underlying0
  a0 := Tryz.isAgg0
  z0 := Tryz.sizeOf0
  v0 := Tryz.zeroValue0
  t4 := Tryz.underlying4
  a4 := Tryz.isAgg4
  z4 := Tryz.sizeOf4
  v4 := Tryz.zeroValue4
  t23 := Tryz.underlying54
  a23 := Tryz.isAgg54
  z23 := Tryz.sizeOf54
  v23 := Tryz.zeroValue54
  t26 := Tryz.underlying9
  a26 := Tryz.isAgg9
  z26 := Tryz.sizeOf9
  v26 := Tryz.zeroValue9
  t27 := Tryz.underlying74
  a27 := Tryz.isAgg74
  z27 := Tryz.sizeOf74
  v27 := Tryz.zeroValue74
  t28 := Tryz.underlying75
  a28 := Tryz.isAgg75
  z28 := Tryz.sizeOf75
  v28 := Tryz.zeroValue75
  t33 := Tryz.underlying113
  a33 := Tryz.isAgg113
  z33 := Tryz.sizeOf113
  v33 := Tryz.zeroValue113 }

def K.sorted_ren : Go.Shelf.Ren := ⟨fun | 6 => 30 | 8 => 57 | 9 => 58 | 11 => 82 | 13 => 84 | 12 => 83 | 23 => 103 | 24 => 104 | 14 => 94 | 15 => 95 | 16 => 96 | 17 => 97 | 18 => 98 | 19 => 99 | 20 => 100 | 21 => 101 | 22 => 102 | 25 => 108 | 26 => 109 | 27 => 110 | 28 => 111 | 29 => 112 | 30 => 113 | 31 => 116 | n => n, fun | 26 => 9 | 28 => 75 | 24 => 43 | 0 => 0 | 3 => 3 | 37 => 136 | 48 => 153 | 50 => 132 | 4 => 4 | 40 => 146 | 39 => 145 | 45 => 120 | 5 => 5 | 9 => 9 | 51 => 157 | 55 => 161 | 57 => 166 | 58 => 167 | 33 => 113 | n => n, fun | n => n⟩
theorem K.sorted : SlLaysZ.n6 Tryz.prog K.sorted_ren := {
  mixed := by kernel_rfl
  f6 := ⟨Tryz.f30.name, by decide, Tryz.func30.trans (congrArg some (by kernel_rfl))⟩
  f8 := ⟨Tryz.f57.name, by decide, Tryz.func57.trans (congrArg some (by kernel_rfl))⟩
  f11 := ⟨Tryz.f82.name, by decide, Tryz.func82.trans (congrArg some (by kernel_rfl))⟩
  t0 := Tryz.underlying0
  a0 := Tryz.isAgg0
  z0 := Tryz.sizeOf0
  v0 := Tryz.zeroValue0
  t24 := Tryz.underlying43
  a24 := Tryz.isAgg43
  z24 := Tryz.sizeOf43
  v24 := Tryz.zeroValue43
  t26 := Tryz.underlying9
  a26 := Tryz.isAgg9
  z26 := Tryz.sizeOf9
  v26 := Tryz.zeroValue9
  t28 := Tryz.underlying75
  a28 := Tryz.isAgg75
  z28 := Tryz.sizeOf75
  v28 := Tryz.zeroValue75
  i26 := by kernel_rfl }

def K.sort_ren : Go.Shelf.Ren := ⟨fun | 6 => 58 | 8 => 84 | 9 => 83 | 19 => 103 | 20 => 104 | 21 => 94 | 22 => 95 | 23 => 96 | 24 => 97 | 25 => 98 | 26 => 99 | 27 => 100 | 28 => 101 | 29 => 102 | 36 => 108 | 31 => 109 | 32 => 110 | 37 => 111 | 38 => 112 | 39 => 113 | 41 => 116 | n => n, fun | 27 => 43 | 29 => 9 | 3 => 3 | 32 => 136 | 26 => 43 | 0 => 0 | 44 => 153 | 46 => 132 | 4 => 4 | 36 => 146 | 35 => 145 | 41 => 120 | 5 => 5 | 9 => 9 | 53 => 157 | 57 => 161 | 63 => 166 | 64 => 167 | n => n, fun | n => n⟩
theorem K.sort : SlLaysM.n6 Tryz.prog K.sort_ren := {
  mixed := by kernel_rfl
  f6 := ⟨Tryz.f58.name, by decide, Tryz.func58.trans (congrArg some (by kernel_rfl))⟩
  f8 := Tryz.func84.trans (congrArg some (by kernel_rfl))
  f9 := ⟨Tryz.f83.name, by decide, Tryz.func83.trans (congrArg some (by kernel_rfl))⟩
  f19 := Tryz.func103.trans (congrArg some (by kernel_rfl))
  f20 := Tryz.func104.trans (congrArg some (by kernel_rfl))
  f21 := ⟨Tryz.f94.name, by decide, Tryz.func94.trans (congrArg some (by kernel_rfl))⟩
  f22 := ⟨Tryz.f95.name, by decide, Tryz.func95.trans (congrArg some (by kernel_rfl))⟩
  f23 := ⟨Tryz.f96.name, by decide, Tryz.func96.trans (congrArg some (by kernel_rfl))⟩
  f24 := ⟨Tryz.f97.name, by decide, Tryz.func97.trans (congrArg some (by kernel_rfl))⟩
  f25 := ⟨Tryz.f98.name, by decide, Tryz.func98.trans (congrArg some (by kernel_rfl))⟩
  f26 := ⟨Tryz.f99.name, by decide, Tryz.func99.trans (congrArg some (by kernel_rfl))⟩
  f27 := ⟨Tryz.f100.name, by decide, Tryz.func100.trans (congrArg some (by kernel_rfl))⟩
  f28 := ⟨Tryz.f101.name, by decide, Tryz.func101.trans (congrArg some (by kernel_rfl))⟩
  f29 := ⟨Tryz.f102.name, by decide, Tryz.func102.trans (congrArg some (by kernel_rfl))⟩
  f31 := Tryz.func109.trans (congrArg some (by kernel_rfl))
  f32 := Tryz.func110.trans (congrArg some (by kernel_rfl))
  f36 := ⟨Tryz.f108.name, by decide, Tryz.func108.trans (congrArg some (by kernel_rfl))⟩
  f37 := ⟨Tryz.f111.name, by decide, Tryz.func111.trans (congrArg some (by kernel_rfl))⟩
  f38 := ⟨Tryz.f112.name, by decide, Tryz.func112.trans (congrArg some (by kernel_rfl))⟩
  f39 := ⟨Tryz.f113.name, by decide, Tryz.func113.trans (congrArg some (by kernel_rfl))⟩
  f41 := ⟨Tryz.f116.name, by decide, Tryz.func116.trans (congrArg some (by kernel_rfl))⟩
  t0 := Tryz.underlying0
  a0 := Tryz.isAgg0
  z0 := Tryz.sizeOf0
  v0 := Tryz.zeroValue0
  t3 := Tryz.underlying3
  a3 := Tryz.isAgg3
  z3 := Tryz.sizeOf3
  v3 := Tryz.zeroValue3
  t4 := Tryz.underlying4
  a4 := Tryz.isAgg4
  z4 := Tryz.sizeOf4
  v4 := Tryz.zeroValue4
  t5 := Tryz.underlying5
  a5 := Tryz.isAgg5
  z5 := Tryz.sizeOf5
  v5 := Tryz.zeroValue5
  t9 := Tryz.underlying9
  a9 := Tryz.isAgg9
  z9 := Tryz.sizeOf9
  v9 := Tryz.zeroValue9
  t26 := Tryz.underlying43
  a26 := Tryz.isAgg43
  z26 := Tryz.sizeOf43
  v26 := Tryz.zeroValue43
  t27 := Tryz.underlying43
  a27 := Tryz.isAgg43
  z27 := Tryz.sizeOf43
  v27 := Tryz.zeroValue43
  t29 := Tryz.underlying9
  a29 := Tryz.isAgg9
  z29 := Tryz.sizeOf9
  v29 := Tryz.zeroValue9
  t32 := Tryz.underlying136
  a32 := Tryz.isAgg136
  z32 := Tryz.sizeOf136
  v32 := Tryz.zeroValue136
  t35 := Tryz.underlying145
  a35 := Tryz.isAgg145
  z35 := Tryz.sizeOf145
  v35 := Tryz.zeroValue145
  t36 := Tryz.underlying146
  a36 := Tryz.isAgg146
  z36 := Tryz.sizeOf146
  v36 := Tryz.zeroValue146
  t41 := Tryz.underlying120
  a41 := Tryz.isAgg120
  z41 := Tryz.sizeOf120
  v41 := Tryz.zeroValue120
  t44 := Tryz.underlying153
  a44 := Tryz.isAgg153
  z44 := Tryz.sizeOf153
  v44 := Tryz.zeroValue153
  t46 := Tryz.underlying132
  a46 := Tryz.isAgg132
  z46 := Tryz.sizeOf132
  v46 := Tryz.zeroValue132
  t53 := Tryz.underlying157
  a53 := Tryz.isAgg157
  z53 := Tryz.sizeOf157
  v53 := Tryz.zeroValue157
  t57 := Tryz.underlying161
  a57 := Tryz.isAgg161
  z57 := Tryz.sizeOf161
  v57 := Tryz.zeroValue161
  t63 := Tryz.underlying166
  a63 := Tryz.isAgg166
  z63 := Tryz.sizeOf166
  v63 := Tryz.zeroValue166
  t64 := Tryz.underlying167
  a64 := Tryz.isAgg167
  z64 := Tryz.sizeOf167
  v64 := Tryz.zeroValue167 }

namespace K
theorem sorts (m : Nat) : AnyZ.SortsIn Tryz.prog K.sorted_ren Fence.wide m :=
  ⟨fun blk off cap ss W hH hblk hsz => callsIn_wide.2 (AnyM.slices_Sort_string K.sort blk off cap ss W hH hblk hsz),
   fun p cap W => callsIn_wide.2 (AnyM.slices_Sort_string_none K.sort p cap W)⟩
theorem keys_call (mb : Option Nat) (W : World) : Calls Tryz.prog 31 #[.map mb] W fun e w' => e = .returned (.func (.func 59) #[] #[.pointer (some ⟨W.heap.size, 0, none⟩)]) ∧ w' = W.alloc (.cells #[.map mb] 54) :=
  (callsIn_wide (n := 5)).1 (AnyZ.keys_in K.keys Fence.wide 5 trivial rfl mb W)
set_option maxHeartbeats 1000000 in
theorem sorted_call {H : Type} (b nn : Nat) (D0 : DataW H) (R : Value → Option (DataW H × List MemPlace)) (w : World) (hown : w.ownsMap Tryz.prog 9 R b nn D0) (hmax : Maps.size D0 ≤ maxLen) (hbytes : Maps.size D0 * 16 ≤ 140737488355328) :
    Calls Tryz.prog 30 #[.func (.func 59) #[] #[.pointer (some ⟨w.heap.size, 0, none⟩)]] (w.alloc (.cells #[.map (some b)] 54)) fun e w' => ∃ (v : Value) (ss : List (List UInt8)), e = .returned v ∧ ss.Perm (strKeys D0) ∧
      w'.ownsRow (w.alloc (.cells #[.map (some b)] 54)).heap.size 9 1 v ss.length ((ss.mergeSort (fun x y => decide (x ≤ y))).map encStr) ∧ (v = .slice none 0 0 ↔ ss = []) ∧ Below (w.alloc (.cells #[.map (some b)] 54)).heap.size (w.alloc (.cells #[.map (some b)] 54)) w' := by
  have hbl := hown.lt
  have hseq : SeqGives Fence.wide 2 Tryz.prog 59 #[.pointer (some ⟨w.heap.size, 0, none⟩)] encStr (fun ss => ss.Perm (strKeys D0)) (Maps.size D0) (w.alloc (.cells #[.map (some b)] 54)) :=
    AnyZ.keys_gives (ρ := K.keys_ren) { K.keys with } Fence.wide _ trivial rfl (by omega) w.heap.size b nn D0 _ (by simp) (by simp) (by
      obtain ⟨es, clock, hb, Ft, hs, hD⟩ := hown
      exact ⟨es, clock, (Below.heap_alloc _ _ b hbl).trans hb, Ft, hs, hD⟩)
  exact (callsIn_wide (n := 5)).1 (AnyZ.sorted_in K.sorted Fence.wide 5 trivial trivial trivial trivial rfl (by omega) (K.sorts _) (enters_of Tryz.func58 (by kernel_rfl) rfl) 59 #[.pointer (some ⟨w.heap.size, 0, none⟩)] trivial (enters_of Tryz.func59 (by kernel_rfl) rfl) _ _ hmax hbytes _ hseq)
end K
namespace Tx
/-- texts, as elements of a slice -/
abbrev k : Kind ByteArray := ⟨43, 9, 1, 16, .string ⟨#[]⟩, fun x => [.string x]⟩
theorem ok : Tx.k.Ok where
  under := Tryz.underlying43
  elem := by kernel_rfl
  info := by kernel_rfl
  zs := by kernel_rfl
  pos := by decide
  len := fun _ => rfl
  one := fun x u h => by simp at h; subst h; rfl
  small := by decide
theorem flat_ab (ss : List (List UInt8)) : Sl.flat Tx.k (ss.map Grp.ab) = ss.map encStr := by
  induction ss with
  | nil => rfl
  | cons x ss ih => simp only [Sl.flat, List.map_cons, List.flatMap_cons] at ih ⊢; rw [ih]; rfl
end Tx
namespace Grp
open Small Foot Pane
theorem own_base_row {base base' : Nat} {w : World} {e : TypeId} {k : Nat} {v : Value} {n : Nat} {xs : List Value} (h : w.ownsRow base e k v n xs) (hb : base' ≤ base) : w.ownsRow base' e k v n xs := by
  refine ⟨h.1, ?_⟩
  rcases h.2 with h | ⟨g, cap, cur, h1, h2, h3⟩
  · exact .inl h
  · exact .inr ⟨g, cap, cur, h1, by omega, h3⟩
/-- is a text ahead of another one -/
abbrev Lt (x y : ByteArray) : Prop := Op.bytesLess x.toList y.toList = true
theorem lt_ab {x y : List UInt8} : Lt (ab x) (ab y) ↔ x < y := by
  unfold Lt
  rw [bytesLess_eq, decide_eq_true_iff]
  simp [ab, ByteArray.toList_eq]
/-- keys by rising bytes, just those that have panes -/
structure KeysOf (S : Lists) (ks : List ByteArray) : Prop where
  up : ks.Pairwise Lt
  mem : ∀ x, x ∈ ks ↔ S x ≠ []
theorem up_one : ∀ {a b : List ByteArray}, a.Pairwise Lt → b.Pairwise Lt → (∀ x, x ∈ a ↔ x ∈ b) → a = b
  | [], [], _, _, _ => rfl
  | [], y :: b, _, _, h => by have := (h y).2 (by simp); cases this
  | x :: a, [], _, _, h => by have := (h x).1 (by simp); cases this
  | x :: a, y :: b, h1, h2, h => by
    obtain ⟨p1, p2⟩ := List.pairwise_cons.1 h1
    obtain ⟨q1, q2⟩ := List.pairwise_cons.1 h2
    have irr : ∀ z : ByteArray, ¬ Lt z z := fun z hz => by
      unfold Lt at hz; rw [Tmr.bl_irrefl] at hz; cases hz
    have hxy : x = y := by
      rcases List.mem_cons.1 ((h x).1 (by simp)) with e | hx
      · exact e
      · rcases List.mem_cons.1 ((h y).2 (by simp)) with e | hy
        · exact e.symm
        · exact absurd (Tmr.bl_trans _ _ _ (q1 x hx) (p1 y hy)) (irr y)
    subst hxy
    rw [up_one p2 q2 fun z => ⟨fun hz => by
      rcases List.mem_cons.1 ((h z).1 (by simp [hz])) with e | hz'
      · subst e; exact absurd (p1 z hz) (irr z)
      · exact hz', fun hz => by
      rcases List.mem_cons.1 ((h z).2 (by simp [hz])) with e | hz'
      · subst e; exact absurd (q1 z hz) (irr z)
      · exact hz'⟩]
set_option maxRecDepth 100000 in
set_option maxHeartbeats 1000000 in
theorem due_ok {g m tg n cnt : Nat} {cf : C8} {S : Lists} {M : Tmr.Tm → Prop} {fm : ByteArray → Option Value} {FT Bk : Nat → Prop} (w : World) (H : Hid (Gq w g m tg cf S M n cnt fm FT Bk)) :
    Calls Tryz.prog 15 #[gp g] w fun r w' => r = .returned (.int .i64 n) ∧ w = w' := by
  have c9 := H.out.lies.cell (i := 9) rfl
  go_enter Tryz.func15, Tryz.ntmps15
  go_wp2_with fail
  refine (Tmr.len_foot w (Lib.hid H.out.ts)).mono ?_
  rintro r w1 ⟨rfl, rfl⟩
  go_wp2
  go_ret
  exact ⟨rfl, rfl⟩
set_option maxRecDepth 100000 in
set_option maxHeartbeats 4000000 in
theorem keys_ok {g m tg n cnt : Nat} {cf : C8} {S : Lists} {fm : ByteArray → Option Value} {FT Bk : Nat → Prop} (w : World) (H : Hid (Gq w g m tg cf S (duesOf S) n cnt fm FT Bk)) (F : Hid (Fine S)) (hc : cnt ≤ 1048576) :
    Calls Tryz.prog 12 #[gp g] w fun r w' => ∃ v ks, r = .returned v ∧ KeysOf S ks ∧ Sl.Own Tx.k w.heap.size w' v ks ∧ Below w.heap.size w w' := by
  obtain ⟨D, hown, hsz, hD⟩ := H.out.map
  have c8 := H.out.lies.cell (i := 8) rfl
  have HO := Lib.hid hown
  have HD := Lib.hid hD
  clear hown hD
  go_enter Tryz.func12, Tryz.ntmps12
  go_wp2_with fail
  refine (K.keys_call (some m) w).mono ?_
  rintro r w1 ⟨rfl, rfl⟩
  go_wp2_with fail
  refine (K.sorted_call m cnt D RV w HO.out (by unfold maxLen; omega) (by omega)).mono ?_
  rintro r w2 ⟨v, ss, rfl, hp, hrow, -, hb⟩
  have fin : KeysOf S ((ss.mergeSort (fun x y => decide (x ≤ y))).map ab) := by
    obtain ⟨es, hes, hpw, _⟩ := HO.out.entries keyed
    obtain ⟨es', hes', hko⟩ := HO.out.keysOf
    obtain rfl : es = es' := by rw [hes] at hes'; simpa using hes'
    subst hes
    have hk : ∀ p ∈ es, ∃ x, p.1 = .string x := fun p hp => by
      obtain ⟨v, hv⟩ := hko p hp
      obtain ⟨x, _, hx, _⟩ := Maps.keyOf_str Tryz.underlying9 hv
      exact ⟨x, hx⟩
    have nd : (strKeys (.map es)).Nodup := by
      show (es.map fun p => strOf p.1).Nodup
      refine List.pairwise_map.2 (hpw.imp_of_mem fun {p q} hp' hq' hne e => hne ?_)
      obtain ⟨a, ha⟩ := hk p hp'
      obtain ⟨b, hb⟩ := hk q hq'
      rw [ha, hb] at e ⊢
      exact congrArg _ e
    have hmem : ∀ x, x ∈ strKeys (.map es) ↔ has (.map es) (.string x) = true := fun x => by
      rw [has_eq, List.any_eq_true]
      show x ∈ es.map (fun p => strOf p.1) ↔ _
      rw [List.mem_map]
      constructor
      · rintro ⟨p, hp', rfl⟩
        obtain ⟨a, ha⟩ := hk p hp'
        exact ⟨p, hp', by rw [ha]; simp [Lit.sameKey, strOf]⟩
      · rintro ⟨p, hp', hs⟩
        obtain ⟨a, ha⟩ := hk p hp'
        rw [ha] at hs
        exact ⟨p, hp', by rw [ha]; simpa [Lit.sameKey, strOf] using hs⟩
    have hle := strKeys_le HO.out Tryz.underlying9
    have perm := (List.mergeSort_perm ss (fun x y => decide (x ≤ y))).trans hp
    have tr : ∀ a b c : List UInt8, decide (a ≤ b) = true → decide (b ≤ c) = true → decide (a ≤ c) = true := fun a b c h1 h2 => by simp only [decide_eq_true_eq] at *; exact List.le_trans h1 h2
    have ttl : ∀ a b : List UInt8, (decide (a ≤ b) || decide (b ≤ a)) = true := fun a b => by simp only [Bool.or_eq_true, decide_eq_true_eq]; exact List.le_total a b
    have hs := List.pairwise_mergeSort (le := fun x y => decide (x ≤ y)) tr ttl ss
    have nd2 : (ss.mergeSort (fun x y => decide (x ≤ y))).Nodup := perm.symm.nodup nd
    refine ⟨List.pairwise_map.2 ((hs.and nd2).imp fun {a b} h => ?_), fun x => ?_⟩
    · rw [lt_ab]
      have h1 : a ≤ b := by simpa using h.1
      by_cases q : a < b
      · exact q
      · exact absurd (List.le_antisymm h1 (List.not_lt.1 q)) h.2
    · rw [List.mem_map]
      constructor
      · rintro ⟨y, hy, rfl⟩
        have hy2 := perm.mem_iff.1 hy
        have hl := hle y hy2
        have hh := (hmem y).1 hy2
        have hDy := HD.out (ab y) (by simpa [ab, ByteArray.size] using hl)
        rw [kl_ab hl] at hDy
        intro e
        rcases H.out.lists (ab y) with q | q
        · rw [hDy.1 q.2] at hh; cases hh
        · exact q.1 e
      · intro hx
        obtain ⟨p, hp'⟩ := List.exists_mem_of_ne_nil _ hx
        have hfit := (H.out.ts.fits (x := tmOf p) ⟨p, by rw [show (tmOf p).key = x from F.out.key _ p hp']; exact hp', rfl, rfl⟩).1
        rw [show (tmOf p).key = x from F.out.key _ p hp'] at hfit
        obtain ⟨u, b, hu, -⟩ := H.out.has hx
        have h1 := ((HD.out x hfit).2 u hu).1
        refine ⟨x.data.toList, perm.mem_iff.2 ((hmem _).2 ?_), ab_of x⟩
        rw [← kl_ab (x := x.data.toList) (by rw [Array.length_toList]; exact hfit), ab_of]
        exact h1
  have row : Sl.Own Tx.k w.heap.size w2 v ((ss.mergeSort (fun x y => decide (x ≤ y))).map ab) := by
    have h := own_base_row hrow (Below.size (below1 w (.cells #[.map (some m)] 54)))
    unfold Sl.Own
    rw [Tx.flat_ab, List.length_map, List.length_mergeSort]
    exact h
  have FI := Lib.hid fin
  have RO := Lib.hid row
  have BE := Lib.hid (after (below1 w (.cells #[.map (some m)] 54)) hb)
  clear hp hrow hb fin row
  go_wp2
  go_ret
  exact ⟨v, _, rfl, FI.out, RO.out, BE.out⟩
end Grp
end Go.Proofs.YtbdocnkpjlpfmaaGreat
