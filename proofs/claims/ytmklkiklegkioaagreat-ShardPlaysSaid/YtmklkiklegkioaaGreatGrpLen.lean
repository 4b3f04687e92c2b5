/-
  group's Len, and Due: how many panes there are, which is how many timers.
-/
import Derived.Test.YtmklkiklegkioaaGreatGrpSettle
import Derived.Maps.RangeWalk
import Derived.Sort.KeysCollected
namespace Go.Proofs.YtmklkiklegkioaaGreat
open Go.ChangeShapes Go.WideShapes Go.ChangeAt Go.RowKit
namespace Grp
open Small Foot Pane
set_option linter.unusedVariables false

/-- a key, as the list of its bytes -/
abbrev ab (x : List UInt8) : ByteArray := ⟨x.toArray⟩
theorem ab_inj {x y : List UInt8} (h : ab x = ab y) : x = y := by simpa [ab] using h
theorem ab_of (x : ByteArray) : ab x.data.toList = x := by simp [ab]
/-- how many panes some keys have -/
def tot (S : Lists) (ss : List (List UInt8)) : Nat := (ss.map fun x => (S (ab x)).length).sum
theorem tot_snoc (S : Lists) (ss : List (List UInt8)) (x : List UInt8) : tot S (ss ++ [x]) = tot S ss + (S (ab x)).length := by simp [tot, List.sum_append]
def tms (S : Lists) (ss : List (List UInt8)) : List Tmr.Tm := ss.flatMap fun x => (S (ab x)).map tmOf
theorem tms_len (S : Lists) (ss : List (List UInt8)) : (tms S ss).length = tot S ss := by
  induction ss with
  | nil => rfl
  | cons x ss ih => simp only [tms, tot, List.flatMap_cons, List.length_append, List.length_map, List.map_cons, List.sum_cons] at ih ⊢; rw [ih]
theorem tms_mem {S : Lists} (h : Fine S) {ss : List (List UInt8)} {y : Tmr.Tm} : y ∈ tms S ss ↔ ∃ x ∈ ss, ab x = y.key ∧ duesOf S y := by
  simp only [tms, List.mem_flatMap, List.mem_map, duesOf]
  constructor
  · rintro ⟨x, hx, p, hp, rfl⟩
    have e := h.key _ p hp
    exact ⟨x, hx, e.symm, p, by rw [show (tmOf p).key = ab x from e]; exact hp, rfl, rfl⟩
  · rintro ⟨x, hx, e, p, hp, h1, h2⟩
    refine ⟨x, hx, p, e ▸ hp, ?_⟩
    have := h.key _ p hp
    cases y
    simp only at this h1 h2
    subst h1 h2
    simp [this]
theorem tms_nodup {S : Lists} (h : Fine S) {ss : List (List UInt8)} (hs : ss.Nodup) : (tms S ss).Nodup := by
  induction ss with
  | nil => exact List.nodup_nil
  | cons x ss ih =>
    obtain ⟨h1, h2⟩ := List.nodup_cons.1 hs
    simp only [tms, List.flatMap_cons]
    refine List.nodup_append.2 ⟨List.pairwise_map.2 ((h.rises (ab x)).imp fun {a b} hab e => ?_), ih h2, fun a ha b hb e => ?_⟩
    · have e1 := congrArg Tmr.Tm.s e
      have e2 := congrArg Tmr.Tm.e e
      simp only [Ah] at hab
      simp only at e1 e2
      omega
    · subst e
      obtain ⟨p, hp, rfl⟩ := List.mem_map.1 ha
      obtain ⟨y, hy, hk, -⟩ := (tms_mem (ss := ss) h).1 hb
      have := h.key _ p hp
      exact h1 (ab_inj (hk.trans this) ▸ hy)
/-- there are just as many timers as panes -/
theorem Gq.total {w : World} {g m tg n cnt : Nat} {cf : C8} {S : Lists} {f : ByteArray → Option Value} {FT Bk : Nat → Prop} (h : Gq w g m tg cf S (duesOf S) n cnt f FT Bk) (F : Fine S) {ss : List (List UInt8)} (hs : ss.Nodup) :
    tot S ss ≤ n ∧ ((∀ x, S (ab x) ≠ [] → x ∈ ss) → tot S ss = n) := by
  obtain ⟨m', r, hf, hr, t, v, p, q, hh, hm⟩ := h.ts
  have nd : ((List.range n).map t).Nodup := by
    refine List.pairwise_map.2 ((List.nodup_range (n := n)).imp_of_mem fun {a b} ha hb hab e => hab ?_)
    exact q.inj (List.mem_range.1 ha) (List.mem_range.1 hb) e
  have sub : ∀ y, y ∈ tms S ss → y ∈ (List.range n).map t := fun y hy => by
    obtain ⟨x, hx, e, d⟩ := (tms_mem F).1 hy
    obtain ⟨k, hk, e2⟩ := (hm y).1 d
    exact List.mem_map.2 ⟨k, List.mem_range.2 hk, e2⟩
  have l1 := List.Nodup.length_le_of_subset (tms_nodup F hs) sub
  rw [tms_len, List.length_map, List.length_range] at l1
  refine ⟨l1, fun hall => ?_⟩
  have sub2 : ∀ y, y ∈ (List.range n).map t → y ∈ tms S ss := fun y hy => by
    obtain ⟨k, hk, e⟩ := List.mem_map.1 hy
    have d := (hm y).2 ⟨k, List.mem_range.1 hk, e⟩
    refine (tms_mem F).2 ⟨y.key.data.toList, hall _ ?_, ab_of _, d⟩
    rw [ab_of]
    obtain ⟨p, hp, -⟩ := d
    exact fun e => by rw [e] at hp; cases hp
  have l2 := List.Nodup.length_le_of_subset nd sub2
  rw [tms_len, List.length_map, List.length_range] at l2
  omega

theorem kl_ab {x : List UInt8} (h : x.length ≤ maxLen) : kl (ab x) = .string x := by
  have h1 := kl_ok (x := ab x) (by simpa [ab, ByteArray.size] using h)
  obtain ⟨y, e, e2, -⟩ := Maps.keyOf_str Tryz.underlying9 h1
  rw [e2]
  have : x = y := by
    have := Value.string.inj e
    exact ab_inj this
  rw [this]

set_option maxRecDepth 100000 in
set_option maxHeartbeats 4000000 in
theorem len_ok {g m tg n cnt : Nat} {cf : C8} {S : Lists} {fm : ByteArray → Option Value} {FT Bk : Nat → Prop} (w : World) (H : Hid (Gq w g m tg cf S (duesOf S) n cnt fm FT Bk)) (F : Hid (Fine S)) :
    Calls Tryz.prog 37 #[gp g] w fun r w' => r = .returned (.int .i64 n) ∧ Below w.heap.size w w' := by
  obtain ⟨D, hown, hsz, hD⟩ := H.out.map
  have hD := Lib.hid hD
  have c8 := H.out.lies.cell (i := 8) rfl
  have hfew := H.out.few
  have hlt := hown.lt
  go_enter Tryz.func37, Tryz.ntmps37
  go_wp2_with (first
    | (at_range; refine wpList_range_own _ rfl _ 101 rfl 9 38 keyed Tryz.underlying101 RV m cnt D rfl hown ?_; intro w0 hrg0 hg0 hs0)
    | fail)
  go_frame
  go_loopw [3] (fun sc wr => ∃ (left : Lit → Bool) (c : Nat) (ss : List (List UInt8)), wr.ranges Tryz.prog 9 RV m w.heap.size cnt D left c ∧ Collected D left ss ∧ sc = .int .i64 (tot S ss) ∧ Below w.heap.size w wr)
    (fun _ wr => wr.rangeLeft m w.heap.size)
  case atStart => exact ⟨_, _, [], hrg0, Collected.start D, rfl, (Below.refl _ _).grown hg0 (Nat.le_refl _) (fun j hj => by cases hj)⟩
  case round =>
    obtain ⟨left, c, ss, hrg, hC, rfl, hnx⟩ := hrel
    have hT := H.out.total F.out hC.1
    have hT1 := hT.1
    go_wp2_with (first
      | (at_next; refine wpList_next_ranges _ rfl _ rfl 9 keyed RV encStr (fun v => v) (fun key kl hk => by obtain ⟨x, hx, _⟩ := Maps.keyOf_str Tryz.underlying9 hk; exact ⟨x, hx⟩) (fun v y hv => ⟨v, rfl⟩) m w.heap.size cnt _ _ _ rfl hrg ?_ ?_)
      | fail)
    · intro hc0 hl0
      have fin : tot S ss = n := hT.2 fun x hx => by
        rw [hC.2 x, hl0]
        refine ⟨?_, rfl⟩
        obtain ⟨p, hp⟩ := List.exists_mem_of_ne_nil _ hx
        have hfit := (H.out.ts.fits (x := tmOf p) ⟨p, by rw [show (tmOf p).key = ab x from F.out.key _ p hp]; exact hp, rfl, rfl⟩).1
        rw [show (tmOf p).key = ab x from F.out.key _ p hp] at hfit
        obtain ⟨v, b, hv, -⟩ := H.out.has hx
        have := ((hD.out (ab x) hfit).2 v hv).1
        rwa [kl_ab (by simpa [ab, ByteArray.size] using hfit)] at this
      rw [fin]
      go_wp2
      go_ret
      exact ⟨rfl, hnx⟩
    · intro x v kl' y ys w1 c1 hkey hlk hv hv2 hat hrg1 hlt1 hg1 hs1 hen
      obtain ⟨x', ex, rfl, hl⟩ := Maps.keyOf_str Tryz.underlying9 hkey
      obtain rfl : x = x' := encStr_inj ex
      have hxs : (ab x).size ≤ maxLen := by simpa [ab, ByteArray.size] using hl
      have hhas : Maps.has D (.string x) = true := Maps.has_true_of_atKey hat
      have hDx := hD.out (ab x) hxs
      rw [kl_ab hl] at hDx
      obtain ⟨u, hu⟩ : ∃ u, fm (ab x) = some u := by
        cases hf : fm (ab x) with
        | none => rw [hDx.1 hf] at hhas; cases hhas
        | some u => exact ⟨u, rfl⟩
      have hvu : v = u := by
        have h1 := (hDx.2 u hu).2 .nil
        rw [hat .nil] at h1
        rw [← hv] at h1
        injection h1
      subst hvu
      have hne : S (ab x) ≠ [] := fun e => by
        rcases H.out.lists (ab x) with q | q
        · rw [q.2] at hu; cases hu
        · exact q.1 e
      obtain ⟨v2, b, hv2, hI, -⟩ := H.out.has hne
      rw [hu] at hv2
      obtain rfl := Option.some.inj hv2
      obtain ⟨A, cap, rfl⟩ := hI.len
      have hC1 := hC.step hlk hat
      have hT2 := (H.out.total F.out hC1.1).1
      rw [tot_snoc] at hT2
      have hsum : (tot S ss : Int) + ((S (ab x)).length : Int) = (tot S (ss ++ [x]) : Nat) := by rw [tot_snoc]; omega
      have hb0 : (0 : Int) ≤ (tot S ss : Int) := by omega
      have hb1 : (0 : Int) ≤ ((S (ab x)).length : Int) := by omega
      have hb2 : (tot S ss : Int) + ((S (ab x)).length : Int) ≤ 1048576 := by omega
      clear hs1 hT hT1 hI
      go_wp2_with fail
      go_roundw
      case rel => exact ⟨_, c1, ss ++ [x], hrg1, hC1, by rw [← hsum], hnx.grown hg1 hnx.size (fun j hj => by cases hj; exact Nat.le_refl _)⟩
      case measure => rw [hrg1.left_eq, hrg.left_eq]; exact hlt1
end Grp
end Go.Proofs.YtmklkiklegkioaaGreat
