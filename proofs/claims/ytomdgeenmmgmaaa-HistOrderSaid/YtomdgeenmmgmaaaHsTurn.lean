/-
  hist.apart, hist.inTurn and hist.Fine.
-/
import Derived.Test.YtomdgeenmmgmaaaHsOrder
import Derived.Maps.OwnSet
import Derived.Maps.Ext
import Derived.Deep.QuietTactic
namespace Go.Proofs.Ytomdgeenmmgmaaa
open Go.ChangeShapes Go.WideShapes Go.ChangeAt Go.RowKit
set_option maxRecDepth 100000
set_option linter.unusedVariables false
namespace Hs
open Small
theorem below_drewN (b : Nat) (w : World) (n : Nat) : Below b w (w.drewN n) := ⟨rfl, rfl, rfl, Nat.le_refl _, fun _ _ => rfl⟩
/-! ### a list of places in memory -/
theorem nums_at {w : World} {v : Value} {l : List Nat} {b : Nat} (h : Sl.Is Nk w v l b) : ∃ A cap, v = .slice A l.length cap ∧ Hid (∀ i, i < l.length → ∃ off, A = some ⟨b, off, none⟩ ∧ b < w.heap.size ∧ w.cell? ⟨b, off + i, none⟩ = some (.int .i64 (O l i : Int))) := by
  obtain ⟨A, cap, hv⟩ := h.len
  refine ⟨A, cap, hv, Lib.hid fun i hi => ?_⟩
  obtain ⟨off, cap', hv', _, _, hb, hc⟩ := h.some_ nok (by omega)
  rw [hv] at hv'
  have e : A = some ⟨b, off, none⟩ := by injection hv'
  refine ⟨off, e, hb, ?_⟩
  have := hc i (O l i) (by rw [O_at hi]; simp [hi]) 0 _ rfl
  simpa using this

set_option maxHeartbeats 1600000 in
theorem apart_ok (v : Value) (L : List Ev) (w : World) (H : Hid (Evs w v L)) (hn : L.length ≤ 1000) :
    Calls Try.prog 13 #[v] w fun r w' => Tells (Nb L (ord L L.length)) r ∧ Below w.heap.size w w' := by
  obtain ⟨A, cap, rfl, HA⟩ := H.out.lit
  have hn' := hn
  go_enter Try.func13, Try.ntmps13
  go_wp2_with fail
  refine (order_ok _ L w H hn').mono ?_
  rintro r w1 ⟨v1, b1, rfl, hb1, i1, k1⟩
  obtain ⟨n, hn2⟩ : ∃ n, L.length = n := ⟨_, rfl⟩
  rw [hn2] at hn
  obtain ⟨o, ho⟩ : ∃ o, ord L L.length = o := ⟨_, rfl⟩
  rw [ho] at i1
  obtain ⟨B, capo, rfl, HO⟩ := nums_at i1
  have K1 : Hid (Below w.heap.size w w1) := k1
  have HR : Hid (ord L L.length = o) := ho
  have HM : Hid (∀ i, i < o.length → O o i < n) := Lib.hid fun i hi => by
    have := get_ord (L := L) (k := L.length) (i := i) (by rw [ho]; exact hi)
    rw [ho] at this
    have h2 : O o i ∈ ord L L.length := by rw [ho]; exact this
    rw [← hn2]; exact (mem_ord.1 h2).1
  have HT : Hid (∀ r, Tells (Nb L o) r → Tells (Nb L (ord L L.length)) r) := Lib.hid fun r h => by rw [ho]; exact h
  have hle : o.length ≤ n := by rw [← ho, ← hn2]; exact ord_le L _
  obtain ⟨m, hm⟩ : ∃ m, o.length = m := ⟨_, rfl⟩
  rw [hm] at hle ⊢
  have HN : Hid (L.length = n ∧ o.length = m) := ⟨hn2, hm⟩
  clear i1 k1 ho hm hb1 H hn'
  rw [hn2]
  clear hn2
  go_wp2
  go_loopg [10] m (fun g s10 wr => ∃ i : Nat, s10 = .int .i64 i ∧ i ≤ m ∧ m - i ≤ g ∧ Hid (∀ j, j + 1 < i → (E L (O o j)).p ≠ (E L (O o (j + 1))).p) ∧ Hid (Below w1.heap.size w1 wr))
  case atStart => exact ⟨0, rfl, Nat.zero_le _, Nat.le_refl _, Lib.hid fun j hj => by omega, Lib.hid (Below.refl _ _)⟩
  case round =>
    obtain ⟨i, rfl, him, hg, HB, HK⟩ := hrel
    by_cases hlt : i < m
    · have hltz : (i : Int) < (m : Int) := by omega
      obtain ⟨off, rfl, hb, hc⟩ := HO.out i (by rw [HN.out.2]; exact hlt)
      have hc1 := cell_keep HK.out hc
      clear hc
      obtain ⟨x, hx⟩ : ∃ x, O o i = x := ⟨_, rfl⟩
      have hxn : x < n := by rw [← hx]; exact HM.out i (by rw [HN.out.2]; exact hlt)
      rw [hx] at hc1
      have HX : Hid (O o i = x) := hx
      clear hx
      by_cases h0 : i = 0
      · subst h0
        rw [Nat.add_zero] at hc1
        go_wp2_with fail
        go_quiet (fail)
        go_wp2
        go_roundg (m - 1)
        case measure => omega
        case rel => exact ⟨1, by go_num, by omega, Nat.le_refl _, Lib.hid fun j hj => by omega, Lib.hid (HK.out.trans (below_drewN _ _ _))⟩
      · obtain ⟨t, rfl⟩ : ∃ t, i = t + 1 := ⟨i - 1, by omega⟩
        obtain ⟨off', e', hb', hc'⟩ := HO.out t (by rw [HN.out.2]; omega)
        obtain rfl : off = off' := by injection e' with e'; injection e'
        have hc2 := cell_keep HK.out hc'
        obtain ⟨y, hy⟩ : ∃ y, O o t = y := ⟨_, rfl⟩
        have hyn : y < n := by rw [← hy]; exact HM.out t (by rw [HN.out.2]; omega)
        rw [hy] at hc2
        have HY : Hid (O o t = y) := hy
        clear hy hc' e' hb'
        obtain ⟨be, ofe, rfl, hbe, e1⟩ := HA.out x (by rw [HN.out.1]; exact hxn)
        obtain ⟨be', ofe', e', hbe', e2⟩ := HA.out y (by rw [HN.out.1]; exact hyn)
        obtain ⟨rfl, rfl⟩ : be = be' ∧ ofe = ofe' := by injection e' with e'; injection e' with e1 e2; exact ⟨e1, e2⟩
        have p1 := cell_keep (after K1.out HK.out) e1.p
        have p2 := cell_keep (after K1.out HK.out) e2.p
        clear e1 e2 e' hbe'
        obtain ⟨a, ha⟩ : ∃ a, (E L x).p = a := ⟨_, rfl⟩
        obtain ⟨b, hb2⟩ : ∃ b, (E L y).p = b := ⟨_, rfl⟩
        rw [ha] at p1
        rw [hb2] at p2
        have HP : Hid ((E L x).p = a ∧ (E L y).p = b) := ⟨ha, hb2⟩
        clear ha hb2
        have bx : (x : Int) < (n : Int) := by omega
        have by_ : (y : Int) < (n : Int) := by omega
        have bt : (t : Int) + 1 < (m : Int) := by omega
        have bt2 : (t : Int) < (m : Int) := by omega
        have pt : (0 : Int) < (t : Int) + 1 := by omega
        have pt2 : (0 : Int) ≤ (t : Int) + 1 := by omega
        have et : ((t : Int) + 1).toNat = t + 1 := by omega
        have wt : IntKind.i64.wrap ((t : Int) + 1 - 1) = (t : Int) := by rw [IntKind.wrap_i64]; omega
        by_cases hab : b = a
        · have he : (b == a) = true := by simp [hab]
          have HE : Hid (b = a) := hab
          clear hab
          go_wp2_with fail
          go_quiet (fail)
          go_wp2
          go_ret
          exact ⟨HT.out _ ⟨false, rfl, by simp; intro h; have := h t (by have := HN.out; omega); rw [HX.out, HY.out, HP.out.1, HP.out.2] at this; exact this HE.out⟩, after K1.out (HK.out.trans (below_drewN _ _ _))⟩
        · have he : (b == a) = false := by simp [hab]
          have HE : Hid (¬ b = a) := hab
          clear hab
          go_wp2_with fail
          go_quiet (fail)
          go_wp2
          go_roundg (m - (t + 1 + 1))
          case measure => omega
          case rel => exact ⟨t + 1 + 1, by go_num, by omega, Nat.le_refl _, Lib.hid fun j hj => by
            by_cases e : j = t
            · subst e; rw [HX.out, HY.out, HP.out.1, HP.out.2]; exact HE.out
            · exact HB.out j (by omega), Lib.hid (HK.out.trans (below_drewN _ _ _))⟩
    · have hltz : ¬ (i : Int) < (m : Int) := by omega
      go_wp2
      go_ret
      exact ⟨HT.out _ ⟨true, rfl, by simp; exact fun j hj => HB.out j (by have := HN.out; omega)⟩, after K1.out HK.out⟩

/-! ### a map of numbers to places -/
theorem keyed : Maps.Keyed Try.prog 3 := Maps.int_keyed Try.underlying3
abbrev kl (x : Int) : Lit := .int .i64 x
abbrev Wf (x : Int) : Prop := (Lit.int .i64 x).wf = true
theorem kl_ok {x : Int} (h : Wf x) : keyOf Try.prog 3 (.int .i64 x) = some (kl x) := Maps.keyOf_int_mk Try.underlying3 h
theorem kl_ne {x y : Int} (h : x ≠ y) : kl x ≠ kl y := fun e => h (by injection e)
/-- a place, or none -/
abbrev plc (s : Option Nat) : Value := .int .i64 ((s.getD 0 : Nat) : Int)
abbrev RV (v : Value) : Option (DataW Value × List MemPlace) := some (.held v, [])
/-- block m is a map that has p x at x, and nothing else -/
def Mn (w : World) (m : Nat) (p : Int → Option Nat) (c : Nat) : Prop :=
  ∃ D : DataW Value, w.ownsMap Try.prog 3 RV m c D ∧ Maps.size D = c ∧
    ∀ x : Int, Wf x → (p x = none → Maps.has D (kl x) = false) ∧ (∀ a, p x = some a → Maps.has D (kl x) = true ∧ ∀ z, D.atKey (kl x) z = .held (.int .i64 (a : Int)))
theorem tight {w : World} {P : Program} {k : TypeId} {R : Value → Option (DataW Value × List MemPlace)} {b n : Nat} {D : DataW Value} (h : w.ownsMap P k R b n D) : w.ownsMap P k R b (Maps.size D) D := by
  obtain ⟨es, clock, hb, F, hs, rfl⟩ := h
  exact ⟨es, clock, hb, F, by simp [Maps.size, length_sorted], rfl⟩
theorem zero_int (w : World) : (zeroValue 3).run Try.prog w = .ok (.int .i64 0) w := by kernel_rfl
section
variable {w w' : World} {m c : Nat} {p : Int → Option Nat}
theorem Mn.kept (h : Mn w m p c) (hb : w'.heap[m]? = w.heap[m]?) : Mn w' m p c := by
  obtain ⟨D, ⟨es, clock, h1, F, hs, hD⟩, h2, h3⟩ := h
  exact ⟨D, ⟨es, clock, hb.trans h1, F, hs, hD⟩, h2, h3⟩
theorem Mn.lt (h : Mn w m p c) : m < w.heap.size := by
  obtain ⟨D, h1, _⟩ := h
  exact h1.lt
theorem Mn.next (h : Mn w m p c) (k : Below w.heap.size w w') : Mn w' m p c := h.kept (k.block m h.lt)
theorem Mn.made (w : World) : Mn (w.alloc (.map #[] 0)) w.heap.size (fun _ => none) 0 :=
  ⟨.map [], World.ownsMap_made w _ _ _, rfl, fun x _ => ⟨fun _ => rfl, fun i h => by cases h⟩⟩
theorem Mn.look_ok (h : Mn w m p c) {x : Int} (hx : Wf x) :
    (Instr.lookup 40 (.map (some m)) (.int .i64 x) true).run Try.prog w = .ok (.tuple #[plc (p x), .bool (p x).isSome]) w := by
  obtain ⟨D, h1, h2, h3⟩ := h
  obtain ⟨v, ps, hrun, hv⟩ := h1.look_ok keyed Try.underlying40 (zero_int w) (R := RV) rfl (kl_ok hx)
  rw [hrun]
  have hh := h3 x hx
  cases hp : p x with
  | none =>
    rw [Maps.atKey_of_not_has (hh.1 hp)] at hv
    simp only [RV, Option.some.injEq, Prod.mk.injEq, DataW.held.injEq] at hv
    rw [hv.1, hh.1 hp]; rfl
  | some u =>
    rw [(hh.2 u hp).2] at hv
    simp only [RV, Option.some.injEq, Prod.mk.injEq, DataW.held.injEq] at hv
    rw [hv.1, (hh.2 u hp).1]; rfl
theorem Mn.store (h : Mn w m p c) {x : Int} (hx : Wf x) (v : Nat) (hc : c ≤ 1048576) :
    ∃ w' c', (Instr.mapUpdate 40 (.map (some m)) (.int .i64 x) (.int .i64 (v : Int))).run Try.prog w = .ok () w' ∧ Mn w' m (fun y => if y = x then some v else p y) c' ∧ c' ≤ c + 1 ∧ w.grownBy w' (some m) := by
  obtain ⟨D, h1, h2, h3⟩ := h
  obtain ⟨w', hrun, ho, hg⟩ := h1.update keyed Try.underlying40 (by unfold maxLen; omega) (kl_ok hx) (val := .int .i64 (v : Int)) (d := .held (.int .i64 (v : Int))) (ps := []) rfl
  have hk := keyed.key (kl_ok hx)
  have hsz := Maps.size_put (k := kl x) (h1.tidy keyed) (.held (.int .i64 (v : Int)))
  refine ⟨w', _, hrun, ⟨_, tight ho, rfl, fun y hy => ?_⟩, by rw [hsz, h2]; split <;> omega, hg⟩
  by_cases e : y = x
  · subst e
    refine ⟨(fun hn => by simp at hn), fun j hj => ?_⟩
    simp at hj
    subst hj
    exact ⟨Maps.has_put_same h1.isMap hk _, fun z => Maps.atKey_put_same h1.isMap hk _ z⟩
  · have hne := kl_ne e
    rw [Maps.has_put_other hne]
    simp only [if_neg e]
    refine ⟨(h3 y hy).1, fun j hj => ?_⟩
    obtain ⟨a, cc⟩ := (h3 y hy).2 j hj
    exact ⟨a, fun z => by rw [Maps.atKey_put_other hne]; exact cc z⟩
end
theorem wp_look {o : Oper} {a : Act} {K : Act → World → Prop} {Q : Exit → Act → World → Prop} {w : World} {m c : Nat} {p : Int → Option Nat} (x y : Operand) (k : Int) (s : Option Nat) (v : Value) (b : Bool) (ho : o.op = .lookup 40 x y true) (hx : a.eval x = .map (some m)) (hy : a.eval y = .int .i64 k) (h : Mn w m p c) (hk : Wf k) (hs : p k = s)
    (hv : plc s = v) (hb : s.isSome = b) (hK : K (a.put o.dst (.tuple #[v, .bool b])) w) : o.wp Try.prog a w K Q := by
  subst hs hv hb
  unfold Oper.wp execOp
  simp only [ho, hx, hy, Sem.run_bind, Sem.run_pure, Result.andThen_ok, h.look_ok hk]
  exact hK
theorem wp_keep {o : Oper} {a : Act} {K : Act → World → Prop} {Q : Exit → Act → World → Prop} {w : World} {m c : Nat} {p : Int → Option Nat} (x y z : Operand) (k : Int) (v : Nat) (ho : o.op = .mapUpdate 40 x y z) (hx : a.eval x = .map (some m)) (hy : a.eval y = .int .i64 k) (hz : a.eval z = .int .i64 (v : Int)) (h : Mn w m p c) (hk : Wf k) (hc : c ≤ 1048576)
    (hK : ∀ w' c', Mn w' m (fun y => if y = k then some v else p y) c' → c' ≤ c + 1 → w.grownBy w' (some m) → K (a.put o.dst undef) w') : o.wp Try.prog a w K Q := by
  obtain ⟨w', c', hr, q1, q2, q3⟩ := h.store hk v hc
  unfold Oper.wp execOp
  simp only [ho, hx, hy, hz, Sem.run_bind, Sem.run_pure, Result.andThen_ok, hr]
  exact hK w' c' q1 q2 q3
theorem quiet_load {o : Oper} {a : Act} {K : Act → Prop} {w0 : World} {b off : Nat} {e : Ev} (x : Operand) (ho : o.op = .load 33 x) (hx : a.eval x = .pointer (some ⟨b, off, none⟩)) (h : EvAt w0 b off e)
    (hK : K (a.put o.dst e.v)) : o.quiet Try.prog a (fun w' => ∃ u : Later w0, w' = u.w) K := by
  refine ⟨e.v, fun w' hw => ?_, hK⟩
  obtain ⟨u, rfl⟩ := hw
  have hl := load_ev (h.next u.below)
  unfold Oper.quietAt execOp
  simp only [ho, hx, Instr.loadAt, Instr.sureAddr, Sem.run_bind, Sem.run_pure, Result.andThen_ok, hl]
  exact ⟨rfl, rfl⟩
end Hs
end Go.Proofs.Ytomdgeenmmgmaaa
