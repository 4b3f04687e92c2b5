/-
  pane.Put.
-/
import Derived.Test.YtmklkiklegkioaaGreatPaneCut
import Derived.Test.YtmklkiklegkioaaGreatAgg
namespace Go.Proofs.YtmklkiklegkioaaGreat
open Go.ChangeShapes Go.WideShapes Go.ChangeAt Go.RowKit Small
set_option linter.unusedVariables false
namespace Pane

abbrev ag (p : Pn) : Agg.A4 := ⟨p.c, p.m, p.l, p.u⟩
abbrev mk (key : ByteArray) (s e : Int) (x : Agg.A4) : Pn := ⟨key, s, e, x.c, x.s, x.l, x.u⟩
abbrev one (key : ByteArray) (s e v : Int) : Pn := ⟨key, s, e, 1, v, v, v⟩

/-- what the parts of 'slices.Insert(list, i, api.Pane{..})' yield -/
def Pt (B k : Nat) (v0 : Value) (p : Pn) (i : Nat) (u : Value) (w : World) : Prop := match i with
  | 0 => u = v0
  | 1 => u = .int .i64 k
  | 2 => u = .string p.key
  | 3 => u = win p.s p.e
  | 4 => u = .int .i64 p.m
  | 5 => u = Agg.agv p.c p.m p.l p.u
  | 6 => u = p.v
  | 7 => ∃ g, u = .slice (some ⟨g, 0, none⟩) 1 1 ∧ Lies w g 84 p.cl ∧ B ≤ g
  | _ => True
theorem Pt.mono (B k : Nat) (v0 : Value) (p : Pn) : ∀ i u w w', Pt B k v0 p i u w → Below w.heap.size w w' → Pt B k v0 p i u w'
  | 0, u, w, w', h, k => h
  | 1, u, w, w', h, k => h
  | 2, u, w, w', h, k => h
  | 3, u, w, w', h, k => h
  | 4, u, w, w', h, k => h
  | 5, u, w, w', h, k => h
  | 6, u, w, w', h, k => h
  | 7, u, w, w', ⟨g, h1, h2, h3⟩, k => ⟨g, h1, h2.next k, h3⟩
  | i + 8, u, w, w', h, k => trivial

theorem flat_set {L : List Pn} {k : Nat} {p : Pn} (hp : L[k]? = some p) (a b c d : Int) :
    ((((Sl.flat Pn.k L).set (k * 7 + 3) (.int .i64 a)).set (k * 7 + 4) (.int .i64 b)).set (k * 7 + 5) (.int .i64 c)).set (k * 7 + 6) (.int .i64 d) = Sl.flat Pn.k (L.set k ⟨p.key, p.s, p.e, a, b, c, d⟩) := by
  induction L generalizing k with
  | nil => simp at hp
  | cons x L ih =>
    cases k with
    | zero =>
      simp at hp
      subst hp
      simp [Sl.flat]
    | succ k =>
      simp at hp
      have := ih hp
      simp only [Sl.flat, List.flatMap_cons, List.set_cons_succ] at this ⊢
      rw [← this, List.set_append_right _ _ (by simp; omega), List.set_append_right _ _ (by simp; omega), List.set_append_right _ _ (by simp; omega), List.set_append_right _ _ (by simp; omega)]
      simp only [List.length_cons, List.length_nil]
      rw [show (k + 1) * 7 + 3 - (0 + 1 + 1 + 1 + 1 + 1 + 1 + 1) = k * 7 + 3 by omega, show (k + 1) * 7 + 4 - (0 + 1 + 1 + 1 + 1 + 1 + 1 + 1) = k * 7 + 4 by omega, show (k + 1) * 7 + 5 - (0 + 1 + 1 + 1 + 1 + 1 + 1 + 1) = k * 7 + 5 by omega, show (k + 1) * 7 + 6 - (0 + 1 + 1 + 1 + 1 + 1 + 1 + 1) = k * 7 + 6 by omega]

theorem setCell_row {w : World} {g : Nat} {cur : Array Value} {t : TypeId} (h : w.heap[g]? = some (.cells cur t (0, 0))) (i : Nat) (u : Value) : (w.setCell ⟨g, i, none⟩ u).heap[g]? = some (.cells (cur.setIfInBounds i u) t (0, 0)) := by
  simp [World.setCell, Array.getElem?_modify, h]
/-- the aggregate of one written anew, in a list of the call's own -/
theorem own_set {base g cap k : Nat} {w : World} {L : List Pn} {p : Pn} (h : Sl.Own Pn.k base w (.slice (some ⟨g, 0, none⟩) L.length cap) L) (hp : L[k]? = some p) (a b c d : Int) :
    Sl.Own Pn.k base ((((w.setCell ⟨g, k * 7 + 3, none⟩ (.int .i64 a)).setCell ⟨g, k * 7 + 4, none⟩ (.int .i64 b)).setCell ⟨g, k * 7 + 5, none⟩ (.int .i64 c)).setCell ⟨g, k * 7 + 6, none⟩ (.int .i64 d)) (.slice (some ⟨g, 0, none⟩) L.length cap) (L.set k ⟨p.key, p.s, p.e, a, b, c, d⟩) := by
  rcases h.2 with ⟨q, _⟩ | ⟨g', cap', cur, h1, h2, h3, h4, h5, h6, h7⟩
  · simp at q
  · obtain ⟨rfl, rfl⟩ : g = g' ∧ cap = cap' := by simpa using h1
    refine ⟨by rw [Sl.flat_len Pn.ok], .inr ⟨g, cap, (((cur.setIfInBounds (k * 7 + 3) (.int .i64 a)).setIfInBounds (k * 7 + 4) (.int .i64 b)).setIfInBounds (k * 7 + 5) (.int .i64 c)).setIfInBounds (k * 7 + 6) (.int .i64 d), by rw [List.length_set], h2, ?_, by rw [List.length_set]; exact h4, h5, by simpa using h6, ?_⟩⟩
    · have s1 := setCell_row h3 (k * 7 + 3) (.int .i64 a)
      have s2 := setCell_row s1 (k * 7 + 4) (.int .i64 b)
      have s3 := setCell_row s2 (k * 7 + 5) (.int .i64 c)
      exact setCell_row s3 (k * 7 + 6) (.int .i64 d)
    · rw [List.length_set, ← flat_set hp a b c d, ← h7]
      simp only [Array.toList_setIfInBounds, List.take_set]

set_option maxRecDepth 100000 in
set_option maxHeartbeats 4000000 in
theorem put_no (l : Value) (L : List Pn) (b k : Nat) (key : ByteArray) (s e v : Int) (w : World) (H : Hid (Sl.Is Pn.k w l L b)) (hn : L.length ≤ 9000) (A : Hid (At L s e k)) (hx : Hid (∀ x, L[k]? = some x → ¬ Eq2 x s e)) :
    Calls Tryz.prog 108 #[l, .string key, win s e, .int .i64 v] w fun r w' => ∃ v', r = .returned v' ∧ Sl.Own Pn.k w.heap.size w' v' (L.take k ++ one key s e v :: L.drop k) ∧ Below w.heap.size w w' := by
  have K0 := Lib.hid (below1 w (Obj.cells #[.int .i64 s, .int .i64 e] 80))
  have S0 := Lib.hid (Lies.new w 80 [.int .i64 s, .int .i64 e])
  go_enter Tryz.func108, Tryz.ntmps108
  go_wp2_with fail
  refine (place_ok _ L b k s e false _ (Lib.hid (H.out.next K0.out)) hn A (Lib.hid ⟨fun h => (by cases h), fun ⟨x, h1, h2⟩ => absurd h2 (hx.out x h1)⟩)).mono ?_
  rintro r w1 ⟨rfl, k1⟩
  have S1 := Lib.hid (S0.out.next k1)
  have K1 := Lib.hid (after K0.out k1)
  clear k1
  go_wp2_with fail
  refine (clone_ok _ L b _ (Lib.hid (H.out.next K1.out)) hn).mono ?_
  rintro r w2 ⟨v', rfl, o2, k2⟩
  have O2 := Lib.hid o2
  have S2 := Lib.hid (S1.out.next k2)
  have K2 := Lib.hid (after K1.out k2)
  have hle : Hid (w.heap.size ≤ w1.heap.size) := Lib.hid K1.out.size
  have h12 : Hid (w1.heap.size ≤ w2.heap.size) := Lib.hid k2.size
  clear k2 o2
  go_wp2_with fail
  refine wp_region_goes Goes.below 8 42 (Pt w2.heap.size k v' (one key s e v)) (by show _ = _; kernel_rfl) (by show _ = _; kernel_rfl) (by show _ = _; kernel_rfl) (Pt.mono w2.heap.size k v' (one key s e v)) ?_ ?_
  · intro i hi o ho a' w' Kc hd hout hdep hB hK
    match i, hi, ho with
    | 0, _, ho => exact Sl.wp_move _ (Reg.Has.op (p := Op.move (.tmp 11)) (t := 33) (by show _ = _; kernel_rfl) ho).1 (hK _ _ (hout 11 (Reg.Free.out (by show _ = _; kernel_rfl))) (Below.refl _ _))
    | 1, _, ho => exact Sl.wp_move _ (Reg.Has.op (p := Op.move (.tmp 9)) (t := 34) (by show _ = _; kernel_rfl) ho).1 (hK _ _ (hout 9 (Reg.Free.out (by show _ = _; kernel_rfl))) (Below.refl _ _))
    | 2, _, ho => exact Sl.wp_move _ (Reg.Has.op (p := Op.move (.tmp 1)) (t := 35) (by show _ = _; kernel_rfl) ho).1 (hK _ _ (hout 1 (Reg.Free.out (by show _ = _; kernel_rfl))) (Below.refl _ _))
    | 3, _, ho =>
      refine wp_val (V := win s e) (w' := w') ?_ (hK _ _ rfl (Below.refl _ _))
      have hop := (Reg.Has.op (p := Op.load 80 (.tmp 6)) (t := 36) (by show _ = _; kernel_rfl) ho).1
      have h6 : a'.eval (.tmp 6) = .pointer (some ⟨w.heap.size, 0, none⟩) := (hout 6 (Reg.Free.out (by show _ = _; kernel_rfl)))
      have c0 := cell_keep hB (S2.out.cell (i := 0) rfl)
      have c1 := cell_keep hB (S2.out.cell (i := 1) rfl)
      generalize a'.eval = ev at h6
      simp [execOp, hop, h6, go_sem, c0, c1]
    | 4, _, ho => exact Sl.wp_move _ (Reg.Has.op (p := Op.move (.tmp 3)) (t := 37) (by show _ = _; kernel_rfl) ho).1 (hK _ _ (hout 3 (Reg.Free.out (by show _ = _; kernel_rfl))) (Below.refl _ _))
    | 5, _, ho =>
      refine wp_call (S := fun x w2 => x = Agg.agv 1 v v v ∧ Below w'.heap.size w' w2) (Reg.Has.op (p := Op.call { callee := Callee.value (.func 128), args := #[.tmp 37], argTypes := #[2] }) (t := 38) (by show _ = _; kernel_rfl) ho).1 #[.int .i64 v] (by simp [show a'.eval (.tmp 37) = _ from (hdep 4 (mem_of (by show _ = _; kernel_rfl)) 37 (by show _ = _; kernel_rfl))]) (fun _ _ => enters Tryz.func128 (by kernel_rfl) rfl _ _) ((Agg.of_ok v w').mono (fun e w2 ⟨h1, h2⟩ => ⟨_, h1, rfl, h2⟩)) ?_
      rintro x w2 ⟨rfl, h2⟩
      exact hK _ _ rfl h2
    | 6, _, ho =>
      refine wp_val (V := (one key s e v).v) (w' := w') ?_ (hK _ _ rfl (Below.refl _ _))
      have hop := (Reg.Has.op (p := Op.build 84 #[(0, .tmp 35), (1, .tmp 36), (2, .tmp 38)]) (t := 39) (by show _ = _; kernel_rfl) ho).1
      have h2 : a'.eval (.tmp 35) = .string key := (hdep 2 (mem_of (by show _ = _; kernel_rfl)) 35 (by show _ = _; kernel_rfl))
      have h3 : a'.eval (.tmp 36) = win s e := (hdep 3 (mem_of (by show _ = _; kernel_rfl)) 36 (by show _ = _; kernel_rfl))
      have h5 : a'.eval (.tmp 38) = Agg.agv 1 v v v := (hdep 5 (mem_of (by show _ = _; kernel_rfl)) 38 (by show _ = _; kernel_rfl))
      generalize a'.eval = ev at h2 h3 h5
      simp [execOp, hop, h2, h3, h5, go_sem]
    | 7, _, ho => exact Sl.wp_lit1 (K := Pn.k) (.tmp 39) (one key s e v) (Reg.Has.op (p := Op.buildSlice 38 1 #[(0, .tmp 39)]) (t := 40) (by show _ = _; kernel_rfl) ho).1 (hdep 6 (mem_of (by show _ = _; kernel_rfl)) 39 (by show _ = _; kernel_rfl)) (Pn.lit1 _ _) (hK _ _ ⟨_, rfl, Lies.new _ _ _, hB.size⟩ (below1 _ _))
  · intro f w' hv hB hev
    have e0 : f 0 = v' := hv 0 (by omega)
    have e1 : f 1 = .int .i64 k := hv 1 (by omega)
    obtain ⟨g, e7, z7, hg⟩ := hv 7 (by omega)
    change wpList _ _ _ [_, _] (Act.put (Act.put (Act.put (Act.put (Act.put (Act.put (Act.put (Act.put _ (some 33) (f 0)) (some 34) (f 1)) (some 35) (f 2)) (some 36) (f 3)) (some 37) (f 4)) (some 38) (f 5)) (some 39) (f 6)) (some 40) (f 7)) _
    rw [Rel.puts_zero]
    clear hv hev
    rw [e0, e1, e7]
    have Z := Lib.hid z7
    have O3 := Lib.hid (O2.out.next hB)
    have K3 := Lib.hid (after K2.out hB)
    have hl : Hid (w1.heap.size ≤ w'.heap.size) := Lib.hid (Nat.le_trans h12.out hB.size)
    have hvb : ∀ q, v'.ownBlock = some q → g ≠ q := fun q hq => by have := (O2.out.lt q hq).2; omega
    go_wp2_with fail
    refine (insert_ok w1.heap.size k g v' L (one key s e v) w' O3 hl.out A.out.le hn Z hvb).mono ?_
    rintro r w3 ⟨v3, rfl, o4, g4, -⟩
    have O4 := Lib.hid (own_base o4 hle.out)
    have K4 : Hid (Below w.heap.size w w3) := Lib.hid (K3.out.grown g4 K3.out.size (fun q hq => by have := (O2.out.lt q hq).1; have := hle.out; omega))
    clear o4 g4
    go_wp2
    go_ret
    exact ⟨v3, rfl, O4.out, K4.out⟩

set_option maxRecDepth 100000 in
set_option maxHeartbeats 4000000 in
theorem put_yes (l : Value) (L : List Pn) (b k : Nat) (key : ByteArray) (s e v : Int) (p : Pn) (w : World) (H : Hid (Sl.Is Pn.k w l L b)) (hn : L.length ≤ 9000) (A : Hid (At L s e k)) (hx : Hid (L[k]? = some p)) (he : Hid (Eq2 p s e)) :
    Calls Tryz.prog 108 #[l, .string key, win s e, .int .i64 v] w fun r w' => ∃ v', r = .returned v' ∧ Sl.Own Pn.k w.heap.size w' v' (L.set k (mk p.key p.s p.e (Agg.mrg (ag p) (Agg.one4 v)))) ∧ Below w.heap.size w w' := by
  have C := Lib.hid fun w : World => Agg.add_ok (ag p) v w
  generalize Agg.mrg (ag p) (Agg.one4 v) = z at *
  obtain ⟨za, zb, zc, zd⟩ := z
  simp only [Agg.A4.val] at C
  have hk := lt_of_at hx.out
  have K0 := Lib.hid (below1 w (Obj.cells #[.int .i64 s, .int .i64 e] 80))
  go_enter Tryz.func108, Tryz.ntmps108
  go_wp2_with fail
  refine (place_ok _ L b k s e true _ (Lib.hid (H.out.next K0.out)) hn A (Lib.hid ⟨fun _ => ⟨p, hx.out, he.out⟩, fun _ => rfl⟩)).mono ?_
  rintro r w1 ⟨rfl, k1⟩
  have K1 := Lib.hid (after K0.out k1)
  clear k1
  go_wp2_with fail
  refine (clone_ok _ L b _ (Lib.hid (H.out.next K1.out)) hn).mono ?_
  rintro r w2 ⟨v', rfl, o2, k2⟩
  have K2 := Lib.hid (after K1.out k2)
  have hle : Hid (w.heap.size ≤ w1.heap.size) := Lib.hid K1.out.size
  obtain ⟨g, cap, cur, rfl, hg, h3, h4, h5, h6, h7⟩ : ∃ g cap cur, v' = .slice (some ⟨g, 0, none⟩) L.length cap ∧ w1.heap.size ≤ g ∧ w2.heap[g]? = some (.cells cur 84 (0, 0)) ∧ L.length ≤ cap ∧ cap ≤ maxLen ∧ cur.size = cap * 7 ∧ cur.toList.take (L.length * 7) = Sl.flat Pn.k L := by
    rcases o2.2 with ⟨_, q⟩ | q
    · omega
    · exact q
  have O2 := Lib.hid o2
  have hgl : g < w2.heap.size := Reg.block_lt h3
  have cellAt : ∀ j u, p.cl[j]? = some u → w2.cell? ⟨g, k * 7 + j, none⟩ = some u := fun j u hj => by
    rw [cell_of_row w2 g _ cur _ (0, 0) h3]
    have := Sl.flat_at Pn.ok hx.out hj
    rw [← h7, List.getElem?_take] at this
    split at this
    · simpa using this
    · cases this
  have fz : ∀ w' : World, w'.heap[g]? = w2.heap[g]? → ∀ i : Nat, w'.frozen? ⟨g, i, none⟩ = false := fun w' q i => by simp [World.frozen?, q, h3]
  have c3 := cellAt 3 _ rfl
  have c4 := cellAt 4 _ rfl
  have c5 := cellAt 5 _ rfl
  have c6 := cellAt 6 _ rfl
  have FZ := Lib.hid fz
  have i0 : (k : Int) < L.length := by omega
  clear k2 o2 h3 h4 h5 h6 h7 cellAt fz
  go_wp2_with fail
  refine (C.out _).mono ?_
  rintro r w3 ⟨rfl, k3⟩
  have q3 := k3.block g hgl
  have c3 := cell_keep k3 c3
  have c4 := cell_keep k3 c4
  have c5 := cell_keep k3 c5
  have c6 := cell_keep k3 c6
  have f3 := FZ.out w3 q3 (k * 7 + 3)
  have f4 := FZ.out w3 q3 (k * 7 + 4)
  have f5 := FZ.out w3 q3 (k * 7 + 5)
  have f6 := FZ.out w3 q3 (k * 7 + 6)
  have O3 := Lib.hid (own_set (O2.out.next k3) hx.out za zb zc zd)
  have K3 : Hid (Below w.heap.size w ((((w3.setCell ⟨g, k * 7 + 3, none⟩ (.int .i64 za)).setCell ⟨g, k * 7 + 4, none⟩ (.int .i64 zb)).setCell ⟨g, k * 7 + 5, none⟩ (.int .i64 zc)).setCell ⟨g, k * 7 + 6, none⟩ (.int .i64 zd))) :=
    Lib.hid (((((after K2.out k3).setCell (by show w.heap.size ≤ g; have := hle.out; omega) _).setCell (by show w.heap.size ≤ g; have := hle.out; omega) _).setCell (by show w.heap.size ≤ g; have := hle.out; omega) _).setCell (by show w.heap.size ≤ g; have := hle.out; omega) _)
  clear k3 q3
  go_wp2
  go_ret
  exact ⟨_, rfl, own_base O3.out hle.out, K3.out⟩
end Pane
end Go.Proofs.YtmklkiklegkioaaGreat
