/-
  pane.Cut.
-/
import Derived.Test.YtmklkiklegkioaaGreatPaneList
import Derived.Test.YtmklkiklegkioaaGreatDrawn
namespace Go.Proofs.YtmklkiklegkioaaGreat
open Go.ChangeShapes Go.WideShapes Go.ChangeAt Go.RowKit Small
set_option linter.unusedVariables false
namespace Pane

theorem own_base {base base' : Nat} {w : World} {v : Value} {L : List Pn} (h : Sl.Own Pn.k base w v L) (hb : base' ≤ base) : Sl.Own Pn.k base' w v L := by
  refine ⟨h.1, ?_⟩
  rcases h.2 with q | ⟨g, cap, cur, h1, h2, h3⟩
  · exact .inl q
  · exact .inr ⟨g, cap, cur, h1, by omega, h3⟩
theorem own_put7 {base g : Nat} {w : World} {v : Value} {L : List Pn} (h : Sl.Own Pn.k base w v L) (hg : g < base) (p q r s u x y : Value) : Sl.Own Pn.k base (put7 w g p q r s u x y) v L :=
  h.move fun b hb => by
    have := (h.lt b hb).1
    have hne : b ≠ g := by omega
    show (put7 w g p q r s u x y).heap[b]? = _
    unfold put7
    rw [Below.heap_setCell _ _ _ _ hne, Below.heap_setCell _ _ _ _ hne, Below.heap_setCell _ _ _ _ hne, Below.heap_setCell _ _ _ _ hne, Below.heap_setCell _ _ _ _ hne, Below.heap_setCell _ _ _ _ hne, Below.heap_setCell _ _ _ _ hne]
set_option maxRecDepth 100000 in
set_option maxHeartbeats 4000000 in
theorem cut_no (v : Value) (L : List Pn) (b k : Nat) (s e : Int) (w : World) (H : Hid (Sl.Is Pn.k w v L b)) (hn : L.length ≤ 9000) (A : Hid (At L s e k)) (hx : Hid (∀ x, L[k]? = some x → ¬ Eq2 x s e)) :
    Calls Tryz.prog 93 #[v, win s e] w fun r w' => ∃ v', r = .returned (.tuple #[v', zp.v, .bool false]) ∧ Sl.Own Pn.k w.heap.size w' v' L ∧ Below w.heap.size w w' := by
  have K0 := Lib.hid (below2 w (Obj.cells #[.int .i64 s, .int .i64 e] 80) (Obj.cells #[.string ⟨#[]⟩, .int .i64 0, .int .i64 0, .int .i64 0, .int .i64 0, .int .i64 0, .int .i64 0] 84))
  have Z0 := Lies.new (w.alloc (Obj.cells #[.int .i64 s, .int .i64 e] 80)) 84 zp.cl
  simp only [World.size_alloc] at Z0
  change Lies ((w.alloc (Obj.cells #[.int .i64 s, .int .i64 e] 80)).alloc (Obj.cells #[.string ⟨#[]⟩, .int .i64 0, .int .i64 0, .int .i64 0, .int .i64 0, .int .i64 0, .int .i64 0] 84)) (w.heap.size + 1) 84 [.string ⟨#[]⟩, .int .i64 0, .int .i64 0, .int .i64 0, .int .i64 0, .int .i64 0, .int .i64 0] at Z0
  have Z0 := Lib.hid Z0
  go_enter Tryz.func93, Tryz.ntmps93
  go_wp2_with fail
  refine (place_ok _ L b k s e false _ (Lib.hid (H.out.next K0.out)) hn A (Lib.hid ⟨fun h => (by cases h), fun ⟨x, h1, h2⟩ => absurd h2 (hx.out x h1)⟩)).mono ?_
  rintro r w1 ⟨rfl, k1⟩
  have Z1 := Lib.hid (Z0.out.next k1)
  have K1 := Lib.hid (after K0.out k1)
  clear k1
  go_wp2_with fail
  refine (clone_ok _ L b _ (Lib.hid (H.out.next K1.out)) hn).mono ?_
  rintro r w2 ⟨v', rfl, o2, k2⟩
  have O2 := Lib.hid o2
  have Z2 := Lib.hid (Z1.out.next k2)
  have K2 := Lib.hid (after K1.out k2)
  have hle : Hid (w.heap.size ≤ w1.heap.size) := Lib.hid K1.out.size
  have hlt : Hid (w.heap.size + 1 < w1.heap.size) := Lib.hid Z1.out.lt
  clear k2 o2
  obtain ⟨⟨z0, z1, z2, z3, z4, z5, z6⟩, y0, y1, y2, y3, y4, y5, y6⟩ := seven Z2.out
  go_wp2
  change bodyPost _ _ _ _ _ (put7 w2 (w.heap.size + 1) (.string ⟨#[]⟩) (.int .i64 0) (.int .i64 0) (.int .i64 0) (.int .i64 0) (.int .i64 0) (.int .i64 0))
  have O3 : Sl.Own Pn.k w1.heap.size (put7 w2 (w.heap.size + 1) (.string ⟨#[]⟩) (.int .i64 0) (.int .i64 0) (.int .i64 0) (.int .i64 0) (.int .i64 0) (.int .i64 0)) v' L :=
    own_put7 O2.out (by have := hlt.out; omega) _ _ _ _ _ _ _
  obtain ⟨W, hW⟩ : ∃ W, W = put7 w2 (w.heap.size + 1) (.string ⟨#[]⟩) (.int .i64 0) (.int .i64 0) (.int .i64 0) (.int .i64 0) (.int .i64 0) (.int .i64 0) := ⟨_, rfl⟩
  have Z3 := put7_lies Z2.out (.string ⟨#[]⟩) (.int .i64 0) (.int .i64 0) (.int .i64 0) (.int .i64 0) (.int .i64 0) (.int .i64 0)
  have K3 := put7_below (g := w.heap.size + 1) K2.out (by omega) (.string ⟨#[]⟩) (.int .i64 0) (.int .i64 0) (.int .i64 0) (.int .i64 0) (.int .i64 0) (.int .i64 0)
  rw [← hW] at Z3 K3 O3 ⊢
  clear hW
  obtain ⟨⟨z0, z1, z2, z3, z4, z5, z6⟩, -⟩ := seven Z3
  exact bodyPost_ret (v := .tuple #[v', zp.v, .bool false]) (by simp [results, Tryz.results93, go_sem, z0, z1, z2, z3, z4, z5, z6]) rfl ⟨v', rfl, own_base O3 hle.out, K3⟩

/-- what the parts of 'slices.Concat(l[:i], l[i+1:]), l[i]' yield -/
def Cy (B : Nat) (v0 : Value) (L : List Pn) (k b : Nat) (p : Pn) (ad : Value) (i : Nat) (u : Value) (w : World) : Prop := match i with
  | 0 => u = v0
  | 1 => u = .int .i64 k
  | 2 => Sl.Is Pn.k w u (L.take k) b
  | 3 => u = v0
  | 4 => u = .int .i64 k
  | 5 => u = .int .i64 ((k + 1 : Nat) : Int)
  | 6 => Sl.Is Pn.k w u (L.drop (k + 1)) b
  | 7 => ∃ g v1 v2, u = .slice (some ⟨g, 0, none⟩) 2 2 ∧ Lies w g 38 [v1, v2] ∧ Sl.Is Pn.k w v1 (L.take k) b ∧ Sl.Is Pn.k w v2 (L.drop (k + 1)) b
  | 8 => Sl.Own Pn.k B w u (L.take k ++ L.drop (k + 1))
  | 9 => u = v0
  | 10 => u = .int .i64 k
  | 11 => u = ad
  | 12 => u = p.v
  | 13 => Sl.Own Pn.k B w u (L.take k ++ L.drop (k + 1))
  | _ => True
theorem Cy.mono (B : Nat) (v0 : Value) (L : List Pn) (k b : Nat) (p : Pn) (ad : Value) : ∀ i u w w', Cy B v0 L k b p ad i u w → Below w.heap.size w w' → Cy B v0 L k b p ad i u w'
  | 0, u, w, w', h, k => h
  | 1, u, w, w', h, k => h
  | 2, u, w, w', h, k => Sl.Is.next (K := Pn.k) h k
  | 3, u, w, w', h, k => h
  | 4, u, w, w', h, k => h
  | 5, u, w, w', h, k => h
  | 6, u, w, w', h, k => Sl.Is.next (K := Pn.k) h k
  | 7, u, w, w', ⟨g, v1, v2, h1, h2, h3, h4⟩, k => ⟨g, v1, v2, h1, h2.next k, h3.next k, h4.next k⟩
  | 8, u, w, w', h, k => Sl.Own.next (K := Pn.k) h k
  | 9, u, w, w', h, k => h
  | 10, u, w, w', h, k => h
  | 11, u, w, w', h, k => h
  | 12, u, w, w', h, k => h
  | 13, u, w, w', h, k => Sl.Own.next (K := Pn.k) h k
  | i + 14, u, w, w', h, k => trivial

set_option maxRecDepth 100000 in
set_option maxHeartbeats 4000000 in
theorem cut_yes (v : Value) (L : List Pn) (b k : Nat) (s e : Int) (p : Pn) (w : World) (H : Hid (Sl.Is Pn.k w v L b)) (hn : L.length ≤ 9000) (A : Hid (At L s e k)) (hx : Hid (L[k]? = some p)) (he : Hid (Eq2 p s e)) :
    Calls Tryz.prog 93 #[v, win s e] w fun r w' => ∃ v', r = .returned (.tuple #[v', p.v, .bool true]) ∧ Sl.Own Pn.k w.heap.size w' v' (L.take k ++ L.drop (k + 1)) ∧ Below w.heap.size w w' := by
  obtain ⟨off, cap, hv, h2, h3, h4, hcell⟩ := H.out.some_ Pn.ok (by have := lt_of_at hx.out; omega)
  have hk := lt_of_at hx.out
  have hcell := fun j u hj => hcell k p hx.out j u hj
  have K0 := Lib.hid (below2 w (Obj.cells #[.int .i64 s, .int .i64 e] 80) (Obj.cells #[.string ⟨#[]⟩, .int .i64 0, .int .i64 0, .int .i64 0, .int .i64 0, .int .i64 0, .int .i64 0] 84))
  have Z0 := Lies.new (w.alloc (Obj.cells #[.int .i64 s, .int .i64 e] 80)) 84 zp.cl
  simp only [World.size_alloc] at Z0
  change Lies ((w.alloc (Obj.cells #[.int .i64 s, .int .i64 e] 80)).alloc (Obj.cells #[.string ⟨#[]⟩, .int .i64 0, .int .i64 0, .int .i64 0, .int .i64 0, .int .i64 0, .int .i64 0] 84)) (w.heap.size + 1) 84 [.string ⟨#[]⟩, .int .i64 0, .int .i64 0, .int .i64 0, .int .i64 0, .int .i64 0, .int .i64 0] at Z0
  have Z0 := Lib.hid Z0
  subst hv
  have C := Lib.hid hcell
  clear hcell h2 h3 h4
  go_enter Tryz.func93, Tryz.ntmps93
  go_wp2_with fail
  refine (place_ok _ L b k s e true _ (Lib.hid (H.out.next K0.out)) hn A (Lib.hid ⟨fun _ => ⟨p, hx.out, he.out⟩, fun _ => rfl⟩)).mono ?_
  rintro r w1 ⟨rfl, k1⟩
  have Z1 := Lib.hid (Z0.out.next k1)
  have K1 := Lib.hid (after K0.out k1)
  have H1 := Lib.hid (H.out.next K1.out)
  clear k1
  go_wp2_with fail
  refine wp_region_goes Goes.below 14 33 (Cy w1.heap.size (.slice (some ⟨b, off, none⟩) L.length cap) L k b p (.pointer (some ⟨b, off + k * 7, none⟩))) (by show _ = _; kernel_rfl) (by show _ = _; kernel_rfl) (by show _ = _; kernel_rfl) (Cy.mono w1.heap.size (.slice (some ⟨b, off, none⟩) L.length cap) L k b p (.pointer (some ⟨b, off + k * 7, none⟩))) ?_ ?_
  · intro i hi o ho a' w' Kc hd hout hdep hB hK
    match i, hi, ho with
    | 0, _, ho => exact Sl.wp_move _ (Reg.Has.op (p := Op.move (.tmp 0)) (t := 20) (by show _ = _; kernel_rfl) ho).1 (hK _ _ (hout 0 (Reg.Free.out (by show _ = _; kernel_rfl))) (Below.refl _ _))
    | 1, _, ho => exact Sl.wp_move _ (Reg.Has.op (p := Op.move (.tmp 7)) (t := 21) (by show _ = _; kernel_rfl) ho).1 (hK _ _ (hout 7 (Reg.Free.out (by show _ = _; kernel_rfl))) (Below.refl _ _))
    | 2, _, ho => exact Sl.wp_take Pn.ok (.tmp 20) (.tmp 21) (Reg.Has.op (p := Op.slice 38 (.tmp 20) none (some (.tmp 21)) none) (t := 22) (by show _ = _; kernel_rfl) ho).1 (l := L) (b := b) (m := k) (by rw [show a'.eval (.tmp 20) = _ from (hdep 0 (mem_of (by show _ = _; kernel_rfl)) 20 (by show _ = _; kernel_rfl))]; exact H1.out.next hB) (hdep 1 (mem_of (by show _ = _; kernel_rfl)) 21 (by show _ = _; kernel_rfl)) (by omega) (fun u q => hK u _ q (Below.refl _ _))
    | 3, _, ho => exact Sl.wp_move _ (Reg.Has.op (p := Op.move (.tmp 0)) (t := 23) (by show _ = _; kernel_rfl) ho).1 (hK _ _ (hout 0 (Reg.Free.out (by show _ = _; kernel_rfl))) (Below.refl _ _))
    | 4, _, ho => exact Sl.wp_move _ (Reg.Has.op (p := Op.move (.tmp 7)) (t := 24) (by show _ = _; kernel_rfl) ho).1 (hK _ _ (hout 7 (Reg.Free.out (by show _ = _; kernel_rfl))) (Below.refl _ _))
    | 5, _, ho => exact Sl.wp_succ (.tmp 24) (k := k) (Reg.Has.op (p := Op.binOp BinOp.add 3 (.tmp 24) (.const (.int .i64 1)) 3) (t := 25) (by show _ = _; kernel_rfl) ho).1 (hdep 4 (mem_of (by show _ = _; kernel_rfl)) 24 (by show _ = _; kernel_rfl)) (by omega) (hK _ _ rfl (Below.refl _ _))
    | 6, _, ho => exact Sl.wp_drop Pn.ok (.tmp 23) (.tmp 25) (Reg.Has.op (p := Op.slice 38 (.tmp 23) (some (.tmp 25)) none none) (t := 26) (by show _ = _; kernel_rfl) ho).1 (l := L) (b := b) (m := k + 1) (by rw [show a'.eval (.tmp 23) = _ from (hdep 3 (mem_of (by show _ = _; kernel_rfl)) 23 (by show _ = _; kernel_rfl))]; exact H1.out.next hB) (hdep 5 (mem_of (by show _ = _; kernel_rfl)) 25 (by show _ = _; kernel_rfl)) (by omega) (fun u q => hK u _ q (Below.refl _ _))
    | 7, _, ho =>
      have d2 : Sl.Is Pn.k w' (a'.eval (.tmp 22)) (L.take k) b := (hdep 2 (mem_of (by show _ = _; kernel_rfl)) 22 (by show _ = _; kernel_rfl))
      have d6 : Sl.Is Pn.k w' (a'.eval (.tmp 26)) (L.drop (k + 1)) b := (hdep 6 (mem_of (by show _ = _; kernel_rfl)) 26 (by show _ = _; kernel_rfl))
      obtain ⟨A1, c1, e1⟩ := d2.len
      obtain ⟨A2, c2, e2⟩ := d6.len
      refine wp_val (V := .slice (some ⟨w'.heap.size, 0, none⟩) 2 2) (w' := w'.alloc (.cells #[a'.eval (.tmp 22), a'.eval (.tmp 26)] 38)) ?_ (hK _ _ ⟨_, _, _, rfl, Lies.new w' 38 [a'.eval (.tmp 22), a'.eval (.tmp 26)], d2.next (below1 _ _), d6.next (below1 _ _)⟩ (below1 _ _))
      have hop := (Reg.Has.op (p := Op.buildSlice 203 2 #[(0, .tmp 22), (1, .tmp 26)]) (t := 27) (by show _ = _; kernel_rfl) ho).1
      generalize a'.eval = ev at e1 e2
      simp [execOp, hop, e1, e2, go_sem, Instr.buildSlice, Instr.fill, newRow]
    | 8, _, ho =>
      obtain ⟨g, v1, v2, q1, q2, q3, q4⟩ := (hdep 7 (mem_of (by show _ = _; kernel_rfl)) 27 (by show _ = _; kernel_rfl))
      refine wp_call (Reg.Has.op (p := Op.call { callee := Callee.value (.func 115), args := #[.tmp 27], argTypes := #[203] }) (t := 28) (by show _ = _; kernel_rfl) ho).1 #[.slice (some ⟨g, 0, none⟩) 2 2] (by simp [show a'.eval (.tmp 27) = _ from q1]) (fun _ _ => enters Tryz.func115 (by kernel_rfl) rfl _ _) (concat_ok g b b v1 v2 _ _ w' (Lib.hid q3) (Lib.hid q4) (Lib.hid q2) (by rw [List.length_take]; omega) (by rw [List.length_drop]; omega)) ?_
      rintro v w2 ⟨h1, h2⟩
      exact hK _ _ (own_base h1 hB.size) h2
    | 9, _, ho => exact Sl.wp_move _ (Reg.Has.op (p := Op.move (.tmp 0)) (t := 29) (by show _ = _; kernel_rfl) ho).1 (hK _ _ (hout 0 (Reg.Free.out (by show _ = _; kernel_rfl))) (Below.refl _ _))
    | 10, _, ho => exact Sl.wp_move _ (Reg.Has.op (p := Op.move (.tmp 7)) (t := 30) (by show _ = _; kernel_rfl) ho).1 (hK _ _ (hout 7 (Reg.Free.out (by show _ = _; kernel_rfl))) (Below.refl _ _))
    | 11, _, ho => exact Reg.wp_at Pn.ok (l := L) (m := k) (.tmp 29) (.tmp 30) (Reg.Has.op (p := Op.indexAddr 38 (.tmp 29) (.tmp 30)) (t := 31) (by show _ = _; kernel_rfl) ho).1 (hdep 9 (mem_of (by show _ = _; kernel_rfl)) 29 (by show _ = _; kernel_rfl)) (hdep 10 (mem_of (by show _ = _; kernel_rfl)) 30 (by show _ = _; kernel_rfl)) hk (hK _ _ rfl (Below.refl _ _))
    | 12, _, ho => exact Pn.val.load p _ _ _ _ _ _ b (off + k * 7) (Reg.Has.op (p := Op.load 84 (.tmp 31)) (t := 32) (by show _ = _; kernel_rfl) ho).1 (hdep 11 (mem_of (by show _ = _; kernel_rfl)) 31 (by show _ = _; kernel_rfl)) (fun j u hj => by rw [Nat.add_assoc]; exact cell_keep (after K1.out hB) (C.out j u hj)) (hK _ _ rfl (Below.refl _ _))
    | 13, _, ho => exact wp_assign _ (Reg.Has.op (p := Op.assign (.tmp 28)) (t := 4) (by show _ = _; kernel_rfl) ho).1 (hK _ _ (hdep 8 (mem_of (by show _ = _; kernel_rfl)) 28 (by show _ = _; kernel_rfl)) (Below.refl _ _))
  · intro f w' hv hB hev
    have e12 : f 12 = p.v := hv 12 (by omega)
    have e13 : Sl.Own Pn.k w1.heap.size w' (f 13) (L.take k ++ L.drop (k + 1)) := hv 13 (by omega)
    change wpList _ _ _ [_, _] (Act.put (Act.put (Act.put (Act.put (Act.put (Act.put (Act.put (Act.put (Act.put (Act.put (Act.put (Act.put (Act.put (Act.put _ (some 20) (f 0)) (some 21) (f 1)) (some 22) (f 2)) (some 23) (f 3)) (some 24) (f 4)) (some 25) (f 5)) (some 26) (f 6)) (some 27) (f 7)) (some 28) (f 8)) (some 29) (f 9)) (some 30) (f 10)) (some 31) (f 11)) (some 32) (f 12)) (some 4) (f 13)) _
    rw [Rel.puts_zero]
    clear hv hev
    have Z2 := Lib.hid (Z1.out.next hB)
    have K2 := Lib.hid (after K1.out hB)
    have E13 := Lib.hid e13
    have hle : Hid (w.heap.size ≤ w1.heap.size) := Lib.hid K1.out.size
    have hlt : Hid (w.heap.size + 1 < w1.heap.size) := Lib.hid Z1.out.lt
    clear e13 hB
    rw [e12]
    obtain ⟨⟨z0, z1, z2, z3, z4, z5, z6⟩, y0, y1, y2, y3, y4, y5, y6⟩ := seven Z2.out
    go_wp2
    change bodyPost _ _ _ _ _ (put7 w' (w.heap.size + 1) (.string p.key) (.int .i64 p.s) (.int .i64 p.e) (.int .i64 p.c) (.int .i64 p.m) (.int .i64 p.l) (.int .i64 p.u))
    have O3 := own_put7 E13.out (show w.heap.size + 1 < w1.heap.size from hlt.out) (.string p.key) (.int .i64 p.s) (.int .i64 p.e) (.int .i64 p.c) (.int .i64 p.m) (.int .i64 p.l) (.int .i64 p.u)
    obtain ⟨W, hW⟩ : ∃ W, W = put7 w' (w.heap.size + 1) (.string p.key) (.int .i64 p.s) (.int .i64 p.e) (.int .i64 p.c) (.int .i64 p.m) (.int .i64 p.l) (.int .i64 p.u) := ⟨_, rfl⟩
    have Z3 := put7_lies Z2.out (.string p.key) (.int .i64 p.s) (.int .i64 p.e) (.int .i64 p.c) (.int .i64 p.m) (.int .i64 p.l) (.int .i64 p.u)
    have K3 := put7_below (g := w.heap.size + 1) K2.out (by omega) (.string p.key) (.int .i64 p.s) (.int .i64 p.e) (.int .i64 p.c) (.int .i64 p.m) (.int .i64 p.l) (.int .i64 p.u)
    rw [← hW] at Z3 K3 O3 ⊢
    clear hW
    obtain ⟨⟨z0, z1, z2, z3, z4, z5, z6⟩, -⟩ := seven Z3
    exact bodyPost_ret (v := .tuple #[f 13, p.v, .bool true]) (by simp [results, Tryz.results93, go_sem, z0, z1, z2, z3, z4, z5, z6]) rfl ⟨f 13, rfl, own_base O3 hle.out, K3⟩
end Pane
end Go.Proofs.YtmklkiklegkioaaGreat
