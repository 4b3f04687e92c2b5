/-
  BoxPlays: what any messages come to that are put, and taken, one behind the other: each answer.
  (No premise: at every room and every list of deeds.)
-/
import Derived.Test.YtijoloeemomjbaaUp10
import Derived.Test.YtijoloeemomjbaaDrawn
import Derived.Test.YtijoloeemomjbaaLaid
namespace Go.Proofs.Ytijoloeemomjbaa.boxPlays
open Go.ChangeShapes Go.WideShapes Go.ChangeAt Go.RowKit Small Foot Bx
set_option linter.unusedVariables false
set_option maxRecDepth 100000

theorem deeds_under : Try.prog.underlying 22 = some (.slice (Try.prog.elem 22)) := by kernel_rfl
theorem deeds_elem : Try.prog.elem 22 = 33 := by kernel_rfl
theorem deed_info : ∃ i0, Try.prog.info? 33 = some i0 ∧ i0.size = 2 := ⟨_, rfl, by kernel_rfl⟩
theorem lit1 (x : Int) (w : World) : (Instr.buildSlice Nu.k.t 1 #[(0, .int .i64 x)]).run Try.prog w = .ok (.slice (some ⟨w.heap.size, 0, none⟩) 1 1) (w.alloc (.cells (Nu.k.cl x).toArray Nu.k.e)) := by
  simp [go_sem, Instr.buildSlice, Instr.fill, newRow]

/-- the mailbox at g, whose list is vb, and the law's own list, vm -/
structure St (w0 : World) (g : Nat) (room : Int) (cl : Bool) (vb vm : Value) (N M : List Int) (w : World) : Prop where
  box : Nu.Box w g room cl vb N
  own : Sl.Own Nu.k (g + 1) w vm M
  apart : ∀ a, vm.ownBlock = some a → ¬ Fp g vb a
  far : w0.heap.size ≤ g
  below : Below w0.heap.size w0 w
section
variable {w0 w w' : World} {g : Nat} {room : Int} {cl cl' : Bool} {vb vb' vm vm' : Value} {N N' M M' : List Int}
theorem St.next (h : St w0 g room cl vb vm N M w) (k : Below w.heap.size w w') : St w0 g room cl vb vm N M w' := ⟨h.box.next k, h.own.next k, h.apart, h.far, after h.below k⟩
theorem St.call (h : St w0 g room cl vb vm N M w) (b : Nu.Box w' g room cl' vb' N') (k : Moves (Fp g vb) (Fp g vb') w w') : St w0 g room cl' vb' vm N' M w' :=
  ⟨b, h.own.move fun a ha => k.block a (h.own.lt a ha).2 (h.apart a ha), fun a ha q => by
    rcases (k.new a q).1 with f | f
    · exact h.apart a ha f
    · have := (h.own.lt a ha).2; omega, h.far, h.below.trans (k.below (fun i hi => Nat.le_trans h.far (h.box.from i hi)) h.below.size)⟩
theorem St.mine (h : St w0 g room cl vb vm N M w) (o : Sl.Own Nu.k w.heap.size w' vm' M') (k : Below w.heap.size w w') : St w0 g room cl vb vm' N M' w' := by
  have hg := h.box.lies.lt
  refine ⟨h.box.next k, ⟨o.1, ?_⟩, fun a ha q => ?_, h.far, after h.below k⟩
  · rcases o.2 with o | ⟨a, c, cur, o1, o2, o3⟩
    · exact .inl o
    · exact .inr ⟨a, c, cur, o1, by omega, o3⟩
  · have h1 := (o.lt a ha).1
    have h2 := h.box.in a q
    omega
end

def Pu (B : Nat) (vm : Value) (M : List Int) (lb lo n cp jx : Nat) (x : Int) (i : Nat) (u : Value) (w : World) : Prop := match i with
  | 0 => ∃ b, u = .slice (some ⟨b, 0, none⟩) 0 0 ∧ w.heap[b]? = some (.cells #[] 3 (0, 0)) ∧ B ≤ b
  | 1 => u = vm
  | 2 => Sl.Own Nu.k B w u M
  | 3 => u = (.slice (some ⟨lb, lo, none⟩) n cp)
  | 4 => u = (.int .i64 jx)
  | 5 => u = .pointer (some ⟨lb, lo + jx * 2, none⟩)
  | 6 => u = .pointer (some ⟨lb, lo + jx * 2 + 1, none⟩)
  | 7 => u = .int .i64 x
  | 8 => ∃ b, u = .slice (some ⟨b, 0, none⟩) 1 1 ∧ Lies w b 3 [.int .i64 x]
  | _ => True
theorem Pu.mono (B : Nat) (vm : Value) (M : List Int) (lb lo n cp jx : Nat) (x : Int) : ∀ i u w w', Pu B vm M lb lo n cp jx x i u w → Below w.heap.size w w' → Pu B vm M lb lo n cp jx x i u w'
  | 0, u, w, w', ⟨b, h1, h2, h3⟩, k => ⟨b, h1, (k.block b (Nat.lt_of_not_le fun q => by rw [Array.getElem?_eq_none q] at h2; cases h2)).trans h2, h3⟩
  | 1, u, w, w', h, k => h
  | 2, u, w, w', h, k => Sl.Own.next h k
  | 3, u, w, w', h, k => h
  | 4, u, w, w', h, k => h
  | 5, u, w, w', h, k => h
  | 6, u, w, w', h, k => h
  | 7, u, w, w', h, k => h
  | 8, u, w, w', ⟨b, h1, h2⟩, k => ⟨b, h1, h2.next k⟩
  | i + 9, u, w, w', h, k => trivial

set_option maxHeartbeats 16000000 in
theorem walk (room : Int) (hroom : (Lit.int .i64 room).wf = true) (x : Option Addr × Nat × Nat × (Nat → Deed)) (w : World) (hx : Opens.IsRows dl 2 DFits w x) :
    Calls Try.prog 3 #[.int .i64 room, .slice x.1 x.2.1 x.2.2.1] w fun r w' => r = .returned (.bool true) ∧ Below w.heap.size w w' := by
  obtain ⟨A, n, cp, f⟩ := x
  obtain ⟨hm, hf, hc⟩ := hx
  simp only at hm hf hc ⊢
  have HF := Lib.hid hf
  have HC := Lib.hid hc
  clear hf hc
  go_enter Try.func3, Try.ntmps3
  go_wp2_with fail
  refine (up_ok w).mono ?_
  rintro r w1 ⟨rfl, k1⟩
  have K1 := Lib.hid k1
  clear k1
  go_wp2_with fail
  by_cases hr : room < 1 ∨ 16 < room
  · refine (Nu.new_no room w1 hr).mono ?_
    rintro r w2 ⟨rfl, k2⟩
    have K2 := Lib.hid (after K1.out k2)
    clear k2
    have q1 := Errs.eql_code w2 1 1
    rcases hr with hr | hr
    · go_wp2
      go_ret
      exact ⟨rfl, K2.out⟩
    · have h1 : ¬ room < 1 := by omega
      go_wp2
      go_ret
      exact ⟨rfl, K2.out⟩
  have r1 : ¬ room < 1 := by omega
  have r2 : ¬ 16 < room := by omega
  refine (Nu.new_ok room w1 (by omega) (by omega)).mono ?_
  rintro r w2 ⟨rfl, b2, k2⟩
  have S2 : Hid (St w w1.heap.size room false (.slice none 0 0) (.slice none 0 0) [] [] w2) := Lib.hid ⟨b2, Sl.Own.nil _ _ _, fun a ha => (by simp [Value.ownBlock] at ha), K1.out.size, after K1.out k2⟩
  generalize w1.heap.size = g at *
  clear b2 k2 K1 hr
  by_cases hn : 200 < n
  · have hnz : (200 : Int) < (n : Int) := by omega
    go_wp2
    go_ret
    exact ⟨rfl, S2.out.below⟩
  have hnz : ¬ (200 : Int) < (n : Int) := by omega
  clear hn
  have R1 : Hid (1 ≤ room) := Lib.hid (by omega)
  have R2 : Hid (room ≤ 16) := Lib.hid (by omega)
  go_wp2_with fail
  clear r1 r2
  go_loopw [8, 9, 10] (fun sm sc si wr => ∃ (jx : Nat) (M : List Int) (cl : Bool) (vb vm : Value), jx ≤ n ∧ si = .int .i64 jx ∧ sm = vm ∧ sc = .bool cl ∧ Hid ((M.length : Int) ≤ room) ∧ Hid (St w g room cl vb vm M M wr)) (fun _ _ si _ => n - (intOf si).toNat)
  case atStart => exact ⟨0, [], false, _, _, by omega, rfl, rfl, rfl, Lib.hid (by have := R1.out; simp; omega), S2⟩
  case round =>
    clear S2
    obtain ⟨jx, M, cl, vb, vm, hi, rfl, rfl, rfl, hM, T⟩ := hrel
    obtain ⟨bm, -, im⟩ := T.out.own.is
    obtain ⟨AM, cM, rfl⟩ := im.len
    have IM := Lib.hid im
    have HM : Hid (M.length ≤ 16) := Lib.hid (by have := hM.out; have := R2.out; omega)
    clear im
    by_cases hlt : jx < n
    · obtain ⟨lb, lo, rfl, hcell⟩ := HC.out (by omega)
      have c0 := hcell jx hlt 0 _ rfl
      have c1 := hcell jx hlt 1 _ rfl
      rw [Nat.add_zero] at c0
      rw [← Nat.add_assoc] at c1
      have fx := Lib.hid (HF.out jx hlt)
      obtain ⟨y, hy⟩ : ∃ y, y = f jx := ⟨_, rfl⟩
      rw [← hy] at c0 c1 fx
      clear hy hcell
      obtain ⟨what, x⟩ := y
      have HC1 : Hid (w.cell? ⟨lb, lo + jx * 2 + 1, none⟩ = some (.int .i64 x)) := Lib.hid c1
      have c0 := cell_keep T.out.below c0
      have c1 := cell_keep T.out.below c1
      have i0 : (jx : Int) < (n : Int) := by omega
      go_wp2_with fail
      refine (pick_ok what 8 _ fx.out.1 (by omega) (by omega)).mono ?_
      rintro e w5 ⟨⟨pk, rfl, hpk⟩, rfl⟩
      clear c0
      by_cases p1 : pk < 4
      · have p1z : (pk : Int) < 4 := by omega
        cases cl with
        | true =>
          by_cases hfull : (M.length : Int) = room
          · go_wp2_with fail
            refine (Nu.put_shut g room _ M x _ (Lib.hid T.out.box)).mono ?_
            rintro e w6 ⟨rfl, k6⟩
            have T6 := Lib.hid (T.out.next k6)
            clear k6 T IM c1
            go_wp2_with fail
            refine (Errs.code_of 5 w6 (by omega) (by omega)).mono ?_
            rintro e w7 ⟨rfl, rfl⟩
            go_wp2_with fail
            refine (Nu.len_ok g room true _ M _ (Lib.hid T6.out.box)).mono ?_
            rintro r w8 ⟨rfl, rfl⟩
            go_wp2_with fail
            refine (Nu.closed_ok g room true _ M _ (Lib.hid T6.out.box)).mono ?_
            rintro r w9 ⟨rfl, rfl⟩
            go_wp2_with fail
            exact ⟨⟨jx + 1, M, true, _, _, by omega, by go_num, rfl, rfl, hM, T6⟩, by simp [intOf]; omega⟩
          · have hfz : ((M.length : Int) == room) = false := by simpa using hfull
            have hfull : Hid (¬ (M.length : Int) = room) := Lib.hid hfull
            go_wp2_with fail
            refine (Nu.put_shut g room _ M x _ (Lib.hid T.out.box)).mono ?_
            rintro e w6 ⟨rfl, k6⟩
            have T6 := Lib.hid (T.out.next k6)
            clear k6 T IM c1 hfz
            go_wp2_with fail
            refine (Errs.code_of 5 w6 (by omega) (by omega)).mono ?_
            rintro e w7 ⟨rfl, rfl⟩
            go_wp2_with fail
            refine (Nu.len_ok g room true _ M _ (Lib.hid T6.out.box)).mono ?_
            rintro r w8 ⟨rfl, rfl⟩
            go_wp2_with fail
            refine (Nu.closed_ok g room true _ M _ (Lib.hid T6.out.box)).mono ?_
            rintro r w9 ⟨rfl, rfl⟩
            go_wp2_with fail
            exact ⟨⟨jx + 1, M, true, _, _, by omega, by go_num, rfl, rfl, hM, T6⟩, by simp [intOf]; omega⟩
        | false =>
          by_cases hfull : (M.length : Int) = room
          · go_wp2_with fail
            refine (Nu.put_full g room _ M x _ (Lib.hid T.out.box) (by omega)).mono ?_
            rintro e w6 ⟨rfl, k6⟩
            have T6 := Lib.hid (T.out.next k6)
            clear k6 T IM c1
            go_wp2_with fail
            refine (Errs.code_of 4 w6 (by omega) (by omega)).mono ?_
            rintro e w7 ⟨rfl, rfl⟩
            go_wp2_with fail
            refine (Nu.len_ok g room false _ M _ (Lib.hid T6.out.box)).mono ?_
            rintro r w8 ⟨rfl, rfl⟩
            go_wp2_with fail
            refine (Nu.closed_ok g room false _ M _ (Lib.hid T6.out.box)).mono ?_
            rintro r w9 ⟨rfl, rfl⟩
            go_wp2_with fail
            exact ⟨⟨jx + 1, M, false, _, _, by omega, by go_num, rfl, rfl, hM, T6⟩, by simp [intOf]; omega⟩
          · have hfz : ((M.length : Int) == room) = false := by simpa using hfull
            have hlr : Hid ((M.length : Int) < room) := Lib.hid (by have := hM.out; omega)
            clear hfull
            go_wp2_with fail
            refine (Nu.put_ok g room _ M x _ (Lib.hid T.out.box) hlr.out R2.out).mono ?_
            rintro e w6 ⟨v6, rfl, b6, m6⟩
            have T6 := Lib.hid (T.out.call b6 m6)
            obtain ⟨bm, -, im⟩ := T6.out.own.is
            have IM := Lib.hid im
            have c1 := cell_keep T6.out.below HC1.out
            have HN := Lib.hid c1
            have hML : Hid (((M ++ [x]).length : Int) ≤ room) := Lib.hid (by have := hlr.out; simp; omega)
            clear b6 m6 T im hM hlr hfz
            go_wp2_with fail
            refine (Errs.code_nil w6).mono ?_
            rintro e w7 ⟨rfl, rfl⟩
            go_wp2_with fail
            clear c1
            refine wp_region_goes Goes.below 9 144 (Pu w6.heap.size (.slice AM M.length cM) M lb lo n cp jx x) (by show _ = _; kernel_rfl) (by show _ = _; kernel_rfl) (by show _ = _; kernel_rfl) (Pu.mono w6.heap.size (.slice AM M.length cM) M lb lo n cp jx x) ?_ ?_
            · intro i hi o ho a' w' Kc hd hout hdep hB hK
              match i, hi, ho with
              | 0, _, ho => exact Sl.wp_lit0 Nu.ok (Reg.Has.op (p := Op.buildSlice 30 0 #[]) (t := 88) (by show _ = _; kernel_rfl) ho).1 (hK _ _ ⟨_, rfl, heap_alloc_new _ _, hB.size⟩ (below1 _ _))
              | 1, _, ho => exact Sl.wp_move _ (Reg.Has.op (p := Op.move (.tmp 8)) (t := 89) (by show _ = _; kernel_rfl) ho).1 (hK _ _ (hout 8 (Reg.Free.out (by show _ = _; kernel_rfl))) (Below.refl _ _))
              | 2, _, ho =>
                obtain ⟨b9, q1, q2, q3⟩ := (hdep 0 (mem_of (by show _ = _; kernel_rfl)) 88 (by show _ = _; kernel_rfl))
                have q4 := (hdep 1 (mem_of (by show _ = _; kernel_rfl)) 89 (by show _ = _; kernel_rfl))
                exact Sl.wp_append_empty Nu.ok (.tmp 88) (.tmp 89) (Reg.Has.op (p := Op.call { callee := Callee.builtin Builtin.append, args := #[.tmp 88, .tmp 89], argTypes := #[30, 30] }) (t := 90) (by show _ = _; kernel_rfl) ho).1 q1 q2 q3 (l2 := M) (b2 := bm) (by rw [show a'.eval (.tmp 89) = _ from q4]; exact IM.out.next hB) (by have := HM.out; omega) hB.size (fun u w' q1 q2 => hK u w' q1 q2)
              | 3, _, ho => exact Sl.wp_move _ (Reg.Has.op (p := Op.move (.tmp 1)) (t := 91) (by show _ = _; kernel_rfl) ho).1 (hK _ _ (hout 1 (Reg.Free.out (by show _ = _; kernel_rfl))) (Below.refl _ _))
              | 4, _, ho => exact Sl.wp_move _ (Reg.Has.op (p := Op.move (.tmp 10)) (t := 92) (by show _ = _; kernel_rfl) ho).1 (hK _ _ (hout 10 (Reg.Free.out (by show _ = _; kernel_rfl))) (Below.refl _ _))
              | 5, _, ho =>
                refine wp_val (V := .pointer (some ⟨lb, lo + jx * 2, none⟩)) (w' := w') ?_ (hK _ _ rfl (Below.refl _ _))
                have hop := (Reg.Has.op (p := Op.indexAddr 22 (.tmp 91) (.tmp 92)) (t := 93) (by show _ = _; kernel_rfl) ho).1
                have h1 : a'.eval (.tmp 91) = .slice (some ⟨lb, lo, none⟩) n cp := (hdep 3 (mem_of (by show _ = _; kernel_rfl)) 91 (by show _ = _; kernel_rfl))
                have h2 : a'.eval (.tmp 92) = .int .i64 jx := (hdep 4 (mem_of (by show _ = _; kernel_rfl)) 92 (by show _ = _; kernel_rfl))
                have h3 : (jx : Int) < n := by omega
                obtain ⟨i9, hi9, hz9⟩ := deed_info
                generalize a'.eval = ev at h1 h2
                simp only [execOp, hop, h1, h2]
                simp [run_indexAt_slice w' 22 ⟨lb, lo, none⟩ n cp .i64 (jx : Int) deeds_under, deeds_elem, sizeOf, typeInfo, hi9, hz9, h3, Addr.add_lit, Result.andThen]
              | 6, _, ho =>
                refine wp_val (V := .pointer (some ⟨lb, lo + jx * 2 + 1, none⟩)) (w' := w') ?_ (hK _ _ rfl (Below.refl _ _))
                have hop := (Reg.Has.op (p := Op.fieldAddr 33 (.tmp 93) 1) (t := 94) (by show _ = _; kernel_rfl) ho).1
                have h0 : a'.eval (.tmp 93) = .pointer (some ⟨lb, lo + jx * 2, none⟩) := (hdep 5 (mem_of (by show _ = _; kernel_rfl)) 93 (by show _ = _; kernel_rfl))
                generalize a'.eval = ev at h0
                simp [execOp, hop, go_sem, h0]
              | 7, _, ho =>
                refine wp_val (V := .int .i64 x) (w' := w') ?_ (hK _ _ rfl (Below.refl _ _))
                have hop := (Reg.Has.op (p := Op.load 3 (.tmp 94)) (t := 95) (by show _ = _; kernel_rfl) ho).1
                have h0 : a'.eval (.tmp 94) = .pointer (some ⟨lb, lo + jx * 2 + 1, none⟩) := (hdep 6 (mem_of (by show _ = _; kernel_rfl)) 94 (by show _ = _; kernel_rfl))
                have h1 : w'.cell? ⟨lb, lo + jx * 2 + 1, none⟩ = some (.int .i64 x) := cell_keep hB HN.out
                generalize a'.eval = ev at h0
                simp [execOp, hop, go_sem, h0, h1]
              | 8, _, ho => exact Sl.wp_lit1 (K := Nu.k) (.tmp 95) x (Reg.Has.op (p := Op.buildSlice 30 1 #[(0, .tmp 95)]) (t := 96) (by show _ = _; kernel_rfl) ho).1 (hdep 7 (mem_of (by show _ = _; kernel_rfl)) 95 (by show _ = _; kernel_rfl)) (lit1 _ _) (hK _ _ ⟨_, rfl, Lies.new _ _ _⟩ (below1 _ _))
            · intro f w' hv hB hev
              have e2 : Sl.Own Nu.k w6.heap.size w' (f 2) M := hv 2 (by omega)
              obtain ⟨b8, e8, z8⟩ := hv 8 (by omega)
              have v2 := hev 2 (by omega) 90 (by show _ = _; kernel_rfl)
              have v8 := hev 8 (by omega) 96 (by show _ = _; kernel_rfl)
              change wpList _ _ _ [_, _] _ _
              refine wpList_plain rfl fun K' hK' => Sl.wp_append Nu.ok (.tmp 90) (.tmp 96) rfl (l := M) (l2 := [x]) (base := w6.heap.size) (by rw [v2]; exact e2) (by rw [v8, e8]; exact Sl.Is.one Nu.ok z8) (by have := HM.out; simp; omega) hB.size (fun u w8 q1 q2 q3 => hK' _ _ ?_)
              have T8 := Lib.hid (T6.out.mine q1 (hB.grown q2 hB.size (fun k hk => by rw [v2] at hk; exact (e2.lt k hk).1)))
              clear q2 q3 hv hev hB e2 v2 v8 z8 e8 T6 IM HN
              change wpList _ _ _ [_] (Act.put (Act.put (Act.put (Act.put (Act.put (Act.put (Act.put (Act.put (Act.put (Act.put _ (some 88) (f 0)) (some 89) (f 1)) (some 90) (f 2)) (some 91) (f 3)) (some 92) (f 4)) (some 93) (f 5)) (some 94) (f 6)) (some 95) (f 7)) (some 96) (f 8)) (some 97) u) _
              rw [Rel.puts_zero]
              generalize f 0 = y0
              generalize f 1 = y1
              generalize f 2 = y2
              generalize f 3 = y3
              generalize f 4 = y4
              generalize f 5 = y5
              generalize f 6 = y6
              generalize f 7 = y7
              generalize f 8 = y8
              obtain ⟨b9, -, i9⟩ := T8.out.own.is
              obtain ⟨A9, c9, rfl⟩ := i9.len
              clear i9 q1
              generalize M ++ [x] = M8 at T8 hML ⊢
              go_wp2_with fail
              refine (Nu.len_ok g room false _ M8 _ (Lib.hid T8.out.box)).mono ?_
              rintro r w8 ⟨rfl, rfl⟩
              go_wp2_with fail
              refine (Nu.closed_ok g room false _ M8 _ (Lib.hid T8.out.box)).mono ?_
              rintro r w9 ⟨rfl, rfl⟩
              go_wp2_with fail
              exact ⟨⟨jx + 1, M8, false, _, _, by omega, by go_num, rfl, rfl, hML, T8⟩, by simp [intOf]; omega⟩
      · have p1z : ¬ (pk : Int) < 4 := by omega
        by_cases p2 : pk < 7
        · have p2z : (pk : Int) < 7 := by omega
          rcases M with _ | ⟨z, M'⟩
          · go_wp2_with fail
            refine (Nu.take_none g room cl _ _ (Lib.hid T.out.box)).mono ?_
            rintro e w6 ⟨rfl, k6⟩
            have T6 := Lib.hid (T.out.next k6)
            clear k6 T IM c1
            go_wp2_with fail
            refine (Nu.len_ok g room cl _ [] _ (Lib.hid T6.out.box)).mono ?_
            rintro r w8 ⟨rfl, rfl⟩
            go_wp2_with fail
            refine (Nu.closed_ok g room cl _ [] _ (Lib.hid T6.out.box)).mono ?_
            rintro r w9 ⟨rfl, rfl⟩
            go_wp2_with fail
            exact ⟨⟨jx + 1, [], cl, _, _, by omega, by go_num, rfl, rfl, hM, T6⟩, by simp [intOf]; omega⟩
          · have q9 : (0 : Int) < ((M'.length + 1 : Nat) : Int) := by omega
            go_wp2_with fail
            refine (Nu.take_ok g room cl _ z M' _ (Lib.hid T.out.box) (by have := HM.out; simp at this; omega)).mono ?_
            rintro e w6 ⟨v6, rfl, b6, m6⟩
            have T6 := Lib.hid (T.out.call b6 m6)
            obtain ⟨bm, -, im⟩ := T6.out.own.is
            obtain ⟨off, cp2, he, h2, h3, h4, hcell⟩ := im.some_ Nu.ok (by simp)
            obtain ⟨rfl, rfl⟩ : AM = some ⟨bm, off, none⟩ ∧ cM = cp2 := by simpa using he
            have d0 := hcell 0 z rfl 0 _ rfl
            simp only [Nat.zero_mul, Nat.add_zero] at d0
            have IM := Lib.hid im
            have hML : Hid ((M'.length : Int) ≤ room) := Lib.hid (by have := hM.out; simp at this; omega)
            clear b6 m6 T im he hcell c1 hM
            obtain ⟨nm, hnm⟩ : ∃ nm, nm = M'.length + 1 := ⟨_, rfl⟩
            rw [← hnm] at q9 ⊢
            have HNM := Lib.hid hnm
            have HL : Hid (M'.length ≤ 16) := Lib.hid (by have := HM.out; simp at this; omega)
            have NM2 : Hid (1 ≤ nm ∧ nm ≤ 17) := Lib.hid (by have := HM.out; simp at this; omega)
            clear hnm h2
            go_wp2_with (first
              | (refine wpList_plain rfl fun K' hK' => Sl.wp_drop Nu.ok (.tmp 125) (.const (.int .i64 1)) rfl (l := z :: M') (b := bm) (m := 1) (by have := IM.out.next (below1 w6 (Obj.cells #[] 3)); rw [List.length_cons, ← HNM.out] at this; exact this) rfl (by simp) (fun vd x1 => hK' _ _ ?_)
                 have XD : Hid (Sl.Is Nu.k (w6.alloc (Obj.cells #[] 3)) vd M' bm) := Lib.hid x1
                 clear x1)
              | (at_builtin
                 refine wpList_plain rfl fun K' hK' => Sl.wp_append_empty Nu.ok (.tmp 124) (.tmp 126) rfl (b := w6.heap.size) (base := w6.heap.size) (l2 := M') (b2 := bm) rfl (heap_alloc_new _ _) (Nat.le_refl _) (by exact XD.out) (by have := HL.out; omega) (by simp) (fun u w8 x1 x2 => hK' _ _ ?_)
                 have T8 := Lib.hid (T6.out.mine x1 (after (below1 _ _) x2))
                 obtain ⟨b9, -, i9⟩ := (T8.out.own).is
                 obtain ⟨A9, c9, rfl⟩ := i9.len
                 clear i9 x1 x2 T6 XD IM))
            refine (Nu.len_ok g room cl _ M' _ (Lib.hid T8.out.box)).mono ?_
            rintro r w8 ⟨rfl, rfl⟩
            go_wp2_with fail
            refine (Nu.closed_ok g room cl _ M' _ (Lib.hid T8.out.box)).mono ?_
            rintro r w9 ⟨rfl, rfl⟩
            go_wp2_with fail
            exact ⟨⟨jx + 1, M', cl, _, _, by omega, by go_num, rfl, rfl, hML, T8⟩, by simp [intOf]; omega⟩
        · have p2z : ¬ (pk : Int) < 7 := by omega
          go_wp2_with fail
          refine (Nu.close_ok g room cl _ M _ (Lib.hid T.out.box)).mono ?_
          rintro e w6 ⟨rfl, b6, m6⟩
          have T6 := Lib.hid (T.out.call b6 m6)
          clear b6 m6 T IM c1
          cases cl with
          | true =>
            go_wp2_with fail
            go_wp2_with fail
            refine (Nu.len_ok g room true _ M _ (Lib.hid T6.out.box)).mono ?_
            rintro r w8 ⟨rfl, rfl⟩
            go_wp2_with fail
            refine (Nu.closed_ok g room true _ M _ (Lib.hid T6.out.box)).mono ?_
            rintro r w9 ⟨rfl, rfl⟩
            go_wp2_with fail
            exact ⟨⟨jx + 1, M, true, _, _, by omega, by go_num, rfl, rfl, hM, T6⟩, by simp [intOf]; omega⟩
          | false =>
            go_wp2_with fail
            go_wp2_with fail
            refine (Nu.len_ok g room true _ M _ (Lib.hid T6.out.box)).mono ?_
            rintro r w8 ⟨rfl, rfl⟩
            go_wp2_with fail
            refine (Nu.closed_ok g room true _ M _ (Lib.hid T6.out.box)).mono ?_
            rintro r w9 ⟨rfl, rfl⟩
            go_wp2_with fail
            exact ⟨⟨jx + 1, M, true, _, _, by omega, by go_num, rfl, rfl, hM, T6⟩, by simp [intOf]; omega⟩
    · obtain rfl : jx = n := by omega
      have KB := Lib.hid T.out.below
      go_wp2
      go_ret
      exact ⟨rfl, KB.out⟩

theorem own : ownKnob Try.prog.godebug = none := by kernel_rfl

set_option maxRecDepth 100000 in
theorem lifted (os : Os) (started : os.Started) (H : Type) (enc : TypeId × Value → H) :
    ReturnsInHanded {} Try.checked os 3 .any (Rows.boxPlaysSpec.pre6 enc Try.prog Try.f3 Rows.boxPlaysRow.domain false) (Rows.boxPlaysSpec.post enc Try.prog Try.f3 false true false false) := by
  refine returnsInHanded_of_change (C := Try.checked) own started (by kernel_rfl) Try.func3
    (ChangeSpec.witness6 (enc := enc) (C := Try.checked) false ⟨#[], #[.int .i64 0, .slice none 0 0], []⟩ 8 (by kernel_rfl) (by kernel_rfl) (by kernel_rfl) (by kernel_rfl)) ?_
  intro W base args ds gs before hval0 hW hcnd _
  have hval : ∀ (j : Nat) t v, Try.f3.params[j]? = some t → args[j]? = some v → Value.okWide Try.prog W .any base t v := hval0
  have hW' := hW
  obtain ⟨p, q, hA0, hV, rfl, hfz, hnd⟩ := hW
  have hA : DataW.TrodAll enc Try.prog W 0 (fun _ => true) true Try.f3.params.toList args.toList ds p := hA0
  rw [Try.params3] at hA hval
  obtain ⟨v0, vs0, d0, ds0, p0, q0, hargs, rfl, rfl, h0, r0⟩ := trodAll_cons hA
  obtain ⟨v1, vs1, d1, ds1, p1, q1, rfl, rfl, rfl, h1, r1⟩ := trodAll_cons r0
  obtain ⟨rfl, rfl, rfl⟩ := trodAll_nil r1
  obtain rfl : args = #[v0, v1] := by cases args; simp_all
  obtain ⟨rfl, rfl⟩ := trodVars_none hV
  obtain ⟨a0, rfl, rfl, rfl, w0⟩ := open_int Try.underlying3 (hval 0 3 v0 rfl rfl) h0
  obtain ⟨a1, rfl, w1⟩ := Opens.open_deeds (hval 1 22 v1 rfl rfl) h1
  clear hA0 hval0
  refine (walk a0 w0 a1 W w1).mono fun e W' ⟨he, hg⟩ => ?_
  subst he
  exact ⟨_, rfl, Laid.post Laid.laidOut (by kernel_rfl) rfl (by kernel_rfl) Try.underlying4 hW' ⟨rfl, rfl, rfl⟩ hg⟩

theorem over : Rows.boxPlaysRow.holds Try.pinned (OpenSpec.ofChange Rows.boxPlaysSpec) :=
  OpenClaim.holds_of_wide 3 Try.f3 rfl rfl rfl rfl rfl rfl rfl ⟨rfl, rfl, rfl, rfl, rfl⟩ rfl rfl rfl rfl rfl (by kernel_rfl) Try.func3 (by kernel_rfl)
    (of_decide_eq_true (by kernel_rfl)) (by unfold Func.isWrapper; first | (rw [if_pos (by decide +kernel)]; kernel_rfl) | (rw [if_neg (by decide +kernel)]; exact ⟨rfl, rfl⟩))
    (fun os started H enc _ => lifted os started H enc)

/-- ████ THE STATEMENT ████ -/
theorem proved : Rows.BoxPlaysSaid :=
  over
#print axioms proved
end Go.Proofs.Ytijoloeemomjbaa.boxPlays
