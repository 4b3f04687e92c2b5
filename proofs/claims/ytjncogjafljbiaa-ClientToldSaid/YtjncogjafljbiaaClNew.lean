/-
  A client that is made; its replies, as they are told.
-/
import Derived.Test.YtjncogjafljbiaaClDid
import Derived.Lib.SliceRun
import Derived.LoopTactic
namespace Go.Proofs.Ytjncogjafljbiaa
open Go.ChangeShapes Go.WideShapes Go.ChangeAt Go.RowKit
set_option linter.unusedVariables false
set_option maxRecDepth 100000
namespace Cn
open Small Foot Fm Ca
set_option maxHeartbeats 800000 in
theorem clone_calls (v : Value) (L : List Cl) (b : Nat) (w : World) (H : Hid (Sl.Is Ck w v L b)) (hn : L.length ≤ 9000) :
    Calls Try.prog 31 #[v] w fun r w' => ∃ v', r = .returned v' ∧ Sl.Own Ck w.heap.size w' v' L ∧ Below w.heap.size w w' := by
  rcases H.out with ⟨rfl, rfl⟩ | ⟨off, cap, rfl, h2, h3, h4, h5⟩
  · clear H
    go_enter Try.func31, Try.ntmps31
    have e0 : ∀ w, (binOp .eql 38 (.slice none 0 0) (.slice none 0 0)).run Try.prog w = .ok (.bool true) w := fun w => Lib.run_eql_slice_nil w _ _ _ _ _ _ _ Try.underlying38
    go_wp2
    go_ret
    exact ⟨_, rfl, Sl.Own.nil _ _ _, Below.refl _ _⟩
  · clear h2 h3 h4 h5
    go_enter Try.func31, Try.ntmps31
    have e0 : ∀ w, (binOp .eql 38 (.slice (some ⟨b, off, none⟩) L.length cap) (.slice none 0 0)).run Try.prog w = .ok (.bool false) w := fun w => Lib.run_eql_slice_nil w _ _ _ _ _ _ _ Try.underlying38
    go_wp2_with (at_builtin; refine wpList_plain rfl fun K' hK' => Sl.wp_append_empty (K := Ck) cok (.tmp 5) (.tmp 6) rfl (b := w.heap.size) (base := w.heap.size) (l2 := L) (b2 := b) rfl (heap_alloc_new _ _) (Nat.le_refl _) (by exact H.out.next (below1 _ _)) (by omega) (by simp) (fun u w8 x1 x2 => hK' _ _ ?_))
    have B := Lib.hid (after (below1 _ _) x2)
    have X1 := Lib.hid x1
    clear x1 x2 
    go_wp2
    go_ret
    exact ⟨_, rfl, X1.out, B.out⟩
set_option maxHeartbeats 800000 in
theorem cnew_ok (num : Int) (v : Value) (L : List Cl) (b : Nat) (w : World) (H : Hid (Sl.Is Ck w v L b)) (hn : L.length ≤ 9000) :
    Calls Try.prog 8 #[.int .i64 num, v] w fun r w' => ∃ x cv, r = .returned (gp x) ∧ Q w' x num cv L (.slice none 0 0) [] g0 ∧ From w.heap.size (CF x cv (.slice none 0 0)) ∧ Below w.heap.size w w' := by
  go_enter Try.func8, Try.ntmps8
  go_wp2_with fail
  refine (clone_calls v L b w H hn).mono ?_
  rintro r w1 ⟨v', rfl, o1, k1⟩
  obtain ⟨_, _, i1⟩ := o1.is
  obtain ⟨A1, c1, rfl⟩ := i1.len
  have O1 := Lib.hid o1
  clear i1
  have K1 := Lib.hid k1
  clear o1 k1
  dsimp only
  go_wp2
  go_ret
  have k2 := below1 w1 (Obj.cells (ccl num (.slice A1 L.length c1) (.slice none 0 0) g0).toArray 86)
  refine ⟨w1.heap.size, .slice A1 L.length c1, rfl, ⟨Lies.new w1 _ (ccl num (.slice A1 L.length c1) (.slice none 0 0) g0), own_base (O1.out.next k2) (Nat.zero_le _), Sl.Own.nil _ _ _, fun e => ?_, (fun e => by cases e), fun a ha e => by cases e⟩, fun i hi => ?_, after K1.out k2⟩
  · have := (O1.out.lt _ e).2; omega
  · rcases hi with rfl | hi | hi
    · exact K1.out.size
    · exact (O1.out.lt i hi).1
    · cases hi
section
variable {w0 w w' : World} {E : Ev} {s s' : St} {R R' : Nat → Nat → Prop}
/-- what is told of the replies -/
structure Reps (w : World) (rs : List Rp) (v : Value) (zs : List Rp) (w' : World) : Prop where
  own : Sl.Own Rk w.heap.size w' v zs
  len : zs.length = rs.length
  each : ∀ (i : Nat) z y, zs[i]? = some z → rs[i]? = some y → z.code = y.code ∧ z.P = y.P ∧ Sl.Own Pn.k w.heap.size w' z.pv z.P
  below : Below w.heap.size w w'
/-- .. of the first k -/
structure RepK (w : World) (rs : List Rp) (v : Value) (zs : List Rp) (k : Nat) (w' : World) : Prop where
  own : Sl.Own Rk w.heap.size w' v zs
  len : zs.length = k
  each : ∀ (i : Nat) z y, zs[i]? = some z → rs[i]? = some y → z.code = y.code ∧ z.P = y.P ∧ Sl.Own Pn.k w.heap.size w' z.pv z.P
  ap : ∀ z ∈ zs, ∀ a, z.pv.ownBlock = some a → a < w'.heap.size ∧ v.ownBlock ≠ some a
  below : Below w.heap.size w w'
set_option maxHeartbeats 4000000 in
theorem replies_ok (H : Hid (CM w0 E s R w)) (hn : s.rs.length ≤ 1000) (hP : Hid (∀ r ∈ s.rs, r.P.length ≤ 9000)) :
    Calls Try.prog 19 #[gp E.x] w fun r w' => ∃ A c zs, r = .returned (.slice A s.rs.length c) ∧ Reps w s.rs (.slice A s.rs.length c) zs w' := by
  obtain ⟨cv, rv, q0, -⟩ := H.out.client
  obtain ⟨cA, cC, rA, rC, rfl, rfl⟩ := q0.lits
  have c2 := q0.lies.cell (i := 2) rfl
  have Q0 := Lib.hid q0
  obtain ⟨n, hnn⟩ : ∃ n, s.rs.length = n := ⟨_, rfl⟩
  rw [hnn] at c2 ⊢
  have HN := Lib.hid hnn
  have hn2 : n ≤ 1000 := by omega
  clear q0 hnn hn
  go_enter Try.func19, Try.ntmps19
  go_wp2_with fail
  clear c2
  go_loopw [3, 11] (fun sl si wr => ∃ (k : Nat) (zs : List Rp) (A : Option Addr) (c : Nat), k ≤ n ∧ si = .int .i64 k ∧ sl = .slice A k c ∧ Hid (RepK w s.rs sl zs k wr)) (fun _ si _ => n - (intOf si).toNat)
  case atStart => exact ⟨0, [], none, 0, by omega, rfl, rfl, Lib.hid ⟨Sl.Own.nil _ _ _, rfl, fun i z y h => by simp at h, fun z h => by simp at h, Below.refl _ _⟩⟩
  case round =>
    obtain ⟨k, zs, A, c, hk, rfl, rfl, RK⟩ := hrel
    by_cases hlt : k < n
    · have i1 : (k : Int) < (n : Int) := by omega
      have i0 : (0 : Int) ≤ (k : Int) := by omega
      obtain ⟨y, hy⟩ : ∃ y, s.rs[k]? = some y := ⟨_, List.getElem?_eq_getElem (by rw [HN.out]; exact hlt)⟩
      have H1 := Lib.hid (H.out.next RK.out.below)
      have Q1 := Lib.hid (Q0.out.next RK.out.below)
      obtain ⟨bl, -, il⟩ := Q1.out.reps.is
      obtain ⟨off, cap, e, -, -, -, hc⟩ := il.some_ rok (by have := HN.out; omega)
      simp only [Value.slice.injEq] at e
      obtain ⟨rfl, -, rfl⟩ := e
      have y0 : wr.cell? ⟨bl, off + k * 2, none⟩ = some (.int .i64 y.code) := hc k y hy 0 _ rfl
      have y1 : wr.cell? ⟨bl, off + k * 2 + 1, none⟩ = some (.slice y.a y.n y.c) := hc k y hy 1 _ rfl
      have HY := Lib.hid hy
      clear hc il hy
      go_upto_region 5 with fail
      have kx := below1 wr (Obj.cells #[.int .i64 y.code, .slice y.a y.n y.c] 43)
      have BX := Lib.hid (Lies.new wr 43 y.cl)
      have ym : y ∈ s.rs := List.mem_of_getElem? HY.out
      have YR : Hid (Out.Rd (wr.alloc (Obj.cells #[.int .i64 y.code, .slice y.a y.n y.c] 43)) y.pv y.P) := Lib.hid (.inl ((H1.out.next kx).reps y ym).is)
      have hy9 := hP.out y ym
      have KX := Lib.hid kx
      clear ym kx y0 y1
      generalize wr.heap.size = gx at BX ⊢
      generalize hw1 : wr.alloc (Obj.cells #[.int .i64 y.code, .slice y.a y.n y.c] 43) = w1 at BX YR KX ⊢
      clear hw1
      go_wp2_with (first
        | (refine wpList_plain rfl fun K' hK' => ld_rep (y := y) _ rfl rfl BX.out (hK' _ _ ?_))
        | fail)
      refine (apart_ok y w1 YR hy9).mono ?_
      rintro r w2 ⟨z, rfl, e1, e2, o2, k2⟩
      have sz : wr.heap.size ≤ w1.heap.size := KX.out.size
      have EE := Lib.hid (And.intro e1 (And.intro e2 o2))
      have L2 := Lib.hid (RK.out.own.next (after KX.out k2))
      have K2 := Lib.hid (after KX.out k2)
      have X2 : Hid (Lies (w2.alloc (Obj.cells z.cl.toArray 43)) w2.heap.size 43 z.cl) := Lib.hid (Lies.new _ _ _)
      have L3 := Lib.hid (L2.out.next (below1 w2 (Obj.cells z.cl.toArray 43)))
      have e3 : Hid (zs.length + [z].length ≤ 1048576) := Lib.hid (by rw [RK.out.len]; simp; omega)
      have e4 : Hid (w.heap.size ≤ (w2.alloc (Obj.cells z.cl.toArray 43)).heap.size) := Lib.hid (Nat.le_trans RK.out.below.size (after K2.out (below1 _ _)).size)
      have SZ := Lib.hid sz
      clear e1 e2 o2 k2 sz
      dsimp only
      go_wp2_with (at_builtin; refine wpList_plain rfl fun K' hK' => Sl.wp_append rok (.tmp 15) (.tmp 18) rfl (base := w.heap.size) (l := zs) (l2 := [z]) (b2 := w2.heap.size) (by exact L3.out) (by exact Sl.Is.one rok (x := z) X2.out) e3.out (by exact e4.out) (fun u w7 z1 z2 z3 => hK' _ _ ?_))
      obtain ⟨b7, -, i7⟩ := z1.is
      obtain ⟨A7, c7, rfl⟩ := i7.len
      rw [List.length_append, RK.out.len, List.length_singleton] at z1 z3 ⊢
      have kk := after K2.out (below1 w2 (Obj.cells z.cl.toArray 43))
      have NK : Hid (RepK w s.rs (.slice A7 (k + 1) c7) (zs ++ [z]) (k + 1) w7) := Lib.hid (by
        have own := RK.out.own
        have lo : ∀ a, (Value.slice A k c).ownBlock = some a → a < wr.heap.size := fun a ha => (own.lt a ha).2
        have st : ∀ a, a < (w2.alloc (Obj.cells z.cl.toArray 43)).heap.size → (Value.slice A k c).ownBlock ≠ some a → w7.heap[a]? = (w2.alloc (Obj.cells z.cl.toArray 43)).heap[a]? := fun a ha hn => z2.block a ha fun e => hn e.symm
        have zl : ∀ a, z.pv.ownBlock = some a → w1.heap.size ≤ a ∧ a < w2.heap.size := fun a ha => EE.out.2.2.lt a ha
        refine ⟨z1, by rw [List.length_append, RK.out.len]; rfl, fun i z' y' h1 h2 => ?_, fun z' hz a ha => ?_, ?_⟩
        · by_cases hi : i < zs.length
          · rw [List.getElem?_append_left hi] at h1
            obtain ⟨q1, q2, q3⟩ := RK.out.each i z' y' h1 h2
            have ap := RK.out.ap z' (List.mem_of_getElem? h1)
            exact ⟨q1, q2, (q3.next kk).move fun a ha => st a (Nat.lt_of_lt_of_le (ap a ha).1 kk.size) (ap a ha).2⟩
          · have hl := (List.getElem?_eq_some_iff.1 h1).1
            simp only [List.length_append, List.length_singleton] at hl
            obtain rfl : i = zs.length := by omega
            rw [List.getElem?_append_right (Nat.le_refl _)] at h1
            simp at h1
            subst h1
            rw [RK.out.len, HY.out] at h2
            obtain rfl := Option.some.inj h2
            refine ⟨EE.out.1, EE.out.2.1, own_base ((EE.out.2.2.next (below1 _ _)).move fun a ha => st a (by have := zl a ha; simp; omega) fun e => by have := lo a e; have := zl a ha; have := SZ.out; omega) (Nat.le_trans RK.out.below.size SZ.out)⟩
        · have s7 := z2.size
          simp only [World.size_alloc] at s7
          rcases List.mem_append.1 hz with h | h
          · have ap := RK.out.ap z' h a ha
            refine ⟨Nat.lt_of_lt_of_le (Nat.lt_of_lt_of_le ap.1 kk.size) z2.size, fun e => ?_⟩
            rcases z3 with q | q
            · exact ap.2 (q ▸ e)
            · rw [q] at e; have h1 := Option.some.inj e; simp only [World.size_alloc] at h1; have := ap.1; have := K2.out.size; omega
          · rw [List.mem_singleton] at h
            subst h
            have := zl a ha
            refine ⟨by omega, fun e => ?_⟩
            rcases z3 with q | q
            · have := lo a (q ▸ e); have := SZ.out; omega
            · rw [q] at e; have h1 := Option.some.inj e; simp only [World.size_alloc] at h1; omega
        · exact (after RK.out.below kk).grown z2 (Nat.le_trans RK.out.below.size kk.size) fun j hj => (own.lt j hj).1)
      clear z1 z2 z3 i7 kk
      go_wp2_with fail
      exact ⟨⟨k + 1, zs ++ [z], A7, c7, by omega, by go_num, rfl, NK⟩, by simp [intOf]; omega⟩
    · obtain rfl : n = k := by omega
      go_wp2
      go_ret
      exact ⟨A, c, zs, rfl, RK.out.own, by rw [RK.out.len, HN.out], RK.out.each, RK.out.below⟩
end
end Cn
end Go.Proofs.Ytjncogjafljbiaa
