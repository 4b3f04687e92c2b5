/-
  hist.Order: its walk.
-/
import Derived.Test.YtomdgeenmmgmaaaHsOrd
namespace Go.Proofs.Ytomdgeenmmgmaaa
open Go.ChangeShapes Go.WideShapes Go.ChangeAt Go.RowKit
set_option maxRecDepth 100000
set_option linter.unusedVariables false
namespace Hs
open Small
theorem setRow_grown (w : World) (g : Nat) (cur : Array Value) : w.grownBy (w.setRow g cur) (some g) :=
  ⟨rfl, rfl, rfl, by simp [World.setRow], fun i hi hn => by
    have hg : g ≠ i := fun e => hn (by rw [e])
    simp [World.setRow, Array.getElem?_modify, hg]⟩
theorem ev_one (e : Ev) : ∀ v ∈ e.cl, v.oneCell' = true := fun v hv => Ev.ok.one e v hv
theorem store_ev {w : World} {g : Nat} {cs : List Value} (e : Ev) (h : Lies w g 33 cs) (hl : cs.length = 14) :
    ∃ w', (storeVar 33 ⟨g, 0, none⟩ e.v).run Try.prog w = .ok () w' ∧ Lies w' g 33 e.cl ∧ w.grownBy w' (some g) := by
  have hst := run_storeCells_at Try.prog g 0 33 e.cl 0 cs.toArray w h (by simp [hl]) (ev_one e)
  refine ⟨w.setRow g e.cl.toArray, ?_, setRow_heap _ _ _ _ _ _ h, setRow_grown _ _ _⟩
  unfold storeVar
  have hc : e.v.cells = e.cl.toArray := rfl
  have hsz : e.cl.length = 14 := rfl
  simp only [Sem.run_bind, szE, Result.andThen_ok, hc, List.size_toArray, hsz, ne_eq, not_true_eq_false, if_false]
  have hd : cs.drop 14 = [] := List.drop_eq_nil_of_le (by omega)
  simpa [hsz, hd] using hst
theorem wp_store {o : Oper} {a : Act} {K : Act → World → Prop} {Q : Exit → Act → World → Prop} {w : World} {g : Nat} {cs : List Value} (e : Ev) (x y : Operand) (ho : o.op = .store 33 x y) (hx : a.eval x = .pointer (some ⟨g, 0, none⟩)) (hy : a.eval y = e.v) (h : Lies w g 33 cs) (hl : cs.length = 14)
    (hK : ∀ w', Lies w' g 33 e.cl → w.grownBy w' (some g) → K (a.put o.dst undef) w') : o.wp Try.prog a w K Q := by
  obtain ⟨w', hr, q1, q2⟩ := store_ev e h hl
  unfold Oper.wp execOp
  simp only [ho, hx, hy, Instr.storeAt, Instr.sureAddr, Sem.run_bind, Sem.run_pure, Result.andThen_ok, hr]
  exact hK w' q1 q2
theorem EvAt.lies {w : World} {g : Nat} {T : TypeId} {e : Ev} (h : Lies w g T e.cl) : EvAt w g 0 e := fun j u hj => by rw [Nat.zero_add]; exact h.cell hj
theorem below_over {b : Nat} {w W W' : World} {g : Nat} (K : Below b w W) (k : W.grownBy W' (some g)) (hg : b ≤ g) (hb : b ≤ W.heap.size) : Below b w W' := K.grown k hb fun j hj => by cases hj; exact hg
abbrev ez : List Value := [.int .i64 0, .int .i64 0, .int .i64 0, .string ⟨#[]⟩, .int .i64 0, .int .i64 0, .int .i64 0, .int .i64 0, .int .i64 0, .int .i64 0, .slice none 0 0, .int .i64 0, .int .i64 0, .int .i64 0]

set_option maxHeartbeats 1600000 in
theorem order_ok (v : Value) (L : List Ev) (w : World) (H : Hid (Evs w v L)) (hn : L.length ≤ 1000) :
    Calls Try.prog 8 #[v] w fun r w' => ∃ v' b', r = .returned v' ∧ w.heap.size ≤ b' ∧ Sl.Is Nk w' v' (ord L L.length) b' ∧ Below w.heap.size w w' := by
  obtain ⟨A, cap, rfl, HA⟩ := H.out.lit
  clear H
  obtain ⟨n, hn2⟩ : ∃ n, L.length = n := ⟨_, rfl⟩
  rw [hn2] at hn ⊢
  have HN : Hid (L.length = n) := hn2
  clear hn2
  obtain ⟨w1, hw1⟩ : ∃ w1, w1 = w.alloc (.cells #[.slice A n cap] 22) := ⟨_, rfl⟩
  have K1 : Hid (Below w.heap.size w w1) := Lib.hid (by rw [hw1]; exact below1 w _)
  have HS : Hid (w1.heap.size = w.heap.size + 1) := Lib.hid (by rw [hw1]; simp)
  have c0 : w1.cell? ⟨w.heap.size, 0, none⟩ = some (.slice A n cap) := by rw [hw1]; simp
  have C0 : Hid _ := Lib.hid c0
  go_enter Try.func8, Try.ntmps8
  go_wp2
  rw [← hw1]
  clear hw1 c0
  generalize hg0 : w.heap.size = g0 at HS C0 ⊢
  have HG : Hid (w.heap.size = g0) := hg0
  clear hg0
  go_loopg [3, 8] n (fun g s3 s8 wr => ∃ i : Nat, s8 = .int .i64 i ∧ i ≤ n ∧ n - i ≤ g ∧ Hid (Sl.Own Nk (g0 + 1) wr s3 (pts L i)) ∧ Hid (Below (g0 + 1) w1 wr))
  case atStart => exact ⟨0, rfl, Nat.zero_le _, Nat.le_refl _, Lib.hid (Sl.Own.nil Nk _ _), Lib.hid (Below.refl _ _)⟩
  case round =>
    obtain ⟨i, rfl, hin, hg, HO, HK⟩ := hrel
    have hsz : Hid (g0 + 1 ≤ wr.heap.size) := Lib.hid (by have := HK.out.size; have := HS.out; omega)
    by_cases hlt : i < n
    · have hltz : (i : Int) < (n : Int) := by omega
      obtain ⟨b, off, rfl, hb, h1⟩ := HA.out i (by rw [HN.out]; exact hlt)
      have EA : Hid (EvAt wr b (off + i * 14) (E L i)) := Lib.hid fun j u hj => by
        have hb1 : b < g0 + 1 := by have := HG.out; omega
        exact (HK.out.cell hb1).trans (cell_keep K1.out (h1 j u hj))
      clear h1
      by_cases hp : (E L i).p = 0
      · have HP : Hid (pts L (i + 1) = pts L i) := Lib.hid (by rw [pts_succ, if_neg (by simp [hp]), List.append_nil])
        have hd : Hid (decide ((E L i).p ≠ 0) = false) := Lib.hid (by simp [hp])
        clear hp
        go_wp2_with (first | (refine BigFrame.wpList_want rfl fun K' hK' => wp_load _ rfl rfl EA.out (hK' _ _ ?_)) | (refine BigFrame.wpList_want rfl fun K' hK' => wp_store (E L i) _ _ rfl rfl rfl (Lies.new wr 33 ez) rfl (fun W2 z1 z2 => hK' _ _ ?_)) | (refine BigFrame.wpList_want rfl fun K' hK' => wp_load _ rfl rfl (EvAt.lies z1) (hK' _ _ ?_)) | (refine (pointed_ok (E L i) _).mono ?_; rw [hd.out]; rintro r w3 ⟨rfl, k3⟩; have KW := Lib.hid (after (below_over (below1 wr _) z2 (Nat.le_refl _) (by simp)) k3); clear z1 z2 k3))
        go_roundg (n - (i + 1))
        case measure => omega
        case rel => exact ⟨i + 1, by go_num, by omega, Nat.le_refl _, Lib.hid (by rw [HP.out]; exact HO.out.next KW.out), Lib.hid (HK.out.trans (KW.out.mono hsz.out))⟩
      · have HP : Hid (pts L (i + 1) = pts L i ++ [i]) := Lib.hid (by rw [pts_succ, if_pos (by simpa using hp)])
        have hd : Hid (decide ((E L i).p ≠ 0) = true) := Lib.hid (by simp [hp])
        have hl : Hid ((pts L i).length + [i].length ≤ 1048576) := Lib.hid (by have := pts_le L i; simp; omega)
        clear hp
        go_wp2_with (first | (refine BigFrame.wpList_want rfl fun K' hK' => wp_load _ rfl rfl EA.out (hK' _ _ ?_)) | (refine BigFrame.wpList_want rfl fun K' hK' => wp_store (E L i) _ _ rfl rfl rfl (Lies.new wr 33 ez) rfl (fun W2 z1 z2 => hK' _ _ ?_)) | (refine BigFrame.wpList_want rfl fun K' hK' => wp_load _ rfl rfl (EvAt.lies z1) (hK' _ _ ?_)) | (refine (pointed_ok (E L i) _).mono ?_; rw [hd.out]; rintro r w3 ⟨rfl, k3⟩; have KW := Lib.hid (after (below_over (below1 wr _) z2 (Nat.le_refl _) (by simp)) k3); clear z1 z2 k3) | (at_builtin; refine wpList_plain rfl fun K' hK' => Sl.wp_append nok (.tmp 15) (.tmp 17) rfl (base := g0 + 1) (l := pts L i) (l2 := [i]) (b2 := w3.heap.size) (by exact (HO.out.next KW.out).next (below1 _ _)) (by exact Sl.Is.one nok (x := i) (Lies.new w3 3 [.int .i64 (i : Int)])) hl.out (by have := hsz.out; have := KW.out.size; simp; omega) (fun u w5 z1 z2 z3 => hK' _ _ ?_)))
        have hO5 : Hid (Sl.Own Nk (g0 + 1) w5 u (pts L (i + 1))) := Lib.hid (by rw [HP.out]; exact z1)
        have hK5 : Hid (Below (g0 + 1) w1 w5) := Lib.hid (((HK.out.trans (KW.out.mono hsz.out)).alloc (by have := hsz.out; have := KW.out.size; omega) _).grown z2 (by have := hsz.out; have := KW.out.size; simp; omega) fun j hj => (HO.out.lt j hj).1)
        clear z1 z2 z3
        go_roundg (n - (i + 1))
        case measure => omega
        case rel => exact ⟨i + 1, by go_num, by omega, Nat.le_refl _, hO5, hK5⟩
    · have hltz : ¬ (i : Int) < (n : Int) := by omega
      obtain rfl : i = n := by omega
      have hB : Hid (Bound wr g0 L (g0 + 1)) := Lib.hid ⟨⟨A, cap, by rw [HN.out]; exact (HK.out.cell (by simp)).trans C0.out, fun j hj => by
        obtain ⟨b, off, e, hb, h1⟩ := HA.out j hj
        have hb1 : b < g0 := by have := HG.out; omega
        exact ⟨b, off, e, by omega, fun t u ht => (HK.out.cell (by simp; omega)).trans (cell_keep K1.out (h1 t u ht))⟩⟩, by omega⟩
      have hl : Hid (∀ j ∈ pts L i, j < L.length) := Lib.hid fun j hj => by rw [HN.out]; exact (mem_pts.1 hj).1
      have hm : (pts L i).length ≤ 1000 := Nat.le_trans (pts_le L i) hn
      go_wp2_with fail
      refine (sortf_ok _ (pts L i) (g0 + 1) g0 L wr HO hsz.out hB hl hm).mono ?_
      rintro r w3 ⟨rfl, ⟨b3, hb3, i3⟩, k3⟩
      have I3 := Lib.hid i3
      have K3 := Lib.hid k3
      clear i3 k3
      go_wp2
      go_ret
      refine ⟨_, b3, rfl, by have := HG.out; omega, I3.out, ?_⟩
      have h1 : Below (g0 + 1) w1 w3 := HK.out.trans K3.out
      have h2 := K1.out.trans (h1.mono (Nat.le_succ_of_le (by rw [HG.out]; exact Nat.le_refl _)))
      exact h2
end Hs
end Go.Proofs.Ytomdgeenmmgmaaa
