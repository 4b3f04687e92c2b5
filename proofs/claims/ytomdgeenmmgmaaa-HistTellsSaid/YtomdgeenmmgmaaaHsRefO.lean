/-
  The document's Order (easelref12.Order).
-/
import Derived.Test.YtomdgeenmmgmaaaHsTurn
import Derived.Deep.DeepCutAuto
namespace Go.Proofs.Ytomdgeenmmgmaaa
open Go.ChangeShapes Go.WideShapes Go.ChangeAt Go.RowKit
set_option maxRecDepth 100000
set_option linter.unusedVariables false
namespace Hs
open Small
/-- where it is put in -/
theorem put_at {L : List Ev} {i a : Nat} {o : List Nat} (ho : ord L i = o) (h : (E L i).p ≠ 0) (ha : a ≤ o.length) (h1 : a = 0 ∨ ¬ (E L i).p < (E L (O o (a - 1))).p) (h2 : ∀ j, a ≤ j → j < o.length → (E L i).p < (E L (O o j)).p) :
    ord L (i + 1) = o.take a ++ i :: o.drop a := by
  refine put_in (o.take a) (o.drop a) (by rw [ho, List.take_append_drop]) h (fun x hx => ?_) (fun b hb => ?_)
  · rcases h1 with h1 | h1
    · subst h1; simp at hx
    · have ha0 : 0 < a := Nat.pos_of_ne_zero fun e => by subst e; simp at hx
      rw [List.getLast?_eq_getElem?, List.length_take, Nat.min_eq_left ha, List.getElem?_take, if_pos (by omega)] at hx
      have e : O o (a - 1) = x := by
        rw [O_at (by omega)]
        rw [List.getElem?_eq_getElem (by omega)] at hx
        exact Option.some.inj hx
      rw [e] at h1
      omega
  · obtain ⟨j, hj, rfl⟩ := List.getElem_of_mem hb
    rw [List.getElem_drop]
    have := h2 (a + j) (by omega) (by simp at hj; omega)
    rwa [O_at (by simp at hj; omega)] at this

theorem own_less {α : Type} {K : Kind α} {base b2 : Nat} {w : World} {v : Value} {l : List α} (h : Sl.Own K base w v l) (hb : b2 ≤ base) : Sl.Own K b2 w v l := by
  obtain ⟨h0, h | ⟨g, cap, cur, h1, h2, h3⟩⟩ := h
  · exact ⟨h0, .inl h⟩
  · exact ⟨h0, .inr ⟨g, cap, cur, h1, Nat.le_trans hb h2, h3⟩⟩
set_option maxHeartbeats 6400000 in
theorem rorder_ok (v : Value) (L : List Ev) (w : World) (H : Hid (Evs w v L)) (hn : L.length ≤ 1000) :
    Calls Try.prog 9 #[v] w fun r w' => ∃ v' b', r = .returned v' ∧ w.heap.size ≤ b' ∧ Sl.Is Nk w' v' (ord L L.length) b' ∧ Below w.heap.size w w' := by
  obtain ⟨A, cap, rfl, HA⟩ := H.out.lit
  clear H
  obtain ⟨n, hn2⟩ : ∃ n, L.length = n := ⟨_, rfl⟩
  rw [hn2] at hn ⊢
  have HN : Hid (L.length = n) := hn2
  clear hn2
  go_enter Try.func9, Try.ntmps9
  go_wp2
  go_loopg [3, 4] n (fun g s3 s4 wr => ∃ i : Nat, s4 = .int .i64 i ∧ i ≤ n ∧ n - i ≤ g ∧ Hid (Sl.Own Nk w.heap.size wr s3 (ord L i)) ∧ Hid (Below w.heap.size w wr))
  case atStart => exact ⟨0, rfl, Nat.zero_le _, Nat.le_refl _, Lib.hid (Sl.Own.nil Nk _ _), Lib.hid (Below.refl _ _)⟩
  case round =>
    obtain ⟨i, rfl, hin, hg, HO, HK⟩ := hrel
    by_cases hlt : i < n
    · have hltz : (i : Int) < (n : Int) := by omega
      obtain ⟨b, off, rfl, hb, h1⟩ := HA.out i (by rw [HN.out]; exact hlt)
      have EA : Hid (EvAt wr b (off + i * 14) (E L i)) := Lib.hid fun j u hj => cell_keep HK.out (h1 j u hj)
      clear h1
      have c0 := EA.out.p
      by_cases hp : (E L i).p = 0
      · have hz : ((E L i).p == 0) = true := by simp [hp]
        have HP : Hid (ord L (i + 1) = ord L i) := Lib.hid (ord_no hp)
        clear hp
        go_wp2
        go_roundg (n - (i + 1))
        case measure => omega
        case rel => exact ⟨i + 1, by go_num, by omega, Nat.le_refl _, Lib.hid (by rw [HP.out]; exact HO.out), HK⟩
      · have hz : ((E L i).p == 0) = false := by simp [hp]
        have HP : Hid ((E L i).p ≠ 0) := hp
        clear hp
        obtain ⟨o, ho⟩ : ∃ o, ord L i = o := ⟨_, rfl⟩
        obtain ⟨bo, hbo, hI⟩ := HO.out.is
        rw [ho] at hI
        obtain ⟨B, capo, rfl, HC⟩ := nums_at hI
        have HR : Hid (ord L i = o) := ho
        have HI : Hid (Sl.Is Nk wr (.slice B o.length capo) o bo) := hI
        have HM : Hid (∀ j, j < o.length → O o j < i) := Lib.hid fun j hj => by
          have := get_ord (L := L) (k := i) (i := j) (by rw [ho]; exact hj)
          rw [ho] at this
          have h2 : O o j ∈ ord L i := by rw [ho]; exact this
          exact (mem_ord.1 h2).1
        have hle : o.length ≤ i := by rw [← ho]; exact ord_le L _
        obtain ⟨m, hm⟩ : ∃ m, o.length = m := ⟨_, rfl⟩
        rw [hm] at hle HI ⊢
        have HL : Hid (o.length = m) := hm
        clear hI ho hm HO
        go_wp2
        go_loopg [5] m (fun g s5 wx => ∃ a : Nat, s5 = .int .i64 a ∧ a ≤ m ∧ a ≤ g ∧ Hid (∀ j, a ≤ j → j < m → (E L i).p < (E L (O o j)).p) ∧ Hid (Below w.heap.size w wx) ∧ Hid (Below wr.heap.size wr wx))
        case atStart => exact ⟨m, rfl, Nat.le_refl _, Nat.le_refl _, Lib.hid fun j h1 h2 => by omega, HK, Lib.hid (Below.refl _ _)⟩
        case round =>
          obtain ⟨a, rfl, ham, hga, HG, HK2, HW⟩ := hrel
          by_cases ha : 0 < a
          · obtain ⟨t, rfl⟩ : ∃ t, a = t + 1 := ⟨a - 1, by omega⟩
            obtain ⟨ofo, rfl, hb3, hc⟩ := HC.out t (by rw [HL.out]; omega)
            have c1 := cell_keep HW.out hc
            obtain ⟨x, hx⟩ : ∃ x, O o t = x := ⟨_, rfl⟩
            have hxi : x < i := by rw [← hx]; exact HM.out t (by rw [HL.out]; omega)
            rw [hx] at c1
            have HX : Hid (O o t = x) := hx
            clear hx hc hb3
            obtain ⟨b', off', e', hb', h2⟩ := HA.out x (by rw [HN.out]; omega)
            obtain ⟨rfl, rfl⟩ : b = b' ∧ off = off' := by injection e' with e'; injection e' with e1 e2; exact ⟨e1, e2⟩
            have c2 := cell_keep HK2.out h2.p
            have c3 := cell_keep HW.out EA.out.p
            clear h2 e' hb'
            have bx : (x : Int) < (n : Int) := by omega
            have bt : (t : Int) < (m : Int) := by omega
            have pt : (0 : Int) < (t : Int) + 1 := by omega
            have pt2 : (0 : Int) ≤ (t : Int) + 1 := by omega
            have et : ((t : Int) + 1).toNat = t + 1 := by omega
            have wt : IntKind.i64.wrap ((t : Int) + 1 - 1) = (t : Int) := by rw [IntKind.wrap_i64]; omega
            have wt2 : (t : Int) + 1 - 1 = (t : Int) := by omega
            by_cases hlt2 : (E L i).p < (E L x).p
            · have HGT : Hid ((E L i).p < (E L x).p) := hlt2
              go_wp2_with fail
              go_quiet (fail)
              go_wp2
              go_roundg t
              case measure => omega
              case rel => exact ⟨t, by go_num, by omega, Nat.le_refl _, Lib.hid fun j h1 h2 => by by_cases e : j = t; (· rw [e, HX.out]; exact HGT.out); (· exact HG.out j (by omega) h2), Lib.hid (HK2.out.trans (below_drewN _ _ _)), Lib.hid (HW.out.trans (below_drewN _ _ _))⟩
            · have HS : Hid (ord L (i + 1) = o.take (t + 1) ++ i :: o.drop (t + 1)) := Lib.hid (put_at HR.out HP.out (by rw [HL.out]; exact ham) (.inr (by rw [Nat.add_sub_cancel, HX.out]; exact hlt2)) (by rw [HL.out]; exact HG.out))
              go_wp2_with fail
              go_quiet (fail)
              have HK3 : Hid (Below w.heap.size w (wr.drewN nq)) := Lib.hid (HK2.out.trans (below_drewN _ _ _))
              have HI3 : Hid (Sl.Is Nk (wr.drewN nq) (.slice (some ⟨bo, ofo, none⟩) m capo) o bo) := Lib.hid ((HI.out.next HW.out).next (below_drewN _ _ _))
              generalize wr.drewN nq = wq at HK3 HI3 ⊢
              clear HK2 HW
              have hsz : Hid (w.heap.size ≤ wq.heap.size) := Lib.hid HK3.out.size
              have l1 : Hid ((o.take (t + 1)).length ≤ 1048576) := Lib.hid (by rw [List.length_take, HL.out]; omega)
              have l2 : Hid ((o.take (t + 1)).length + [i].length ≤ 1048576) := Lib.hid (by rw [List.length_take, HL.out]; simp; omega)
              have l3 : Hid ((o.take (t + 1) ++ [i]).length + (o.drop (t + 1)).length ≤ 1048576) := Lib.hid (by simp [HL.out]; omega)
              have la : Hid (t + 1 ≤ o.length) := Lib.hid (by rw [HL.out]; omega)
              go_wp2_with (first | (refine wpList_plain rfl fun K' hK' => Sl.wp_take nok (.tmp 43) (.tmp 44) rfl (l := o) (b := bo) (m := t + 1) (by exact HI3.out.next (below1 _ _)) rfl la.out (fun vt x1 => hK' _ _ ?_)) | (at_builtin; refine wpList_plain rfl fun K' hK' => Sl.wp_append_empty nok (.tmp 42) (.tmp 45) rfl (b := wq.heap.size) (base := wq.heap.size) (l2 := o.take (t + 1)) (b2 := bo) rfl (heap_alloc_new _ _) (Nat.le_refl _) (by exact x1) l1.out (by simp) (fun u w5 y1 y2 => hK' _ _ ?_); have O5 := Lib.hid y1; have K5 := Lib.hid (after (below1 wq (.cells #[] 3)) y2); clear x1 y1 y2) | (at_builtin; refine wpList_plain rfl fun K' hK' => Sl.wp_append nok (.tmp 47) (.tmp 49) rfl (base := wq.heap.size) (l := o.take (t + 1)) (l2 := [i]) (b2 := w5.heap.size) (by exact O5.out.next (below1 _ _)) (by exact Sl.Is.one nok (x := i) (Lies.new w5 3 [.int .i64 (i : Int)])) l2.out (by have := K5.out.size; simp; omega) (fun u2 w7 z1 z2 z3 => hK' _ _ ?_); have O7 := Lib.hid z1; have K7 := Lib.hid ((K5.out.trans ((below1 w5 (.cells #[.int .i64 (i : Int)] 3)).mono K5.out.size)).grown z2 (by have := K5.out.size; simp; omega) fun j hj => (O5.out.lt j hj).1); clear z1 z2 z3) | (refine wpList_plain rfl fun K' hK' => Sl.wp_drop nok (.tmp 52) (.tmp 53) rfl (l := o) (b := bo) (m := t + 1) (by exact HI3.out.next K7.out) rfl la.out (fun vd x2 => hK' _ _ ?_)) | (at_builtin; refine wpList_plain rfl fun K' hK' => Sl.wp_append nok (.tmp 51) (.tmp 54) rfl (base := wq.heap.size) (l := o.take (t + 1) ++ [i]) (l2 := o.drop (t + 1)) (b2 := bo) (by exact O7.out) (by exact x2) l3.out (by exact K7.out.size) (fun u3 w9 z1 z2 z3 => hK' _ _ ?_); have O9 := Lib.hid z1; have K9 := Lib.hid (K7.out.grown z2 K7.out.size fun j hj => (O7.out.lt j hj).1); clear z1 z2 z3 x2))
              go_roundg (n - (i + 1))
              case measure => omega
              case rel => exact ⟨i + 1, by go_num, by omega, Nat.le_refl _, Lib.hid (by rw [HS.out]; have := own_less O9.out hsz.out; simpa using this), Lib.hid (HK3.out.trans (K9.out.mono hsz.out))⟩
          · obtain rfl : a = 0 := by omega
            have HS : Hid (ord L (i + 1) = o.take 0 ++ i :: o.drop 0) := Lib.hid (put_at HR.out HP.out (Nat.zero_le _) (.inl rfl) (by rw [HL.out]; exact HG.out))
            go_wp2_with fail
            go_quiet (fail)
            have HK3 : Hid (Below w.heap.size w (wr.drewN nq)) := Lib.hid (HK2.out.trans (below_drewN _ _ _))
            have HI3 : Hid (Sl.Is Nk (wr.drewN nq) (.slice B m capo) o bo) := Lib.hid ((HI.out.next HW.out).next (below_drewN _ _ _))
            generalize wr.drewN nq = wq at HK3 HI3 ⊢
            clear HK2 HW
            have hsz : Hid (w.heap.size ≤ wq.heap.size) := Lib.hid HK3.out.size
            have l1 : Hid ((o.take (0)).length ≤ 1048576) := Lib.hid (by rw [List.length_take, HL.out]; omega)
            have l2 : Hid ((o.take (0)).length + [i].length ≤ 1048576) := Lib.hid (by rw [List.length_take, HL.out]; simp)
            have l3 : Hid ((o.take (0) ++ [i]).length + (o.drop (0)).length ≤ 1048576) := Lib.hid (by simp [HL.out]; omega)
            have la : Hid (0 ≤ o.length) := Lib.hid (by rw [HL.out]; omega)
            go_wp2_with (first | (refine wpList_plain rfl fun K' hK' => Sl.wp_take nok (.tmp 43) (.tmp 44) rfl (l := o) (b := bo) (m := 0) (by exact HI3.out.next (below1 _ _)) rfl la.out (fun vt x1 => hK' _ _ ?_)) | (at_builtin; refine wpList_plain rfl fun K' hK' => Sl.wp_append_empty nok (.tmp 42) (.tmp 45) rfl (b := wq.heap.size) (base := wq.heap.size) (l2 := o.take (0)) (b2 := bo) rfl (heap_alloc_new _ _) (Nat.le_refl _) (by exact x1) l1.out (by simp) (fun u w5 y1 y2 => hK' _ _ ?_); have O5 := Lib.hid y1; have K5 := Lib.hid (after (below1 wq (.cells #[] 3)) y2); clear x1 y1 y2) | (at_builtin; refine wpList_plain rfl fun K' hK' => Sl.wp_append nok (.tmp 47) (.tmp 49) rfl (base := wq.heap.size) (l := o.take (0)) (l2 := [i]) (b2 := w5.heap.size) (by exact O5.out.next (below1 _ _)) (by exact Sl.Is.one nok (x := i) (Lies.new w5 3 [.int .i64 (i : Int)])) l2.out (by have := K5.out.size; simp; omega) (fun u2 w7 z1 z2 z3 => hK' _ _ ?_); have O7 := Lib.hid z1; have K7 := Lib.hid ((K5.out.trans ((below1 w5 (.cells #[.int .i64 (i : Int)] 3)).mono K5.out.size)).grown z2 (by have := K5.out.size; simp; omega) fun j hj => (O5.out.lt j hj).1); clear z1 z2 z3) | (refine wpList_plain rfl fun K' hK' => Sl.wp_drop nok (.tmp 52) (.tmp 53) rfl (l := o) (b := bo) (m := 0) (by exact HI3.out.next K7.out) rfl la.out (fun vd x2 => hK' _ _ ?_)) | (at_builtin; refine wpList_plain rfl fun K' hK' => Sl.wp_append nok (.tmp 51) (.tmp 54) rfl (base := wq.heap.size) (l := o.take (0) ++ [i]) (l2 := o.drop (0)) (b2 := bo) (by exact O7.out) (by exact x2) l3.out (by exact K7.out.size) (fun u3 w9 z1 z2 z3 => hK' _ _ ?_); have O9 := Lib.hid z1; have K9 := Lib.hid (K7.out.grown z2 K7.out.size fun j hj => (O7.out.lt j hj).1); clear z1 z2 z3 x2))
            go_roundg (n - (i + 1))
            case measure => omega
            case rel => exact ⟨i + 1, by go_num, by omega, Nat.le_refl _, Lib.hid (by rw [HS.out]; have := own_less O9.out hsz.out; simpa using this), Lib.hid (HK3.out.trans (K9.out.mono hsz.out))⟩
    · have hltz : ¬ (i : Int) < (n : Int) := by omega
      obtain rfl : i = n := by omega
      go_wp2
      go_ret
      obtain ⟨b', h1, h2⟩ := HO.out.is
      exact ⟨_, rfl, b', h1, h2, HK.out⟩
end Hs
end Go.Proofs.Ytomdgeenmmgmaaa
