/-
  The document's Keys (easelref06): all keys, by rising bytes.
-/
import Derived.Test.YtbdocnkpjlpfmaaGreatRgSettle
import Derived.Test.YtbdocnkpjlpfmaaGreatGrpKeys
namespace Go.Proofs.YtbdocnkpjlpfmaaGreat
open Go.ChangeShapes Go.WideShapes Go.ChangeAt Go.RowKit
namespace Rg
open Small Foot Pane Grp
set_option linter.unusedVariables false

theorem own_any {α : Type} {K : Kind α} {base base' : Nat} {w : World} {v : Value} {L : List α} (h : Sl.Own K base w v L) (hb : base' ≤ base) : Sl.Own K base' w v L := own_base_row h hb
theorem lt_irr (x : ByteArray) : ¬ Lt x x := fun h => by unfold Lt at h; rw [Tmr.bl_irrefl] at h; cases h
theorem lt_trans {x y z : ByteArray} (h1 : Lt x y) (h2 : Lt y z) : Lt x z := Tmr.bl_trans _ _ _ h1 h2
theorem lt_total {x y : ByteArray} (h1 : ¬ Lt x y) (h2 : x ≠ y) : Lt y x := by
  by_cases h : Lt y x
  · exact h
  · exact absurd (Pn.bytes_ext.1 (Tmr.bl_total _ _ (by simpa [Lt] using h1) (by simpa [Lt] using h))) h2
/-- the keys of the first i, by rising bytes -/
structure KSt (R : List Pn) (i : Nat) (ks : List ByteArray) : Prop where
  up : ks.Pairwise Lt
  mem : ∀ x, x ∈ ks ↔ ∃ p ∈ R.take i, p.key = x
  len : ks.length ≤ i
theorem KSt.has {R : List Pn} {i : Nat} {ks : List ByteArray} {p : Pn} (h : KSt R i ks) (hp : R[i]? = some p) (hk : p.key ∈ ks) : KSt R (i + 1) ks := by
  refine ⟨h.up, fun x => ?_, by have := h.len; omega⟩
  rw [h.mem, List.take_add_one, hp]
  constructor
  · rintro ⟨q, hq, e⟩
    exact ⟨q, List.mem_append_left _ hq, e⟩
  · rintro ⟨q, hq, e⟩
    rcases List.mem_append.1 hq with hq | hq
    · exact ⟨q, hq, e⟩
    · simp only [Option.toList_some, List.mem_singleton] at hq
      subst hq
      subst e
      exact (h.mem q.key).1 hk
/-- just the first a are ahead of x, of those that were looked at -/
structure Fr (x : ByteArray) (ks : List ByteArray) (k a : Nat) (met : Bool) : Prop where
  le : a ≤ k
  lo : ∀ j y, j < a → ks[j]? = some y → Lt y x
  hi : ∀ j y, a ≤ j → j < k → ks[j]? = some y → ¬ Lt y x
  met : met = true ↔ ∃ j, j < k ∧ ks[j]? = some x
theorem Fr.next {x : ByteArray} {ks : List ByteArray} {k a : Nat} {met : Bool} {y : ByteArray} (h : Fr x ks k a met) (up : ks.Pairwise Lt) (hy : ks[k]? = some y) : Fr x ks (k + 1) (if Op.bytesLess y.toList x.toList then k + 1 else a) (met || (y.toList == x.toList)) := by
  have lt_at : ∀ {j z}, j < k → ks[j]? = some z → Lt z y := fun {j z} hj hz => by
    obtain ⟨h1, rfl⟩ := List.getElem?_eq_some_iff.1 hz
    obtain ⟨h2, rfl⟩ := List.getElem?_eq_some_iff.1 hy
    exact List.pairwise_iff_getElem.1 up j k h1 h2 hj
  have hmet : (met || (y.toList == x.toList)) = true ↔ ∃ j, j < k + 1 ∧ ks[j]? = some x := by
    rw [Bool.or_eq_true, h.met, beq_iff_eq, Pn.bytes_ext]
    constructor
    · rintro (⟨j, hj, e⟩ | rfl)
      · exact ⟨j, by omega, e⟩
      · exact ⟨k, by omega, hy⟩
    · rintro ⟨j, hj, e⟩
      by_cases q : j = k
      · subst q; rw [hy] at e; exact .inr (Option.some.inj e)
      · exact .inl ⟨j, by omega, e⟩
  by_cases hl : Op.bytesLess y.toList x.toList = true
  · rw [if_pos hl]
    refine ⟨Nat.le_refl _, fun j z hj hz => ?_, fun j z h1 h2 => absurd h2 (by omega), hmet⟩
    by_cases q : j = k
    · subst q; rw [hy] at hz; obtain rfl := Option.some.inj hz; exact hl
    · exact lt_trans (lt_at (by omega) hz) hl
  · rw [if_neg hl]
    refine ⟨by have := h.le; omega, h.lo, fun j z h1 h2 hz => ?_, hmet⟩
    by_cases q : j = k
    · subst q; rw [hy] at hz; obtain rfl := Option.some.inj hz; exact hl
    · exact h.hi j z h1 (by omega) hz
theorem KSt.ins {R : List Pn} {i a : Nat} {ks : List ByteArray} {p : Pn} (h : KSt R i ks) (hp : R[i]? = some p) (f : Fr p.key ks ks.length a false) : KSt R (i + 1) (ks.take a ++ p.key :: ks.drop a) := by
  have hn : p.key ∉ ks := fun hk => by
    obtain ⟨j, hj⟩ := List.mem_iff_getElem?.1 hk
    have := f.met.2 ⟨j, (List.getElem?_eq_some_iff.1 hj).1, hj⟩
    cases this
  have lo : ∀ y ∈ ks.take a, Lt y p.key := fun y hy => by
    obtain ⟨j, hj⟩ := List.mem_iff_getElem?.1 hy
    rw [List.getElem?_take] at hj
    split at hj
    · exact f.lo j y (by assumption) hj
    · cases hj
  have hi : ∀ y ∈ ks.drop a, Lt p.key y := fun y hy => by
    obtain ⟨j, hj⟩ := List.mem_iff_getElem?.1 hy
    rw [List.getElem?_drop] at hj
    exact lt_total (f.hi _ y (by omega) (List.getElem?_eq_some_iff.1 hj).1 hj) (fun e => hn (e ▸ List.mem_of_mem_drop hy))
  refine ⟨?_, fun x => ?_, ?_⟩
  · have hu := h.up
    rw [← List.take_append_drop a ks] at hu
    obtain ⟨u1, u2, u3⟩ := List.pairwise_append.1 hu
    refine List.pairwise_append.2 ⟨u1, List.pairwise_cons.2 ⟨hi, u2⟩, fun y hy z hz => ?_⟩
    rcases List.mem_cons.1 hz with rfl | hz
    · exact lo y hy
    · exact u3 y hy z hz
  · have e : x ∈ ks.take a ++ p.key :: ks.drop a ↔ x = p.key ∨ x ∈ ks := by
      have : x ∈ ks ↔ x ∈ ks.take a ∨ x ∈ ks.drop a := by rw [← List.mem_append, List.take_append_drop]
      rw [List.mem_append, List.mem_cons, this]
      constructor
      · rintro (q | q | q)
        · exact .inr (.inl q)
        · exact .inl q
        · exact .inr (.inr q)
      · rintro (q | q | q)
        · exact .inr (.inl q)
        · exact .inl q
        · exact .inr (.inr q)
    rw [e, h.mem, List.take_add_one, hp]
    constructor
    · rintro (rfl | ⟨q, hq, e⟩)
      · exact ⟨p, List.mem_append_right _ (by simp), rfl⟩
      · exact ⟨q, List.mem_append_left _ hq, e⟩
    · rintro ⟨q, hq, eq⟩
      rcases List.mem_append.1 hq with hq | hq
      · exact .inr ⟨q, hq, eq⟩
      · simp only [Option.toList_some, List.mem_singleton] at hq
        subst hq
        exact .inl eq.symm
  · have h1 := h.len
    have h2 := f.le
    simp only [List.length_append, List.length_cons, List.length_take, List.length_drop]
    omega
theorem tx_cell {w : World} {b off cap : Nat} {ks : List ByteArray} (h : ∀ i x, ks[i]? = some x → ∀ j u, (Tx.k.cl x)[j]? = some u → w.cell? ⟨b, off + (i * Tx.k.k + j), none⟩ = some u) {i : Nat} {x : ByteArray} (hx : ks[i]? = some x) : w.cell? ⟨b, off + i, none⟩ = some (.string x) := by
  have := h i x hx 0 _ rfl
  simpa using this

set_option maxRecDepth 100000 in
set_option maxHeartbeats 8000000 in
theorem keys_ok (gr : Nat) (cf : C8) (lv : Value) (R : List Pn) (b : Nat) (w : World) (H : Hid (Rg w gr cf lv R b)) (hn : R.length ≤ 10000) :
    Calls Tryz.prog 13 #[gp gr] w fun r w' => ∃ v' ks, r = .returned v' ∧ KSt R R.length ks ∧ Sl.Own Tx.k w.heap.size w' v' ks ∧ Below w.heap.size w w' := by
  obtain ⟨AV, cv, hv⟩ := H.out.list.len
  subst hv
  go_enter Tryz.func13, Tryz.ntmps13
  go_wp2_with fail
  go_loopw [3, 4] (fun so si wr => ∃ (i : Nat) (ks : List ByteArray), i ≤ R.length ∧ si = .int .i64 i ∧ Hid (KSt R i ks) ∧ Hid (Sl.Own Tx.k w.heap.size wr so ks) ∧ Hid (Below w.heap.size w wr)) (fun _ si _ => R.length - (intOf si).toNat)
  case atStart => exact ⟨0, [], Nat.zero_le _, rfl, Lib.hid ⟨List.Pairwise.nil, fun x => by simp, Nat.le_refl _⟩, Lib.hid (Sl.Own.nil _ _ _), Lib.hid (Below.refl _ _)⟩
  case round =>
    obtain ⟨i, ks, hi, rfl, PP, O, K⟩ := hrel
    have G1 := Lib.hid (H.out.next K.out)
    have c8 := G1.out.lies.cell (i := 8) rfl
    obtain ⟨bo, -, io⟩ := O.out.is
    obtain ⟨AO, co, hv⟩ := io.len
    subst hv
    have IO := Lib.hid io
    clear io
    by_cases hlt : i < R.length
    · obtain ⟨off, cap', he, h2, h3, h4, hcell⟩ := G1.out.list.some_ Pn.ok (by omega)
      obtain ⟨rfl, rfl⟩ : AV = some ⟨b, off, none⟩ ∧ cv = cap' := by simpa using he
      obtain ⟨p, hp⟩ := at_some hlt
      have HP := Lib.hid hp
      obtain ⟨x0, -, -, -, -, -, -⟩ := Tmr.pane_cells hp hcell
      have i0 : (i : Int) < R.length := by omega
      have hkl := PP.out.len
      clear hcell he h2 h3 h4 hp
      go_wp2_with fail
      go_loopw [5, 6, 7] (fun sa sm sk wk => ∃ (k a : Nat) (met : Bool), k ≤ ks.length ∧ sk = .int .i64 k ∧ sa = .int .i64 a ∧ sm = .bool met ∧ Hid (Fr p.key ks k a met) ∧ Hid (Below wr.heap.size wr wk)) (fun _ _ sk _ => ks.length - (intOf sk).toNat)
      case atStart => exact ⟨0, 0, false, Nat.zero_le _, rfl, rfl, rfl, Lib.hid ⟨Nat.le_refl _, fun j y h => absurd h (by omega), fun j y _ h => absurd h (by omega), by simp⟩, Lib.hid (Below.refl _ _)⟩
      case round =>
        obtain ⟨k, a, met, hk, rfl, rfl, rfl, FR, K2⟩ := hrel
        by_cases hlk : k < ks.length
        · obtain ⟨offo, capo, heo, -, -, -, hcello⟩ := (IO.out.next K2.out).some_ Tx.ok (by omega)
          obtain ⟨rfl, rfl⟩ : AO = some ⟨bo, offo, none⟩ ∧ co = capo := by simpa using heo
          obtain ⟨y, hy⟩ : ∃ y, ks[k]? = some y := ⟨ks[k], by simp [hlk]⟩
          have y0 := tx_cell (cap := co) hcello hy
          have x0 := cell_keep K2.out x0
          have c8 := cell_keep K2.out c8
          have FN := Lib.hid (FR.out.next PP.out.up hy)
          have k0 : (k : Int) < ks.length := by omega
          have k1 : (0 : Int) ≤ k := by omega
          have hal := FR.out.le
          obtain ⟨ls, hls⟩ : ∃ ls, ls = Op.bytesLess y.toList p.key.toList := ⟨_, rfl⟩
          obtain ⟨eq, heq⟩ : ∃ eq, eq = (y.toList == p.key.toList) := ⟨_, rfl⟩
          rw [← hls, ← heq] at FN
          have e1 := hls.symm
          have e2 := heq.symm
          clear hcello heo hy FR hls heq
          go_upto_region 10 with fail
          have f0 := Later.cell x0
          have f8 := Later.cell c8
          have g0 := Later.cell y0
          refine wp_region_later (by kernel_rfl) (by kernel_rfl) ?_
          repeat (go_big_quiet_step (fail))
          refine wpQuiet_nil ?_
          rintro _ ⟨u, rfl⟩
          have K2 := Lib.hid (after K2.out u.below)
          have x0 := f0 u
          have c8 := f8 u
          have y0 := g0 u
          clear f0 f8 g0
          generalize u.w = w3 at *
          go_upto_if 36 with fail
          go_cut [5] from 18 to 54 (fun s wx => s = .int .i64 ((if ls then k + 1 else a : Nat) : Int) ∧ wx = w3)
          case first =>
            cases ls
            · go_wp2_with fail
              go_meet
              case rel => exact ⟨rfl, rfl⟩
            · go_wp2_with fail
              go_meet
              case rel => exact ⟨rfl, rfl⟩
          case rest =>
            obtain ⟨rfl, hwc⟩ := hcut
            subst hwc
            generalize (if ls then k + 1 else a : Nat) = a2 at *
            have f0 := Later.cell x0
            have f8 := Later.cell c8
            have g0 := Later.cell y0
            clear e1
            go_upto_region 12 with fail
            cases met
            · refine wp_region_later (by kernel_rfl) (by kernel_rfl) ?_
              repeat (go_big_quiet_step (fail))
              refine wpQuiet_nil ?_
              rintro _ ⟨u, rfl⟩
              have K3 := Lib.hid (after K2.out u.below)
              clear f0 f8 g0 x0 c8 y0
              generalize u.w = w4 at *
              go_wp2_with fail
              exact ⟨⟨k + 1, a2, eq, by omega, by go_num, rfl, by simp, by simpa using FN, K3⟩, by simp [intOf]; omega⟩
            · refine wp_region_later (by kernel_rfl) (by kernel_rfl) ?_
              repeat (go_big_quiet_step (fail))
              refine wpQuiet_nil ?_
              rintro _ ⟨u, rfl⟩
              have K3 := Lib.hid (after K2.out u.below)
              clear f0 f8 g0 x0 c8 y0
              generalize u.w = w4 at *
              go_wp2_with fail
              exact ⟨⟨k + 1, a2, true, by omega, by go_num, rfl, rfl, by simpa using FN, K3⟩, by simp [intOf]; omega⟩
        · obtain rfl : k = ks.length := by omega
          have hal := FR.out.le
          cases met
          · have PN := Lib.hid (PP.out.ins HP.out FR.out)
            clear FR
            obtain ⟨v1, hr1, i1⟩ := Sl.run_take Tx.ok (IO.out.next K2.out) (m := a) (by omega)
            obtain ⟨v2, hr2, i2⟩ := Sl.run_drop Tx.ok (IO.out.next K2.out) (m := a) (by omega)
            have I1 := Lib.hid i1
            have I2 := Lib.hid i2
            have x0 := cell_keep K2.out x0
            have c8 := cell_keep K2.out c8
            have KW := Lib.hid (after K.out K2.out)
            have hlk : Hid ((ks.take a).length ≤ 10000 ∧ (ks.drop a).length ≤ 10000) := Lib.hid (by rw [List.length_take, List.length_drop]; omega)
            have a00 : (0 : Int) ≤ a := by omega
            clear i1 i2
            go_wp2_with (at_builtin; first
              | (refine wpList_plain rfl fun K' hK' => Sl.wp_append_empty (K := Tx.k) Tx.ok (.tmp 57) (.tmp 60) rfl (base := wr.heap.size) (b := wr.heap.size) (l2 := ks.take a) rfl (by exact heap_alloc_new _ _) (Nat.le_refl _) (by exact I1.out.next (below1 _ _)) (by have := hlk.out; omega) (by simp) (fun va wa y1 y2 => hK' _ _ ?_); have O1 := Lib.hid y1; have K3 := Lib.hid (after (below1 wr _) y2); clear y1 y2; have x0 := cell_keep K3.out x0; have c8 := cell_keep K3.out c8)
              | (refine wpList_plain rfl fun K' hK' => Sl.wp_append (K := Tx.k) Tx.ok (.tmp 62) (.tmp 71) rfl (base := wr.heap.size) (l := ks.take a) (l2 := [p.key]) (by exact O1.out.next (below1 _ _)) (by exact Sl.Is.one Tx.ok (x := p.key) (Lies.new _ _ _)) (by have := hlk.out; simp only [List.length_singleton]; omega) (by have := K3.out.size; simp; omega) (fun vb wb y1 y2 y3 => hK' _ _ ?_); have O2 := Lib.hid y1; have K4 := Lib.hid ((after K3.out (below1 _ _)).grown y2 (by have := K3.out.size; simp; omega) (fun b hb => (O1.out.lt b hb).1)); clear y1 y2 y3)
              | (refine wpList_plain rfl fun K' hK' => Sl.wp_append (K := Tx.k) Tx.ok (.tmp 73) (.tmp 76) rfl (base := wr.heap.size) (l := ks.take a ++ [p.key]) (l2 := ks.drop a) (by exact O2.out) (by exact I2.out.next K4.out) (by have := hlk.out; simp only [List.length_append, List.length_singleton]; omega) (by exact K4.out.size) (fun vc wc y1 y2 y3 => hK' _ _ ?_); have O3 := Lib.hid y1; have K5 := Lib.hid (K4.out.grown y2 K4.out.size (fun b hb => (O2.out.lt b hb).1)); clear y1 y2 y3))
            exact ⟨⟨i + 1, _, by omega, by go_num, PN, Lib.hid (by have := own_any O3.out KW.out.size; rwa [List.append_assoc] at this), Lib.hid (after KW.out K5.out)⟩, by simp [intOf]; omega⟩
          · have hm : p.key ∈ ks := by
              obtain ⟨j, -, hj⟩ := FR.out.met.1 rfl
              exact List.mem_of_getElem? hj
            have PN := Lib.hid (PP.out.has HP.out hm)
            have KW := Lib.hid (after K.out K2.out)
            have OW := Lib.hid (O.out.next K2.out)
            clear FR hm
            go_wp2_with fail
            exact ⟨⟨i + 1, ks, by omega, by go_num, PN, OW, KW⟩, by simp [intOf]; omega⟩
    · obtain rfl : i = R.length := by omega
      go_wp2_with fail
      go_ret
      exact ⟨_, ks, rfl, PP.out, O.out, K.out⟩
end Rg
end Go.Proofs.YtbdocnkpjlpfmaaGreat
