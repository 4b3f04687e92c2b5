/-
  OutlogSorts: what outlog.Sorted tells, sorted again, is the same; it has just the panes that were handed in, each as often; and is in order by keys, then by Ends.
  (No premise: at every list of panes.)
-/
import Derived.Test.YtdmplcnnoabkaaaUp09
import Derived.Test.YtdmplcnnoabkaaaLaid
namespace Go.Proofs.Ytdmplcnnoabkaaa.outlogSorts
open Go.ChangeShapes Go.WideShapes Go.ChangeAt Go.RowKit Small Srt Out
set_option linter.unusedVariables false

abbrev cnt (q : Pn) (T : List Pn) : Nat := T.countP (fun p => decide (p = q))
theorem cnt_next {T : List Pn} {k : Nat} {p : Pn} (q : Pn) (h : T[k]? = some p) : cnt q (T.take (k + 1)) = cnt q (T.take k) + (if p = q then 1 else 0) := by
  rw [List.take_add_one, h]
  show (T.take k ++ [p]).countP _ = _
  rw [List.countP_append]
  by_cases e : p = q <;> simp [e]
theorem cnt_le (q : Pn) (T : List Pn) (k : Nat) : cnt q (T.take k) ≤ k := by
  have := List.countP_le_length (p := fun p => decide (p = q)) (l := T.take k)
  rw [List.length_take] at this
  show (T.take k).countP _ ≤ k
  omega

set_option maxRecDepth 100000 in
set_option maxHeartbeats 16000000 in
theorem walk (x : Value × List Pn) (w : World) (hx : Came w x) :
    Calls Try.prog 4 #[x.1] w fun r w' => r = .returned (.bool true) ∧ Below w.heap.size w w' := by
  obtain ⟨v, L⟩ := x
  obtain ⟨hR, hF⟩ := hx
  simp only at hR hF ⊢
  obtain ⟨AD, cap, rfl⟩ := hR.len
  have H := Lib.hid hR
  clear hR hF
  go_enter Try.func4, Try.ntmps4
  go_wp2_with fail
  refine (up_ok w).mono ?_
  rintro r w1 ⟨rfl, k1⟩
  have K1 := Lib.hid k1
  clear k1
  by_cases hn : 100 < L.length
  · have hnz : (100 : Int) < (L.length : Int) := by omega
    go_wp2
    go_ret
    exact ⟨rfl, K1.out⟩
  have hnz : ¬ (100 : Int) < (L.length : Int) := by omega
  have hle : L.length ≤ 100 := by omega
  clear hn
  go_wp2_with fail
  go_loopw [4] (fun si wr => ∃ (i : Nat), i ≤ L.length ∧ si = .int .i64 i ∧ Hid (Below w.heap.size w wr)) (fun si _ => L.length - (intOf si).toNat)
  case atStart => exact ⟨0, by omega, rfl, K1⟩
  case round =>
    clear K1
    obtain ⟨i, hi, rfl, K⟩ := hrel
    by_cases hlt : i < L.length
    · obtain ⟨b, off, cap', he, h2, h3, h4, hcell⟩ := H.out.some_ (by omega)
      obtain ⟨rfl, rfl⟩ : AD = some ⟨b, off, none⟩ ∧ cap = cap' := by simpa using he
      obtain ⟨p, hp⟩ := at_some hlt
      obtain ⟨c0, -⟩ := pane_cells hp hcell
      have c0 := cell_keep K.out c0
      have i0 : (i : Int) < L.length := by omega
      clear hcell he h2 h3 h4 hp
      by_cases hk : 100 < p.key.size
      · have hkz : (100 : Int) < (p.key.size : Int) := by omega
        go_wp2
        go_ret
        exact ⟨rfl, K.out⟩
      · have hkz : ¬ (100 : Int) < (p.key.size : Int) := by omega
        go_wp2_with fail
        exact ⟨⟨i + 1, by omega, by go_num, K⟩, by simp [intOf]; omega⟩
    · obtain rfl : i = L.length := by omega
      have H1 := Lib.hid (H.out.next K.out)
      clear hlt hi
      go_wp2_with fail
      refine (sorted_ok _ L wr H1 (by omega)).mono ?_
      rintro r w2 ⟨v2, b2, rfl, hb2, i2, k2⟩
      obtain ⟨AE, cap2, rfl⟩ := i2.len
      have hS := srt_len (lt := ah) L
      rw [hS] at i2
      rw [hS]
      have asc : Hid (Asc ah (srt ah L)) := srt_asc swo L
      have prm : Hid ((srt ah L).Perm L) := srt_perm L
      have sam : Hid (srt ah (srt ah L) = srt ah L) := srt_same _ asc.out
      have LS : Hid ((srt ah L).length = L.length) := hS
      clear hS
      generalize srt ah L = S at i2 asc prm sam LS
      have I2 : Hid (Rd w2 (.slice AE L.length cap2) S) := Lib.hid (.inl ⟨b2, i2⟩)
      have H2 := Lib.hid (H1.out.next k2)
      have K2 := Lib.hid (after K.out k2)
      clear i2 k2 H1
      go_wp2_with fail
      refine (sorted_ok _ S w2 I2 (by have := LS.out; omega)).mono ?_
      rw [sam.out]
      rintro r w3 ⟨v3, b3, rfl, hb3, i3, k3⟩
      have I3 : Hid (Rd w3 v3 S) := Lib.hid (.inl ⟨b3, i3⟩)
      have J2 := Lib.hid (I2.out.next k3)
      have H3 := Lib.hid (H2.out.next k3)
      have K3 := Lib.hid (after K2.out k3)
      clear i3 k3 I2 H2
      go_wp2_with fail
      refine (osame_ok v3 _ S S w3 I3 J2 (by have := LS.out; omega) (by have := LS.out; omega)).mono ?_
      rw [decide_eq_true (rfl : S = S)]
      rintro r w4 ⟨rfl, k4⟩
      have J4 := Lib.hid (J2.out.next k4)
      have H4 := Lib.hid (H3.out.next k4)
      have K4 := Lib.hid (after K3.out k4)
      clear k4 I3 J2 H3
      go_wp2_with fail
      go_loopw [6] (fun si wr => ∃ (i : Nat), i ≤ L.length ∧ si = .int .i64 i ∧ Hid (Below w4.heap.size w4 wr)) (fun si _ => L.length - (intOf si).toNat)
      case atStart => exact ⟨0, by omega, rfl, Lib.hid (Below.refl _ _)⟩
      case round =>
        obtain ⟨i, hi, rfl, K5⟩ := hrel
        by_cases hlt : i < L.length
        · obtain ⟨b, off, cap', he, h2, h3, h4, hcell⟩ := H4.out.some_ (by omega)
          obtain ⟨rfl, rfl⟩ : AD = some ⟨b, off, none⟩ ∧ cap = cap' := by simpa using he
          obtain ⟨b', off', cap3, he', g2, g3, g4, hcell'⟩ := J4.out.some_ (by have := LS.out; omega)
          obtain ⟨rfl, -, rfl⟩ : AE = some ⟨b', off', none⟩ ∧ L.length = S.length ∧ cap2 = cap3 := by simpa using he'
          obtain ⟨q, hq⟩ := at_some hlt
          obtain ⟨c0, c1, c2, c3, c4, c5, c6⟩ := pane_cells hq hcell
          have HQ := Lib.hid hq
          have HC := Lib.hid hcell
          have HC' := Lib.hid hcell'
          have i0 : (i : Int) < L.length := by omega
          clear hcell he h2 h3 h4 hcell' he' g2 g3 g4 hq
          go_wp2_with fail
          go_loopw [7, 8, 9] (fun sa sb sk wr => ∃ (k : Nat), k ≤ L.length ∧ sk = .int .i64 k ∧ sa = .int .i64 (cnt q (L.take k)) ∧ sb = .int .i64 (cnt q (S.take k)) ∧ Hid (Below w4.heap.size w4 wr)) (fun _ _ sk _ => L.length - (intOf sk).toNat)
          case atStart => exact ⟨0, by omega, rfl, by simp, by simp, K5⟩
          case round =>
            obtain ⟨k, hk, rfl, rfl, rfl, K6⟩ := hrel
            have c0 := cell_keep K6.out c0
            have c1 := cell_keep K6.out c1
            have c2 := cell_keep K6.out c2
            have c3 := cell_keep K6.out c3
            have c4 := cell_keep K6.out c4
            have c5 := cell_keep K6.out c5
            have c6 := cell_keep K6.out c6
            by_cases hlk : k < L.length
            · obtain ⟨p, hp⟩ := at_some hlk
              obtain ⟨s, hs⟩ := at_some (L := S) (i := k) (by have := LS.out; omega)
              obtain ⟨d0, d1, d2, d3, d4, d5, d6⟩ := pane_cells hp HC.out
              obtain ⟨e0, e1, e2, e3, e4, e5, e6⟩ := pane_cells hs HC'.out
              have d0 := cell_keep K6.out d0
              have d1 := cell_keep K6.out d1
              have d2 := cell_keep K6.out d2
              have d3 := cell_keep K6.out d3
              have d4 := cell_keep K6.out d4
              have d5 := cell_keep K6.out d5
              have d6 := cell_keep K6.out d6
              have e0 := cell_keep K6.out e0
              have e1 := cell_keep K6.out e1
              have e2 := cell_keep K6.out e2
              have e3 := cell_keep K6.out e3
              have e4 := cell_keep K6.out e4
              have e5 := cell_keep K6.out e5
              have e6 := cell_keep K6.out e6
              have k0 : (k : Int) < L.length := by omega
              have eq1 : ∀ w' : World, (binOp .eql 32 (.agg #[.string p.key, .int .i64 p.s, .int .i64 p.e, .int .i64 p.c, .int .i64 p.m, .int .i64 p.l, .int .i64 p.u]) (.agg #[.string q.key, .int .i64 q.s, .int .i64 q.e, .int .i64 q.c, .int .i64 q.m, .int .i64 q.l, .int .i64 q.u])).run Try.prog w' = .ok (.bool (decide (p = q))) w' := fun w' => Pn.eql_ok p q w'
              have eq2 : ∀ w' : World, (binOp .eql 32 (.agg #[.string s.key, .int .i64 s.s, .int .i64 s.e, .int .i64 s.c, .int .i64 s.m, .int .i64 s.l, .int .i64 s.u]) (.agg #[.string q.key, .int .i64 q.s, .int .i64 q.e, .int .i64 q.c, .int .i64 q.m, .int .i64 q.l, .int .i64 q.u])).run Try.prog w' = .ok (.bool (decide (s = q))) w' := fun w' => Pn.eql_ok s q w'
              have n1 : Hid (cnt q (L.take (k + 1)) = cnt q (L.take k) + (if p = q then 1 else 0)) := cnt_next q hp
              have n2 : Hid (cnt q (S.take (k + 1)) = cnt q (S.take k) + (if s = q then 1 else 0)) := cnt_next q hs
              have l1 := cnt_le q L k
              have l2 := cnt_le q S k
              generalize hA : cnt q (L.take k) = A at n1 l1 ⊢
              generalize hB : cnt q (S.take k) = B at n2 l2 ⊢
              have wA : IntKind.i64.wrap ((A : Int) + 1) = (A : Int) + 1 := by rw [IntKind.wrap_i64]; omega
              have wB : IntKind.i64.wrap ((B : Int) + 1) = (B : Int) + 1 := by rw [IntKind.wrap_i64]; omega
              have HA := Lib.hid hA
              have HB := Lib.hid hB
              clear hp hs hA hB
              obtain ⟨x1, h1⟩ : ∃ x, decide (p = q) = x := ⟨_, rfl⟩
              obtain ⟨x2, h2⟩ : ∃ x, decide (s = q) = x := ⟨_, rfl⟩
              rw [h1] at eq1
              rw [h2] at eq2
              have HX1 := Lib.hid h1
              have HX2 := Lib.hid h2
              clear h1 h2
              have N1 : Hid (cnt q (L.take (k + 1)) = A + (bif x1 then 1 else 0)) := Lib.hid (by
                rw [n1.out]
                cases x1 with
                | true => rw [if_pos (of_decide_eq_true HX1.out)]; rfl
                | false => rw [if_neg (of_decide_eq_false HX1.out)]; rfl)
              have N2 : Hid (cnt q (S.take (k + 1)) = B + (bif x2 then 1 else 0)) := Lib.hid (by
                rw [n2.out]
                cases x2 with
                | true => rw [if_pos (of_decide_eq_true HX2.out)]; rfl
                | false => rw [if_neg (of_decide_eq_false HX2.out)]; rfl)
              clear n1 n2 HX1 HX2 HA HB
              cases x1 <;> cases x2
              all_goals
                go_wp2_with fail
                go_quiet (fail)
                go_wp2_with fail
                go_quiet (fail)
                go_wp2_with fail
                exact ⟨⟨k + 1, by omega, by go_num, by rw [N1.out]; simp, by rw [N2.out]; simp, by first | exact Lib.hid (K6.out.trans ((below_drewN _ _).mono K6.out.size)) | exact Lib.hid (K6.out.trans (((below_drewN wr _).trans (below_drewN (wr.drewN _) _)).mono K6.out.size))⟩, by simp [intOf]; omega⟩
            · obtain rfl : k = L.length := by omega
              have E : cnt q (S.take L.length) = cnt q (L.take L.length) := by
                rw [List.take_length, ← LS.out, List.take_length]
                exact prm.out.countP_eq _
              rw [E]
              generalize cnt q (L.take L.length) = A
              clear E hlk hk c0 c1 c2 c3 c4 c5 c6
              cases i with
              | zero =>
                go_wp2_with fail
                go_quiet (fail)
                go_wp2_with fail
                exact ⟨⟨0 + 1, by omega, by go_num, Lib.hid (K6.out.trans ((below_drewN _ _).mono K6.out.size))⟩, by simp [intOf]; omega⟩
              | succ j =>
                obtain ⟨s1, hs1⟩ := at_some (L := S) (i := j + 1) (by have := LS.out; omega)
                obtain ⟨s0, hs0⟩ := at_some (L := S) (i := j) (by have := LS.out; omega)
                obtain ⟨d0, d1, d2, -⟩ := pane_cells hs1 HC'.out
                obtain ⟨e0, e1, e2, -⟩ := pane_cells hs0 HC'.out
                have d0 := cell_keep K6.out d0
                have d2 := cell_keep K6.out d2
                have e0 := cell_keep K6.out e0
                have e2 := cell_keep K6.out e2
                have hA : ah s1 s0 = false := by
                  obtain ⟨h1, q1⟩ := List.getElem?_eq_some_iff.1 hs1
                  obtain ⟨h0, q0⟩ := List.getElem?_eq_some_iff.1 hs0
                  have := List.pairwise_iff_getElem.1 asc.out j (j + 1) h0 h1 (by omega)
                  rwa [q1, q0] at this
                have hB : Op.bytesLess s1.key.toList s0.key.toList = false := by
                  cases e : Op.bytesLess s1.key.toList s0.key.toList with
                  | true => exact absurd (.inl e) ((ah_no s1 s0).1 hA)
                  | false => rfl
                have j0 : (j : Int) < L.length := by omega
                have j1 : (j : Int) + 1 < L.length := by omega
                have j2 : (0 : Int) < (j : Int) + 1 := by omega
                have j3 : (0 : Int) ≤ (j : Int) + 1 := by omega
                have w1 : IntKind.i64.wrap ((j : Int) + 1 - 1) = (j : Int) := by rw [IntKind.wrap_i64]; omega
                have w2 : (j : Int) + 1 - 1 = (j : Int) := by omega
                have w3 : IntKind.i64.wrap (j : Int) = (j : Int) := by rw [IntKind.wrap_i64]; omega
                have w4' : ((j : Int) + 1).toNat = j + 1 := by omega
                have ix : (((j + 1 : Nat)) : Int) = (j : Int) + 1 := by omega
                by_cases hk : s1.key = s0.key
                · have hkk : (s1.key.toList == s0.key.toList) = true := by simp [hk]
                  have he : decide (s1.e < s0.e) = false := decide_eq_false fun h => (ah_no s1 s0).1 hA (.inr ⟨hk, .inl h⟩)
                  clear hA hk hs1 hs0
                  go_wp2_with fail
                  go_quiet (fail)
                  go_wp2_with fail
                  exact ⟨⟨j + 1 + 1, by omega, by go_num, Lib.hid (K6.out.trans ((below_drewN _ _).mono K6.out.size))⟩, by simp [intOf]; omega⟩
                · have hkk : (s1.key.toList == s0.key.toList) = false := by
                    rw [beq_eq_false_iff_ne]
                    exact fun e => hk (Pn.bytes_ext.1 e)
                  clear hA hk hs1 hs0
                  go_wp2_with fail
                  go_quiet (fail)
                  go_wp2_with fail
                  exact ⟨⟨j + 1 + 1, by omega, by go_num, Lib.hid (K6.out.trans ((below_drewN _ _).mono K6.out.size))⟩, by simp [intOf]; omega⟩
        · obtain rfl : i = L.length := by omega
          have KE := Lib.hid (after K4.out K5.out)
          go_wp2
          go_ret
          exact ⟨rfl, KE.out⟩
theorem own : ownKnob Try.prog.godebug = none := by kernel_rfl

set_option maxRecDepth 100000 in
theorem lifted (os : Os) (started : os.Started) (H : Type) (enc : TypeId × Value → H) :
    ReturnsInHanded {} Try.checked os 4 .any (Rows.outlogSortsSpec.pre6 enc Try.prog Try.f4 Rows.outlogSortsRow.domain false) (Rows.outlogSortsSpec.post enc Try.prog Try.f4 false true false false) := by
  refine returnsInHanded_of_change (C := Try.checked) own started (by kernel_rfl) Try.func4
    (ChangeSpec.witness6 (enc := enc) (C := Try.checked) false ⟨#[], #[.slice none 0 0], []⟩ 8 (by kernel_rfl) (by kernel_rfl) (by kernel_rfl) (by kernel_rfl)) ?_
  intro W base args ds gs before hval0 hW hcnd _
  have hval : ∀ (j : Nat) t v, Try.f4.params[j]? = some t → args[j]? = some v → Value.okWide Try.prog W .any base t v := hval0
  have hW' := hW
  obtain ⟨p, q, hA0, hV, rfl, hfz, hnd⟩ := hW
  have hA : DataW.TrodAll enc Try.prog W 0 (fun _ => true) true Try.f4.params.toList args.toList ds p := hA0
  rw [Try.params4] at hA hval
  obtain ⟨v0, vs0, d0, ds0, p0, q0, hargs, rfl, rfl, h0, r0⟩ := trodAll_cons hA
  obtain ⟨rfl, rfl, rfl⟩ := trodAll_nil r0
  obtain rfl : args = #[v0] := by cases args; simp_all
  obtain ⟨rfl, rfl⟩ := trodVars_none hV
  obtain ⟨a0, rfl, w0⟩ := Opens.open_panes (hval 0 26 v0 rfl rfl) h0
  clear hA0 hval0
  refine (walk a0 W w0).mono fun e W' ⟨he, hg⟩ => ?_
  subst he
  exact ⟨_, rfl, Laid.post Laid.laidOut (by kernel_rfl) rfl (by kernel_rfl) Try.underlying4 hW' ⟨rfl, rfl, rfl⟩ hg⟩

theorem over : Rows.outlogSortsRow.holds Try.pinned (OpenSpec.ofChange Rows.outlogSortsSpec) :=
  OpenClaim.holds_of_wide 4 Try.f4 rfl rfl rfl rfl rfl rfl rfl ⟨rfl, rfl, rfl, rfl, rfl⟩ rfl rfl rfl rfl rfl (by kernel_rfl) Try.func4 (by kernel_rfl)
    (of_decide_eq_true (by kernel_rfl)) (by unfold Func.isWrapper; first | (rw [if_pos (by decide +kernel)]; kernel_rfl) | (rw [if_neg (by decide +kernel)]; exact ⟨rfl, rfl⟩))
    (fun os started H enc _ => lifted os started H enc)

/-- ████ THE STATEMENT ████ -/
theorem proved : Rows.OutlogSortsSaid :=
  over
#print axioms proved
end Go.Proofs.Ytdmplcnnoabkaaa.outlogSorts
