/-
  TimerPlays holds: for any deeds and any int64 lateness the law answers true (no conditions).
-/
import Derived.Test.YtomoophjcgahlaaTmrPlaysPut
import Derived.Test.YtomoophjcgahlaaTmrPlaysDrop
import Derived.Test.YtomoophjcgahlaaTmrPlaysPop
namespace Go.Proofs.Ytomoophjcgahlaa.timerPlays
open Go.ChangeShapes Go.WideShapes Go.ChangeAt Go.RowKit Small Foot Tmr
set_option linter.unusedVariables false

set_option maxRecDepth 100000 in
set_option maxHeartbeats 8000000 in
theorem walk_on (A : Option Addr) (n cp : Nat) (f : Nat → Deed) (late : Int) (w : World) (n1 : n ≤ 100) (hf : Hid (∀ i, i < n → DFits (f i))) (hl : Hid ((Lit.int .i64 late).wf = true))
    (hc : Hid (0 < n → ∃ b off, A = some ⟨b, off, none⟩ ∧ ∀ i, i < n → ∀ j v, (dl (f i))[j]? = some v → w.cell? ⟨b, off + (i * 5 + j), none⟩ = some v)) :
    Calls Try.prog 3 #[.slice A n cp, .int .i64 late] w fun r w' => r = .returned (.bool true) ∧ Below w.heap.size w w' := by
  have q1 : decide (100 < (n : Int)) = false := by simp; omega
  go_enter Try.func3, Try.ntmps3
  go_wp2_with fail
  refine (head_ok _).mono ?_
  rintro e w1 ⟨rfl, k1⟩
  have K1 := Lib.hid k1
  clear k1
  go_wp2_with fail
  refine (new_foot _).mono ?_
  rintro e w2 ⟨g, F, rfl, T0, F0, k2⟩
  have S0 : Hid (St w g [] (.slice none 0 0) w2.heap.size F w2) := Lib.hid
    ⟨T0.congr (by simp), List.nodup_nil, Sl.Is.nil _ _ _, fun h => by have := T0.in _ h; omega, fun k hk => by have := F0 k hk; have := K1.out.size; omega, after K1.out k2⟩
  clear T0 F0 K1 k2
  go_wp2_with fail
  go_loopw [7, 8] (fun sm si wr => ∃ (i : Nat) (L : List Tm) (v : Value) (b : Nat) (F : Nat → Prop), i ≤ n ∧ si = .int .i64 i ∧ v = sm ∧ L.length ≤ i ∧ Hid (St w g L v b F wr)) (fun sm si _ => n - (intOf si).toNat)
  case atStart => exact ⟨0, [], _, _, F, Nat.zero_le _, rfl, rfl, Nat.le_refl _, S0⟩
  case round =>
    obtain ⟨i, L, v, b, FF, hin, rfl, rfl, hL, S⟩ := hrel
    clear S0
    by_cases hlt : i < n
    · obtain ⟨ab, off, rfl, hcell⟩ := hc.out (by omega)
      have c0 := cell_keep S.out.below (hcell i hlt 0 _ rfl)
      have c1 := cell_keep S.out.below (hcell i hlt 1 _ rfl)
      have c2 := cell_keep S.out.below (hcell i hlt 2 _ rfl)
      have c3 := cell_keep S.out.below (hcell i hlt 3 _ rfl)
      have c4 := cell_keep S.out.below (hcell i hlt 4 _ rfl)
      rw [Nat.add_zero] at c0
      rw [← Nat.add_assoc] at c1 c2 c3 c4
      have fx := Lib.hid (hf.out i hlt)
      clear hcell
      obtain ⟨x, hx⟩ : ∃ x, x = f i := ⟨_, rfl⟩
      rw [← hx] at c0 c1 c2 c3 c4 fx
      clear hx
      have HF0 : Hid (∀ k, FF k → k < wr.heap.size) := Lib.hid S.out.ts.in
      have X := Lies.new wr 32 (dl x)
      have S1 := Lib.hid (S.out.next (below1 wr (Obj.cells #[.int .i64 x.what, .string x.t.key, .int .i64 x.t.s, .int .i64 x.t.e, .int .i64 x.mark] 32)))
      by_cases hk : 100 < x.t.key.size
      · have hk1 : decide ((100 : Int) < x.t.key.size) = true := by simp; omega
        clear S
        go_wp2
        go_ret
        exact ⟨rfl, S1.out.below⟩
      · have hk1 : decide ((100 : Int) < x.t.key.size) = false := by simp; omega
        go_wp2_with fail
        have X2 := X.alloc (Obj.cells #[.string x.t.key, .int .i64 x.t.s, .int .i64 x.t.e, .int .i64 0, .int .i64 0, .int .i64 0, .int .i64 0] 36)
        have Y2 := Lies.new (wr.alloc (Obj.cells #[.int .i64 x.what, .string x.t.key, .int .i64 x.t.s, .int .i64 x.t.e, .int .i64 x.mark] 32)) 36 (Pn.of x.t).cl
        have S2 := Lib.hid (S1.out.next (below1 _ (Obj.cells #[.string x.t.key, .int .i64 x.t.s, .int .i64 x.t.e, .int .i64 0, .int .i64 0, .int .i64 0, .int .i64 0] 36)))
        have hs : (wr.alloc (Obj.cells #[.int .i64 x.what, .string x.t.key, .int .i64 x.t.s, .int .i64 x.t.e, .int .i64 x.mark] 32)).heap.size = wr.heap.size + 1 := by simp
        rw [hs] at Y2
        have X2 : Hid (Lies _ wr.heap.size 32 (dl x)) := Lib.hid X2
        have Y2 : Hid (Lies _ (wr.heap.size + 1) 36 (Pn.of x.t).cl) := Lib.hid Y2
        clear X S S1 c0 c1 c2 c3 c4 hs
        obtain ⟨W, hW⟩ : ∃ W, W = (wr.alloc (Obj.cells #[.int .i64 x.what, .string x.t.key, .int .i64 x.t.s, .int .i64 x.t.e, .int .i64 x.mark] 32)).alloc (Obj.cells #[.string x.t.key, .int .i64 x.t.s, .int .i64 x.t.e, .int .i64 0, .int .i64 0, .int .i64 0, .int .i64 0] 36) := ⟨_, rfl⟩
        rw [show wr.alloc (Obj.cells (dl x).toArray 32) = wr.alloc (Obj.cells #[.int .i64 x.what, .string x.t.key, .int .i64 x.t.s, .int .i64 x.t.e, .int .i64 x.mark] 32) from rfl, ← hW] at X2
        rw [show (Obj.cells (Pn.of x.t).cl.toArray 36) = (Obj.cells #[.string x.t.key, .int .i64 x.t.s, .int .i64 x.t.e, .int .i64 0, .int .i64 0, .int .i64 0, .int .i64 0] 36) from rfl, ← hW] at Y2
        rw [← hW] at S2 ⊢
        clear hW
        have HF : Hid (∀ k, FF k → k < wr.heap.size) := HF0
        clear HF0
        generalize wr.heap.size = gd at *
        obtain ⟨VA, vcap, hv⟩ := S2.out.list.len
        rw [List.length_map] at hv
        subst hv
        go_loopw [11, 12] (fun sa sk wk => ∃ (k : Nat) (at_ : Int), k ≤ L.length ∧ sk = .int .i64 k ∧ sa = .int .i64 at_ ∧ Hid (At L x.t k at_) ∧ Hid (Below W.heap.size W wk)) (fun sa sk _ => L.length - (intOf sk).toNat)
        case atStart => exact ⟨0, -1, by omega, rfl, rfl, Lib.hid (.inl ⟨rfl, fun j hj => by omega⟩), Lib.hid (Below.refl _ _)⟩
        case round =>
          obtain ⟨k, at_, hkL, rfl, rfl, HA, KW⟩ := hrel
          by_cases hk2 : k < L.length
          · obtain ⟨lo, vc2, hv, h2, h3, h4, hcell⟩ := S2.out.list.some_ Pn.ok (by rw [List.length_map]; omega)
            obtain ⟨y, hy⟩ : ∃ y, L[k]? = some y := ⟨L[k], by simp [hk2]⟩
            obtain ⟨d0, d1, d2, d3, d4, d5, d6⟩ := pane_cells (show (L.map Pn.of)[k]? = some (Pn.of y) by simp [hy]) hcell
            obtain ⟨rfl, rfl⟩ : VA = some ⟨b, lo, none⟩ ∧ vcap = vc2 := by simpa using hv
            clear hv hcell
            have d0 := cell_keep KW.out d0
            have d1 := cell_keep KW.out d1
            have d2 := cell_keep KW.out d2
            have d3 := cell_keep KW.out d3
            have d4 := cell_keep KW.out d4
            have d5 := cell_keep KW.out d5
            have d6 := cell_keep KW.out d6
            have Y3 := Y2.out.next KW.out
            have e0 := Y3.cell (i := 0) rfl
            have e1 := Y3.cell (i := 1) rfl
            have e2 := Y3.cell (i := 2) rfl
            have e3 := Y3.cell (i := 3) rfl
            have e4 := Y3.cell (i := 4) rfl
            have e5 := Y3.cell (i := 5) rfl
            have e6 := Y3.cell (i := 6) rfl
            clear Y3
            have HY := Lib.hid hy
            clear hy
            have i0 : (k : Int) < L.length := by omega
            by_cases hxy : y = x.t
            · subst hxy
              go_wp2_with fail
              go_quiet (fail)
              go_wp2_with fail
              exact ⟨⟨k + 1, k, by omega, by go_num, rfl, Lib.hid (.inr ⟨k, rfl, by omega, HY.out⟩), Lib.hid (after KW.out (below_drewN _ _))⟩, by simp [intOf]; omega⟩
            · have hq : ∀ w', (binOp .eql 36 (Pn.of y).v (Pn.of x.t).v).run Try.prog w' = .ok (.bool false) w' := fun w' => by
                rw [Pn.eql_ok, decide_eq_false (fun h => hxy (Pn.of_inj h))]
              have HXY := Lib.hid hxy
              clear hxy
              go_wp2_with fail
              go_quiet (fail)
              go_wp2_with fail
              exact ⟨⟨k + 1, at_, by omega, by go_num, rfl, Lib.hid (HA.out.more HY.out HXY.out), Lib.hid (after KW.out (below_drewN _ _))⟩, by simp [intOf]; omega⟩
          · obtain rfl : k = L.length := by omega
            have S3 := Lib.hid (S2.out.next KW.out)
            have X3 := Lib.hid (X2.out.next KW.out)
            have Y3 := Lib.hid (Y2.out.next KW.out)
            clear S2 X2 Y2 KW
            go_wp2_with fail
            refine (first_ok _ (L.map Pn.of) b _ (Lib.hid (by have := S3.out.list; rwa [] at this)) (by rw [List.length_map]; omega)).mono ?_
            rintro e w4 ⟨⟨bi, rfl, hb⟩, k4⟩
            have FT := Lib.hid (first_of hb)
            have S4 := Lib.hid (S3.out.next k4)
            have X4 := Lib.hid (X3.out.next k4)
            have Y4 := Lib.hid (Y3.out.next k4)
            clear S3 X3 Y3 k4 hb hkL hk2
            have x0 := X4.out.cell (i := 0) rfl
            go_wp2_with fail
            refine (pick_ok x.what 4 _ fx.out.1 (by omega) (by omega)).mono ?_
            rintro e w5 ⟨⟨pk, rfl, hpk⟩, rfl⟩
            have h4 : Hid (pk = 0 ∨ pk = 1 ∨ pk = 2 ∨ pk = 3) := Lib.hid (by omega)
            clear hpk x0
            go_upto_block 4 with fail
            go_cut [7] (fun sm wx => ∃ L' b' F', L'.length ≤ i + 1 ∧ Hid (St w g L' sm b' F' wx))
            case first =>
              rcases h4.out with rfl | rfl | rfl | rfl
              · refine put_arm0 (i := i) S4 X4 Y4 HF HA FT fx hl hL (by omega) ?_
                intros
                go_wp2_with fail
                go_meet
                case rel => assumption
              · refine put_arm1 (i := i) S4 X4 Y4 HF HA FT fx hl hL (by omega) ?_
                intros
                go_wp2_with fail
                go_meet
                case rel => assumption
              · refine drop_arm (i := i) S4 X4 Y4 HF HA FT fx hl hL (by omega) ?_
                intros
                go_wp2_with fail
                go_meet
                case rel => assumption
              · refine pop_arm (i := i) S4 X4 Y4 HF HA FT fx hl hL (by omega) ?_
                intros
                go_wp2_with fail
                go_meet
                case rel => assumption
            case rest =>
              obtain ⟨L', b', F', hL', S5⟩ := hcut
              clear S4 X4 Y4 HA FT h4 HF hc hk hk1 hL
              obtain ⟨VB, vcb, hv⟩ := S5.out.list.len
              rw [List.length_map] at hv
              subst hv
              go_wp2_with fail
              refine (next_foot _ (Lib.hid S5.out.ts)).mono ?_
              rintro e w6 ⟨⟨b1, y, rfl, hb⟩, k6⟩
              have S6 := Lib.hid (S5.out.next (after k6 (below1 w6 (Obj.cells #[.string y.key, .int .i64 y.s, .int .i64 y.e] 30))))
              have Z6 : Hid (Lies (w6.alloc (Obj.cells #[.string y.key, .int .i64 y.s, .int .i64 y.e] 30)) w6.heap.size 30 (tl y)) := Lib.hid (Lies.new w6 30 (tl y))
              clear S5 k6
              go_wp2_with fail
              refine (first_ok _ (L'.map Pn.of) b' _ (Lib.hid (by have := S6.out.list; rwa [] at this)) (by rw [List.length_map]; omega)).mono ?_
              rintro e w7 ⟨⟨bi', rfl, hbi⟩, k7⟩
              have FT := first_of hbi
              have S7 := Lib.hid (S6.out.next k7)
              have Z7 := Lib.hid (Z6.out.next k7)
              clear S6 Z6 k7 hbi
              generalize w6.heap.size = gy at *
              go_wp2_with fail
              refine (len_foot _ (Lib.hid S7.out.ts)).mono ?_
              rintro e w8 ⟨rfl, rfl⟩
              rcases hb with ⟨rfl, hb1, hb2⟩ | ⟨rfl, hb1, rfl⟩
              · rcases FT with ⟨rfl, rfl⟩ | ⟨k, x0, rfl, hx9, hle⟩
                · simp at hb1
                obtain rfl := hb2.one hle
                have HK : k < L'.length := (List.getElem?_eq_some_iff.1 hx9).1
                obtain ⟨lo, vc2, hv, g2, g3, g4, hcell⟩ := S7.out.list.some_ Pn.ok (by rw [List.length_map]; omega)
                obtain ⟨rfl, rfl⟩ : VB = some ⟨b', lo, none⟩ ∧ vcb = vc2 := by simpa using hv
                obtain ⟨d0, d1, d2, -⟩ := pane_cells (show (L'.map Pn.of)[k]? = some (Pn.of y) by simp [hx9]) hcell
                have z0 := Z7.out.cell (i := 0) rfl
                have z1 := Z7.out.cell (i := 1) rfl
                have z2 := Z7.out.cell (i := 2) rfl
                have i0 : (k : Int) < L'.length := by omega
                clear hcell hv g2 g3 g4 hx9 hle hb2
                go_wp2_with fail
                go_quiet (fail)
                go_wp2_with fail
                exact ⟨⟨i + 1, L', _, b', F', by omega, by go_num, rfl, hL', Lib.hid (S7.out.next (below_drewN _ _))⟩, by simp [intOf]; omega⟩
              · obtain rfl := List.length_eq_zero_iff.1 hb1
                rcases FT with ⟨rfl, -⟩ | ⟨k, x0, rfl, hx9, -⟩
                · go_wp2_with fail
                  go_quiet (fail)
                  go_wp2_with fail
                  exact ⟨⟨i + 1, [], _, b', F', by omega, by go_num, rfl, hL', Lib.hid (S7.out.next (below_drewN _ _))⟩, by simp [intOf]; omega⟩
                · simp at hx9
    · obtain rfl : i = n := by omega
      go_wp2
      go_ret
      exact ⟨rfl, S.out.below⟩

set_option maxRecDepth 100000 in
set_option maxHeartbeats 1000000 in
theorem walk_off (A : Option Addr) (n cp : Nat) (late : Int) (w : World) (hm : n ≤ maxLen) (n1 : 100 < n) :
    Calls Try.prog 3 #[.slice A n cp, .int .i64 late] w fun r w' => r = .returned (.bool true) ∧ Below w.heap.size w w' := by
  unfold maxLen at hm
  have q1 : decide (100 < (n : Int)) = true := by simp; omega
  go_enter Try.func3, Try.ntmps3
  go_wp2_with fail
  refine (head_ok _).mono ?_
  rintro e w1 ⟨rfl, k1⟩
  have K1 := Lib.hid k1
  clear k1
  go_wp2_with fail
  refine (new_foot _).mono ?_
  rintro e w2 ⟨g, F, rfl, T0, F0, k2⟩
  have K2 := Lib.hid k2
  clear k2 T0 F0
  go_wp2
  go_ret
  exact ⟨rfl, after K1.out K2.out⟩

theorem walk (x : Option Addr × Nat × Nat × (Nat → Deed)) (w : World) (hx : Opens.IsRows dl 5 DFits w x) (late : Int) (wl : (Lit.int .i64 late).wf = true) :
    Calls Try.prog 3 #[.slice x.1 x.2.1 x.2.2.1, .int .i64 late] w fun r w' => r = .returned (.bool true) ∧ Below w.heap.size w w' := by
  obtain ⟨A, n, cp, f⟩ := x
  obtain ⟨hm, hf, hc⟩ := hx
  simp only at hm hf hc ⊢
  by_cases h : n ≤ 100
  · exact walk_on A n cp f late w h (Lib.hid hf) (Lib.hid wl) (Lib.hid hc)
  · exact walk_off A n cp late w hm (by omega)

theorem own : ownKnob Try.prog.godebug = none := by kernel_rfl

set_option maxRecDepth 100000 in
theorem lifted (os : Os) (started : os.Started) (H : Type) (enc : TypeId × Value → H) :
    ReturnsInHanded {} Try.checked os 3 .any (Rows.timerPlaysSpec.pre6 enc Try.prog Try.f3 Rows.timerPlaysRow.domain false) (Rows.timerPlaysSpec.post enc Try.prog Try.f3 false true false false) := by
  refine returnsInHanded_of_change (C := Try.checked) own started (by kernel_rfl) Try.func3
    (ChangeSpec.witness6 (enc := enc) (C := Try.checked) false ⟨#[], #[.slice none 0 0, .int .i64 0], []⟩ 8 (by kernel_rfl) (by kernel_rfl) (by kernel_rfl) (by kernel_rfl)) ?_
  intro W base args ds gs before hval0 hW hcnd _
  have hval : ∀ (j : Nat) t v, Try.f3.params[j]? = some t → args[j]? = some v → Value.okWide Try.prog W .any base t v := hval0
  have hW' := hW
  obtain ⟨p, q, hA0, hV, rfl, hfz, hnd⟩ := hW
  have hA : DataW.TrodAll enc Try.prog W 0 (fun _ => true) true Try.f3.params.toList args.toList ds p := hA0
  rw [Try.params3] at hA hval
  obtain ⟨v0, vs0, d0, ds0, p0, q0, hargs, rfl, rfl, h0, r0⟩ := trodAll_cons hA
  obtain ⟨v1, vs1, d1, ds1, p1, q1, rfl, rfl, rfl, h1, r1⟩ := trodAll_cons r0
  obtain ⟨rfl, rfl, rfl⟩ := trodAll_nil r1
  obtain rfl : args = #[v0, v1] := by cases args; simp_all
  obtain ⟨rfl, rfl⟩ := trodVars_none hV
  obtain ⟨a0, rfl, w0⟩ := Tmr.open_deeds (hval 0 22 v0 rfl rfl) h0
  obtain ⟨a1, rfl, rfl, rfl, w1⟩ := open_int Try.underlying2 (hval 1 2 v1 rfl rfl) h1
  clear hA0 hval0
  refine (walk a0 W w0 a1 w1).mono fun e W' ⟨he, hg⟩ => ?_
  subst he
  exact ⟨_, rfl, Laid.post Laid.laidOut (by kernel_rfl) rfl (by kernel_rfl) Try.underlying4 hW' ⟨rfl, rfl, rfl⟩ hg⟩

theorem over : Rows.timerPlaysRow.holds Try.pinned (OpenSpec.ofChange Rows.timerPlaysSpec) :=
  OpenClaim.holds_of_wide 3 Try.f3 rfl rfl rfl rfl rfl rfl rfl ⟨rfl, rfl, rfl, rfl, rfl⟩ rfl rfl rfl rfl rfl (by kernel_rfl) Try.func3 (by kernel_rfl)
    (of_decide_eq_true (by kernel_rfl)) (by unfold Func.isWrapper; first | (rw [if_pos (by decide +kernel)]; kernel_rfl) | (rw [if_neg (by decide +kernel)]; exact ⟨rfl, rfl⟩))
    (fun os started H enc _ => lifted os started H enc)

/-- ████ THE STATEMENT ████ -/
theorem proved : Rows.TimerPlaysSaid :=
  over
#print axioms proved
end Go.Proofs.Ytomoophjcgahlaa.timerPlays
