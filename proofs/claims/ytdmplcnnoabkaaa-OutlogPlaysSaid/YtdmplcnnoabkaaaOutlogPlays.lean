/-
  OutlogPlays: what any panes come to that are put, some by some: all of them, those of any key, whether they are fine; whether any are the same; sorted.
  (No premise: at every list of lists of panes and every key.)
-/
import Derived.Test.YtdmplcnnoabkaaaUp09
import Derived.Test.YtdmplcnnoabkaaaOutRefS
import Derived.Test.YtdmplcnnoabkaaaLaid
namespace Go.Proofs.Ytdmplcnnoabkaaa.outlogPlays
open Go.ChangeShapes Go.WideShapes Go.ChangeAt Go.RowKit Small Srt Out
set_option linter.unusedVariables false

/-- append, what it yields as a slice -/
theorem wp_append_rd {w : World} {o : Oper} {a : Act} {Kc : Act → World → Prop} {Q : Exit → Act → World → Prop} {l l2 : List Pn} {base : Nat} (s x : Operand) (hop : o.op = Op.call { callee := Callee.builtin Builtin.append, args := #[s, x], argTypes := #[Pn.k.t, Pn.k.t] })
    (h : Sl.Own Pn.k base w (a.eval s) l) (hx : Rd w (a.eval x) l2) (hn : l.length + l2.length ≤ 1048576) (hb : base ≤ w.heap.size)
    (hK : ∀ A c w', Sl.Own Pn.k base w' (.slice A (l.length + l2.length) c) (l ++ l2) → w.grownBy w' (a.eval s).ownBlock → ((Value.slice A (l.length + l2.length) c).ownBlock = (a.eval s).ownBlock ∨ (Value.slice A (l.length + l2.length) c).ownBlock = some w.heap.size) → Kc (a.put o.dst (.slice A (l.length + l2.length) c)) w') : o.wp Try.prog a w Kc Q := by
  obtain ⟨v', w', hr, q1, q2, q3⟩ := run_append_rd o.type h hx hn hb
  obtain ⟨A, c, rfl⟩ : ∃ A c, v' = .slice A (l ++ l2).length c := by obtain ⟨b, _, h⟩ := q1.is; exact h.len
  rw [List.length_append] at q1 q3
  unfold Oper.wp
  simp [execOp, hop, resolve, invoke, builtin, hr, Result.andThen]
  exact hK A c w' q1 q2 q3

/-- both logs side by side: the one at g, whose list is vl, and the law's own, vm -/
structure St (w0 : World) (g : Nat) (vl vm : Value) (M : List Pn) (w : World) : Prop where
  log : Lg w g vl M
  own : Sl.Own Pn.k (g + 1) w vm M
  apart : ∀ a, vm.ownBlock = some a → vl.ownBlock ≠ some a
  far : w0.heap.size ≤ g
  below : Below w0.heap.size w0 w
  fits : ∀ p ∈ M, Fits p
theorem St.next {w0 w w' : World} {g : Nat} {vl vm : Value} {M : List Pn} (h : St w0 g vl vm M w) (k : Below w.heap.size w w') : St w0 g vl vm M w' :=
  ⟨h.log.next k, h.own.next k, h.apart, h.far, after h.below k, h.fits⟩
/-- the one was put, the other one not yet -/
structure Mid (w0 : World) (g : Nat) (vl vm : Value) (M X : List Pn) (w : World) : Prop where
  log : Lg w g vl (M ++ X)
  own : Sl.Own Pn.k (g + 1) w vm M
  apart : ∀ a, vm.ownBlock = some a → vl.ownBlock ≠ some a
  far : w0.heap.size ≤ g
  below : Below w0.heap.size w0 w
  fits : ∀ p ∈ M, Fits p
theorem St.put {w0 w w' : World} {g : Nat} {vl vl' vm : Value} {M X : List Pn} (h : St w0 g vl vm M w) (l : Lg w' g vl' (M ++ X)) (o : vl'.ownBlock = vl.ownBlock ∨ vl'.ownBlock = some w.heap.size) (k : Wr (fun i => i = g ∨ vl.ownBlock = some i) w w') : Mid w0 g vl' vm M X w' := by
  refine ⟨l, h.own.move fun a ha => k.block a (h.own.lt a ha).2 fun q => ?_, fun a ha => ?_, h.far, ?_, h.fits⟩
  · rcases q with q | q
    · have := (h.own.lt a ha).1; omega
    · exact h.apart a ha q
  · rcases o with o | o
    · rw [o]; exact h.apart a ha
    · rw [o]
      intro e
      have := (h.own.lt a ha).2
      simp at e
      omega
  · refine h.below.trans (k.below h.below.size fun i hi => ?_)
    rcases hi with rfl | hi
    · exact h.far
    · have := (h.log.own.lt i hi).1
      have := h.far
      omega
theorem Mid.app {w0 w w' : World} {g : Nat} {vl vm vm' : Value} {M X : List Pn} (h : Mid w0 g vl vm M X w) (ow : Sl.Own Pn.k (g + 1) w' vm' (M ++ X)) (k : w.grownBy w' vm.ownBlock) (o : vm'.ownBlock = vm.ownBlock ∨ vm'.ownBlock = some w.heap.size) (hX : ∀ p ∈ X, Fits p) : St w0 g vl vm' (M ++ X) w' := by
  have ng : vm.ownBlock ≠ some g := fun e => by have := (h.own.lt g e).1; omega
  refine ⟨⟨(k.block g h.log.lies.lt fun e => ng e.symm).trans h.log.lies, h.log.own.move fun a ha => k.block a (h.log.own.lt a ha).2 fun e => h.apart a e.symm ha⟩, ow, fun a ha => ?_, h.far, h.below.grown k h.below.size fun a ha => ?_, fun p hp => ?_⟩
  · rcases o with o | o
    · rw [o] at ha; exact h.apart a ha
    · rw [o] at ha
      obtain rfl := Option.some.inj ha
      intro e
      have := (h.log.own.lt _ e).2
      omega
  · have := (h.own.lt a ha).1
    have := h.far
    omega
  · rcases List.mem_append.1 hp with hp | hp
    · exact h.fits p hp
    · exact hX p hp

set_option maxRecDepth 100000 in
set_option maxHeartbeats 16000000 in
theorem walk (x : Option Addr × Nat × Nat × (Nat → Value × List Pn)) (w : World) (hx : Opens.IsRows (fun x : Value × List Pn => [x.1]) 1 (Came w) w x) (key : ByteArray) :
    Calls Try.prog 3 #[.slice x.1 x.2.1 x.2.2.1, .string key] w fun r w' => r = .returned (.bool true) ∧ Below w.heap.size w w' := by
  obtain ⟨A, n, cp, f⟩ := x
  obtain ⟨hm, hf, hc⟩ := hx
  simp only at hm hf hc ⊢
  have HF := Lib.hid hf
  have HC := Lib.hid hc
  clear hf hc
  go_enter Try.func3, Try.ntmps3
  go_wp2_with fail
  refine (up_ok w).mono ?_
  rintro r w1 ⟨rfl, k1⟩
  have K1 := Lib.hid k1
  clear k1
  go_wp2_with fail
  refine (new_ok w1).mono ?_
  rintro r w2 ⟨rfl, l2, k2⟩
  have K2 := Lib.hid (after K1.out k2)
  have hg : Hid (w.heap.size ≤ w1.heap.size) := Lib.hid K1.out.size
  have S2 : Hid (St w w1.heap.size (.slice none 0 0) (.slice none 0 0) [] w2) := Lib.hid ⟨l2, Sl.Own.nil _ _ _, fun a ha => (by simp [Value.ownBlock] at ha), hg.out, K2.out, by simp⟩
  generalize w1.heap.size = g at *
  clear l2 k2 K1
  by_cases hn : 20 < n
  · have hnz : (20 : Int) < (n : Int) := by omega
    go_wp2
    go_ret
    exact ⟨rfl, K2.out⟩
  have hnz : ¬ (20 : Int) < (n : Int) := by omega
  by_cases hk : 100 < key.size
  · have hkz : (100 : Int) < (key.size : Int) := by omega
    go_wp2
    go_ret
    exact ⟨rfl, K2.out⟩
  have hkz : ¬ (100 : Int) < (key.size : Int) := by omega
  have hle : n ≤ 20 := by omega
  clear hn hk
  go_wp2_with fail
  go_loopw [7, 8] (fun sm si wr => ∃ (i : Nat) (M : List Pn) (vl vm : Value), i ≤ n ∧ si = .int .i64 i ∧ sm = vm ∧ M.length ≤ 20 * i ∧ Hid (St w g vl vm M wr)) (fun _ si _ => n - (intOf si).toNat)
  case atStart => exact ⟨0, [], _, _, by omega, rfl, rfl, by simp, S2⟩
  case round =>
    clear S2 K2 hg
    obtain ⟨i, M, vl, vm, hi, rfl, rfl, hM, T⟩ := hrel
    obtain ⟨AM, cM, hvm⟩ := (Rd.own T.out.own).len
    subst hvm
    by_cases hlt : i < n
    · obtain ⟨b, off, rfl, hcell⟩ := HC.out (by omega)
      have hc0 := hcell i hlt 0 _ rfl
      obtain ⟨hR, hF⟩ := HF.out i hlt
      obtain ⟨y, hy⟩ : ∃ y, y = f i := ⟨_, rfl⟩
      rw [← hy] at hR hF hc0
      clear hy
      obtain ⟨vi, X⟩ := y
      simp only [Nat.mul_one, Nat.add_zero] at hc0 hR hF
      obtain ⟨AX, cX, rfl⟩ := hR.len
      have R := Lib.hid hR
      have FX := Lib.hid hF
      have c0 := cell_keep T.out.below hc0
      have HC0 := Lib.hid hc0
      have i0 : (i : Int) < (n : Int) := by omega
      clear hcell hR hF hc0
      by_cases hX : 20 < X.length
      · have hXz : (20 : Int) < (X.length : Int) := by omega
        have KB := Lib.hid T.out.below
        go_wp2
        go_ret
        exact ⟨rfl, KB.out⟩
      have hXz : ¬ (20 : Int) < (X.length : Int) := by omega
      have hXl : X.length ≤ 20 := by omega
      clear hX
      go_wp2_with fail
      go_loopw [9] (fun sk wr => ∃ (k : Nat), k ≤ X.length ∧ sk = .int .i64 k ∧ Hid (St w g vl (.slice AM M.length cM) M wr)) (fun sk _ => X.length - (intOf sk).toNat)
      case atStart => exact ⟨0, by omega, rfl, T⟩
      case round =>
        clear T c0
        obtain ⟨k, hkX, rfl, T⟩ := hrel
        have c0 := cell_keep T.out.below HC0.out
        by_cases hlk : k < X.length
        · obtain ⟨bX, oX, cX', he, h2, h3, h4, hcell⟩ := R.out.some_ (by omega)
          obtain ⟨rfl, rfl⟩ : AX = some ⟨bX, oX, none⟩ ∧ cX = cX' := by simpa using he
          obtain ⟨p, hp⟩ := at_some hlk
          obtain ⟨d0, -⟩ := pane_cells hp hcell
          have d0 := cell_keep T.out.below d0
          have k0 : (k : Int) < X.length := by omega
          clear hcell he h2 h3 h4 hp
          by_cases hs : 100 < p.key.size
          · have hsz : (100 : Int) < (p.key.size : Int) := by omega
            have KB := Lib.hid T.out.below
            go_wp2
            go_ret
            exact ⟨rfl, KB.out⟩
          · have hsz : ¬ (100 : Int) < (p.key.size : Int) := by omega
            go_wp2_with fail
            exact ⟨⟨k + 1, by omega, by go_num, T⟩, by simp [intOf]; omega⟩
        · obtain rfl : k = X.length := by omega
          clear hlk hkX
          have RX := Lib.hid (R.out.next T.out.below)
          go_wp2_with fail
          refine (put_ok g vl _ M X wr (Lib.hid T.out.log) RX (by omega)).mono ?_
          rintro r w3 ⟨vl3, rfl, l3, o3, k3⟩
          have T3 := Lib.hid (T.out.put l3 o3 k3)
          have R3 := Lib.hid (R.out.next T3.out.below)
          have c0 := cell_keep T3.out.below HC0.out
          have g3 : Hid (g + 1 ≤ w3.heap.size) := Lib.hid T3.out.log.lies.lt
          clear l3 o3 k3 T RX
          go_wp2_with (at_builtin; refine wpList_plain rfl fun K' hK' => wp_append_rd (.tmp 68) (.tmp 72) rfl (base := g + 1) (l := M) (l2 := X) (by exact T3.out.own) (by exact R3.out) (by omega) (by exact g3.out) (fun AM4 cM4 w4 x1 x2 x3 => hK' _ _ ?_))
          have T4 := Lib.hid (T3.out.app x1 x2 x3 FX.out)
          have hl4 : (M ++ X).length = M.length + X.length := List.length_append
          have LM : Hid ((M ++ X).length ≤ 20 * (i + 1)) := Lib.hid (by omega)
          rw [← hl4] at T4 ⊢
          clear x1 x2 x3 T3 R3 g3 hl4 hM
          generalize M ++ X = M4 at T4 LM ⊢
          have hM4 : M4.length ≤ 1000 := by have := LM.out; omega
          have IM := Lib.hid (Rd.own T4.out.own)
          obtain ⟨bm, -, im⟩ := T4.out.own.is
          have IS := Lib.hid im
          clear im
          go_wp2_with fail
          refine (all_ok g vl3 M4 w4 (Lib.hid T4.out.log) hM4).mono ?_
          rintro r w5 ⟨v5, rfl, o5, k5⟩
          have R5 := Lib.hid (Rd.own o5)
          have B5 := Lib.hid k5
          clear o5 k5
          go_wp2_with fail
          refine (same_ok v5 _ M4 M4 w5 R5 (Lib.hid (IM.out.next B5.out)) hM4 hM4).mono ?_
          rw [decide_eq_true (rfl : M4 = M4)]
          rintro r w6 ⟨rfl, k6⟩
          have B6 := Lib.hid (after B5.out k6)
          clear k6 R5 B5
          go_wp2_with fail
          refine (of_ok g vl3 M4 key w6 (Lib.hid (T4.out.log.next B6.out)) hM4).mono ?_
          rintro r w7 ⟨v7, rfl, o7, k7⟩
          have R7 := Lib.hid (Rd.own o7)
          have B7 := Lib.hid (after B6.out k7)
          clear o7 k7 B6
          go_wp2_with fail
          refine (rof_ok _ M4 bm key w7 (Lib.hid (IS.out.next B7.out)) hM4).mono ?_
          rintro r w8 ⟨v8, rfl, o8, k8⟩
          have R8 := Lib.hid (Rd.own o8)
          have Q8 := Lib.hid (R7.out.next k8)
          have B8 := Lib.hid (after B7.out k8)
          have lk : Hid ((ofKey key M4).length ≤ 1000) := Lib.hid (by have := ofKey_len key M4 M4.length; rw [List.take_length] at this; omega)
          clear o8 k8 R7 B7
          go_wp2_with fail
          refine (same_ok v7 v8 (ofKey key M4) (ofKey key M4) w8 Q8 R8 lk.out lk.out).mono ?_
          rw [decide_eq_true (rfl : ofKey key M4 = ofKey key M4)]
          rintro r w9 ⟨rfl, k9⟩
          have B9 := Lib.hid (after B8.out k9)
          clear k9 Q8 R8 B8 lk
          go_wp2_with fail
          refine (fine_ok g vl3 M4 w9 (Lib.hid (T4.out.log.next B9.out)) hM4 (Lib.hid T4.out.fits)).mono ?_
          rintro r w10 ⟨x, rfl, hx, k10⟩
          have HX := Lib.hid hx
          have B10 := Lib.hid (after B9.out k10)
          clear k10 hx B9
          go_wp2_with fail
          refine (rfine_ok _ M4 bm w10 (Lib.hid (IS.out.next B10.out)) hM4).mono ?_
          rintro r w11 ⟨y, rfl, hy, k11⟩
          obtain rfl : x = y := by
            have h1 := HX.out
            rw [Bool.eq_iff_iff, h1, hy]
          have B11 := Lib.hid (after B10.out k11)
          clear k11 hy HX B10
          have c1 := cell_keep (after T4.out.below B11.out) HC0.out
          have T11 := Lib.hid (T4.out.next B11.out)
          have I11 := Lib.hid (Rd.own T11.out.own)
          have R11 := Lib.hid (R.out.next T11.out.below)
          clear c0 T4 IM IS B11
          go_wp2_with fail
          have f0 := Later.cell c1
          obtain ⟨d, hd⟩ : ∃ d, decide (M4 = X) = d := ⟨_, rfl⟩
          have C1 := Lib.hid fun u : Later w11 => osame_ok _ _ M4 X u.w (Lib.hid (I11.out.next u.below)) (Lib.hid (R11.out.next u.below)) hM4 (by omega)
          have C2 := Lib.hid fun u : Later w11 => same_ok _ _ M4 X u.w (Lib.hid (I11.out.next u.below)) (Lib.hid (R11.out.next u.below)) hM4 (by omega)
          have C3 := Lib.hid fun u : Later w11 => osame_ok _ _ M4 M4 u.w (Lib.hid (I11.out.next u.below)) (Lib.hid (I11.out.next u.below)) hM4 hM4
          rw [hd] at C1 C2
          rw [decide_eq_true (rfl : M4 = M4)] at C3
          clear hd c1
          refine wp_region_later (by kernel_rfl) (by kernel_rfl) ?_
          repeat (go_big_quiet_step (first | (go_at_call 14; with_reducible exact Later.call _ (C1.out _)) | (go_at_call 8; with_reducible exact Later.call _ (C2.out _)) | (go_at_call 14; with_reducible exact Later.call _ (C3.out _))))
          refine wpQuiet_nil ?_
          rintro _ ⟨u, rfl⟩
          have T12 := Lib.hid (T11.out.next u.below)
          clear f0 C1 C2 C3 T11 I11 R11
          generalize u.w = w12 at *
          go_wp2_with fail
          exact ⟨⟨i + 1, M4, vl3, _, by omega, by go_num, rfl, LM.out, T12⟩, by simp [intOf]; omega⟩
    · obtain rfl : i = n := by omega
      have hM4 : M.length ≤ 1000 := by omega
      have IM := Lib.hid (Rd.own T.out.own)
      obtain ⟨bm, -, im⟩ := T.out.own.is
      have IS := Lib.hid im
      clear im
      go_wp2_with fail
      refine (sorted_ok _ M wr IM hM4).mono ?_
      rintro r w3 ⟨v3, b3, rfl, hb3, i3, k3⟩
      have B3 := Lib.hid k3
      have R3 : Hid (Rd w3 v3 (srt ah M)) := Lib.hid (.inl ⟨b3, i3⟩)
      clear i3 k3
      go_wp2_with fail
      refine (rsorted_ok _ M bm w3 (Lib.hid (IS.out.next B3.out)) hM4).mono ?_
      rintro r w4 ⟨v4, rfl, o4, k4⟩
      have R4 := Lib.hid (Rd.own o4)
      have Q4 := Lib.hid (R3.out.next k4)
      have B4 := Lib.hid (after T.out.below (after B3.out k4))
      clear o4 k4 R3 B3
      go_wp2_with fail
      refine (same_ok v3 v4 (srt ah M) (srt ah M) w4 Q4 R4 (by rw [srt_len]; exact hM4) (by rw [srt_len]; exact hM4)).mono ?_
      rw [decide_eq_true (rfl : srt ah M = srt ah M)]
      rintro r w5 ⟨rfl, k5⟩
      have B5 := Lib.hid (after B4.out k5)
      clear k5 Q4 R4 B4
      go_wp2
      go_ret
      exact ⟨rfl, B5.out⟩

theorem own : ownKnob Try.prog.godebug = none := by kernel_rfl

set_option maxRecDepth 100000 in
theorem lifted (os : Os) (started : os.Started) (H : Type) (enc : TypeId × Value → H) :
    ReturnsInHanded {} Try.checked os 3 .any (Rows.outlogPlaysSpec.pre6 enc Try.prog Try.f3 Rows.outlogPlaysRow.domain false) (Rows.outlogPlaysSpec.post enc Try.prog Try.f3 false true false false) := by
  refine returnsInHanded_of_change (C := Try.checked) own started (by kernel_rfl) Try.func3
    (ChangeSpec.witness6 (enc := enc) (C := Try.checked) false ⟨#[], #[.slice none 0 0, .string ⟨#[]⟩], []⟩ 8 (by kernel_rfl) (by kernel_rfl) (by kernel_rfl) (by kernel_rfl)) ?_
  intro W base args ds gs before hval0 hW hcnd _
  have hval : ∀ (j : Nat) t v, Try.f3.params[j]? = some t → args[j]? = some v → Value.okWide Try.prog W .any base t v := hval0
  have hW' := hW
  obtain ⟨p, q, hA0, hV, rfl, hfz, hnd⟩ := hW
  have hA : DataW.TrodAll enc Try.prog W 0 (fun _ => true) true Try.f3.params.toList args.toList ds p := hA0
  rw [Try.params3] at hA hval
  obtain ⟨v0, vs0, d0, ds0, p0, q0, hargs, rfl, rfl, h0, r0⟩ := trodAll_cons hA
  obtain ⟨v1, vs1, d1, ds1, p1, q1, rfl, rfl, rfl, h1, r1⟩ := trodAll_cons r0
  obtain ⟨rfl, rfl, rfl⟩ := trodAll_nil r1
  obtain rfl : args = #[v0, v1] := by cases args; simp_all
  obtain ⟨rfl, rfl⟩ := trodVars_none hV
  obtain ⟨a0, rfl, w0⟩ := Opens.open_lists (hval 0 22 v0 rfl rfl) h0
  obtain ⟨a1, rfl, w1⟩ := Opens.open_str (hval 1 9 v1 rfl rfl) h1
  clear hA0 hval0
  refine (walk a0 W w0 a1).mono fun e W' ⟨he, hg⟩ => ?_
  subst he
  exact ⟨_, rfl, Laid.post Laid.laidOut (by kernel_rfl) rfl (by kernel_rfl) Try.underlying4 hW' ⟨rfl, rfl, rfl⟩ hg⟩

theorem over : Rows.outlogPlaysRow.holds Try.pinned (OpenSpec.ofChange Rows.outlogPlaysSpec) :=
  OpenClaim.holds_of_wide 3 Try.f3 rfl rfl rfl rfl rfl rfl rfl ⟨rfl, rfl, rfl, rfl, rfl⟩ rfl rfl rfl rfl rfl (by kernel_rfl) Try.func3 (by kernel_rfl)
    (of_decide_eq_true (by kernel_rfl)) (by unfold Func.isWrapper; first | (rw [if_pos (by decide +kernel)]; kernel_rfl) | (rw [if_neg (by decide +kernel)]; exact ⟨rfl, rfl⟩))
    (fun os started H enc _ => lifted os started H enc)

/-- ████ THE STATEMENT ████ -/
theorem proved : Rows.OutlogPlaysSaid :=
  over
#print axioms proved
end Go.Proofs.Ytdmplcnnoabkaaa.outlogPlays
