/-
  PaneKeeps: for every list of starts, every gap and every value, with or without a merge, no value gets lost, and windows that were merged in don't meet: the statement answers true. No conditions.
-/
import Derived.Test.YtgjabagbbpiicaaPaneSum
import Derived.Test.YtgjabagbbpiicaaUp07
import Derived.Test.YtgjabagbbpiicaaLaid
import Derived.Test.YtgjabagbbpiicaaOpens
import Derived.Deep.DeepCutAuto
namespace Go.Proofs.Ytgjabagbbpiicaa.paneKeeps
open Go.ChangeShapes Go.WideShapes Go.ChangeAt Go.RowKit Small Pane
set_option linter.unusedVariables false

theorem at_ins {L : List Pn} {p : Pn} {k : Nat} (a : At L p.s p.e k) : At (L.take k ++ p :: L.drop k) p.s p.e k ∧ (L.take k ++ p :: L.drop k)[k]? = some p := by
  have hl : (L.take k).length = k := by rw [List.length_take]; have := a.le; omega
  refine ⟨⟨by have := a.le; simp; omega, fun i x q hx => ?_, fun i x q hx => ?_⟩, ?_⟩
  · rw [List.getElem?_append_left (by omega), List.getElem?_take_of_lt q] at hx
    exact a.lo i x q hx
  · rw [List.getElem?_append_right (by omega), hl] at hx
    cases hi : i - k with
    | zero =>
      rw [hi] at hx
      simp at hx
      subst hx
      simp only [Ah]; omega
    | succ j =>
      rw [hi] at hx
      simp at hx
      exact a.hi _ x (by omega) hx
  · rw [List.getElem?_append_right (by omega), hl]; simp
theorem at_set {L : List Pn} {p q : Pn} {s e : Int} {k : Nat} (a : At L s e k) (hp : L[k]? = some p) (he : Eq2 p s e) (hq : q.s = p.s ∧ q.e = p.e) : At (L.set k q) s e k := by
  refine ⟨by simpa using a.le, fun i x h hx => ?_, fun i x h hx => ?_⟩
  · rw [List.getElem?_set_ne (by omega)] at hx
    exact a.lo i x h hx
  · by_cases e1 : k = i
    · subst e1
      rw [List.getElem?_set_self (lt_of_at hp)] at hx
      obtain rfl := Option.some.inj hx
      simp only [Ah, Eq2] at he ⊢
      omega
    · rw [List.getElem?_set_ne e1] at hx
      exact a.hi i x h hx

/-- whatever is there: what Put comes to -/
theorem put_any (l : Value) (L : List Pn) (b n : Nat) (key : ByteArray) (s e v : Int) (w : World) (H : Hid (Sl.Is Pn.k w l L b)) (hn : n ≤ 1000) (G : Hid (Pane.Good L n v)) :
    Calls Try.prog 17 #[l, .string key, win s e, .int .i64 v] w fun r w' => ∃ v' M k p, r = .returned v' ∧ Sl.Own Pn.k w.heap.size w' v' M ∧ Below w.heap.size w w' ∧ Pane.Good M (n + 1) v ∧ At M s e k ∧ M[k]? = some p ∧ Eq2 p s e := by
  obtain ⟨k, a⟩ := At.ex G.out.rises s e
  have hl := G.out.len
  by_cases h : ∃ p ∈ L, Eq2 p s e
  · obtain ⟨p, hp, he⟩ := h
    have hk := At.found G.out.rises a hp he
    refine (put_yes l L b k key s e v p w H (by omega) (Lib.hid a) (Lib.hid hk) (Lib.hid he)).mono ?_
    rintro r w' ⟨v', rfl, o, kk⟩
    exact ⟨v', _, k, _, rfl, o, kk, good_put_yes G.out a hk he hn, at_set a hk he ⟨rfl, rfl⟩, List.getElem?_set_self (lt_of_at hk), he⟩
  · have hno : ∀ p ∈ L, ¬ Eq2 p s e := fun p hp he => h ⟨p, hp, he⟩
    refine (put_no l L b k key s e v w H (by omega) (Lib.hid a) (Lib.hid fun x hx => hno x (List.mem_of_getElem? hx))).mono ?_
    rintro r w' ⟨v', rfl, o, kk⟩
    obtain ⟨a1, a2⟩ := at_ins (p := one key s e v) a
    exact ⟨v', _, k, _, rfl, o, kk, good_put_no key G.out a hno, a1, a2, rfl, rfl⟩

/-- .. and Merge, of windows that don't meet -/
theorem merge_any (l : Value) (L : List Pn) (b n : Nat) (key : ByteArray) (s e v : Int) (w : World) (H : Hid (Sl.Is Pn.k w l L b)) (hn : n ≤ 900) (G : Hid (Pane.Good L n v)) (A : Hid (Apart L)) (hse : s < e) :
    Calls Try.prog 16 #[l, .string key, win s e, .int .i64 v] w fun r w' => ∃ v' vg M x y, r = .returned (.tuple #[v', vg, win x y]) ∧ Sl.Own Pn.k w.heap.size w' v' M ∧ Below w.heap.size w w' ∧ Pane.Good M (n + 1) v ∧ Apart M := by
  have hl := G.out.len
  obtain ⟨k, a⟩ := At.ex (L := restOf s e L) (G.out.rises.sub List.filter_sublist) (joined s e (one key s e v) L).s (joined s e (one key s e v) L).e
  obtain ⟨g1, g2⟩ := good_merge key G.out A.out hse hn _ rfl a
  refine (merge_ok l L b k key s e v _ w H (by omega) (Lib.hid rfl) (Lib.hid a) (Lib.hid fun hm y hy he => ?_)).mono ?_
  · have : y ∈ metOf s e L := List.mem_filter.2 ⟨List.mem_of_getElem? hy, by simp only [meets, Eq2] at he ⊢; simp; omega⟩
    rw [hm] at this
    cases this
  · rintro r w' ⟨v', vg, rfl, o, -, kk⟩
    exact ⟨v', vg, _, _, _, rfl, o, kk, g1, g2⟩

set_option maxRecDepth 100000 in
set_option maxHeartbeats 8000000 in
theorem walk_on (b off n cp : Nat) (zs : List Int) (gap v : Int) (A : Option Addr) (w : World) (n1 : n ≤ 60) (hz : Hid (zs.length = n)) (g0 : 1 ≤ gap) (g1 : gap ≤ 1000000) (hA : 0 < n → A = some ⟨b, off, none⟩)
    (hc : Hid (∀ j, j < n → w.cell? ⟨b, off + j, none⟩ = some (.int .i64 (zs.getD j 0)))) :
    Calls Try.prog 4 #[.slice A n cp, .int .i64 gap, .int .i64 v] w fun r w' => r = .returned (.bool true) ∧ Below w.heap.size w w' := by
  have q1 : decide (60 < (n : Int)) = false := by simp; omega
  have q2 : decide (gap < 1) = false := by simp; omega
  have q3 : decide (1000000 < gap) = false := by simp; omega
  go_enter Try.func4, Try.ntmps4
  go_wp2_with fail
  refine (head_ok _).mono ?_
  rintro r w1 ⟨rfl, k1⟩
  have K1 := Lib.hid k1
  clear k1
  go_wp2_with fail
  go_loopw [8, 9, 10] (fun sl sm si wr => ∃ (i : Nat) (L M : List Pn) (bl bm : Nat), i ≤ n ∧ si = .int .i64 i ∧ Hid (Pane.Good L i v) ∧ Hid (Apart L) ∧ Hid (Pane.Good M i v) ∧ Hid (Sl.Is Pn.k wr sl L bl) ∧ Hid (Sl.Is Pn.k wr sm M bm) ∧ Hid (Below w.heap.size w wr)) (fun _ _ si _ => n - (intOf si).toNat)
  case atStart => exact ⟨0, [], [], 0, 0, by omega, rfl, Lib.hid (Pane.Good.nil v), Lib.hid ⟨by simp, List.Pairwise.nil⟩, Lib.hid (Pane.Good.nil v), Lib.hid (Sl.Is.nil _ _ _), Lib.hid (Sl.Is.nil _ _ _), K1⟩
  case round =>
    obtain ⟨i, L, M, bl, bm, hi, rfl, GL, AL, GM, IL, IM, K⟩ := hrel
    by_cases hlt : i < n
    · obtain rfl := hA (by omega)
      have c0 := cell_keep K.out (hc.out i hlt)
      generalize zs.getD i 0 = z at *
      have i0 : (i : Int) < n := by omega
      by_cases hr : z < -1000000000
      · have d0 : decide (z < -1000000000) = true := by simpa using hr
        go_wp2
        go_ret
        exact ⟨rfl, K.out⟩
      · have d0 : decide (z < -1000000000) = false := by simpa using hr
        by_cases hr2 : 1000000000 < z
        · have d1 : decide (1000000000 < z) = true := by simpa using hr2
          go_wp2
          go_ret
          exact ⟨rfl, K.out⟩
        · have d1 : decide (1000000000 < z) = false := by simpa using hr2
          have w9 : IntKind.i64.wrap (z + gap) = z + gap := by rw [IntKind.wrap_i64]; omega
          have c0a := fun o => cell_keep (below1 wr o) c0
          go_wp2_with fail
          go_region
          have S2 : Lies (wr.alloc (Obj.cells #[.int .i64 z, .int .i64 (z + gap)] 26)).drew wr.heap.size 26 [.int .i64 z, .int .i64 (z + gap)] := Lies.new wr 26 [.int .i64 z, .int .i64 (z + gap)]
          have B2 : Below wr.heap.size wr (wr.alloc (Obj.cells #[.int .i64 z, .int .i64 (z + gap)] 26)).drew := (below1 _ _).drew
          generalize (wr.alloc (Obj.cells #[.int .i64 z, .int .i64 (z + gap)] 26)).drew = w2 at *
          have K2 := Lib.hid (after K.out B2)
          have IL2 := Lib.hid (IL.out.next B2)
          have IM2 := Lib.hid (IM.out.next B2)
          have s0 := S2.cell (i := 0) rfl
          have s1 := S2.cell (i := 1) rfl
          have S2 := Lib.hid S2
          clear B2 c0 c0a d0 d1
          go_wp2_with fail
          refine (merge_any _ L bl i ⟨#[107]⟩ z (z + gap) v _ IL2 (by omega) GL AL (by omega)).mono ?_
          rintro r w3 ⟨v3, vg, L3, mx, my, rfl, o3, k3, gl, al⟩
          obtain ⟨b3, -, i3⟩ := o3.is
          have IL3 := Lib.hid i3
          have IM3 := Lib.hid (IM2.out.next k3)
          have S3 := Lib.hid (S2.out.next k3)
          have K3 := Lib.hid (after K2.out k3)
          have GL3 := Lib.hid gl
          have AL3 := Lib.hid al
          clear o3 k3 gl al i3 s0 s1
          have s0 := S3.out.cell (i := 0) rfl
          have s1 := S3.out.cell (i := 1) rfl
          go_wp2_with fail
          refine (put_any _ M bm i ⟨#[107]⟩ z (z + gap) v _ IM3 (by omega) GM).mono ?_
          rintro r w4 ⟨v4, M4, k4, p4, rfl, o4, kk4, gm, a4, h4, e4⟩
          obtain ⟨b4, -, i4⟩ := o4.is
          have IM4 := Lib.hid i4
          have IL4 := Lib.hid (IL3.out.next kk4)
          have S4 := Lib.hid (S3.out.next kk4)
          have K4 := Lib.hid (after K3.out kk4)
          have GM4 := Lib.hid gm
          have A4 := Lib.hid a4
          have H4 := Lib.hid h4
          have E4 := Lib.hid e4
          have hlL : Hid (L3.length ≤ 1000) := Lib.hid (by have := GL3.out.len; omega)
          have hlM : Hid (M4.length ≤ 1000) := Lib.hid (by have := GM4.out.len; omega)
          have e1 : wrap64 (sumC L3) = (i : Int) + 1 := by rw [GL3.out.cnt, Pane.wrap_small (by omega) (by omega)]; omega
          have e2 : wrap64 (sumC M4) = (i : Int) + 1 := by rw [GM4.out.cnt, Pane.wrap_small (by omega) (by omega)]; omega
          have e3 : wrap64 (sumM L3) = wrap64 (((i : Int) + 1) * v) := by rw [GL3.out.sum]; congr 1
          have e5 : wrap64 (sumM M4) = wrap64 (((i : Int) + 1) * v) := by rw [GM4.out.sum]; congr 1
          have C3 := Lib.hid fun w H => sums_ok v3 L3 b3 w H hlL.out
          have C4 := Lib.hid fun w H => sums_ok v4 M4 b4 w H hlM.out
          rw [e1, e3] at C3
          rw [e2, e5] at C4
          clear o4 kk4 gm a4 h4 e4 i4 s0 s1 e1 e2 e3 e5
          go_wp2_with fail
          refine (C3.out _ IL4).mono ?_
          rintro r w5 ⟨rfl, k5⟩
          have IM5 := Lib.hid (IM4.out.next k5)
          have IL5 := Lib.hid (IL4.out.next k5)
          have S5 := Lib.hid (S4.out.next k5)
          have K5 := Lib.hid (after K4.out k5)
          clear k5
          go_wp2_with fail
          refine (C4.out _ IM5).mono ?_
          rintro r w6 ⟨rfl, k6⟩
          have IM6 := Lib.hid (IM5.out.next k6)
          have IL6 := Lib.hid (IL5.out.next k6)
          have S6 := Lib.hid (S5.out.next k6)
          have K6 := Lib.hid (after K5.out k6)
          clear k6
          obtain ⟨A3, c3, ev3⟩ := IL6.out.len
          subst ev3
          go_wp2_with fail
          go_loopw [16] (fun sk wx => ∃ (j : Nat), 1 ≤ j ∧ (j ≤ L3.length ∨ j = 1) ∧ sk = .int .i64 j ∧ Hid (Below w6.heap.size w6 wx)) (fun sk _ => L3.length - (intOf sk).toNat)
          case atStart => exact ⟨1, by omega, .inr rfl, rfl, Lib.hid (Below.refl _ _)⟩
          case round =>
            obtain ⟨j, hj, hj2, rfl, KX⟩ := hrel
            have hlb := hlL.out
            by_cases hjl : j < L3.length
            · obtain ⟨m, rfl⟩ : ∃ m, j = m + 1 := ⟨j - 1, by omega⟩
              obtain ⟨o3, cq, eq3, -, -, -, hcell⟩ := IL6.out.some_ Pn.ok (by omega)
              obtain ⟨rfl, rfl⟩ : A3 = some ⟨b3, o3, none⟩ ∧ c3 = cq := by simpa using eq3
              obtain ⟨x, hx⟩ := at_some (L := L3) (i := m) (by omega)
              obtain ⟨y, hy⟩ := at_some (L := L3) (i := m + 1) (by omega)
              have hap : x.e ≤ y.s := by
                obtain ⟨h1, rfl⟩ := List.getElem?_eq_some_iff.1 hx
                obtain ⟨h2, rfl⟩ := List.getElem?_eq_some_iff.1 hy
                exact List.pairwise_iff_getElem.1 AL3.out.apart m (m + 1) h1 h2 (by omega)
              obtain ⟨x0, x1, x2, -⟩ := Tmr.pane_cells hx hcell
              obtain ⟨y0, y1, y2, -⟩ := Tmr.pane_cells hy hcell
              have hd : decide (y.s < x.e) = false := by simpa using hap
              have j0 : ((m + 1 : Nat) : Int) < L3.length := by omega
              have j1 : (m : Int) < L3.length := by omega
              have j2 : (m : Int) + 1 < L3.length := by omega
              clear hcell eq3 hx hy hap
              go_wp2_with fail
              have f2 := Later.cell (cell_keep KX.out x2)
              have g1' := Later.cell (cell_keep KX.out y1)
              clear x0 x1 x2 y0 y1 y2
              refine wp_region_later (by kernel_rfl) (by kernel_rfl) ?_
              repeat (go_big_quiet_step (fail))
              refine wpQuiet_nil ?_
              rintro _ ⟨u, rfl⟩
              have KX2 := Lib.hid (after KX.out u.below)
              clear f2 g1'
              generalize u.w = w7 at *
              go_wp2_with fail
              exact ⟨⟨m + 1 + 1, by omega, .inl (by omega), by go_num, KX2⟩, by simp [intOf]; omega⟩
            · have IM7 := Lib.hid (IM6.out.next KX.out)
              have S7 := Lib.hid (S6.out.next KX.out)
              have K7 := Lib.hid (after K6.out KX.out)
              have s0 := S7.out.cell (i := 0) rfl
              have s1 := S7.out.cell (i := 1) rfl
              have jn : ¬ ((j : Int) < L3.length) := by omega
              obtain ⟨pk, ps, pe, pc, pm, pl, pu⟩ := p4
              obtain ⟨hps, hpe⟩ := E4.out
              simp only at hps hpe
              subst hps hpe
              have hnn : (((j : Int) < L3.length) : Prop) = False := by simpa using jn
              go_wp2_with fail
              refine (find_yes _ M4 b4 k4 ps (ps + gap) ⟨pk, ps, ps + gap, pc, pm, pl, pu⟩ _ IM7 hlM.out A4 H4 (Lib.hid ⟨rfl, rfl⟩)).mono ?_
              rintro r w8 ⟨rfl, k8⟩
              have S8 := S7.out.next k8
              have z0 := fun o => cell_keep (below1 w8 o) (S8.cell (i := 0) rfl)
              have z1 := fun o => cell_keep (below1 w8 o) (S8.cell (i := 1) rfl)
              have IM8 := Lib.hid ((IM7.out.next k8).next (below1 w8 (Obj.cells (Pn.cl ⟨pk, ps, ps + gap, pc, pm, pl, pu⟩).toArray 33)))
              have IL8 := Lib.hid ((((IL6.out.next KX.out)).next k8).next (below1 w8 (Obj.cells (Pn.cl ⟨pk, ps, ps + gap, pc, pm, pl, pu⟩).toArray 33)))
              have K8 := Lib.hid (after (after K7.out k8) (below1 w8 (Obj.cells (Pn.cl ⟨pk, ps, ps + gap, pc, pm, pl, pu⟩).toArray 33)))
              clear k8 S8 s0 s1
              go_wp2_with fail
              exact ⟨⟨i + 1, L3, M4, b3, b4, by omega, by go_num, GL3, AL3, GM4, IL8, IM8, K8⟩, by simp [intOf]; omega⟩
    · obtain rfl : i = n := by omega
      go_wp2
      go_ret
      exact ⟨rfl, K.out⟩

set_option maxRecDepth 100000 in
set_option maxHeartbeats 1000000 in
theorem walk_off (A : Option Addr) (n cp : Nat) (gap v : Int) (w : World) (hm : n ≤ maxLen) (h : 60 < n ∨ gap < 1 ∨ 1000000 < gap) :
    Calls Try.prog 4 #[.slice A n cp, .int .i64 gap, .int .i64 v] w fun r w' => r = .returned (.bool true) ∧ Below w.heap.size w w' := by
  unfold maxLen at hm
  by_cases q1 : 60 < n
  · have q1 : decide (60 < (n : Int)) = true := by simp; omega
    go_enter Try.func4, Try.ntmps4
    go_wp2_with fail
    refine (head_ok _).mono ?_
    rintro r w1 ⟨rfl, k1⟩
    have K1 := Lib.hid k1
    clear k1
    go_wp2
    go_ret
    exact ⟨rfl, K1.out⟩
  · by_cases q2 : gap < 1
    · have q1 : decide (60 < (n : Int)) = false := by simp; omega
      have q2 : decide (gap < 1) = true := by simpa using q2
      go_enter Try.func4, Try.ntmps4
      go_wp2_with fail
      refine (head_ok _).mono ?_
      rintro r w1 ⟨rfl, k1⟩
      have K1 := Lib.hid k1
      clear k1
      go_wp2
      go_ret
      exact ⟨rfl, K1.out⟩
    · have q3 : decide (1000000 < gap) = true := by simp; omega
      have q1 : decide (60 < (n : Int)) = false := by simp; omega
      have q2 : decide (gap < 1) = false := by simpa using q2
      go_enter Try.func4, Try.ntmps4
      go_wp2_with fail
      refine (head_ok _).mono ?_
      rintro r w1 ⟨rfl, k1⟩
      have K1 := Lib.hid k1
      clear k1
      go_wp2
      go_ret
      exact ⟨rfl, K1.out⟩

theorem walk (x : Option Addr × Nat × Nat × List Int) (w : World) (hx : Opens.IsInts w x) (gap : Int) (wg : (Lit.int .i64 gap).wf = true) (v : Int) (wv : (Lit.int .i64 v).wf = true) :
    Calls Try.prog 4 #[.slice x.1 x.2.1 x.2.2.1, .int .i64 gap, .int .i64 v] w fun r w' => r = .returned (.bool true) ∧ Below w.heap.size w w' := by
  obtain ⟨A, n, cp, zs⟩ := x
  obtain ⟨hm, hl, hw, hc⟩ := hx
  simp only at hm hl hw hc ⊢
  by_cases h : 60 < n ∨ gap < 1 ∨ 1000000 < gap
  · exact walk_off A n cp gap v w hm h
  · by_cases h0 : 0 < n
    · obtain ⟨b, off, rfl, hd⟩ := hc h0
      exact walk_on b off n cp zs gap v _ w (by omega) (Lib.hid hl) (by omega) (by omega) (fun _ => rfl) (Lib.hid hd)
    · exact walk_on 0 0 n cp zs gap v _ w (by omega) (Lib.hid hl) (by omega) (by omega) (fun q => absurd q h0) (Lib.hid fun j hj => absurd hj (by omega))

theorem own : ownKnob Try.prog.godebug = none := by kernel_rfl

set_option maxRecDepth 100000 in
theorem lifted (os : Os) (started : os.Started) (H : Type) (enc : TypeId × Value → H) :
    ReturnsInHanded {} Try.checked os 4 .any (Rows.paneKeepsSpec.pre6 enc Try.prog Try.f4 Rows.paneKeepsRow.domain false) (Rows.paneKeepsSpec.post enc Try.prog Try.f4 false true false false) := by
  refine returnsInHanded_of_change (C := Try.checked) own started (by kernel_rfl) Try.func4
    (ChangeSpec.witness6 (enc := enc) (C := Try.checked) false ⟨#[], #[.slice none 0 0, .int .i64 0, .int .i64 0], []⟩ 8 (by kernel_rfl) (by kernel_rfl) (by kernel_rfl) (by kernel_rfl)) ?_
  intro W base args ds gs before hval0 hW hcnd _
  have hval : ∀ (j : Nat) t v, Try.f4.params[j]? = some t → args[j]? = some v → Value.okWide Try.prog W .any base t v := hval0
  have hW' := hW
  obtain ⟨p, q, hA0, hV, rfl, hfz, hnd⟩ := hW
  have hA : DataW.TrodAll enc Try.prog W 0 (fun _ => true) true Try.f4.params.toList args.toList ds p := hA0
  rw [Try.params4] at hA hval
  obtain ⟨v0, vs0, d0, ds0, p0, q0, hargs, rfl, rfl, h0, r0⟩ := trodAll_cons hA
  obtain ⟨v1, vs1, d1, ds1, p1, q1, rfl, rfl, rfl, h1, r1⟩ := trodAll_cons r0
  obtain ⟨v2, vs2, d2, ds2, p2, q2, rfl, rfl, rfl, h2, r2⟩ := trodAll_cons r1
  obtain ⟨rfl, rfl, rfl⟩ := trodAll_nil r2
  obtain rfl : args = #[v0, v1, v2] := by cases args; simp_all
  obtain ⟨rfl, rfl⟩ := trodVars_none hV
  obtain ⟨a0, rfl, w0⟩ := Opens.open_ints (hval 0 50 v0 rfl rfl) h0
  obtain ⟨a1, rfl, rfl, rfl, w1⟩ := open_int Try.underlying2 (hval 1 2 v1 rfl rfl) h1
  obtain ⟨a2, rfl, rfl, rfl, w2⟩ := open_int Try.underlying2 (hval 2 2 v2 rfl rfl) h2
  clear hA0 hval0
  refine (walk a0 W w0 a1 w1 a2 w2).mono fun e W' ⟨he, hg⟩ => ?_
  subst he
  exact ⟨_, rfl, Laid.post Laid.laidOut (by kernel_rfl) rfl (by kernel_rfl) Try.underlying4 hW' ⟨rfl, rfl, rfl⟩ hg⟩

theorem over : Rows.paneKeepsRow.holds Try.pinned (OpenSpec.ofChange Rows.paneKeepsSpec) :=
  OpenClaim.holds_of_wide 4 Try.f4 rfl rfl rfl rfl rfl rfl rfl ⟨rfl, rfl, rfl, rfl, rfl⟩ rfl rfl rfl rfl rfl (by kernel_rfl) Try.func4 (by kernel_rfl)
    (of_decide_eq_true (by kernel_rfl)) (by unfold Func.isWrapper; first | (rw [if_pos (by decide +kernel)]; kernel_rfl) | (rw [if_neg (by decide +kernel)]; exact ⟨rfl, rfl⟩))
    (fun os started H enc _ => lifted os started H enc)

/-- ████ THE STATEMENT ████ -/
theorem proved : Rows.PaneKeepsSaid :=
  over
#print axioms proved
end Go.Proofs.Ytgjabagbbpiicaa.paneKeeps
