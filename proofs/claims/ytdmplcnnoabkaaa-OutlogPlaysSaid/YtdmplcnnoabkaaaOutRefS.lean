/-
  Contract of easelref06.Sorted: the list, sorted by keys, Ends and Starts, alike ones as they stand.
-/
import Derived.Test.YtdmplcnnoabkaaaOutList
namespace Go.Proofs.Ytdmplcnnoabkaaa
open Go.ChangeShapes Go.WideShapes Go.ChangeAt Go.RowKit
namespace Out
open Small Srt
set_option linter.unusedVariables false

theorem is_take {w : World} {b off cap : Nat} {L : List Pn} (h : Sl.Is Pn.k w (.slice (some ⟨b, off, none⟩) L.length cap) L b) {m : Nat} (hm : m ≤ L.length) : Sl.Is Pn.k w (.slice (some ⟨b, off, none⟩) m cap) (L.take m) b := by
  rcases h with ⟨q, _⟩ | ⟨off', cap', q, h2, h3, h4, h5⟩
  · simp at q
  · obtain ⟨rfl, rfl⟩ : off = off' ∧ cap = cap' := by simpa using q
    refine .inr ⟨off, cap, by rw [List.length_take, Nat.min_eq_left hm], by rw [List.length_take]; omega, h3, h4, fun j u hj => h5 j u ?_⟩
    rw [Sl.flat_take Pn.ok, List.getElem?_take] at hj
    split at hj
    · exact hj
    · cases hj
theorem is_drop {w : World} {b off cap : Nat} {L : List Pn} (h : Sl.Is Pn.k w (.slice (some ⟨b, off, none⟩) L.length cap) L b) {m : Nat} (hm : m ≤ L.length) : Sl.Is Pn.k w (.slice (some ⟨b, if cap = m then off else off + m * 7, none⟩) (L.length - m) (cap - m)) (L.drop m) b := by
  rcases h with ⟨q, _⟩ | ⟨off', cap', q, h2, h3, h4, h5⟩
  · simp at q
  · obtain ⟨rfl, rfl⟩ : off = off' ∧ cap = cap' := by simpa using q
    refine .inr ⟨_, cap - m, by rw [List.length_drop], by rw [List.length_drop]; omega, by omega, h4, fun j u hj => ?_⟩
    rw [Sl.flat_drop Pn.ok, List.getElem?_drop] at hj
    split
    · have hl : m * Pn.k.k + j < (Sl.flat Pn.k L).length := (List.getElem?_eq_some_iff.1 hj).1
      rw [Sl.flat_len Pn.ok] at hl
      have : L.length * Pn.k.k ≤ m * Pn.k.k := Nat.mul_le_mul_right _ (by omega)
      omega
    · rw [Nat.add_assoc]; exact h5 _ u hj
theorem own_base2 {base base' : Nat} {w : World} {v : Value} {L : List Pn} (h : Sl.Own Pn.k base w v L) (hb : base' ≤ base) : Sl.Own Pn.k base' w v L := by
  refine ⟨h.1, ?_⟩
  rcases h.2 with q | ⟨g, cap, cur, h1, h2, h3⟩
  · exact .inl q
  · exact .inr ⟨g, cap, cur, h1, by omega, h3⟩
/-- a pane's seven cells lie at b, o -/
abbrev Seven (w : World) (b o : Nat) (x : Pn) : Prop :=
  w.cell? ⟨b, o, none⟩ = some (.string x.key) ∧ w.cell? ⟨b, o + 1, none⟩ = some (.int .i64 x.s) ∧ w.cell? ⟨b, o + 2, none⟩ = some (.int .i64 x.e) ∧ w.cell? ⟨b, o + 3, none⟩ = some (.int .i64 x.c) ∧
      w.cell? ⟨b, o + 4, none⟩ = some (.int .i64 x.m) ∧ w.cell? ⟨b, o + 5, none⟩ = some (.int .i64 x.l) ∧ w.cell? ⟨b, o + 6, none⟩ = some (.int .i64 x.u)
theorem keep7 {w w' : World} {b o : Nat} {x : Pn} (h : Seven w b o x) (k : Below w.heap.size w w') : Seven w' b o x :=
  ⟨cell_keep k h.1, cell_keep k h.2.1, cell_keep k h.2.2.1, cell_keep k h.2.2.2.1, cell_keep k h.2.2.2.2.1, cell_keep k h.2.2.2.2.2.1, cell_keep k h.2.2.2.2.2.2⟩
theorem ah_yes {y x : Pn} (h : ah y x = true) : (Op.bytesLess y.key.toList x.key.toList = true) ∨ (Op.bytesLess y.key.toList x.key.toList = false ∧ (y.key.toList == x.key.toList) = true ∧ y.e < x.e) ∨ (Op.bytesLess y.key.toList x.key.toList = false ∧ (y.key.toList == x.key.toList) = true ∧ ¬ y.e < x.e ∧ (y.e == x.e) = true ∧ y.s < x.s) := by
  cases hb : Op.bytesLess y.key.toList x.key.toList with
  | true => exact .inl rfl
  | false =>
    rcases (ah_iff y x).1 h with h | ⟨h1, h2⟩
    · rw [hb] at h; cases h
    · rcases h2 with h2 | ⟨h2, h3⟩
      · exact .inr (.inl ⟨rfl, by simp [h1], h2⟩)
      · exact .inr (.inr ⟨rfl, by simp [h1], by omega, by simp [h2], h3⟩)
theorem ah_not {y x : Pn} (h : ah y x = false) : (Op.bytesLess y.key.toList x.key.toList = false ∧ (y.key.toList == x.key.toList) = false) ∨ (Op.bytesLess y.key.toList x.key.toList = false ∧ (y.key.toList == x.key.toList) = true ∧ ¬ y.e < x.e ∧ (y.e == x.e) = false) ∨ (Op.bytesLess y.key.toList x.key.toList = false ∧ (y.key.toList == x.key.toList) = true ∧ ¬ y.e < x.e ∧ (y.e == x.e) = true ∧ ¬ y.s < x.s) := by
  have h := (ah_no y x).1 h
  have hb : Op.bytesLess y.key.toList x.key.toList = false := by
    cases e : Op.bytesLess y.key.toList x.key.toList with
    | true => exact absurd (.inl e) h
    | false => rfl
  by_cases hk : y.key = x.key
  · have hk2 : (y.key.toList == x.key.toList) = true := by simp [hk]
    by_cases he : y.e = x.e
    · exact .inr (.inr ⟨hb, hk2, by omega, by simp [he], fun q => h (.inr ⟨hk, .inr ⟨he, q⟩⟩)⟩)
    · exact .inr (.inl ⟨hb, hk2, fun q => h (.inr ⟨hk, .inl q⟩), by simpa using he⟩)
  · exact .inl ⟨hb, by rw [beq_eq_false_iff_ne]; exact fun e => hk (Pn.bytes_ext.1 e)⟩
theorem srt_next {L : List Pn} {i : Nat} {y : Pn} (h : L[i]? = some y) (S : List Pn) (hS : S = srt ah (L.take i)) (t : Nat) (ht : t ≤ S.length) (h1 : ∀ p ∈ S.drop t, ah y p = true) (h2 : 0 < t → ∀ x, S[t - 1]? = some x → ah y x = false) :
    srt ah (L.take (i + 1)) = S.take t ++ y :: S.drop t := by
  have e : srt ah (L.take (i + 1)) = mrg ah S [y] := by
    rw [List.take_add_one, h, hS]
    have := srt_append swo (L.take i) [y]
    rw [srt_one] at this
    exact this
  rw [e]
  have asc : Asc ah S := by rw [hS]; exact srt_asc swo _
  have := mrg_in (lt := ah) (S.take t) (S.drop t) y (fun p hp => ?_) h1
  · rwa [List.take_append_drop] at this
  · by_cases h0 : t = 0
    · subst h0; simp at hp
    · obtain ⟨x, hx⟩ := at_some (L := S) (i := t - 1) (by omega)
      have hy := h2 (by omega) x hx
      have ht' : S.take t = S.take (t - 1) ++ [x] := by
        have := List.take_add_one (l := S) (i := t - 1)
        rw [show t - 1 + 1 = t by omega, hx] at this
        exact this
      rw [ht'] at hp
      rcases List.mem_append.1 hp with hp | hp
      · have : Asc ah (S.take t) := List.Pairwise.sublist (List.take_sublist _ _) asc
        rw [ht'] at this
        exact swo.ntrans _ _ _ hy ((List.pairwise_append.1 this).2.2 p hp x (by simp))
      · simp at hp; subst hp; exact hy

set_option maxRecDepth 100000 in
set_option maxHeartbeats 16000000 in
theorem rsorted_ok (l : Value) (L : List Pn) (b : Nat) (w : World) (H : Hid (Sl.Is Pn.k w l L b)) (hn : L.length ≤ 1000) :
    Calls Try.prog 16 #[l] w fun r w' => ∃ v', r = .returned v' ∧ Sl.Own Pn.k w.heap.size w' v' (srt ah L) ∧ Below w.heap.size w w' := by
  obtain ⟨AD, cap, hl⟩ := H.out.len
  subst hl
  go_enter Try.func16, Try.ntmps16
  go_wp2_with fail
  go_loopw [3, 4] (fun sv si wr => ∃ (i : Nat), i ≤ L.length ∧ si = .int .i64 i ∧ Hid (Sl.Own Pn.k w.heap.size wr sv (srt ah (L.take i))) ∧ Hid (Below w.heap.size w wr)) (fun _ si _ => L.length - (intOf si).toNat)
  case atStart => exact ⟨0, by omega, rfl, Lib.hid (Sl.Own.nil _ _ _), Lib.hid (Below.refl _ _)⟩
  case round =>
    obtain ⟨i, hi, rfl, O, K⟩ := hrel
    by_cases hlt : i < L.length
    · obtain ⟨off, cap', he, h2, h3, h4, hcell⟩ := H.out.some_ Pn.ok (by omega)
      obtain ⟨rfl, rfl⟩ : AD = some ⟨b, off, none⟩ ∧ cap = cap' := by simpa using he
      obtain ⟨y, hy⟩ := at_some hlt
      have CY : Hid (Seven w b (off + i * 7) y) := Lib.hid (pane_cells hy hcell)
      have HP := Lib.hid hy
      have i0 : (i : Int) < L.length := by omega
      clear hcell he h2 h3 h4 hy
      obtain ⟨S, hS⟩ : ∃ S, S = srt ah (L.take i) := ⟨_, rfl⟩
      have HS := Lib.hid hS
      have lS : Hid (S.length = i) := Lib.hid (by rw [hS, srt_len, List.length_take]; omega)
      rw [← hS] at O
      clear hS
      obtain ⟨b2, -, hI⟩ := O.out.is
      obtain ⟨AD2, cap2, hv⟩ := hI.len
      rw [hv] at hI
      have I0 := Lib.hid hI
      have HV := Lib.hid hv
      subst hv
      clear hI
      obtain ⟨wq, hwq⟩ : ∃ w0 : World, w0 = wr := ⟨_, rfl⟩
      rw [← hwq] at I0 K
      have HQ : Hid (Below wq.heap.size wq wr) := Lib.hid (by rw [hwq]; exact Below.refl _ _)
      clear hwq O HV
      go_wp2_with fail
      go_loopw [5] (fun s5 wr => ∃ (t : Nat), t ≤ S.length ∧ s5 = .int .i64 t ∧ Hid (∀ p ∈ S.drop t, ah y p = true) ∧ Hid (Below wq.heap.size wq wr)) (fun s5 _ => (intOf s5).toNat)
      case atStart => exact ⟨S.length, Nat.le_refl _, rfl, Lib.hid (by simp), HQ⟩
      case round =>
        clear HQ
        obtain ⟨t, ht, rfl, A, K2⟩ := hrel
        have I : Hid (Sl.Is Pn.k wr (.slice AD2 S.length cap2) S b2) := Lib.hid (I0.out.next K2.out)
        have KB : Hid (Below w.heap.size w wr) := Lib.hid (after K.out K2.out)
        have C7 : Hid (Seven wr b (off + i * 7) y) := Lib.hid (keep7 CY.out KB.out)
        by_cases h0 : t = 0
        · obtain rfl := h0
          have NS := Lib.hid (srt_next HP.out S HS.out 0 ht A.out (fun h => by omega))
          have hcl : Hid (S.length ≤ cap2 ∧ cap2 ≤ 9223372036854775807) := Lib.hid (by
            rcases I.out with ⟨q1, q2⟩ | ⟨off, cap', q1, q2, q3, _⟩
            · simp at q1; exact ⟨by rw [q2]; simp, by obtain ⟨_, _, h⟩ := q1; omega⟩
            · simp at q1; unfold maxLen at q3; omega)
          have hc0 := hcl.out.1
          have hc1 := hcl.out.2
          have BW : Hid (Below wr.heap.size wr wr) := Lib.hid (Below.refl _ _)
          rcases I.out with ⟨q1, q2⟩ | ⟨off2, cap', q1, -⟩
          · obtain ⟨rfl, -, rfl⟩ : AD2 = none ∧ S.length = 0 ∧ cap2 = 0 := by simpa using q1
            have TI : Hid (Sl.Is Pn.k wr (.slice none 0 0) (([] : List Pn).take 0) b2) := Lib.hid (.inl ⟨rfl, rfl⟩)
            have DI : Hid (Sl.Is Pn.k wr (.slice none 0 0) (([] : List Pn).drop 0) b2) := Lib.hid (.inl ⟨rfl, rfl⟩)
            have hlt2 : Hid ((([] : List Pn).take 0).length = 0 ∧ 0 ≤ 1000 ∧ 0 ≤ 1000) := Lib.hid (by simp)
            clear q1
            subst q2
            simp only [List.length_nil] at hc0 hc1 ⊢
            go_wp2_with (first
              | (at_builtin
                 refine wpList_plain rfl fun K' hK' => Sl.wp_append_empty (K := Pn.k) Pn.ok (.tmp 72) (.tmp 75) rfl (base := wr.heap.size) (l2 := ([] : List Pn).take 0) (b2 := b2) rfl (heap_alloc_new _ _) (by first | exact Nat.le_refl _ | omega) (by exact TI.out.next (after BW.out (below1 _ _))) (by have := hlt2.out; omega) (by simp <;> omega) (fun u w2 x1 x2 => hK' _ _ ?_)
                 have O2 := Lib.hid x1
                 have K2 := Lib.hid (after BW.out (after (below1 _ _) x2))
                 have s2 := Lib.hid K2.out.size
                 clear x1 x2
                 obtain ⟨z0, z1, z2, z3, z4, z5, z6⟩ := keep7 C7.out K2.out)
              | (at_builtin
                 refine wpList_plain rfl fun K' hK' => Sl.wp_append (K := Pn.k) Pn.ok (.tmp 77) (.tmp 82) rfl (base := wr.heap.size) (l := ([] : List Pn).take 0) (l2 := [y]) (by exact O2.out.next (below1 _ _)) (by exact Sl.Is.one Pn.ok (x := y) (Lies.new _ _ _)) (by have := hlt2.out; simp only [List.length_singleton]; omega) (by have := s2.out; simp; omega) (fun v' w3 x1 x2 x3 => hK' _ _ ?_)
                 have O3 := Lib.hid x1
                 have K3 : Hid (Below wr.heap.size wr w3) := Lib.hid ((after K2.out (below1 _ _)).grown x2 (by have := s2.out; simp; omega) (fun a ha => (O2.out.lt a ha).1))
                 have D3 := Lib.hid (DI.out.next K3.out)
                 have s3 := Lib.hid K3.out.size
                 clear x1 x2 x3 z0 z1 z2 z3 z4 z5 z6)
              | (at_builtin
                 refine wpList_plain rfl fun K' hK' => Sl.wp_append (K := Pn.k) Pn.ok (.tmp 84) (.tmp 87) rfl (base := wr.heap.size) (l := ([] : List Pn).take 0 ++ [y]) (l2 := ([] : List Pn).drop 0) (b2 := b2) (by exact O3.out) (by exact D3.out) (by have := hlt2.out; simp only [List.length_append, List.length_singleton, List.length_drop, List.length_nil]; omega) (by exact s3.out) (fun v' w4 x1 x2 x3 => hK' _ _ ?_)
                 have O4 := Lib.hid x1
                 have K4 : Hid (Below wr.heap.size wr w4) := Lib.hid (K3.out.grown x2 s3.out (fun a ha => (O3.out.lt a ha).1))
                 clear x1 x2 x3))
            exact ⟨⟨i + 1, by omega, by go_num, Lib.hid (own_base2 (by rw [NS.out]; have := O4.out; rw [List.append_assoc] at this; exact this) KB.out.size), Lib.hid (after KB.out K4.out)⟩, by simp [intOf]; omega⟩
          · obtain ⟨rfl, rfl⟩ : AD2 = some ⟨b2, off2, none⟩ ∧ cap2 = cap' := by simpa using q1
            by_cases hck : cap2 = 0
            · subst hck
              have hS0 : S = [] := List.length_eq_zero_iff.1 (by omega)
              have TI := Lib.hid (is_take I.out (Nat.zero_le _))
              have DI := Lib.hid (is_drop I.out (Nat.zero_le _))
              rw [if_pos rfl] at DI
              subst hS0
              have hlt2 : Hid ((([] : List Pn).take 0).length = 0 ∧ 0 ≤ 1000 ∧ 0 ≤ 1000) := Lib.hid (by simp)
              clear q1
              simp only [List.length_nil] at hc0 hc1 ⊢
              go_wp2_with (first
                | (at_builtin
                   refine wpList_plain rfl fun K' hK' => Sl.wp_append_empty (K := Pn.k) Pn.ok (.tmp 72) (.tmp 75) rfl (base := wr.heap.size) (l2 := ([] : List Pn).take 0) (b2 := b2) rfl (heap_alloc_new _ _) (by first | exact Nat.le_refl _ | omega) (by exact TI.out.next (after BW.out (below1 _ _))) (by have := hlt2.out; omega) (by simp <;> omega) (fun u w2 x1 x2 => hK' _ _ ?_)
                   have O2 := Lib.hid x1
                   have K2 := Lib.hid (after BW.out (after (below1 _ _) x2))
                   have s2 := Lib.hid K2.out.size
                   clear x1 x2
                   obtain ⟨z0, z1, z2, z3, z4, z5, z6⟩ := keep7 C7.out K2.out)
                | (at_builtin
                   refine wpList_plain rfl fun K' hK' => Sl.wp_append (K := Pn.k) Pn.ok (.tmp 77) (.tmp 82) rfl (base := wr.heap.size) (l := ([] : List Pn).take 0) (l2 := [y]) (by exact O2.out.next (below1 _ _)) (by exact Sl.Is.one Pn.ok (x := y) (Lies.new _ _ _)) (by have := hlt2.out; simp only [List.length_singleton]; omega) (by have := s2.out; simp; omega) (fun v' w3 x1 x2 x3 => hK' _ _ ?_)
                   have O3 := Lib.hid x1
                   have K3 : Hid (Below wr.heap.size wr w3) := Lib.hid ((after K2.out (below1 _ _)).grown x2 (by have := s2.out; simp; omega) (fun a ha => (O2.out.lt a ha).1))
                   have D3 := Lib.hid (DI.out.next K3.out)
                   have s3 := Lib.hid K3.out.size
                   clear x1 x2 x3 z0 z1 z2 z3 z4 z5 z6)
                | (at_builtin
                   refine wpList_plain rfl fun K' hK' => Sl.wp_append (K := Pn.k) Pn.ok (.tmp 84) (.tmp 87) rfl (base := wr.heap.size) (l := ([] : List Pn).take 0 ++ [y]) (l2 := ([] : List Pn).drop 0) (b2 := b2) (by exact O3.out) (by exact D3.out) (by have := hlt2.out; simp only [List.length_append, List.length_singleton, List.length_drop, List.length_nil]; omega) (by exact s3.out) (fun v' w4 x1 x2 x3 => hK' _ _ ?_)
                   have O4 := Lib.hid x1
                   have K4 : Hid (Below wr.heap.size wr w4) := Lib.hid (K3.out.grown x2 s3.out (fun a ha => (O3.out.lt a ha).1))
                   clear x1 x2 x3))
              exact ⟨⟨i + 1, by omega, by go_num, Lib.hid (own_base2 (by rw [NS.out]; have := O4.out; rw [List.append_assoc] at this; exact this) KB.out.size), Lib.hid (after KB.out K4.out)⟩, by simp [intOf]; omega⟩
            · have TI := Lib.hid (is_take I.out (Nat.zero_le _))
              have DI := Lib.hid (is_drop I.out (Nat.zero_le _))
              rw [if_neg hck] at DI
              have hlt2 : Hid ((S.take 0).length = 0 ∧ 0 ≤ 1000 ∧ S.length ≤ 1000) := Lib.hid (by rw [List.length_take]; have := lS.out; omega)
              clear q1 hck
              go_wp2_with (first
                | (at_builtin
                   refine wpList_plain rfl fun K' hK' => Sl.wp_append_empty (K := Pn.k) Pn.ok (.tmp 72) (.tmp 75) rfl (base := wr.heap.size) (l2 := S.take 0) (b2 := b2) rfl (heap_alloc_new _ _) (by first | exact Nat.le_refl _ | omega) (by exact TI.out.next (after BW.out (below1 _ _))) (by have := hlt2.out; omega) (by simp <;> omega) (fun u w2 x1 x2 => hK' _ _ ?_)
                   have O2 := Lib.hid x1
                   have K2 := Lib.hid (after BW.out (after (below1 _ _) x2))
                   have s2 := Lib.hid K2.out.size
                   clear x1 x2
                   obtain ⟨z0, z1, z2, z3, z4, z5, z6⟩ := keep7 C7.out K2.out)
                | (at_builtin
                   refine wpList_plain rfl fun K' hK' => Sl.wp_append (K := Pn.k) Pn.ok (.tmp 77) (.tmp 82) rfl (base := wr.heap.size) (l := S.take 0) (l2 := [y]) (by exact O2.out.next (below1 _ _)) (by exact Sl.Is.one Pn.ok (x := y) (Lies.new _ _ _)) (by have := hlt2.out; simp only [List.length_singleton]; omega) (by have := s2.out; simp; omega) (fun v' w3 x1 x2 x3 => hK' _ _ ?_)
                   have O3 := Lib.hid x1
                   have K3 : Hid (Below wr.heap.size wr w3) := Lib.hid ((after K2.out (below1 _ _)).grown x2 (by have := s2.out; simp; omega) (fun a ha => (O2.out.lt a ha).1))
                   have D3 := Lib.hid (DI.out.next K3.out)
                   have s3 := Lib.hid K3.out.size
                   clear x1 x2 x3 z0 z1 z2 z3 z4 z5 z6)
                | (at_builtin
                   refine wpList_plain rfl fun K' hK' => Sl.wp_append (K := Pn.k) Pn.ok (.tmp 84) (.tmp 87) rfl (base := wr.heap.size) (l := S.take 0 ++ [y]) (l2 := S.drop 0) (b2 := b2) (by exact O3.out) (by exact D3.out) (by have := hlt2.out; simp only [List.length_append, List.length_singleton, List.length_drop]; omega) (by exact s3.out) (fun v' w4 x1 x2 x3 => hK' _ _ ?_)
                   have O4 := Lib.hid x1
                   have K4 : Hid (Below wr.heap.size wr w4) := Lib.hid (K3.out.grown x2 s3.out (fun a ha => (O3.out.lt a ha).1))
                   clear x1 x2 x3))
              exact ⟨⟨i + 1, by omega, by go_num, Lib.hid (own_base2 (by rw [NS.out]; have := O4.out; rw [List.append_assoc] at this; exact this) KB.out.size), Lib.hid (after KB.out K4.out)⟩, by simp [intOf]; omega⟩
        · obtain ⟨s, rfl⟩ : ∃ s, t = s + 1 := ⟨t - 1, by omega⟩
          have h0z : (0 : Int) < (s : Int) + 1 := by omega
          obtain ⟨x, hx⟩ := at_some (L := S) (i := s) (by omega)
          obtain ⟨off2, cap3, he2, _, _, _, hcell2⟩ := I.out.some_ Pn.ok (by omega)
          obtain ⟨rfl, rfl⟩ : AD2 = some ⟨b2, off2, none⟩ ∧ cap2 = cap3 := by simpa using he2
          obtain ⟨d0, d1, d2, d3, d4, d5, d6⟩ := pane_cells hx hcell2
          have E7 := keep7 C7.out (below1 wr (Obj.cells #[.string x.key, .int .i64 x.s, .int .i64 x.e, .int .i64 x.c, .int .i64 x.m, .int .i64 x.l, .int .i64 x.u] 32))
          obtain ⟨c0, c1, c2, c3, c4, c5, c6⟩ := E7
          have hbn : ¬ b = wr.heap.size := by have := World.block_lt_of_cell? _ _ C7.out.1; simp at this; omega
          have s0 : (s : Int) < S.length := by omega
          have sb : s < 1000 := by have := lS.out; omega
          have w1 : IntKind.i64.wrap ((s : Int) + 1 - 1) = (s : Int) := by rw [IntKind.wrap_i64]; omega
          have w2 : (s : Int) + 1 - 1 = (s : Int) := by omega
          have w3 : IntKind.i64.wrap (s : Int) = (s : Int) := by rw [IntKind.wrap_i64]; omega
          have sp : (0 : Int) ≤ (s : Int) := by omega
          clear hcell2 he2
          cases hA : ah y x with
          | true =>
            have A2 : Hid (∀ p ∈ S.drop s, ah y p = true) := Lib.hid (by
              intro p hp
              have e : S.drop s = x :: S.drop (s + 1) := by
                obtain ⟨q1, q2⟩ := List.getElem?_eq_some_iff.1 hx
                rw [← q2]
                exact List.drop_eq_getElem_cons q1
              rw [e] at hp
              rcases List.mem_cons.1 hp with rfl | hp
              · exact hA
              · exact A.out p hp)
            rcases ah_yes hA with f1 | ⟨f1, f2, f3⟩ | ⟨f1, f2, f3, f4, f5⟩
            all_goals
              clear hA hx
              go_wp2_with fail
              exact ⟨⟨s, by omega, by go_num, A2, Lib.hid (after K2.out (below2 _ _ _))⟩, by simp [intOf] <;> omega⟩
          | false =>
            have NS := Lib.hid (srt_next HP.out S HS.out (s + 1) ht A.out (fun _ x' hx' => by rw [Nat.add_sub_cancel, hx] at hx'; obtain rfl := Option.some.inj hx'; exact hA))
            rcases ah_not hA with ⟨f1, f2⟩ | ⟨f1, f2, f3, f4⟩ | ⟨f1, f2, f3, f4, f5⟩
            all_goals
              clear hA hx
              have hcl : Hid (S.length ≤ cap2 ∧ cap2 ≤ 9223372036854775807) := Lib.hid (by
                rcases I.out with ⟨q1, q2⟩ | ⟨off, cap', q1, q2, q3, _⟩
                · simp at q1
                · simp at q1; unfold maxLen at q3; omega)
              have hc0 := hcl.out.1
              have hc1 := hcl.out.2
              have BW : Hid (Below wr.heap.size wr ((wr.alloc (Obj.cells x.cl.toArray 32)).alloc (Obj.cells y.cl.toArray 32))) := Lib.hid (below2 _ _ _)
              have TI := Lib.hid (is_take I.out ht)
              have hlt2 : Hid ((S.take (s + 1)).length = s + 1 ∧ s + 1 ≤ 1000 ∧ S.length ≤ 1000) := Lib.hid (by rw [List.length_take]; have := lS.out; omega)
              by_cases hck : cap2 = s + 1
              · have DI := Lib.hid (is_drop I.out ht)
                rw [if_pos hck] at DI
                subst hck
                have hSl : S.length = s + 1 := by omega
                rw [hSl, Nat.sub_self] at DI
                simp only [hSl]
                rw [hSl] at s0 hc0
                clear hSl I I0
                go_wp2_with (first
                  | (at_builtin
                     refine wpList_plain rfl fun K' hK' => Sl.wp_append_empty (K := Pn.k) Pn.ok (.tmp 72) (.tmp 75) rfl (base := wr.heap.size) (l2 := S.take (s + 1)) (b2 := b2) rfl (by have := heap_alloc_new ((wr.alloc (Obj.cells x.cl.toArray 32)).alloc (Obj.cells y.cl.toArray 32)) (Obj.cells #[] 32); simpa using this) (by first | exact Nat.le_refl _ | omega) (by exact TI.out.next (after BW.out (below1 _ _))) (by have := hlt2.out; omega) (by simp <;> omega) (fun u w2 x1 x2 => hK' _ _ ?_)
                     have O2 := Lib.hid x1
                     have K2 := Lib.hid (after BW.out (after (below1 _ _) x2))
                     have s2 := Lib.hid K2.out.size
                     clear x1 x2
                     obtain ⟨z0, z1, z2, z3, z4, z5, z6⟩ := keep7 C7.out K2.out)
                  | (at_builtin
                     refine wpList_plain rfl fun K' hK' => Sl.wp_append (K := Pn.k) Pn.ok (.tmp 77) (.tmp 82) rfl (base := wr.heap.size) (l := S.take (s + 1)) (l2 := [y]) (by exact O2.out.next (below1 _ _)) (by exact Sl.Is.one Pn.ok (x := y) (Lies.new _ _ _)) (by have := hlt2.out; simp only [List.length_singleton]; omega) (by have := s2.out; simp; omega) (fun v' w3 x1 x2 x3 => hK' _ _ ?_)
                     have O3 := Lib.hid x1
                     have K3 : Hid (Below wr.heap.size wr w3) := Lib.hid ((after K2.out (below1 _ _)).grown x2 (by have := s2.out; simp; omega) (fun a ha => (O2.out.lt a ha).1))
                     have D3 := Lib.hid (DI.out.next K3.out)
                     have s3 := Lib.hid K3.out.size
                     clear x1 x2 x3 z0 z1 z2 z3 z4 z5 z6)
                  | (at_builtin
                     refine wpList_plain rfl fun K' hK' => Sl.wp_append (K := Pn.k) Pn.ok (.tmp 84) (.tmp 87) rfl (base := wr.heap.size) (l := S.take (s + 1) ++ [y]) (l2 := S.drop (s + 1)) (b2 := b2) (by exact O3.out) (by exact D3.out) (by have := hlt2.out; simp only [List.length_append, List.length_singleton, List.length_drop]; omega) (by exact s3.out) (fun v' w4 x1 x2 x3 => hK' _ _ ?_)
                     have O4 := Lib.hid x1
                     have K4 : Hid (Below wr.heap.size wr w4) := Lib.hid (K3.out.grown x2 s3.out (fun a ha => (O3.out.lt a ha).1))
                     clear x1 x2 x3))
                exact ⟨⟨i + 1, by omega, by go_num, Lib.hid (own_base2 (by rw [NS.out]; have := O4.out; rw [List.append_assoc] at this; exact this) KB.out.size), Lib.hid (after KB.out K4.out)⟩, by simp [intOf]; omega⟩
              · have DI := Lib.hid (is_drop I.out ht)
                rw [if_neg hck] at DI
                go_wp2_with (first
                  | (at_builtin
                     refine wpList_plain rfl fun K' hK' => Sl.wp_append_empty (K := Pn.k) Pn.ok (.tmp 72) (.tmp 75) rfl (base := wr.heap.size) (l2 := S.take (s + 1)) (b2 := b2) rfl (by have := heap_alloc_new ((wr.alloc (Obj.cells x.cl.toArray 32)).alloc (Obj.cells y.cl.toArray 32)) (Obj.cells #[] 32); simpa using this) (by first | exact Nat.le_refl _ | omega) (by exact TI.out.next (after BW.out (below1 _ _))) (by have := hlt2.out; omega) (by simp <;> omega) (fun u w2 x1 x2 => hK' _ _ ?_)
                     have O2 := Lib.hid x1
                     have K2 := Lib.hid (after BW.out (after (below1 _ _) x2))
                     have s2 := Lib.hid K2.out.size
                     clear x1 x2
                     obtain ⟨z0, z1, z2, z3, z4, z5, z6⟩ := keep7 C7.out K2.out)
                  | (at_builtin
                     refine wpList_plain rfl fun K' hK' => Sl.wp_append (K := Pn.k) Pn.ok (.tmp 77) (.tmp 82) rfl (base := wr.heap.size) (l := S.take (s + 1)) (l2 := [y]) (by exact O2.out.next (below1 _ _)) (by exact Sl.Is.one Pn.ok (x := y) (Lies.new _ _ _)) (by have := hlt2.out; simp only [List.length_singleton]; omega) (by have := s2.out; simp; omega) (fun v' w3 x1 x2 x3 => hK' _ _ ?_)
                     have O3 := Lib.hid x1
                     have K3 : Hid (Below wr.heap.size wr w3) := Lib.hid ((after K2.out (below1 _ _)).grown x2 (by have := s2.out; simp; omega) (fun a ha => (O2.out.lt a ha).1))
                     have D3 := Lib.hid (DI.out.next K3.out)
                     have s3 := Lib.hid K3.out.size
                     clear x1 x2 x3 z0 z1 z2 z3 z4 z5 z6)
                  | (at_builtin
                     refine wpList_plain rfl fun K' hK' => Sl.wp_append (K := Pn.k) Pn.ok (.tmp 84) (.tmp 87) rfl (base := wr.heap.size) (l := S.take (s + 1) ++ [y]) (l2 := S.drop (s + 1)) (b2 := b2) (by exact O3.out) (by exact D3.out) (by have := hlt2.out; simp only [List.length_append, List.length_singleton, List.length_drop]; omega) (by exact s3.out) (fun v' w4 x1 x2 x3 => hK' _ _ ?_)
                     have O4 := Lib.hid x1
                     have K4 : Hid (Below wr.heap.size wr w4) := Lib.hid (K3.out.grown x2 s3.out (fun a ha => (O3.out.lt a ha).1))
                     clear x1 x2 x3))
                exact ⟨⟨i + 1, by omega, by go_num, Lib.hid (own_base2 (by rw [NS.out]; have := O4.out; rw [List.append_assoc] at this; exact this) KB.out.size), Lib.hid (after KB.out K4.out)⟩, by simp [intOf]; omega⟩
    · obtain rfl : i = L.length := by omega
      go_wp2
      go_ret
      exact ⟨_, rfl, by have := O.out; rwa [List.take_length] at this, K.out⟩
end Out
end Go.Proofs.Ytdmplcnnoabkaaa
