/-
  Contracts of easelref06.Fine and of a Log's Fine: whether of each key the windows' Ends never fall, and no window is there twice.
-/
import Derived.Test.YtdmplcnnoabkaaaOutLog
import Derived.Test.YtdmplcnnoabkaaaOutMaps
namespace Go.Proofs.Ytdmplcnnoabkaaa
open Go.ChangeShapes Go.WideShapes Go.ChangeAt Go.RowKit
namespace Out
open Small
set_option linter.unusedVariables false

theorem below_drewN (w : World) (n : Nat) : Below w.heap.size w (w.drewN n) := by
  induction n with
  | zero => exact Below.refl _ _
  | succ n ih => exact ih.drew
/-- what Fine asks of two panes, one ahead of the other -/
def FineTwo (p q : Pn) : Prop := p.key = q.key → p.e ≤ q.e ∧ ¬ (p.s = q.s ∧ p.e = q.e)
abbrev AllFine (L : List Pn) : Prop := L.Pairwise FineTwo
theorem fine_next {L : List Pn} {i : Nat} {q : Pn} (h : L[i]? = some q) (k : AllFine (L.take i)) (g : ∀ p ∈ L.take i, FineTwo p q) : AllFine (L.take (i + 1)) := by
  rw [List.take_add_one, h]
  exact List.pairwise_append.2 ⟨k, by simp, fun p hp r hr => by simp at hr; subst hr; exact g p hp⟩
theorem fine_no {L : List Pn} {i : Nat} {p q : Pn} (h : L[i]? = some q) (hp : p ∈ L.take i) (g : ¬ FineTwo p q) : ¬ AllFine L := by
  intro k
  have : AllFine (L.take (i + 1)) := List.Pairwise.sublist (List.take_sublist _ _) k
  rw [List.take_add_one, h] at this
  exact g ((List.pairwise_append.1 this).2.2 p hp q (by simp))
theorem fine_all {L : List Pn} (h : AllFine (L.take L.length)) : AllFine L := by rwa [List.take_length] at h

set_option maxRecDepth 100000 in
set_option maxHeartbeats 4000000 in
theorem rfine_ok (l : Value) (L : List Pn) (b : Nat) (w : World) (H : Hid (Sl.Is Pn.k w l L b)) (hn : L.length ≤ 1000) :
    Calls Try.prog 13 #[l] w fun r w' => ∃ x, r = .returned (.bool x) ∧ (x = true ↔ AllFine L) ∧ Below w.heap.size w w' := by
  obtain ⟨AD, cap, hl⟩ := H.out.len
  subst hl
  go_enter Try.func13, Try.ntmps13
  go_wp2_with fail
  go_loopw [3] (fun si wr => ∃ (i : Nat), i ≤ L.length ∧ si = .int .i64 i ∧ Hid (AllFine (L.take i)) ∧ Hid (Below w.heap.size w wr)) (fun si _ => L.length - (intOf si).toNat)
  case atStart => exact ⟨0, by omega, rfl, Lib.hid (by simp), Lib.hid (Below.refl _ _)⟩
  case round =>
    obtain ⟨i, hi, rfl, G, K⟩ := hrel
    by_cases hlt : i < L.length
    · obtain ⟨off, cap', he, h2, h3, h4, hcell⟩ := H.out.some_ Pn.ok (by omega)
      obtain ⟨rfl, rfl⟩ : AD = some ⟨b, off, none⟩ ∧ cap = cap' := by simpa using he
      obtain ⟨q, hq⟩ := at_some hlt
      obtain ⟨c0, c1, c2, c3, c4, c5, c6⟩ := pane_cells hq hcell
      have i0 : (i : Int) < L.length := by omega
      have HQ := Lib.hid hq
      have HC := Lib.hid hcell
      clear hcell he h2 h3 h4 hq c3 c4 c5 c6
      go_wp2_with fail
      go_loopw [4] (fun sk wr => ∃ (k : Nat), k ≤ i ∧ sk = .int .i64 k ∧ Hid (∀ p ∈ L.take k, FineTwo p q) ∧ Hid (Below w.heap.size w wr)) (fun sk _ => i - (intOf sk).toNat)
      case atStart => exact ⟨0, by omega, rfl, Lib.hid (by simp), K⟩
      case round =>
        obtain ⟨k, hk, rfl, G2, K2⟩ := hrel
        by_cases hlk : k < i
        · obtain ⟨p, hp⟩ := at_some (L := L) (i := k) (by omega)
          obtain ⟨d0, d1, d2, d3, d4, d5, d6⟩ := pane_cells hp HC.out
          have i1 : (k : Int) < i := by omega
          have i2 : (k : Int) < L.length := by omega
          have c0 := cell_keep K2.out c0
          have c1 := cell_keep K2.out c1
          have c2 := cell_keep K2.out c2
          have d0 := cell_keep K2.out d0
          have d1 := cell_keep K2.out d1
          have d2 := cell_keep K2.out d2
          have NX : Hid (FineTwo p q → ∀ p ∈ L.take (k + 1), FineTwo p q) := Lib.hid (fun h r hr => by
            rw [List.take_add_one, hp] at hr
            rcases List.mem_append.1 hr with hr | hr
            · exact G2.out r hr
            · simp at hr; subst hr; exact h)
          have NO : Hid (¬ FineTwo p q → ¬ AllFine L) := Lib.hid (fun h => fine_no HQ.out (List.mem_of_getElem? (i := k) (by rw [List.getElem?_take, if_pos hlk]; exact hp)) h)
          clear d3 d4 d5 d6 hp
          by_cases hkey : p.key = q.key
          · have hkk : (p.key.toList == q.key.toList) = true := by simp [hkey]
            by_cases hgt : q.e < p.e
            · have NO2 : Hid (¬ AllFine L) := Lib.hid (NO.out fun h => by have := (h hkey).1; omega)
              have hgd : decide (q.e < p.e) = true := decide_eq_true hgt
              clear hkey c1 d1 NX NO
              go_wp2_with fail
              go_quiet (fail)
              go_wp2
              go_ret
              exact ⟨_, rfl, by simp [NO2.out], K2.out.trans ((below_drewN _ _).mono K2.out.size)⟩
            · have hgd : decide (q.e < p.e) = false := decide_eq_false hgt
              by_cases hw : p.s = q.s ∧ p.e = q.e
              · have NO2 : Hid (¬ AllFine L) := Lib.hid (NO.out fun h => (h hkey).2 hw)
                have h1 : (p.s == q.s) = true := by simp [hw.1]
                have h2 : (p.e == q.e) = true := by simp [hw.2]
                have ne : ∀ w' : World, (binOp .eql 28 (.agg #[.int .i64 p.s, .int .i64 p.e]) (.agg #[.int .i64 q.s, .int .i64 q.e])).run Try.prog w' = .ok (.bool true) w' := fun w' => by simp [go_sem, h1, h2]
                clear hkey hw hgt h1 h2 NX NO
                go_wp2_with fail
                go_quiet (fail)
                go_wp2
                go_ret
                exact ⟨_, rfl, by simp [NO2.out], K2.out.trans ((below_drewN _ _).mono K2.out.size)⟩
              · have NX2 : Hid (∀ p ∈ L.take (k + 1), FineTwo p q) := Lib.hid (NX.out fun _ => ⟨by omega, hw⟩)
                have ne : ∀ w' : World, (binOp .eql 28 (.agg #[.int .i64 p.s, .int .i64 p.e]) (.agg #[.int .i64 q.s, .int .i64 q.e])).run Try.prog w' = .ok (.bool false) w' := fun w' => by
                  by_cases hs : p.s = q.s
                  · have h1 : (p.s == q.s) = true := by simpa using hs
                    have h2 : (p.e == q.e) = false := by simpa using fun e => hw ⟨hs, e⟩
                    simp [go_sem, h1, h2]
                  · have h1 : (p.s == q.s) = false := by simpa using hs
                    simp [go_sem, h1]
                clear hkey hw hgt NX NO
                go_wp2_with fail
                go_quiet (fail)
                go_wp2
                go_roundw
                case rel => exact ⟨k + 1, by omega, by go_num, NX2, Lib.hid (K2.out.trans ((below_drewN _ _).mono K2.out.size))⟩
                case measure => simp [intOf]; omega
          · have hkk : (p.key.toList == q.key.toList) = false := by
              rw [beq_eq_false_iff_ne]
              exact fun e => hkey (Pn.bytes_ext.1 e)
            have NX2 : Hid (∀ p ∈ L.take (k + 1), FineTwo p q) := Lib.hid (NX.out fun h => absurd h hkey)
            clear hkey c1 c2 d1 d2 NX NO
            go_wp2_with fail
            go_quiet (fail)
            go_wp2
            go_roundw
            case rel => exact ⟨k + 1, by omega, by go_num, NX2, Lib.hid (K2.out.trans ((below_drewN _ _).mono K2.out.size))⟩
            case measure => simp [intOf]; omega
        · obtain rfl : k = i := by omega
          go_wp2_with fail
          exact ⟨⟨k + 1, by omega, by go_num, Lib.hid (fine_next HQ.out G.out G2.out), K2⟩, by simp [intOf]; omega⟩
    · obtain rfl : i = L.length := by omega
      go_wp2
      go_ret
      exact ⟨_, rfl, by simp [fine_all G.out], K.out⟩

/-! ### a Log's own: by each key's last End, and the windows that are there -/
structure Seen (T : List Pn) (pl : ByteArray → Option Value) (pw : Tmr.Tm → Option Value) : Prop where
  some_ : ∀ key v, pl key = some v → ∃ e, v = .int .i64 e ∧ (∃ p ∈ T, p.key = key ∧ p.e = e) ∧ ∀ p ∈ T, p.key = key → p.e ≤ e
  none_ : ∀ key, pl key = none → ∀ p ∈ T, p.key ≠ key
  there : ∀ x v, pw x = some v → v = .agg #[] ∧ ∃ p ∈ T, p.tm = x
  not_ : ∀ x, pw x = none → ∀ p ∈ T, p.tm ≠ x
theorem Seen.start : Seen [] (fun _ => none) (fun _ => none) :=
  ⟨fun _ _ h => (by cases h), fun _ _ p hp => (by cases hp), fun _ _ h => (by cases h), fun _ _ p hp => (by cases hp)⟩
theorem Seen.next {L : List Pn} {i : Nat} {q : Pn} {pl : ByteArray → Option Value} {pw : Tmr.Tm → Option Value} (h : Seen (L.take i) pl pw) (hq : L[i]? = some q) (F : ∀ p ∈ L.take i, FineTwo p q) :
    Seen (L.take (i + 1)) (Km.updOf pl q.key (some (.int .i64 q.e))) (Wm.updOf pw q.tm (some (.agg #[]))) := by
  rw [List.take_add_one, hq]
  show Seen (L.take i ++ [q]) _ _
  refine ⟨fun key v hv => ?_, fun key hv p hp => ?_, fun x v hv => ?_, fun x hv p hp => ?_⟩
  · by_cases hk : key = q.key
    · subst hk
      rw [(Km.updOf_ok pl q.key _).1] at hv
      obtain rfl := Option.some.inj hv
      refine ⟨q.e, rfl, ⟨q, by simp, rfl, rfl⟩, fun p hp hk => ?_⟩
      rcases List.mem_append.1 hp with hp | hp
      · exact (F p hp hk).1
      · simp at hp; subst hp; exact Int.le_refl _
    · rw [(Km.updOf_ok pl q.key _).2 _ hk] at hv
      obtain ⟨e, h1, ⟨p, h2, h3⟩, h4⟩ := h.some_ key v hv
      refine ⟨e, h1, ⟨p, by simp [h2], h3⟩, fun p hp hk2 => ?_⟩
      rcases List.mem_append.1 hp with hp | hp
      · exact h4 p hp hk2
      · simp at hp; subst hp; exact absurd hk2.symm hk
  · by_cases hk : key = q.key
    · subst hk
      rw [(Km.updOf_ok pl q.key _).1] at hv
      cases hv
    · rw [(Km.updOf_ok pl q.key _).2 _ hk] at hv
      rcases List.mem_append.1 hp with hp | hp
      · exact h.none_ key hv p hp
      · simp at hp; subst hp; exact fun e => hk e.symm
  · by_cases hk : x = q.tm
    · subst hk
      rw [(Wm.updOf_ok pw q.tm _).1] at hv
      exact ⟨(Option.some.inj hv).symm, q, by simp, rfl⟩
    · rw [(Wm.updOf_ok pw q.tm _).2 _ hk] at hv
      obtain ⟨h1, p, h2, h3⟩ := h.there x v hv
      exact ⟨h1, p, by simp [h2], h3⟩
  · by_cases hk : x = q.tm
    · subst hk
      rw [(Wm.updOf_ok pw q.tm _).1] at hv
      cases hv
    · rw [(Wm.updOf_ok pw q.tm _).2 _ hk] at hv
      rcases List.mem_append.1 hp with hp | hp
      · exact h.not_ x hv p hp
      · simp at hp; subst hp; exact fun e => hk e.symm
theorem Seen.twice {L : List Pn} {i : Nat} {q : Pn} {pl : ByteArray → Option Value} {pw : Tmr.Tm → Option Value} (h : Seen (L.take i) pl pw) (hq : L[i]? = some q) {v : Value} (hv : pw q.tm = some v) : ¬ AllFine L := by
  obtain ⟨_, p, hp, he⟩ := h.there _ _ hv
  simp only [Pn.tm, Tmr.Tm.mk.injEq] at he
  exact fine_no hq hp fun f => (f he.1).2 ⟨he.2.1, he.2.2⟩
theorem Seen.falls {L : List Pn} {i : Nat} {q : Pn} {pl : ByteArray → Option Value} {pw : Tmr.Tm → Option Value} (h : Seen (L.take i) pl pw) (hq : L[i]? = some q) {e : Int} (hv : pl q.key = some (.int .i64 e)) (he : q.e < e) : ¬ AllFine L := by
  obtain ⟨e', h1, ⟨p, hp, h2, h3⟩, _⟩ := h.some_ _ _ hv
  obtain rfl : e = e' := by simpa using h1
  exact fine_no hq hp fun f => by have := (f h2).1; omega
theorem Seen.fine {L : List Pn} {i : Nat} {q : Pn} {pl : ByteArray → Option Value} {pw : Tmr.Tm → Option Value} (h : Seen (L.take i) pl pw) (hw : pw q.tm = none) (hv : pl q.key = none ∨ ∃ e, pl q.key = some (.int .i64 e) ∧ e ≤ q.e) : ∀ p ∈ L.take i, FineTwo p q := by
  intro p hp hk
  refine ⟨?_, fun hs => h.not_ _ hw p hp (by simp only [Pn.tm, Tmr.Tm.mk.injEq]; exact ⟨hk, hs.1, hs.2⟩)⟩
  rcases hv with hv | ⟨e, hv, he⟩
  · exact absurd hk (h.none_ _ hv p hp)
  · obtain ⟨e', h1, _, h4⟩ := h.some_ _ _ hv
    obtain rfl : e = e' := by simpa using h1
    have := h4 p hp hk
    omega
theorem cell_gb {w w' : World} {m : Nat} (h : w.grownBy w' (some m)) {a : Addr} {v : Value} (hv : w.cell? a = some v) (hm : a.block ≠ m) : w'.cell? a = some v := by
  have hl := World.block_lt_of_cell? _ _ hv
  exact (World.cell?_of_block (w := w) (h.block a.block hl fun e => hm (by simpa using e))).trans hv
/-- a pane such as there are -/
def Fits (p : Pn) : Prop := p.key.size ≤ maxLen ∧ (Lit.int .i64 p.s).wf = true ∧ (Lit.int .i64 p.e).wf = true

set_option maxRecDepth 100000 in
set_option maxHeartbeats 4000000 in
theorem fine_ok (g : Nat) (l : Value) (L : List Pn) (w : World) (HG : Hid (Lg w g l L)) (hn : L.length ≤ 1000) (HF : Hid (∀ p ∈ L, Fits p)) :
    Calls Try.prog 12 #[gp g] w fun r w' => ∃ x, r = .returned (.bool x) ∧ (x = true ↔ AllFine L) ∧ Below w.heap.size w w' := by
  have q0 := HG.out.lies.cell (i := 0) rfl
  obtain ⟨b, hb⟩ := HG.out.is
  have H := Lib.hid hb
  clear hb
  obtain ⟨AD, cap, hl⟩ := H.out.len
  subst hl
  have hm1 := fun w' : World => run_makeMap (P := Try.prog) 43 w'
  have hm2 := fun w' : World => run_makeMap (P := Try.prog) 44 w'
  have q1 := cell_keep (below2 w (Obj.map #[] 0) (Obj.map #[] 0)) q0
  go_enter Try.func12, Try.ntmps12
  go_wp2_with fail
  clear hm1 hm2 q1
  go_loopw [19] (fun si wr => ∃ (i : Nat) (pl : ByteArray → Option Value) (pw : Tmr.Tm → Option Value) (n1 n2 : Nat), i ≤ L.length ∧ si = .int .i64 i ∧ n1 ≤ i ∧ n2 ≤ i ∧ Hid (AllFine (L.take i)) ∧ Hid (Seen (L.take i) pl pw) ∧ Hid (Km.Mp wr w.heap.size pl n1) ∧ Hid (Wm.Mp wr (w.heap.size + 1) pw n2) ∧ Hid (Below w.heap.size w wr)) (fun si _ => L.length - (intOf si).toNat)
  case atStart => exact ⟨0, _, _, 0, 0, by omega, rfl, Nat.le_refl _, Nat.le_refl _, Lib.hid (by simp), Lib.hid Seen.start, Lib.hid ((Km.Mp.made w).kept ((below1 _ _).block _ (by simp))), Lib.hid (by have := Wm.Mp.made (w.alloc (Obj.map #[] 0)); simpa using this), Lib.hid (below2 _ _ _)⟩
  case round =>
    obtain ⟨i, pl, pw, n1, n2, hi, rfl, hn1, hn2, G, T, M1, M2, K⟩ := hrel
    by_cases hlt : i < L.length
    · obtain ⟨off, cap', he, h2, h3, h4, hcell⟩ := H.out.some_ Pn.ok (by omega)
      obtain ⟨rfl, rfl⟩ : AD = some ⟨b, off, none⟩ ∧ cap = cap' := by simpa using he
      obtain ⟨q, hq⟩ := at_some hlt
      obtain ⟨c0, c1, c2, c3, c4, c5, c6⟩ := pane_cells hq hcell
      have fq := HF.out q (List.mem_of_getElem? hq)
      have HQ := Lib.hid hq
      have FK : Hid (Km.Ft q.key) := fq.1
      have FW : Hid (Wm.Ft q.tm) := fq
      have c0 := cell_keep K.out c0
      have c1 := cell_keep K.out c1
      have c2 := cell_keep K.out c2
      have c3 := cell_keep K.out c3
      have c4 := cell_keep K.out c4
      have c5 := cell_keep K.out c5
      have c6 := cell_keep K.out c6
      have i0 : (i : Int) < L.length := by omega
      have lk1 : ∀ a b : Obj, (Instr.lookup 43 (.map (some w.heap.size)) (.string q.key) true).run Try.prog ((wr.alloc a).alloc b) = .ok (.tuple #[(pl q.key).getD (.int .i64 0), .bool (pl q.key).isSome]) ((wr.alloc a).alloc b) := fun a b => Km.Mp.look (M1.out.kept ((below2 wr a b).block _ M1.out.lt)) FK.out
      have lk2 : ∀ a b : Obj, (Instr.lookup 44 (.map (some (w.heap.size + 1))) (.agg #[.string q.key, .int .i64 q.s, .int .i64 q.e]) true).run Try.prog ((wr.alloc a).alloc b) = .ok (.tuple #[(pw q.tm).getD (.agg #[]), .bool (pw q.tm).isSome]) ((wr.alloc a).alloc b) := fun a b => Wm.Mp.look (M2.out.kept ((below2 wr a b).block _ M2.out.lt)) FW.out
      clear hcell he h2 h3 h4 hq fq q0
      cases hw : pw q.tm with
      | some u =>
        have NO : Hid (¬ AllFine L) := Lib.hid (T.out.twice HQ.out hw)
        obtain ⟨rfl, _⟩ := T.out.there _ _ hw
        rw [hw] at lk2
        have lk2 : ∀ a b : Obj, (Instr.lookup 44 (.map (some (w.heap.size + 1))) (.agg #[.string q.key, .int .i64 q.s, .int .i64 q.e]) true).run Try.prog ((wr.alloc a).alloc b) = .ok (.tuple #[.agg #[], .bool true]) ((wr.alloc a).alloc b) := lk2
        clear hw
        go_wp2_with fail
        go_ret
        exact ⟨_, rfl, by simp [NO.out], after K.out (below3 _ _ _ _)⟩
      | none =>
        rw [hw] at lk2
        have lk2 : ∀ a b : Obj, (Instr.lookup 44 (.map (some (w.heap.size + 1))) (.agg #[.string q.key, .int .i64 q.s, .int .i64 q.e]) true).run Try.prog ((wr.alloc a).alloc b) = .ok (.tuple #[.agg #[], .bool false]) ((wr.alloc a).alloc b) := lk2
        cases hp : pl q.key with
        | none =>
          have FN := Lib.hid (T.out.fine hw (.inl hp))
          rw [hp] at lk1
          have lk1 : ∀ a b : Obj, (Instr.lookup 43 (.map (some w.heap.size)) (.string q.key) true).run Try.prog ((wr.alloc a).alloc b) = .ok (.tuple #[.int .i64 0, .bool false]) ((wr.alloc a).alloc b) := lk1
          clear hw hp
          go_wp2_with (first
            | (refine Km.wpList_store rfl _ _ _ rfl q.key (.int .i64 q.e) rfl rfl rfl (by exact M1.out.kept ((below3 wr _ _ _).block _ M1.out.lt)) FK.out (by omega) ?_
               intro w4 x1 x2
               have X1 := Lib.hid x1
               have X2 := Lib.hid x2
               have e0 : w4.cell? ⟨wr.heap.size + 1, 0, none⟩ = some (.string q.key) := cell_gb X2.out (by go_simp) (by have := M1.out.lt; simp; omega)
               have e1 : w4.cell? ⟨wr.heap.size + 1, 1, none⟩ = some (.int .i64 q.s) := cell_gb X2.out (by go_simp) (by have := M1.out.lt; simp; omega)
               have e2 : w4.cell? ⟨wr.heap.size + 1, 2, none⟩ = some (.int .i64 q.e) := cell_gb X2.out (by go_simp) (by have := M1.out.lt; simp; omega)
               have K4 : Hid (Below w.heap.size w w4) := Lib.hid ((after K.out (below3 wr _ _ _)).grown X2.out (by have := K.out.size; simp; omega) (fun k hk => by simp at hk; omega))
               have N2 : Hid (Wm.Mp w4 (w.heap.size + 1) pw n2) := Lib.hid (M2.out.kept ((X2.out.block _ (by have := M2.out.lt; simp; omega) (by simp)).trans ((below3 wr _ _ _).block _ M2.out.lt)))
               clear x1 x2)
            | (refine Wm.wpList_store rfl _ _ _ rfl q.tm (.agg #[]) rfl rfl rfl (by exact N2.out) FW.out (by omega) ?_
               intro w5 y1 y2
               have Y1 := Lib.hid y1
               have K5 : Hid (Below w.heap.size w w5) := Lib.hid (K4.out.grown y2 K4.out.size (fun k hk => by simp at hk; omega))
               have Z1 := Lib.hid (X1.out.kept (y2.block _ X1.out.lt (by simp)))
               clear y1 y2 e0 e1 e2))
          exact ⟨⟨i + 1, _, _, _, _, by omega, by go_num, by split <;> omega, by split <;> omega, Lib.hid (fine_next HQ.out G.out FN.out), Lib.hid (T.out.next HQ.out FN.out), Z1, Y1, K5⟩, by simp [intOf]; omega⟩
        | some v =>
          obtain ⟨e, rfl, _⟩ := T.out.some_ _ _ hp
          rw [hp] at lk1
          have lk1 : ∀ a b : Obj, (Instr.lookup 43 (.map (some w.heap.size)) (.string q.key) true).run Try.prog ((wr.alloc a).alloc b) = .ok (.tuple #[.int .i64 e, .bool true]) ((wr.alloc a).alloc b) := lk1
          by_cases hqe : q.e < e
          · have NO : Hid (¬ AllFine L) := Lib.hid (T.out.falls HQ.out hp hqe)
            clear hw hp
            go_wp2_with fail
            go_ret
            exact ⟨_, rfl, by simp [NO.out], after K.out (below3 _ _ _ _)⟩
          · have FN := Lib.hid (T.out.fine hw (.inr ⟨e, hp, by omega⟩))
            clear hw hp
            go_wp2_with (first
              | (refine Km.wpList_store rfl _ _ _ rfl q.key (.int .i64 q.e) rfl rfl rfl (by exact M1.out.kept ((below3 wr _ _ _).block _ M1.out.lt)) FK.out (by omega) ?_
                 intro w4 x1 x2
                 have X1 := Lib.hid x1
                 have X2 := Lib.hid x2
                 have e0 : w4.cell? ⟨wr.heap.size + 1, 0, none⟩ = some (.string q.key) := cell_gb X2.out (by go_simp) (by have := M1.out.lt; simp; omega)
                 have e1 : w4.cell? ⟨wr.heap.size + 1, 1, none⟩ = some (.int .i64 q.s) := cell_gb X2.out (by go_simp) (by have := M1.out.lt; simp; omega)
                 have e2 : w4.cell? ⟨wr.heap.size + 1, 2, none⟩ = some (.int .i64 q.e) := cell_gb X2.out (by go_simp) (by have := M1.out.lt; simp; omega)
                 have K4 : Hid (Below w.heap.size w w4) := Lib.hid ((after K.out (below3 wr _ _ _)).grown X2.out (by have := K.out.size; simp; omega) (fun k hk => by simp at hk; omega))
                 have N2 : Hid (Wm.Mp w4 (w.heap.size + 1) pw n2) := Lib.hid (M2.out.kept ((X2.out.block _ (by have := M2.out.lt; simp; omega) (by simp)).trans ((below3 wr _ _ _).block _ M2.out.lt)))
                 clear x1 x2)
              | (refine Wm.wpList_store rfl _ _ _ rfl q.tm (.agg #[]) rfl rfl rfl (by exact N2.out) FW.out (by omega) ?_
                 intro w5 y1 y2
                 have Y1 := Lib.hid y1
                 have K5 : Hid (Below w.heap.size w w5) := Lib.hid (K4.out.grown y2 K4.out.size (fun k hk => by simp at hk; omega))
                 have Z1 := Lib.hid (X1.out.kept (y2.block _ X1.out.lt (by simp)))
                 clear y1 y2 e0 e1 e2))
            exact ⟨⟨i + 1, _, _, _, _, by omega, by go_num, by split <;> omega, by split <;> omega, Lib.hid (fine_next HQ.out G.out FN.out), Lib.hid (T.out.next HQ.out FN.out), Z1, Y1, K5⟩, by simp [intOf]; omega⟩
    · obtain rfl : i = L.length := by omega
      go_wp2
      go_ret
      exact ⟨_, rfl, by simp [fine_all G.out], K.out⟩
end Out
end Go.Proofs.Ytdmplcnnoabkaaa
