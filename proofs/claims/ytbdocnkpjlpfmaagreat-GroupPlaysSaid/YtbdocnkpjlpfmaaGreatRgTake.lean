/-
  The document's Take (easelref06).
-/
import Derived.Test.YtbdocnkpjlpfmaaGreatRgPut
import Derived.Test.YtbdocnkpjlpfmaaGreatRefAsg
import Derived.Test.YtbdocnkpjlpfmaaGreatGrpMath
namespace Go.Proofs.YtbdocnkpjlpfmaaGreat
open Go.ChangeShapes Go.WideShapes Go.ChangeAt Go.RowKit
namespace Rg
open Small Foot Pane Grp
set_option linter.unusedVariables false

/-- the list once a value was put into a window -/
def putR (k : Int) (key : ByteArray) (s e v : Int) (R : List Pn) : List Pn := rest k key s e R ++ [made k key s e v R]
theorem putR_len (k : Int) (key : ByteArray) (s e v : Int) (R : List Pn) : (putR k key s e v R).length ≤ R.length + 1 := by
  have := List.length_filter_le (fun p => !hit k key s e p) R
  simp only [putR, List.length_append, List.length_singleton, rest]
  omega
/-- .. once i windows were looked at -/
def tk (k : Int) (key : ByteArray) (v z mark a d l : Int) (R : List Pn) : Nat → List Pn
  | 0 => R
  | i + 1 => if a + i * d + l + z ≤ mark then tk k key v z mark a d l R i else putR k key (a + i * d) (a + i * d + l) v (tk k key v z mark a d l R i)
theorem tk_len (k : Int) (key : ByteArray) (v z mark a d l : Int) (R : List Pn) (i : Nat) : (tk k key v z mark a d l R i).length ≤ R.length + i := by
  induction i with
  | zero => exact Nat.le_refl _
  | succ i ih =>
    simp only [tk]
    split
    · omega
    · have := putR_len k key (a + i * d) (a + i * d + l) v (tk k key v z mark a d l R i)
      omega
/-- windows stay, whatever is done to the group -/
theorem wins_stay {w w' : World} {gr gw nn b b' : Nat} {cf : C8} {v v' : Value} {L L' : List Pn} {a d l : Int} (h : Rg w gr cf v L b) (h' : Rg w' gr cf v' L' b') (k : w.grownBy w' (some gr)) (hw : Asg.Wins w gw nn a d l) : Asg.Wins w' gw nn a d l := by
  intro i hi
  by_cases e : gw = gr
  · subst e
    have four : i < 4 := by
      rcases Nat.lt_or_ge i 4 with q | q
      · exact q
      · have h8 := (hw 4 (by omega)).1
        rw [show 4 * 2 = 8 from rfl, h.lies.cell (i := 8) rfl] at h8
        obtain ⟨A, c, hv⟩ := h.list.len
        rw [hv] at h8
        cases h8
    obtain ⟨h0, h1⟩ := hw i hi
    match i, four with
    | 0, _ => exact ⟨by rw [← h0]; exact (h'.lies.cell (i := 0) rfl).trans (h.lies.cell (i := 0) rfl).symm, by rw [← h1]; exact (h'.lies.cell (i := 1) rfl).trans (h.lies.cell (i := 1) rfl).symm⟩
    | 1, _ => exact ⟨by rw [← h0]; exact (h'.lies.cell (i := 2) rfl).trans (h.lies.cell (i := 2) rfl).symm, by rw [← h1]; exact (h'.lies.cell (i := 3) rfl).trans (h.lies.cell (i := 3) rfl).symm⟩
    | 2, _ => exact ⟨by rw [← h0]; exact (h'.lies.cell (i := 4) rfl).trans (h.lies.cell (i := 4) rfl).symm, by rw [← h1]; exact (h'.lies.cell (i := 5) rfl).trans (h.lies.cell (i := 5) rfl).symm⟩
    | 3, _ => exact ⟨by rw [← h0]; exact (h'.lies.cell (i := 6) rfl).trans (h.lies.cell (i := 6) rfl).symm, by rw [← h1]; exact (h'.lies.cell (i := 7) rfl).trans (h.lies.cell (i := 7) rfl).symm⟩
  · obtain ⟨h0, h1⟩ := hw i hi
    have hl := World.block_lt_of_cell? _ _ h0
    have hb := k.block gw hl (fun q => e (Option.some.inj q))
    exact ⟨(cell_block (a := ⟨gw, i * 2, none⟩) hb).trans h0, (cell_block (a := ⟨gw, i * 2 + 1, none⟩) hb).trans h1⟩
/-- what is kept in the midst of it -/
structure RT (w : World) (gr : Nat) (cf : C8) (b0 : Nat) (sv : Value) (O R' : List Pn) (u : Value) (b : Nat) (wr : World) : Prop where
  rg : Rg wr gr cf u R' b
  grown : w.grownBy wr (some gr)
  out : Sl.Own Pn.k w.heap.size wr sv O
  fr : b = b0 ∨ w.heap.size ≤ b
section
variable {w wr w' : World} {gr b b0 : Nat} {cf : C8} {sv u : Value} {O R' : List Pn}
theorem RT.next (h : RT w gr cf b0 sv O R' u b wr) (k : Below wr.heap.size wr w') : RT w gr cf b0 sv O R' u b w' :=
  ⟨h.rg.next k, h.grown.andThen ⟨k.os, k.tape, k.output, k.size, fun i hi _ => k.block i hi⟩ (fun j hj => .inr hj), h.out.next k, h.fr⟩
theorem RT.put {R2 : List Pn} {u2 : Value} {b2 : Nat} (h : RT w gr cf b0 sv O R' u b wr) (hg : gr < w.heap.size) (hb2 : wr.heap.size ≤ b2) (r : Rg w' gr cf u2 R2 b2) (k : wr.grownBy w' (some gr)) : RT w gr cf b0 sv O R2 u2 b2 w' :=
  ⟨r, h.grown.andThen k (fun j hj => .inr hj), h.out.move fun a ha => k.block a (h.out.lt a ha).2 (fun e => by have := (h.out.lt a ha).1; have := Option.some.inj e; omega), .inr (by have := h.grown.size; omega)⟩
end
/-- what became of the windows, and the code -/
def RTaken (k : Int) (key : ByteArray) (v z mark : Int) : Option (Nat × Int × Int × Int) → List Pn → Int → List Pn → Prop
  | none, R1, code, R' => code = 4 ∧ R' = R1
  | some (nn, a, d, l), R1, code, R' => R' = tk k key v z mark a d l R1 nn ∧ code = if live a d l z mark nn = 0 then 1 else 0
def RTakeTo (w : World) (gr : Nat) (cf : C8) (R : List Pn) (b0 : Nat) (key : ByteArray) (v mark : Int) (x : Option (Nat × Int × Int × Int)) (r : Ending) (w' : World) : Prop :=
  ∃ sv O R1 R' u b code, r = .returned (.tuple #[.int .i64 code, sv]) ∧ ROuts cf.z mark R O R1 ∧ (∀ q, q ∈ R1 → ¬ q.e + cf.z ≤ mark) ∧ RTaken cf.k key v cf.z mark x R1 code R' ∧ RT w gr cf b0 sv O R' u b w' ∧ O.length + R1.length = R.length
def codeL (n : Nat) : Int := if n = 0 then 1 else 0

set_option maxRecDepth 100000 in
set_option maxHeartbeats 8000000 in
theorem take_ok (gr : Nat) (cf : C8) (lv : Value) (R : List Pn) (b : Nat) (key : ByteArray) (t v mark : Int) (x : Option (Nat × Int × Int × Int)) (w : World) (H : Hid (Rg w gr cf lv R b)) (hn : R.length ≤ 9000) (M : Hid (Asg.may cf.k cf.s cf.l cf.g cf.z cf.h cf.r cf.c)) (B : Hid (cf.s ≤ 9223372036854775807 ∧ cf.l ≤ 9223372036854775807 ∧ cf.g ≤ 9223372036854775807 ∧ cf.z ≤ 9223372036854775807))
    (ft : Hid ((Lit.int .i64 t).wf = true)) (fk : Hid ((Lit.int .i64 mark).wf = true)) (fe : Hid (∀ p ∈ R, (Lit.int .i64 p.e).wf = true)) (T : Hid (Asg.Told cf.k cf.s cf.l cf.g cf.z t x)) :
    Calls Tryz.prog 11 #[gp gr, .string key, .int .i64 t, .int .i64 v, .int .i64 mark] w (RTakeTo w gr cf R b key v mark x) := by
  have fz : Hid ((Lit.int .i64 cf.z).wf = true) := Lib.hid (wf_of (by have := M.out.2.1; omega) B.out.2.2.2)
  have hgr : gr < w.heap.size := H.out.lies.lt
  go_enter Tryz.func11, Tryz.ntmps11
  go_wp2_with fail
  refine (settle_ok gr cf lv R b mark w H (by omega) fz fk fe).mono ?_
  rintro r w1 ⟨sv, O, R1, lv1, b1, rfl, ho, hno, out1, rg1, gr1, hlen, fr1⟩
  have T1 : Hid (RT w gr cf b sv O R1 lv1 b1 w1) := Lib.hid ⟨rg1, gr1, out1, fr1⟩
  have OU := Lib.hid ho
  have NO := Lib.hid hno
  have c0 := rg1.lies.cell (i := 0) rfl
  have c1 := rg1.lies.cell (i := 1) rfl
  have c2 := rg1.lies.cell (i := 2) rfl
  have c3 := rg1.lies.cell (i := 3) rfl
  have c4 := rg1.lies.cell (i := 4) rfl
  have c5 := rg1.lies.cell (i := 5) rfl
  have c6 := rg1.lies.cell (i := 6) rfl
  have c7 := rg1.lies.cell (i := 7) rfl
  have hR1 : R1.length ≤ 9000 := by omega
  clear ho hno out1 rg1 gr1 fr1
  go_wp2_with fail
  refine (RefAsg.of_ok cf.k cf.s cf.l cf.g cf.z cf.h cf.r cf.c t x _ B.out.1 B.out.2.1 B.out.2.2.1 B.out.2.2.2 (fit ft.out).1 (fit ft.out).2 M.out T.out).mono ?_
  rintro r w2 ⟨u1, u2, rfl, hR, k2⟩
  have T2 := Lib.hid (T1.out.next k2)
  clear c0 c1 c2 c3 c4 c5 c6 c7 T1
  cases x with
  | none =>
    obtain ⟨rfl, rfl⟩ := hR
    clear k2
    go_wp2_with fail
    go_ret2
    exact ⟨_, _, _, _, _, _, _, rfl, OU.out, fun q hq => by have := NO.out q hq; omega, ⟨rfl, rfl⟩, T2.out, hlen⟩
  | some y =>
    obtain ⟨nn, a, d, l⟩ := y
    obtain ⟨gw, gc, rfl, rfl, hW⟩ := hR
    obtain ⟨n16, n0, l0, n2, FW⟩ := told_fits M.out (fit ft.out).1 B.out.1 B.out.2.2.1 T.out
    have FW := Lib.hid FW
    have WN := Lib.hid hW
    clear hW k2
    go_wp2_with fail
    go_loopw [15, 16] (fun sc si wr => ∃ (i : Nat) (u : Value) (b' : Nat), i ≤ nn ∧ sc = .int .i64 (codeL (live a d l cf.z mark i)) ∧ si = .int .i64 i ∧ Hid (RT w gr cf b sv O (tk cf.k key v cf.z mark a d l R1 i) u b' wr) ∧ Hid (Asg.Wins wr gw nn a d l)) (fun _ si _ => nn - (intOf si).toNat)
    case atStart => exact ⟨0, lv1, b1, Nat.zero_le _, rfl, rfl, T2, WN⟩
    case round =>
      obtain ⟨i, u, b', hi, rfl, rfl, Q, W⟩ := hrel
      by_cases hlt : i < nn
      · obtain ⟨x0, x1⟩ := W.out i hlt
        obtain ⟨b0, b1⟩ := FW.out i hlt
        have z0 := M.out.2.1
        have f0 := Later.cell x0
        have f1 := Later.cell x1
        have f4 := Later.cell (Q.out.rg.lies.cell (i := 4) rfl)
        have i0 : (i : Int) < (nn : Int) := by omega
        have hm := fit fk.out
        have hzf := fit fz.out
        have htl : (tk cf.k key v cf.z mark a d l R1 i).length ≤ 10000 := by
          have := tk_len cf.k key v cf.z mark a d l R1 i
          omega
        obtain ⟨ov, hov⟩ : ∃ ov, ov = decide (a + (i : Int) * d + l + cf.z ≤ mark) := ⟨_, rfl⟩
        have OV : Hid (∀ w, Calls Tryz.prog 22 #[win (a + i * d) (a + i * d + l), .int .i64 cf.z, .int .i64 mark] w fun r w' => r = .returned (.bool ov) ∧ Below w.heap.size w w') :=
          Lib.hid fun w => by rw [hov]; exact RefSpan.over_ok (a + i * d) (a + i * d + l) cf.z mark w (by omega) (by omega) hzf.1 hzf.2 hm.1 hm.2
        clear x0 x1 hm hzf
        go_upto_region 9 with fail
        refine wp_region_later (by kernel_rfl) (by kernel_rfl) ?_
        repeat (go_big_quiet_step (with_reducible exact Later.call _ (OV.out _)))
        refine wpQuiet_nil ?_
        rintro _ ⟨q, rfl⟩
        have Q2 := Lib.hid (Q.out.next q.below)
        have W2 := Lib.hid (W.out.next q.below)
        clear f0 f1 f4 Q W OV
        generalize q.w = w4 at *
        cases ov
        · have ho : ¬ a + (i : Int) * d + l + cf.z ≤ mark := of_decide_eq_false hov.symm
          clear hov
          obtain ⟨x0, x1⟩ := W2.out i hlt
          have e1 : Hid (tk cf.k key v cf.z mark a d l R1 (i + 1) = putR cf.k key (a + i * d) (a + i * d + l) v (tk cf.k key v cf.z mark a d l R1 i)) := Lib.hid (by simp only [tk]; rw [if_neg ho])
          have e2 : Hid (live a d l cf.z mark (i + 1) = live a d l cf.z mark i + 1) := Lib.hid (by simp only [live]; rw [if_neg ho])
          clear ho
          go_wp2_with fail
          refine (put_ok gr cf u _ b' key (a + i * d) (a + i * d + l) v _ (Lib.hid Q2.out.rg) htl).mono ?_
          rintro r w5 ⟨rfl, u5, b5, fb5, r5, g5⟩
          have Q5 : Hid (RT w gr cf b sv O (tk cf.k key v cf.z mark a d l R1 (i + 1)) u5 b5 w5) := Lib.hid (by rw [e1.out]; exact Q2.out.put hgr fb5 r5 g5)
          have W5 := Lib.hid (wins_stay Q2.out.rg r5 g5 W2.out)
          clear Q2 W2 fb5 r5 g5 x0 x1
          go_wp2_with fail
          go_roundw
          case rel => exact ⟨i + 1, u5, b5, by omega, by rw [e2.out]; rfl, by go_num, Q5, W5⟩
          case measure => simp [intOf]; omega
        · have ho : a + (i : Int) * d + l + cf.z ≤ mark := of_decide_eq_true hov.symm
          clear hov
          have e1 : Hid (tk cf.k key v cf.z mark a d l R1 (i + 1) = tk cf.k key v cf.z mark a d l R1 i) := Lib.hid (by simp only [tk]; rw [if_pos ho])
          have e2 : Hid (live a d l cf.z mark (i + 1) = live a d l cf.z mark i) := Lib.hid (by simp only [live]; rw [if_pos ho]; rfl)
          clear ho
          go_wp2_with fail
          go_roundw
          case rel => exact ⟨i + 1, u, b', by omega, by rw [e2.out], by go_num, Lib.hid (by rw [e1.out]; exact Q2.out), W2⟩
          case measure => simp [intOf]; omega
      · obtain rfl : i = nn := by omega
        go_wp2_with fail
        go_ret2
        exact ⟨_, _, _, _, _, _, _, rfl, OU.out, fun q hq => by have := NO.out q hq; omega, ⟨rfl, rfl⟩, Q.out, hlen⟩
end Rg
end Go.Proofs.YtbdocnkpjlpfmaaGreat
