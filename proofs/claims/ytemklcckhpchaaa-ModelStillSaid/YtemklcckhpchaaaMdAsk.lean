/-
  model's Keyed: a keyed call on a group, settled at a watermark; what goes out.
-/
import Derived.Test.YtemklcckhpchaaaMd
namespace Go.Proofs.Ytemklcckhpchaaa
open Go.ChangeShapes Go.WideShapes Go.ChangeAt Go.RowKit
set_option maxRecDepth 100000
namespace Md
open Small Foot Pane Grp Ca
set_option linter.unusedVariables false

/-- a record is put -/
abbrev puts (op : Int) : Prop := op = 1 ∨ op = 2
/-- what a keyed call comes to: a code, panes, what goes out, how many windows had the record, all panes behind it -/
def MAsked (cf : C8) (S : Lists) (mark : Int) (x : Cl) (z : Option (Nat × Int × Int × Int)) (code : Int) (P O : List Pn) (c : Nat) (S' : Lists) : Prop :=
  (puts x.op ∧ P = [] ∧ ∃ S1, Outs cf.z mark S O S1 ∧ NoneOver cf.z mark S1 ∧ Taken cf.k x.key x.v cf.z mark z S1 code c S') ∨
  (¬ puts x.op ∧ code = 0 ∧ c = 0 ∧ Outs cf.z mark S O S' ∧ NoneOver cf.z mark S' ∧ P = if x.op = 4 then only x.t x.e (S' x.key) else S' x.key)
def Asked (w : World) (g : Nat) (F : Nat → Prop) (cf : C8) (S : Lists) (N n : Nat) (x : Cl) (mark : Int) (z : Option (Nat × Int × Int × Int)) (r : Ending) (w' : World) : Prop :=
  ∃ rv ov code P O c S' n' F', r = .returned (.tuple #[rep code rv, ov]) ∧ MAsked cf S mark x z code P O c S' ∧ n' ≤ n + c ∧ P.length ≤ 9000 ∧ Gr.Is w' g F' cf S' (N + c) n' ∧ Moves F F' w w' ∧ Sl.Own Pn.k w.heap.size w' rv P ∧ Sl.Own Pn.k w.heap.size w' ov O

/-- the reply's two cells are written -/
theorem put_two {w : World} {gy : Nat} {a b : Value} (u v : Value) : w.grownBy ((w.setCell ⟨gy, 0, none⟩ u).setCell ⟨gy, 1, none⟩ v) (some gy) :=
  ⟨rfl, rfl, rfl, by simp, fun i hi hn => by
    have h : i ≠ gy := fun e => hn (by rw [e])
    rw [Below.heap_setCell _ _ _ _ h, Below.heap_setCell _ _ _ _ h]⟩

/-- a list of the call's own is a slice, of some length -/
theorem lit {base : Nat} {w : World} {v : Value} {L : List Pn} (h : Sl.Own Pn.k base w v L) : ∃ A n c, v = .slice A n c := by
  obtain ⟨b, -, i⟩ := h.is
  obtain ⟨A, c, e⟩ := i.len
  exact ⟨A, _, c, e⟩
theorem asked_end {w w2 w3 : World} {g N n' : Nat} {F F' : Nat → Prop} {cf : C8} {S' : Lists} (K0 : Below w.heap.size w w2) (sz : w2.heap.size = w.heap.size + 1 + 1) (nF : ¬ F (w.heap.size + 1)) (hw : In w F) (V3 : Moves F F' w2 w3) (G3 : Gr.Is w3 g F' cf S' N n')
    (y : Lies w3 (w.heap.size + 1) 37 [.int .i64 0, .slice none 0 0]) (u v : Value) :
    ((w3.setCell ⟨w.heap.size + 1, 0, none⟩ u).setCell ⟨w.heap.size + 1, 1, none⟩ v).cell? ⟨w.heap.size + 1, 0, none⟩ = some u ∧ ((w3.setCell ⟨w.heap.size + 1, 0, none⟩ u).setCell ⟨w.heap.size + 1, 1, none⟩ v).cell? ⟨w.heap.size + 1, 1, none⟩ = some v ∧
    Gr.Is ((w3.setCell ⟨w.heap.size + 1, 0, none⟩ u).setCell ⟨w.heap.size + 1, 1, none⟩ v) g F' cf S' N n' ∧ Moves F F' w ((w3.setCell ⟨w.heap.size + 1, 0, none⟩ u).setCell ⟨w.heap.size + 1, 1, none⟩ v) ∧
    ∀ (p : Value) (L : List Pn), Sl.Own Pn.k w2.heap.size w3 p L → Sl.Own Pn.k w.heap.size ((w3.setCell ⟨w.heap.size + 1, 0, none⟩ u).setCell ⟨w.heap.size + 1, 1, none⟩ v) p L := by
  have Z := (y.put 0 u).put 1 v
  have k := put_two (w := w3) (gy := w.heap.size + 1) (a := u) (b := v) u v
  have nF' : ¬ F' (w.heap.size + 1) := fun q => by
    rcases (V3.new _ q).1 with r | r
    · exact nF r
    · omega
  have V := (Moves.of_below K0 hw).trans V3
  exact ⟨Z.cell (i := 0) rfl, Z.cell (i := 1) rfl, G3.grown k nF', moves_grown V k (fun b e => by have := Option.some.inj e; omega), fun p L o => Gr.own_base (Gr.own_grown o k (by omega)) (by omega)⟩

set_option maxHeartbeats 8000000 in
theorem keyed_ok {g N n : Nat} {cf : C8} {S : Lists} {F : Nat → Prop} (x : Cl) (mark : Int) (z : Option (Nat × Int × Int × Int)) (w : World) (H : Hid (Gr.Is w g F cf S N n)) (hN : N ≤ 8880) (M : Hid (Asg.may cf.k cf.s cf.l cf.g cf.z cf.h cf.r cf.c)) (B : Hid (cf.s ≤ 9223372036854775807 ∧ cf.l ≤ 9223372036854775807 ∧ cf.g ≤ 9223372036854775807 ∧ cf.z ≤ 9223372036854775807))
    (ft : Hid ((Lit.int .i64 x.t).wf = true)) (fk : Hid ((Lit.int .i64 mark).wf = true)) (hk : x.key.size ≤ maxLen) (T : Hid (Asg.Told cf.k cf.s cf.l cf.g cf.z x.t z)) :
    Calls Try.prog 19 #[gp g, x.val, .int .i64 mark] w (Asked w g F cf S N n x mark z) := by
  have fz : Hid ((Lit.int .i64 cf.z).wf = true) := Lib.hid (wf_of (by have := M.out.2.1; omega) B.out.2.2.2)
  obtain ⟨op, key, t, v, e, u, s⟩ := x
  dsimp only at *
  have hw := H.out.in
  have X0 := Lib.hid ((Lies.new w 40 [.int .i64 op, .string key, .int .i64 t, .int .i64 v, .int .i64 e, .int .i64 u, .int .i64 s]).next (below1 _ (Obj.cells #[.int .i64 0, .slice none 0 0] 37)))
  have y00 := Lies.new (w.alloc (Obj.cells #[.int .i64 op, .string key, .int .i64 t, .int .i64 v, .int .i64 e, .int .i64 u, .int .i64 s] 40)) 37 [.int .i64 0, .slice none 0 0]
  simp only [World.size_alloc] at y00
  have Y0 := Lib.hid y00
  clear y00
  have k00 := below2 w (Obj.cells #[.int .i64 op, .string key, .int .i64 t, .int .i64 v, .int .i64 e, .int .i64 u, .int .i64 s] 40) (Obj.cells #[.int .i64 0, .slice none 0 0] 37)
  have G0 := Lib.hid (H.out.next k00)
  have K0 := Lib.hid k00
  clear k00
  have s00 : ((w.alloc (Obj.cells #[.int .i64 op, .string key, .int .i64 t, .int .i64 v, .int .i64 e, .int .i64 u, .int .i64 s] 40)).alloc (Obj.cells #[.int .i64 0, .slice none 0 0] 37)).heap.size = w.heap.size + 1 + 1 := by simp
  have sz := Lib.hid s00
  clear s00
  go_enter Try.func19, Try.ntmps19
  go_upto_region 1 with fail
  generalize ((w.alloc (Obj.cells #[.int .i64 op, .string key, .int .i64 t, .int .i64 v, .int .i64 e, .int .i64 u, .int .i64 s] 40)).alloc (Obj.cells #[.int .i64 0, .slice none 0 0] 37)) = w2 at X0 Y0 K0 G0 sz ⊢
  have nF : Hid (¬ F (w.heap.size + 1)) := Lib.hid fun q => by have := hw _ q; omega
  have nX : Hid (¬ F w.heap.size) := Lib.hid fun q => by have := hw _ q; omega
  by_cases hp : puts op
  · have x1 := X0.out.cell (i := 1) rfl
    have x2 := X0.out.cell (i := 2) rfl
    have x3 := X0.out.cell (i := 3) rfl
    have x0 := X0.out.cell (i := 0) rfl
    rcases hp with rfl | rfl
    all_goals
      go_wp2_with fail
      refine (Gr.take_ok key t v mark z w2 G0 hN M B ft fk hk T).mono ?_
      rintro r w3 ⟨sv, O, S1, code, c, S', n', F', rfl, ho, hno, htk, hn', G3, V3, o3, -⟩
      have Y3 := V3.lies nF.out Y0.out
      have y0 := Y3.cell (i := 0) rfl
      have y1 := Y3.cell (i := 1) rfl
      have f0 := Y3.open_ 0
      have f1 := Y3.open_ 1
      have HH := Lib.hid (And.intro ho (And.intro hno (And.intro htk (And.intro hn' (And.intro G3 (And.intro V3 o3))))))
      clear ho hno htk hn' G3 V3 o3 x0 x1 x2 x3
      go_wp2
      obtain ⟨ho, hno, htk, hn', G3, V3, o3⟩ := HH.out
      obtain ⟨q0, q1, q2, q3, q4⟩ := asked_end K0.out sz.out nF.out hw V3 G3 Y3 (.int .i64 code) (.slice none 0 0)
      exact bodyPost_ret (v := .tuple #[rep code (.slice none 0 0), sv]) (by simp [results, Try.results19, go_sem, q0, q1]) rfl
        ⟨_, _, code, [], O, c, S', n', F', rfl, .inl ⟨by simp [puts], rfl, S1, ho, hno, htk⟩, hn', by simp, q2, q3, Sl.Own.nil _ _ _, q4 _ _ o3⟩
  · have r1 : (op == 1) = false := by simp [puts] at hp; simp; omega
    have r2 : (op == 2) = false := by simp [puts] at hp; simp; omega
    have HP := Lib.hid hp
    clear hp
    have x0 := X0.out.cell (i := 0) rfl
    go_wp2_with fail
    refine (Gr.settle_ok mark w2 G0 hN fz fk).mono ?_
    rintro r w3 ⟨sv, O, S', n', F', rfl, ho, hno, hlen, g3, v3, o3, -⟩
    have G3 := Lib.hid g3
    have V3 := Lib.hid v3
    have O3 := Lib.hid (And.intro ho (And.intro hno (And.intro hlen o3)))
    have Y3 := Lib.hid (v3.lies nF.out Y0.out)
    have X3 := Lib.hid (v3.lies nX.out X0.out)
    clear x0 ho hno hlen g3 v3 o3
    have x1 := X3.out.cell (i := 1) rfl
    go_wp2_with fail
    refine (Gr.panes_ok key w3 G3 hN hk).mono ?_
    rintro r w4 ⟨lv, rfl, o4, k4⟩
    have s3 := Lib.hid V3.out.size
    have G4 := Lib.hid (G3.out.next k4)
    have V4 := Lib.hid (V3.out.trans (Moves.of_below k4 G3.out.in))
    have Y4 := Lib.hid (Y3.out.next k4)
    have X4 := Lib.hid (X3.out.next k4)
    have P4 := Lib.hid (Gr.own_base o4 s3.out)
    have O4 : Hid (Sl.Own Pn.k w2.heap.size w4 sv O) := Lib.hid (O3.out.2.2.2.next k4)
    have F4 := Lib.hid (G4.out.fine hN)
    clear x1 o4 k4 Y3 X3
    have x0 := X4.out.cell (i := 0) rfl
    by_cases h4 : op = 4
    · have r4 : (op == 4) = true := by simp [h4]
      have x2 := X4.out.cell (i := 2) rfl
      have x4 := X4.out.cell (i := 4) rfl
      obtain ⟨b4, -, i4⟩ := P4.out.is
      go_wp2_with fail
      refine (only_ok lv (S' key) b4 t e w4 (Lib.hid i4) (F4.out.few key) (Lib.hid (F4.out.rises key))).mono ?_
      rintro r w5 ⟨pv, rfl, o5, k5⟩
      have Y5 := Y4.out.next k5
      have G5 := Lib.hid (G4.out.next k5)
      have V5 := Lib.hid (V4.out.trans (Moves.of_below k5 G4.out.in))
      have s5 := Lib.hid V4.out.size
      have P5 := Lib.hid (Gr.own_base o5 s5.out)
      have O5 := Lib.hid (O4.out.next k5)
      have y0 := Y5.cell (i := 0) rfl
      have y1 := Y5.cell (i := 1) rfl
      have f0 := Y5.open_ 0
      have f1 := Y5.open_ 1
      clear o5 k5 x0 x2 x4 i4
      obtain ⟨Av, nv, cv, rfl⟩ := lit P5.out
      go_wp2
      obtain ⟨q0, q1, q2, q3, q4⟩ := asked_end K0.out sz.out nF.out hw V5.out G5.out Y5 (.int .i64 0) (.slice Av nv cv)
      obtain ⟨ho, hno, hlen, -⟩ := O3.out
      exact bodyPost_ret (v := .tuple #[rep 0 (.slice Av nv cv), sv]) (by simp [results, Try.results19, go_sem, q0, q1]) rfl
        ⟨_, _, 0, only t e (S' key), O, 0, S', n', F', rfl, .inr ⟨HP.out, rfl, rfl, ho, hno, by simp [h4]⟩, by omega, Nat.le_trans (List.length_filter_le _ _) (F4.out.few key), q2, q3, q4 _ _ P5.out, q4 _ _ O5.out⟩
    · have r4 : (op == 4) = false := by simp [h4]
      have y0 := Y4.out.cell (i := 0) rfl
      have y1 := Y4.out.cell (i := 1) rfl
      have f0 := Y4.out.open_ 0
      have f1 := Y4.out.open_ 1
      obtain ⟨Av, nv, cv, rfl⟩ := lit P4.out
      go_wp2
      obtain ⟨q0, q1, q2, q3, q4⟩ := asked_end K0.out sz.out nF.out hw V4.out G4.out Y4.out (.int .i64 0) (.slice Av nv cv)
      obtain ⟨ho, hno, hlen, -⟩ := O3.out
      exact bodyPost_ret (v := .tuple #[rep 0 (.slice Av nv cv), sv]) (by simp [results, Try.results19, go_sem, q0, q1]) rfl
        ⟨_, _, 0, S' key, O, 0, S', n', F', rfl, .inr ⟨HP.out, rfl, rfl, ho, hno, by simp [h4]⟩, by omega, F4.out.few key, q2, q3, q4 _ _ P4.out, q4 _ _ O4.out⟩
end Md
end Go.Proofs.Ytemklcckhpchaaa
