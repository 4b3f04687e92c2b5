/-
  The document's Ask (easelref12): a keyed call on its group, settled at a watermark; what goes out.
  The document's model (easelref12.Model) in memory: its group, an output, a watermark, whether it is closed; contracts of its New and Do.
  The model and the document's model side by side: one code, one list of panes, one output.
-/
import Derived.Test.YtmklkiklegkioaaGreatMdAll
import Derived.Test.YtmklkiklegkioaaGreatRr
import Derived.Test.YtmklkiklegkioaaGreatDrawn
namespace Go.Proofs.YtmklkiklegkioaaGreat
open Go.ChangeShapes Go.WideShapes Go.ChangeAt Go.RowKit
set_option maxRecDepth 100000
namespace Rm
open Small Foot Pane Grp Ca Rg Md
set_option linter.unusedVariables false

theorem filter_len (q : Pn → Bool) (L : List Pn) (i : Nat) : ((L.take i).filter q).length ≤ i := by
  have := List.length_filter_le q (L.take i)
  rw [List.length_take] at this
  omega
theorem filter_next (q : Pn → Bool) (L : List Pn) (i : Nat) (p : Pn) (h : L[i]? = some p) : (L.take (i + 1)).filter q = (L.take i).filter q ++ (if q p = true then [p] else []) := by
  rw [List.take_add_one, h, List.filter_append, Option.toList_some, List.filter_cons, List.filter_nil]
/-- none is over -/
def NoR (late mark : Int) (R : List Pn) : Prop := ∀ q, q ∈ R → ¬ q.e + late ≤ mark
/-- what a keyed call comes to: a code, panes, what goes out, all panes behind it -/
def RAsked (cf : C8) (R : List Pn) (mark : Int) (x : Cl) (z : Option (Nat × Int × Int × Int)) (code : Int) (P O R' : List Pn) : Prop :=
  (puts x.op ∧ P = [] ∧ ∃ R1, ROuts cf.z mark R O R1 ∧ NoR cf.z mark R1 ∧ RTaken cf.k x.key x.v cf.z mark z R1 code R') ∨
  (¬ puts x.op ∧ code = 0 ∧ ROuts cf.z mark R O R' ∧ NoR cf.z mark R' ∧ ∃ Q, Q.Perm (ofKey x.key R') ∧ Rises Q ∧ P = if x.op = 4 then only x.t x.e Q else Q)
def Asked (w : World) (g : Nat) (F : Nat → Prop) (cf : C8) (R : List Pn) (x : Cl) (mark : Int) (z : Option (Nat × Int × Int × Int)) (r : Ending) (w' : World) : Prop :=
  ∃ rv ov code P O R' F', r = .returned (.tuple #[rep code rv, ov]) ∧ RAsked cf R mark x z code P O R' ∧ Rr.Is w' g F' cf R' ∧ Moves F F' w w' ∧ Sl.Own Pn.k w.heap.size w' rv P ∧ Sl.Own Pn.k w.heap.size w' ov O ∧ O.length ≤ R.length
theorem asked_end {w w2 w3 : World} {g : Nat} {F F' : Nat → Prop} {cf : C8} {R' : List Pn} (K0 : Below w.heap.size w w2) (sz : w2.heap.size = w.heap.size + 1 + 1) (nF : ¬ F (w.heap.size + 1)) (hw : In w F) (V3 : Moves F F' w2 w3) (G3 : Rr.Is w3 g F' cf R')
    (y : Lies w3 (w.heap.size + 1) 47 [.int .i64 0, .slice none 0 0]) (u v : Value) :
    ((w3.setCell ⟨w.heap.size + 1, 0, none⟩ u).setCell ⟨w.heap.size + 1, 1, none⟩ v).cell? ⟨w.heap.size + 1, 0, none⟩ = some u ∧ ((w3.setCell ⟨w.heap.size + 1, 0, none⟩ u).setCell ⟨w.heap.size + 1, 1, none⟩ v).cell? ⟨w.heap.size + 1, 1, none⟩ = some v ∧
    Rr.Is ((w3.setCell ⟨w.heap.size + 1, 0, none⟩ u).setCell ⟨w.heap.size + 1, 1, none⟩ v) g F' cf R' ∧ Moves F F' w ((w3.setCell ⟨w.heap.size + 1, 0, none⟩ u).setCell ⟨w.heap.size + 1, 1, none⟩ v) ∧
    ∀ (p : Value) (L : List Pn), Sl.Own Pn.k w2.heap.size w3 p L → Sl.Own Pn.k w.heap.size ((w3.setCell ⟨w.heap.size + 1, 0, none⟩ u).setCell ⟨w.heap.size + 1, 1, none⟩ v) p L := by
  have Z := (y.put 0 u).put 1 v
  have k := put_two (w := w3) (gy := w.heap.size + 1) (a := u) (b := v) u v
  have nF' : ¬ F' (w.heap.size + 1) := fun q => by
    rcases (V3.new _ q).1 with r | r
    · exact nF r
    · omega
  have V := (Moves.of_below K0 hw).trans V3
  exact ⟨Z.cell (i := 0) rfl, Z.cell (i := 1) rfl, G3.grown k nF', moves_grown V k (fun b e => by have := Option.some.inj e; omega), fun p L o => Gr.own_base (Gr.own_grown o k (by omega)) (by omega)⟩

set_option maxHeartbeats 8000000 in
theorem ask_ok {g : Nat} {cf : C8} {R : List Pn} {F : Nat → Prop} (x : Cl) (mark : Int) (z : Option (Nat × Int × Int × Int)) (w : World) (H : Hid (Rr.Is w g F cf R)) (hN : R.length ≤ 8880) (M : Hid (Asg.may cf.k cf.s cf.l cf.g cf.z cf.h cf.r cf.c)) (B : Hid (cf.s ≤ 9223372036854775807 ∧ cf.l ≤ 9223372036854775807 ∧ cf.g ≤ 9223372036854775807 ∧ cf.z ≤ 9223372036854775807))
    (ft : Hid ((Lit.int .i64 x.t).wf = true)) (fk : Hid ((Lit.int .i64 mark).wf = true)) (fe : Hid (∀ p ∈ R, (Lit.int .i64 p.e).wf = true)) (D : Hid ((ofKey x.key R).Pairwise fun p q => ¬ Eq2 p q.s q.e)) (ho1 : 1 ≤ x.op) (T : Hid (Asg.Told cf.k cf.s cf.l cf.g cf.z x.t z)) :
    Calls Tryz.prog 12 #[gp g, x.val, .int .i64 mark] w (Asked w g F cf R x mark z) := by
  have fz : Hid ((Lit.int .i64 cf.z).wf = true) := Lib.hid (wf_of (by have := M.out.2.1; omega) B.out.2.2.2)
  obtain ⟨op, key, t, v, e, u, s⟩ := x
  dsimp only at *
  have hw := H.out.in
  have X0 := Lib.hid ((Lies.new w 42 [.int .i64 op, .string key, .int .i64 t, .int .i64 v, .int .i64 e, .int .i64 u, .int .i64 s]).next (below1 _ (Obj.cells #[.int .i64 0, .slice none 0 0] 47)))
  have y00 := Lies.new (w.alloc (Obj.cells #[.int .i64 op, .string key, .int .i64 t, .int .i64 v, .int .i64 e, .int .i64 u, .int .i64 s] 42)) 47 [.int .i64 0, .slice none 0 0]
  simp only [World.size_alloc] at y00
  have Y0 := Lib.hid y00
  clear y00
  have k00 := below2 w (Obj.cells #[.int .i64 op, .string key, .int .i64 t, .int .i64 v, .int .i64 e, .int .i64 u, .int .i64 s] 42) (Obj.cells #[.int .i64 0, .slice none 0 0] 47)
  have G0 := Lib.hid (H.out.next k00)
  have K0 := Lib.hid k00
  clear k00
  have s00 : ((w.alloc (Obj.cells #[.int .i64 op, .string key, .int .i64 t, .int .i64 v, .int .i64 e, .int .i64 u, .int .i64 s] 42)).alloc (Obj.cells #[.int .i64 0, .slice none 0 0] 47)).heap.size = w.heap.size + 1 + 1 := by simp
  have sz := Lib.hid s00
  clear s00
  go_enter Tryz.func12, Tryz.ntmps12
  go_upto_region 1 with fail
  generalize ((w.alloc (Obj.cells #[.int .i64 op, .string key, .int .i64 t, .int .i64 v, .int .i64 e, .int .i64 u, .int .i64 s] 42)).alloc (Obj.cells #[.int .i64 0, .slice none 0 0] 47)) = w2 at X0 Y0 K0 G0 sz ⊢
  have nF : Hid (¬ F (w.heap.size + 1)) := Lib.hid fun q => by have := hw _ q; omega
  have nX : Hid (¬ F w.heap.size) := Lib.hid fun q => by have := hw _ q; omega
  by_cases hp : puts op
  · have r3 : op < 3 := by simp [puts] at hp; omega
    have HP := Lib.hid hp
    clear hp
    have x1 := X0.out.cell (i := 1) rfl
    have x2 := X0.out.cell (i := 2) rfl
    have x3 := X0.out.cell (i := 3) rfl
    have x0 := X0.out.cell (i := 0) rfl
    go_wp2_with fail
    refine (Rr.take_ok key t v mark z w2 G0 (by omega) M B ft fk fe T).mono ?_
    rintro r w3 ⟨sv, O, R1, code, R', F', rfl, ho, hno, htk, hlen, G3, V3, o3⟩
    have hno : NoR cf.z mark R1 := fun q hq => by have := hno q hq; omega
    have Y3 := V3.lies nF.out Y0.out
    have y0 := Y3.cell (i := 0) rfl
    have y1 := Y3.cell (i := 1) rfl
    have f0 := Y3.open_ 0
    have f1 := Y3.open_ 1
    have HH := Lib.hid (And.intro ho (And.intro hno (And.intro htk (And.intro hlen (And.intro G3 (And.intro V3 o3))))))
    clear ho hno htk hlen G3 V3 o3 x0 x1 x2 x3 r3
    go_wp2
    obtain ⟨ho, hno, htk, hlen, G3, V3, o3⟩ := HH.out
    obtain ⟨q0, q1, q2, q3, q4⟩ := asked_end K0.out sz.out nF.out hw V3 G3 Y3 (.int .i64 code) (.slice none 0 0)
    exact bodyPost_ret (v := .tuple #[rep code (.slice none 0 0), sv]) (by simp [results, Tryz.results12, go_sem, q0, q1]) rfl
      ⟨_, _, code, [], O, R', F', rfl, .inl ⟨HP.out, rfl, R1, ho, hno, htk⟩, q2, q3, Sl.Own.nil _ _ _, q4 _ _ o3, by omega⟩
  · have r3 : ¬ op < 3 := by simp [puts] at hp; omega
    have HP := Lib.hid hp
    clear hp
    have x0 := X0.out.cell (i := 0) rfl
    go_wp2_with fail
    refine (Rr.settle_ok mark w2 G0 (by omega) fz fk fe).mono ?_
    rintro r w3 ⟨sv, O, R', F', rfl, ho, hno, hlen, g3, v3, o3⟩
    have hno : NoR cf.z mark R' := fun q hq => by have := hno q hq; omega
    have G3 := Lib.hid g3
    have V3 := Lib.hid v3
    have D3 := Lib.hid (Rr.routs_apart ho D.out)
    have O3 := Lib.hid (And.intro ho (And.intro hno (And.intro hlen o3)))
    have Y3 := Lib.hid (v3.lies nF.out Y0.out)
    have X3 := Lib.hid (v3.lies nX.out X0.out)
    have hR' : R'.length ≤ 8880 := by omega
    clear x0 ho hno hlen g3 v3 o3
    have x1 := X3.out.cell (i := 1) rfl
    go_wp2_with fail
    refine (Rr.panesR_ok key w3 G3 (by omega) D3).mono ?_
    rintro r w4 ⟨lv, Q, rfl, hperm, hup, o4, k4⟩
    have s3 := Lib.hid V3.out.size
    have G4 := Lib.hid (G3.out.next k4)
    have V4 := Lib.hid (V3.out.trans (Moves.of_below k4 G3.out.in))
    have Y4 := Lib.hid (Y3.out.next k4)
    have X4 := Lib.hid (X3.out.next k4)
    have P4 := Lib.hid (Gr.own_base o4 s3.out)
    have O4 : Hid (Sl.Own Pn.k w2.heap.size w4 sv O) := Lib.hid (O3.out.2.2.2.next k4)
    have HQ := Lib.hid (And.intro hperm hup)
    have hQn : Q.length ≤ 8880 := by
      have h1 := hperm.length_eq
      have h2 := List.length_filter_le (fun p : Pn => decide (p.key = key)) R'
      simp only [ofKey] at h1
      omega
    clear x1 o4 k4 Y3 X3 hperm hup
    have x0 := X4.out.cell (i := 0) rfl
    obtain ⟨b4, -, i4⟩ := P4.out.is
    obtain ⟨Av, cv, rfl⟩ := i4.len
    have I4 := Lib.hid i4
    clear i4
    by_cases h4 : op = 4
    · have r4 : (op != 4) = false := by simp [h4]
      have H4 := Lib.hid h4
      clear h4
      go_wp2_with fail
      go_loopw [12, 13] (fun so si wr => ∃ i : Nat, i ≤ Q.length ∧ si = .int .i64 i ∧ Hid (Sl.Own Pn.k w4.heap.size wr so (only t e (Q.take i))) ∧ Hid (Below w4.heap.size w4 wr)) (fun _ si _ => Q.length - (intOf si).toNat)
      case atStart => exact ⟨0, by omega, rfl, Lib.hid (Sl.Own.nil _ _ _), Lib.hid (Below.refl _ _)⟩
      case round =>
        obtain ⟨i, hi, rfl, OM, K⟩ := hrel
        by_cases hlt : i < Q.length
        · obtain ⟨off, cap', he, h2, h3, h4, hcell⟩ := I4.out.some_ Pn.ok (by omega)
          obtain ⟨rfl, rfl⟩ : Av = some ⟨b4, off, none⟩ ∧ cv = cap' := by simpa using he
          obtain ⟨p, hp⟩ := at_some hlt
          obtain ⟨c0, c1, c2, c3, c4, c5, c6⟩ := Tmr.pane_cells hp hcell
          have HPp := Lib.hid hp
          have c0 := cell_keep K.out c0
          have c1 := cell_keep K.out c1
          have c2 := cell_keep K.out c2
          have c3 := cell_keep K.out c3
          have c4 := cell_keep K.out c4
          have c5 := cell_keep K.out c5
          have c6 := cell_keep K.out c6
          have Xr := X4.out.next K.out
          have x2 := Xr.cell (i := 2) rfl
          have x4 := Xr.cell (i := 4) rfl
          have i0 : (i : Int) < Q.length := by omega
          have hsz := Lib.hid K.out.size
          have ht : Hid ((only t e (Q.take i)).length ≤ i) := Lib.hid (filter_len _ _ _)
          clear hcell he h2 h3 h4 hp Xr
          by_cases hs : p.s = t
          · have e1 : (p.s == t) = true := by simpa using hs
            by_cases hE : p.e = e
            · subst hs hE
              have e2 : (p.e == p.e) = true := by simp
              have e3 : (p.s == p.s) = true := by simp
              go_wp2_with fail
              go_quiet (fail)
              have B6 := drewN_below wr nq
              have K6 := Lib.hid (after K.out B6)
              have OM6 := Lib.hid (OM.out.next B6)
              have hsz6 := Lib.hid K6.out.size
              have c0 := cell_keep B6 c0
              have c1 := cell_keep B6 c1
              have c2 := cell_keep B6 c2
              have c3 := cell_keep B6 c3
              have c4 := cell_keep B6 c4
              have c5 := cell_keep B6 c5
              have c6 := cell_keep B6 c6
              clear x2 x4 B6 K OM
              generalize wr.drewN nq = w6 at K6 OM6 c0 c1 c2 c3 c4 c5 c6 hsz6 ⊢
              go_wp2_with (at_builtin; refine wpList_plain rfl fun K' hK' => Sl.wp_append (K := Pn.k) Pn.ok (.tmp 71) (.tmp 76) rfl (base := w4.heap.size) (l := only p.s p.e (Q.take i)) (l2 := [p]) (by exact OM6.out.next (below1 _ _)) (by exact Sl.Is.one Pn.ok (x := p) (Lies.new _ _ _)) (by have := ht.out; simp only [List.length_singleton]; omega) (by have := hsz6.out; simp; omega) (fun v' w7 x1 x2 x3 => hK' _ _ ?_))
              have O7 := Lib.hid x1
              have K7 : Hid (Below w4.heap.size w4 w7) := Lib.hid ((after K6.out (below1 _ _)).grown x2 (by have := hsz6.out; simp; omega) (fun a ha => (OM6.out.lt a ha).1))
              clear x1 x2 x3
              go_wp2_with fail
              exact ⟨⟨i + 1, by omega, by go_num, Lib.hid (by rw [only, filter_next _ _ _ _ HPp.out, if_pos (by simp)]; exact O7.out), K7⟩, by simp [intOf]; omega⟩
            · have e2 : (p.e == e) = false := by simpa using hE
              have HNE : Hid (¬ (p.s = t ∧ p.e = e)) := Lib.hid fun q => hE q.2
              clear hE
              go_wp2_with fail
              go_quiet (fail)
              have B6 := drewN_below wr nq
              have K6 := Lib.hid (after K.out B6)
              have OM6 := Lib.hid (OM.out.next B6)
              have hsz6 := Lib.hid K6.out.size
              clear c0 c1 c2 c3 c4 c5 c6 x2 x4 B6 K OM
              generalize wr.drewN nq = w6 at K6 OM6 ⊢
              go_wp2_with fail
              exact ⟨⟨i + 1, by omega, by go_num, Lib.hid (by rw [only, filter_next _ _ _ _ HPp.out, if_neg (by simpa using HNE.out), List.append_nil]; exact OM6.out), K6⟩, by simp [intOf]; omega⟩
          · have e1 : (p.s == t) = false := by simpa using hs
            have HNE : Hid (¬ (p.s = t ∧ p.e = e)) := Lib.hid fun q => hs q.1
            clear hs
            go_wp2_with fail
            go_quiet (fail)
            have B6 := drewN_below wr nq
            have K6 := Lib.hid (after K.out B6)
            have OM6 := Lib.hid (OM.out.next B6)
            have hsz6 := Lib.hid K6.out.size
            clear c0 c1 c2 c3 c4 c5 c6 x2 x4 B6 K OM
            generalize wr.drewN nq = w6 at K6 OM6 ⊢
            go_wp2_with fail
            exact ⟨⟨i + 1, by omega, by go_num, Lib.hid (by rw [only, filter_next _ _ _ _ HPp.out, if_neg (by simpa using HNE.out), List.append_nil]; exact OM6.out), K6⟩, by simp [intOf]; omega⟩
        · obtain rfl : i = Q.length := by omega
          have OM2 := OM.out
          rw [List.take_length] at OM2
          have OM2 := Lib.hid OM2
          have Yr := Lib.hid (Y4.out.next K.out)
          have Gx := Lib.hid (G4.out.next K.out)
          have Vr := Lib.hid (V4.out.trans (Moves.of_below K.out G4.out.in))
          have s4 := Lib.hid V4.out.size
          have Pr := Lib.hid (Gr.own_base OM2.out s4.out)
          have Or := Lib.hid (O4.out.next K.out)
          have y0 := Yr.out.cell (i := 0) rfl
          have y1 := Yr.out.cell (i := 1) rfl
          have f0 := Yr.out.open_ 0
          have f1 := Yr.out.open_ 1
          clear OM OM2 K
          obtain ⟨Am, nm, cm, rfl⟩ := lit Pr.out
          go_wp2
          obtain ⟨q0, q1, q2, q3, q4⟩ := asked_end K0.out sz.out nF.out hw Vr.out Gx.out Yr.out (.int .i64 0) (.slice Am nm cm)
          obtain ⟨ho, hno, hlen, -⟩ := O3.out
          exact bodyPost_ret (v := .tuple #[rep 0 (.slice Am nm cm), sv]) (by simp [results, Tryz.results12, go_sem, q0, q1]) rfl
            ⟨_, _, 0, only t e Q, O, R', F', rfl, .inr ⟨HP.out, rfl, ho, hno, Q, HQ.out.1, HQ.out.2, by simp [H4.out]⟩, q2, q3, q4 _ _ Pr.out, q4 _ _ Or.out, by omega⟩
    · have r4 : (op != 4) = true := by simp [h4]
      have y0 := Y4.out.cell (i := 0) rfl
      have y1 := Y4.out.cell (i := 1) rfl
      have f0 := Y4.out.open_ 0
      have f1 := Y4.out.open_ 1
      go_wp2
      obtain ⟨q0, q1, q2, q3, q4⟩ := asked_end K0.out sz.out nF.out hw V4.out G4.out Y4.out (.int .i64 0) (.slice Av Q.length cv)
      obtain ⟨ho, hno, hlen, -⟩ := O3.out
      exact bodyPost_ret (v := .tuple #[rep 0 (.slice Av Q.length cv), sv]) (by simp [results, Tryz.results12, go_sem, q0, q1]) rfl
        ⟨_, _, 0, Q, O, R', F', rfl, .inr ⟨HP.out, rfl, ho, hno, Q, HQ.out.1, HQ.out.2, by simp [h4]⟩, q2, q3, q4 _ _ P4.out, q4 _ _ O4.out, by omega⟩
end Rm
end Go.Proofs.YtmklkiklegkioaaGreat

namespace Go.Proofs.YtmklkiklegkioaaGreat
open Go.ChangeShapes Go.WideShapes Go.ChangeAt Go.RowKit Rel
set_option maxRecDepth 100000
namespace Out
open Small
set_option linter.unusedVariables false
/-- append, what it yields as a slice -/
theorem wp_append_lit {w : World} {o : Oper} {a : Act} {Kc : Act → World → Prop} {Q : Exit → Act → World → Prop} {l l2 : List Pn} {base : Nat} (s x : Operand) (hop : o.op = Op.call { callee := Callee.builtin Builtin.append, args := #[s, x], argTypes := #[Pn.k.t, Pn.k.t] })
    (h : Sl.Own Pn.k base w (a.eval s) l) (hx : Rd w (a.eval x) l2) (hn : l.length + l2.length ≤ 1048576) (hb : base ≤ w.heap.size)
    (hK : ∀ A n c w', Sl.Own Pn.k base w' (.slice A n c) (l ++ l2) → w.grownBy w' (a.eval s).ownBlock → ((Value.slice A n c).ownBlock = (a.eval s).ownBlock ∨ (Value.slice A n c).ownBlock = some w.heap.size) → Kc (a.put o.dst (.slice A n c)) w') : o.wp Tryz.prog a w Kc Q := by
  obtain ⟨v', w', hr, q1, q2, q3⟩ := run_append_rd o.type h hx hn hb
  obtain ⟨A, c, rfl⟩ : ∃ A c, v' = .slice A (l ++ l2).length c := by obtain ⟨b, _, h⟩ := q1.is; exact h.len
  unfold Oper.wp
  simp [execOp, hop, resolve, invoke, builtin, hr, Result.andThen]
  have := hK A _ c w' q1 q2 q3
  rw [List.length_append] at this
  exact this
end Out
namespace Rm
open Small Foot Pane Grp Ca Rg Md
set_option linter.unusedVariables false

end Rm
end Go.Proofs.YtmklkiklegkioaaGreat

namespace Go.Proofs.YtmklkiklegkioaaGreat
open Go.ChangeShapes Go.WideShapes Go.ChangeAt Go.RowKit
set_option maxRecDepth 100000
namespace Rm
open Small Foot Pane Grp Ca Rg Md
set_option linter.unusedVariables false
section
variable {cf : C8} {S S' : Lists} {R R' : List Pn} {mark mark' mark2 : Int} {L L' L2 P P2 O O2 : List Pn} {cl cl' cl2 : Bool} {x : Cl} {z : Option (Nat × Int × Int × Int)} {code code2 : Int} {c N : Nat}
theorem both_asked (rp : Rep S R) (ok : Ok cf.k S N) (hN : N ≤ 8880) (hz : ∀ nn a d l, z = some (nn, a, d, l) → nn ≤ 16 ∧ 1 ≤ l) (a : MAsked cf S mark x z code P O c S') (b : RAsked cf R mark x z code2 P2 O2 R') : code = code2 ∧ P = P2 ∧ O = O2 ∧ Rep S' R' := by
  rcases a with ⟨h1, rfl, S1, o, no, tk⟩ | ⟨h1, rfl, rfl, o, no, rfl⟩
  · rcases b with ⟨-, rfl, R1, ro, rno, rtk⟩ | ⟨h2, -⟩
    · obtain ⟨h3, h4, h5⟩ := Rr.taken_both rp ok hN o no tk ro rno rtk hz
      exact ⟨h4, rfl, h3, h5⟩
    · exact absurd h1 h2
  · rcases b with ⟨h2, -⟩ | ⟨-, rfl, ro, rno, Q, q1, q2, rfl⟩
    · exact absurd h2 h1
    · have F := ok.fine (by omega)
      obtain ⟨rfl, rp'⟩ := settled rp F o ro no rno
      obtain rfl := rp'.panes (F.outs o) q1 q2
      exact ⟨rfl, rfl, rfl, rp'⟩
theorem nor_of (rp : Rep S R) (no : NoneOver cf.z mark S) : NoR cf.z mark R := fun q hq => no _ q (rp.mem.1 hq)
theorem rep_apart {w : World} {g n : Nat} {F : Nat → Prop} (rp : Rep S R) (H : Gr.Is w g F cf S N n) (hN : N ≤ 8880) (key : ByteArray) : (ofKey key R).Pairwise fun p q => ¬ Eq2 p q.s q.e := rp.apart (H.fine hN) key
end
end Rm
end Go.Proofs.YtmklkiklegkioaaGreat
