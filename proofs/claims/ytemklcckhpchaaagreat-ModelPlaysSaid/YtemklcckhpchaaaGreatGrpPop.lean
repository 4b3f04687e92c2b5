/-
  group's Settle: 'x, is := g.due.Pop(..)', a statement that draws its order, writes the timers, and makes memory.
-/
import Derived.Test.YtemklcckhpchaaaGreatGrpCut
namespace Go.Proofs.YtemklcckhpchaaaGreat
open Go.ChangeShapes Go.WideShapes Go.ChangeAt Go.RowKit
namespace Grp
open Small Foot Pane RelJ
set_option linter.unusedVariables false

/-- what each operation yields -/
def Ps (g tg : Nat) (late mark : Int) (b : Bool) (x : Tmr.Tm) (i : Nat) (u : Value) : Prop := match i with
  | 0 => u = gp g
  | 1 => u = gp g
  | 2 => u = .pointer (some ⟨g, 9, none⟩)
  | 3 => u = Tmr.tp tg
  | 4 => u = gp g
  | 5 => u = gp g
  | 6 => u = .pointer (some ⟨g, 0, none⟩)
  | 7 => u = .pointer (some ⟨g, 4, none⟩)
  | 8 => u = .int .i64 late
  | 9 => u = .int .i64 mark
  | 10 => u = .tuple #[Tmr.tv x, .bool b]
  | 11 => u = .tuple #[Tmr.tv x, .bool b]
  | 12 => u = Tmr.tv x
  | 13 => u = .bool b
  | _ => True
theorem Ps.free {g tg : Nat} {late mark : Int} {b b' : Bool} {x x' : Tmr.Tm} (i : Nat) {u : Value} (hi : i < 10 ∨ 14 ≤ i) (h : Ps g tg late mark b x i u) : Ps g tg late mark b' x' i u := by
  match i, hi, h with
  | 0, _, h => exact h
  | 1, _, h => exact h
  | 2, _, h => exact h
  | 3, _, h => exact h
  | 4, _, h => exact h
  | 5, _, h => exact h
  | 6, _, h => exact h
  | 7, _, h => exact h
  | 8, _, h => exact h
  | 9, _, h => exact h
  | 10, hi, _ => omega
  | 11, hi, _ => omega
  | 12, hi, _ => omega
  | 13, hi, _ => omega
  | i + 14, _, _ => trivial
theorem tup_fst {x y : Tmr.Tm} {b c : Bool} (h : Value.tuple #[Tmr.tv x, .bool b] = .tuple #[Tmr.tv y, .bool c]) : Tmr.tv x = Tmr.tv y :=
  congrArg (fun v => match v with | .tuple a => a[0]?.getD undef | _ => undef) h
theorem tup_snd {x y : Tmr.Tm} {b c : Bool} (h : Value.tuple #[Tmr.tv x, .bool b] = .tuple #[Tmr.tv y, .bool c]) : Value.bool b = Value.bool c :=
  congrArg (fun v => match v with | .tuple a => a[1]?.getD undef | _ => undef) h
/-- what was done ahead of what -/
def Dn (D : Nat → Bool) : Prop := ∀ j, (j = 11 ∨ j = 12 ∨ j = 13 ∨ j = 15) → D j = true → D 10 = true ∧ (j = 15 → D 12 = true ∧ D 14 = true)
/-- the block for the timer -/
def In6 (w0 : World) (f : Nat → Value) (FT1 : Nat → Prop) (D : Nat → Bool) (w' : World) : Prop := ∃ g6 q, f 14 = gp g6 ∧ w0.heap.size ≤ g6 ∧ ¬ FT1 g6 ∧ Lies w' g6 105 [.string q.key, .int .i64 q.s, .int .i64 q.e] ∧ (D 15 = true → f 12 = Tmr.tv q)
def JS (g m tg : Nat) (cf : C8) (S : Lists) (M : Tmr.Tm → Prop) (n cnt : Nat) (fm : ByteArray → Option Value) (FT Bk : Nat → Prop) (w0 : World) (mark : Int) (D : Nat → Bool) (f : Nat → Value) (w' : World) : Prop :=
  ∃ b x n1 M1 FT1, Gq w' g m tg cf S M1 n1 cnt fm FT1 Bk ∧ Moves FT FT1 w0 w' ∧ (D 10 = false → M1 = M ∧ n1 = n ∧ FT1 = FT) ∧ (D 10 = true → Tmr.Pops cf.z mark n M b x n1 M1) ∧ (∀ j, D j = true → Ps g tg cf.z mark b x j (f j)) ∧ Dn D ∧ (D 14 = true → In6 w0 f FT1 D w')
theorem JS_start {g m tg n cnt : Nat} {cf : C8} {S : Lists} {M : Tmr.Tm → Prop} {fm : ByteArray → Option Value} {FT Bk : Nat → Prop} {w0 : World} {mark : Int} {D : Nat → Bool} {f : Nat → Value} (H : Gq w0 g m tg cf S M n cnt fm FT Bk) (hD : ∀ k, D k = true → 16 ≤ k) : JS g m tg cf S M n cnt fm FT Bk w0 mark D f w0.drew :=
  ⟨false, ⟨⟨#[]⟩, 0, 0⟩, n, M, FT, H.next (Below.refl _ _).drew, Moves.of_below (Below.refl _ _).drew H.ts.in, fun _ => ⟨rfl, rfl, rfl⟩, fun h => absurd (hD 10 h) (by omega), fun j hj => by
    have := hD j hj
    match j, this with
    | j + 16, _ => trivial, fun j hj h => absurd (hD j h) (by omega), fun h => absurd (hD 14 h) (by omega)⟩
theorem JS_val {g m tg n cnt : Nat} {cf : C8} {S : Lists} {M : Tmr.Tm → Prop} {fm : ByteArray → Option Value} {FT Bk : Nat → Prop} {w0 : World} {mark : Int} {D : Nat → Bool} {f : Nat → Value} {w' : World} {v : Value} (i : Nat) (hi : i < 10 ∨ 11 ≤ i ∧ i ≤ 13) (hDi : D i = false) (h : JS g m tg cf S M n cnt fm FT Bk w0 mark D f w') (hd : 11 ≤ i → D 10 = true)
    (hv : ∀ b x, (∀ j, D j = true → Ps g tg cf.z mark b x j (f j)) → Ps g tg cf.z mark b x i v) : JS g m tg cf S M n cnt fm FT Bk w0 mark (updD D i) (updF f i v) w' := by
  obtain ⟨b, x, n1, M1, FT1, hQ, hV, h10, h10', hall, hdn, h14⟩ := h
  have e10 : updD D i 10 = D 10 := updD_other _ (by omega)
  refine ⟨b, x, n1, M1, FT1, hQ, hV, by rw [e10]; exact h10, by rw [e10]; exact h10', ?_, ?_, ?_⟩
  · intro j hj
    by_cases e : j = i
    · subst e; rw [updF_same]; exact hv b x hall
    · rw [updF_other _ _ e]; rw [updD_other _ e] at hj; exact hall j hj
  · intro j hj hDj
    rw [e10]
    by_cases e : j = i
    · subst e; exact ⟨hd (by omega), fun h => by omega⟩
    · rw [updD_other _ e] at hDj
      obtain ⟨p1, p2⟩ := hdn j hj hDj
      refine ⟨p1, fun h => ⟨?_, by rw [updD_other _ (by omega)]; exact (p2 h).2⟩⟩
      by_cases e2 : 12 = i
      · subst e2; exact updD_same _ _
      · rw [updD_other _ e2]; exact (p2 h).1
  · intro hD14
    rw [updD_other _ (by omega)] at hD14
    obtain ⟨g6, q, p1, p2, p3, p4, p5⟩ := h14 hD14
    refine ⟨g6, q, by rw [updF_other _ _ (by omega)]; exact p1, p2, p3, p4, fun h => ?_⟩
    rw [updD_other _ (by omega)] at h
    by_cases e : 12 = i
    · subst e
      exact absurd ((hdn 15 (by simp) h).2 rfl).1 (by rw [hDi]; simp)
    · rw [updF_other _ _ e]; exact p5 h
theorem JS_pop {g m tg n cnt : Nat} {cf : C8} {S : Lists} {M : Tmr.Tm → Prop} {fm : ByteArray → Option Value} {FT Bk : Nat → Prop} {w0 : World} {mark : Int} {D : Nat → Bool} {f : Nat → Value} {w' : World} {b : Bool} {x : Tmr.Tm} {n1 : Nat} {M1 : Tmr.Tm → Prop} {FT1 : Nat → Prop} {b2 : Bool} {x2 : Tmr.Tm} {n' : Nat} {M' : Tmr.Tm → Prop} {F' : Nat → Prop} {w2 : World} (hDi : D 10 = false) (hQ : Gq w' g m tg cf S M1 n1 cnt fm FT1 Bk) (hV : Moves FT FT1 w0 w') (hall : ∀ j, D j = true → Ps g tg cf.z mark b x j (f j)) (hdn : Dn D) (h10 : D 10 = false → M1 = M ∧ n1 = n ∧ FT1 = FT) (h14 : D 14 = true → In6 w0 f FT1 D w')
    (h2 : Tmr.Pops cf.z mark n M b2 x2 n' M') (h3 : Tmr.Ts w2 tg n' M' F') (h4 : Moves FT1 F' w' w2) : JS g m tg cf S M n cnt fm FT Bk w0 mark (updD D 10) (updF f 10 (.tuple #[Tmr.tv x2, .bool b2])) w2 := by
  have no : ∀ j, (j = 11 ∨ j = 12 ∨ j = 13 ∨ j = 15) → D j = true → False := fun j hj h => by
    have := (hdn j hj h).1
    rw [hDi] at this
    cases this
  refine ⟨b2, x2, n', M', F', hQ.timed h3 h4, hV.trans h4, (fun h => by rw [updD_same] at h; cases h), fun _ => h2, ?_, ?_, ?_⟩
  · intro j hj
    by_cases e : j = 10
    · subst e; rw [updF_same]; rfl
    · rw [updF_other _ _ e]
      rw [updD_other _ e] at hj
      by_cases e2 : j = 11 ∨ j = 12 ∨ j = 13
      · exact absurd (no j (by omega) hj) id
      · exact Ps.free j (by omega) (hall j hj)
  · intro j hj hDj
    rw [updD_other _ (by omega)] at hDj
    exact absurd (no j hj hDj) id
  · intro hD14
    rw [updD_other _ (by decide)] at hD14
    obtain ⟨g6, q, p1, p2, p3, p4, p5⟩ := h14 hD14
    refine ⟨g6, q, by rw [updF_other _ _ (by decide)]; exact p1, p2, fun r => ?_, (h4.block _ p4.lt p3).trans p4, fun r => ?_⟩
    · rcases (h4.new g6 r).1 with q1 | q1
      · exact p3 q1
      · have := p4.lt; omega
    · rw [updD_other _ (by decide)] at r
      exact absurd (no 15 (by simp) r) id
theorem JS_alloc {g m tg n cnt : Nat} {cf : C8} {S : Lists} {M : Tmr.Tm → Prop} {fm : ByteArray → Option Value} {FT Bk : Nat → Prop} {w0 : World} {mark : Int} {D : Nat → Bool} {f : Nat → Value} {w' : World} {b : Bool} {x : Tmr.Tm} {n1 : Nat} {M1 : Tmr.Tm → Prop} {FT1 : Nat → Prop} (hDi : D 14 = false) (hQ : Gq w' g m tg cf S M1 n1 cnt fm FT1 Bk) (hV : Moves FT FT1 w0 w') (h10 : D 10 = false → M1 = M ∧ n1 = n ∧ FT1 = FT) (h10' : D 10 = true → Tmr.Pops cf.z mark n M b x n1 M1) (hall : ∀ j, D j = true → Ps g tg cf.z mark b x j (f j)) (hdn : Dn D) : JS g m tg cf S M n cnt fm FT Bk w0 mark (updD D 14) (updF f 14 (gp w'.heap.size)) (w'.alloc (Obj.cells #[.string ⟨#[]⟩, .int .i64 0, .int .i64 0] 105)) := by
  refine ⟨b, x, n1, M1, FT1, hQ.next (below1 _ _), hV.trans (Moves.of_below (below1 _ _) hQ.ts.in), by rw [updD_other _ (by decide)]; exact h10, by rw [updD_other _ (by decide)]; exact h10', ?_, ?_, ?_⟩
  · intro j hj
    by_cases e : j = 14
    · subst e; exact trivial
    · rw [updF_other _ _ e]; rw [updD_other _ e] at hj; exact hall j hj
  · intro j hj hDj
    rw [updD_other _ (by omega)] at hDj
    obtain ⟨p1, p2⟩ := hdn j hj hDj
    refine ⟨by rw [updD_other _ (by decide)]; exact p1, fun h => ?_⟩
    have := (p2 h).2
    rw [hDi] at this
    cases this
  · intro _
    refine ⟨w'.heap.size, ⟨⟨#[]⟩, 0, 0⟩, updF_same _ _ _, hV.size, fun r => by have := hQ.ts.in _ r; omega, Lies.new _ _ _, fun r => ?_⟩
    rw [updD_other _ (by decide)] at r
    have := ((hdn 15 (by simp) r).2 rfl).2
    rw [hDi] at this
    cases this
theorem JS_store {g m tg n cnt : Nat} {cf : C8} {S : Lists} {M : Tmr.Tm → Prop} {fm : ByteArray → Option Value} {FT Bk : Nat → Prop} {w0 : World} {mark : Int} {D : Nat → Bool} {f : Nat → Value} {w' : World} {b : Bool} {x : Tmr.Tm} {n1 : Nat} {M1 : Tmr.Tm → Prop} {FT1 : Nat → Prop} {g6 : Nat} {q : Tmr.Tm} (hQ : Gq w' g m tg cf S M1 n1 cnt fm FT1 Bk) (hV : Moves FT FT1 w0 w') (h10 : D 10 = false → M1 = M ∧ n1 = n ∧ FT1 = FT) (h10' : D 10 = true → Tmr.Pops cf.z mark n M b x n1 M1) (hall : ∀ j, D j = true → Ps g tg cf.z mark b x j (f j)) (hdn : Dn D) (d12 : D 12 = true) (d14 : D 14 = true) (p1 : f 14 = gp g6) (p2 : w0.heap.size ≤ g6) (p3 : ¬ FT1 g6) (p4 : Lies w' g6 105 [.string q.key, .int .i64 q.s, .int .i64 q.e])
    (e12 : f 12 = Tmr.tv x) (hBk : ∀ i, Fp g m FT i ∨ Bk i → i < w0.heap.size) (v : Value) : JS g m tg cf S M n cnt fm FT Bk w0 mark (updD D 15) (updF f 15 v) (((w'.setCell ⟨g6, 0, none⟩ (.string x.key)).setCell ⟨g6, 1, none⟩ (.int .i64 x.s)).setCell ⟨g6, 2, none⟩ (.int .i64 x.e)) := by
  have G1 : w'.grownBy (((w'.setCell ⟨g6, 0, none⟩ (.string x.key)).setCell ⟨g6, 1, none⟩ (.int .i64 x.s)).setCell ⟨g6, 2, none⟩ (.int .i64 x.e)) (some g6) := grown_cells _ (grown_cells _ (grown_cells _ (grown_refl _ _)))
  have L1 := ((p4.put 0 (.string x.key)).put 1 (.int .i64 x.s)).put 2 (.int .i64 x.e)
  generalize ((w'.setCell ⟨g6, 0, none⟩ (.string x.key)).setCell ⟨g6, 1, none⟩ (.int .i64 x.s)).setCell ⟨g6, 2, none⟩ (.int .i64 x.e) = W at *
  have ng : ∀ i, (Fp g m FT i ∨ Bk i) → g6 ≠ i := fun i hi e => by have := hBk i hi; omega
  · refine ⟨b, x, n1, M1, FT1, hQ.beside G1 (ng _ (.inl (.inl rfl))) (ng _ (.inl (.inr (.inl rfl)))) p3 (fun h => ng _ (.inr h) rfl), ?_, by rw [updD_other _ (by decide)]; exact h10, by rw [updD_other _ (by decide)]; exact h10', ?_, ?_, ?_⟩
    · exact ⟨G1.os.trans hV.os, G1.tape.trans hV.tape, G1.output.trans hV.output, Nat.le_trans hV.size G1.size, fun i hi hn => (G1.block i (Nat.lt_of_lt_of_le hi hV.size) (fun e => by have := Option.some.inj e; omega)).trans (hV.block i hi hn), fun i hi => ⟨(hV.new i hi).1, Nat.lt_of_lt_of_le (hV.new i hi).2 G1.size⟩⟩
    · intro j hj
      by_cases e : j = 15
      · subst e; exact trivial
      · rw [updF_other _ _ e]; rw [updD_other _ e] at hj; exact hall j hj
    · intro j hj hDj
      have d10 : D 10 = true := (hdn 12 (by simp) d12).1
      exact ⟨by rw [updD_other _ (by decide)]; exact d10, fun _ => ⟨by rw [updD_other _ (by decide)]; exact d12, by rw [updD_other _ (by decide)]; exact d14⟩⟩
    · intro _
      exact ⟨g6, x, by rw [updF_other _ _ (by decide)]; exact p1, p2, p3, L1, fun _ => by rw [updF_other _ _ (by decide)]; exact e12⟩
end Grp
end Go.Proofs.YtemklcckhpchaaaGreat
