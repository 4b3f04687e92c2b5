/-
  Contracts of package timer by footprints, one for each function.
-/
import Derived.Test.YtomoophjcgahlaaTmrApi
import Derived.Test.YtomoophjcgahlaaFoot
namespace Go.Proofs.Ytomoophjcgahlaa
open Go.ChangeShapes Go.WideShapes Go.ChangeAt Go.RowKit
namespace Tmr
open Small Foot
set_option linter.unusedVariables false

/-- the timers at g are n, just those of which M holds; they are made of the blocks F -/
def Ts (w : World) (g n : Nat) (M : Tm → Prop) (F : Nat → Prop) : Prop := ∃ m r, (∀ k, F k ↔ k = g ∨ k = m ∨ k = r) ∧ r < w.heap.size ∧ Tim w g m r n M

section
variable {w w' : World} {g m r n : Nat} {M M' : Tm → Prop} {F F' G : Nat → Prop} {f : Nat → Tm} {v : Value} {p : Tm → Option Nat}
theorem Qu.elsewhere (h : Qu w g m r f n v p) (e : v.ownBlock = none) (r' : Nat) : Qu w g m r' f n v p := ⟨h.lies, h.row, .inl e, h.map, h.place, h.fits, h.few⟩
theorem Ts.in (h : Ts w g n M F) : In w F := fun k hk => by
  obtain ⟨m, r, hf, hr, f, v, p, q, _⟩ := h
  rcases (hf k).1 hk with rfl | rfl | rfl
  · exact q.lies.lt
  · exact q.map.lt
  · exact hr
theorem Ts.at (h : Ts w g n M F) : F g := by
  obtain ⟨m, r, hf, _⟩ := h
  exact (hf g).2 (.inl rfl)
theorem Ts.congr (h : Ts w g n M F) (e : ∀ y, M y ↔ M' y) : Ts w g n M' F := by
  obtain ⟨m, r, hf, hr, f, v, p, q, hh, hm⟩ := h
  exact ⟨m, r, hf, hr, f, v, p, q, hh, fun y => (e y).symm.trans (hm y)⟩
theorem Ts.keep (h : Ts w g n M F) (k : ∀ i, F i → w'.heap[i]? = w.heap[i]?) (s : w.heap.size ≤ w'.heap.size) : Ts w' g n M F := by
  obtain ⟨m, r, hf, hr, f, v, p, q, hh, hm⟩ := h
  exact ⟨m, r, hf, by omega, f, v, p, q.keep (k _ ((hf _).2 (.inl rfl))) (k _ ((hf _).2 (.inr (.inl rfl)))) (fun _ => k _ ((hf _).2 (.inr (.inr rfl)))), hh, hm⟩
theorem Ts.next (h : Ts w g n M F) (k : Below w.heap.size w w') : Ts w' g n M F := h.keep (fun i hi => k.block i (h.in i hi)) k.size
theorem Ts.moved (h : Ts w g n M F) (k : Moves G F' w w') (a : Apart G F) : Ts w' g n M F := h.keep (k.kept a h.in) k.size
theorem Ts.few (h : Ts w g n M F) : n ≤ 1048576 := by
  obtain ⟨m, r, hf, hr, f, v, p, q, hh, hm⟩ := h
  exact q.few
theorem Ts.fits (h : Ts w g n M F) {x : Tm} (hx : M x) : Fits x := by
  obtain ⟨m, r, hf, hr, t⟩ := h
  exact t.fits hx
theorem Ts.none_ (h : Ts w g 0 M F) (x : Tm) : ¬ M x := fun hx => by
  obtain ⟨m, r, hf, hr, f, v, p, q, hh, hm⟩ := h
  obtain ⟨k, hk, _⟩ := (hm x).1 hx
  omega
theorem Ts.least (h : Ts w g n M F) (hn : 0 < n) : ∃ x, IsLeast M x := by
  obtain ⟨m, r, hf, hr, f, v, p, q, hh, hm⟩ := h
  obtain ⟨k, rfl⟩ : ∃ k, n = k + 1 := ⟨n - 1, by omega⟩
  exact ⟨f 0, Tim.least (w := w) (g := g) (m := m) (r := r) hh hm⟩
theorem Ts.of_turns {n' : Nat} {m r : Nat} (hf : ∀ k, F k ↔ k = g ∨ k = m ∨ k = r) (hr : r < w.heap.size) (h : Turns g m r n' M' w w') : ∃ F', Ts w' g n' M' F' ∧ Moves F F' w w' := by
  obtain ⟨r', ⟨f, v, p, q, hh, hm⟩, V, hr'⟩ := h
  have blk : ∀ k, k < w.heap.size → ¬ F k → w'.heap[k]? = w.heap[k]? := fun k hk hn => V.block k hk (fun e => hn ((hf k).2 (.inl e))) (fun e => hn ((hf k).2 (.inr (.inl e)))) (fun e => hn ((hf k).2 (.inr (.inr e))))
  rcases q.at_ with e | e
  · exact ⟨fun k => k = g ∨ k = m ∨ k = g, ⟨m, g, fun k => Iff.rfl, q.lies.lt, f, v, p, q.elsewhere e g, hh, hm⟩, ⟨V.os, V.tape, V.output, V.size, blk, fun k hk => ⟨.inl ((hf k).2 (by omega)), by
      rcases hk with rfl | rfl | rfl
      · exact q.lies.lt
      · exact q.map.lt
      · exact q.lies.lt⟩⟩⟩
  · have rl := q.lt_r e
    exact ⟨fun k => k = g ∨ k = m ∨ k = r', ⟨m, r', fun k => Iff.rfl, rl, f, v, p, q, hh, hm⟩, ⟨V.os, V.tape, V.output, V.size, blk, fun k hk => ⟨by
      rcases hk with rfl | rfl | rfl
      · exact .inl ((hf _).2 (.inl rfl))
      · exact .inl ((hf _).2 (.inr (.inl rfl)))
      · rcases hr' with rfl | h
        · exact .inl ((hf _).2 (.inr (.inr rfl)))
        · exact .inr h, by
      rcases hk with rfl | rfl | rfl
      · exact q.lies.lt
      · exact q.map.lt
      · exact rl⟩⟩⟩
end

theorem new_foot (w : World) : Calls Try.prog 6 #[] w fun e w' => ∃ g F, e = .returned (tp g) ∧ Ts w' g 0 (fun _ => False) F ∧ From w.heap.size F ∧ Below w.heap.size w w' := by
  refine (new_ok w).mono ?_
  rintro e w' ⟨g, m, rfl, t, k, hg, hm⟩
  refine ⟨g, _, rfl, ⟨m, g, fun k => Iff.rfl, ?_, t⟩, fun k hk => ?_, k⟩
  · obtain ⟨f, v, p, q, _⟩ := t; exact q.lies.lt
  · omega

/-- what Put does -/
theorem put_foot {g n : Nat} {M : Tm → Prop} {F : Nat → Prop} (w : World) (x : Tm) (H : Hid (Ts w g n M F)) (fx : Hid (Fits x)) (hn : n < 1048576) :
    Calls Try.prog 9 #[tp g, tv x] w fun e w' => ∃ b n' F', e = .returned (.bool b) ∧ (b = true ↔ ¬ M x) ∧ n' = (if b then n + 1 else n) ∧ Ts w' g n' (fun y => y = x ∨ M y) F' ∧ Moves F F' w w' := by
  obtain ⟨m, r, hf, hr, t⟩ := H.out
  by_cases hx : M x
  · refine (put_old w x (Lib.hid t) (Lib.hid hx)).mono ?_
    rintro e w' ⟨rfl, tt⟩
    obtain ⟨F', T, V⟩ := Ts.of_turns hf hr tt
    exact ⟨false, n, F', rfl, by simp [hx], rfl, T.congr (fun y => ⟨.inr, fun h => by rcases h with rfl | h; exact hx; exact h⟩), V⟩
  · refine (put_new w x (Lib.hid t) (Lib.hid hx) fx hn).mono ?_
    rintro e w' ⟨rfl, tt⟩
    obtain ⟨F', T, V⟩ := Ts.of_turns hf hr tt
    exact ⟨true, n + 1, F', rfl, by simp [hx], rfl, T, V⟩

/-- what Drop does -/
theorem drop_foot {g n : Nat} {M : Tm → Prop} {F : Nat → Prop} (w : World) (x : Tm) (H : Hid (Ts w g n M F)) (fx : Hid (Fits x)) :
    Calls Try.prog 10 #[tp g, tv x] w fun e w' => ∃ b n' F', e = .returned (.bool b) ∧ (b = true ↔ M x) ∧ n = (if b then n' + 1 else n') ∧ Ts w' g n' (fun y => y ≠ x ∧ M y) F' ∧ Moves F F' w w' := by
  obtain ⟨m, r, hf, hr, t⟩ := H.out
  by_cases hx : M x
  · obtain ⟨k, rfl⟩ : ∃ k, n = k + 1 := by
      obtain ⟨f, v, p, q, hh, hm⟩ := t
      obtain ⟨i, hi, _⟩ := (hm x).1 hx
      exact ⟨n - 1, by omega⟩
    refine (drop_there w x (Lib.hid t) (Lib.hid hx)).mono ?_
    rintro e w' ⟨rfl, tt⟩
    obtain ⟨F', T, V⟩ := Ts.of_turns hf hr tt
    exact ⟨true, k, F', rfl, by simp [hx], rfl, T, V⟩
  · refine (drop_not w x (Lib.hid t) (Lib.hid hx) fx).mono ?_
    rintro e w' ⟨rfl, tt⟩
    obtain ⟨F', T, V⟩ := Ts.of_turns hf hr tt
    exact ⟨false, n, F', rfl, by simp [hx], rfl, T.congr (fun y => ⟨fun h => ⟨fun e => hx (e ▸ h), h⟩, fun h => h.2⟩), V⟩

/-- what Next tells -/
theorem next_foot {g n : Nat} {M : Tm → Prop} {F : Nat → Prop} (w : World) (H : Hid (Ts w g n M F)) :
    Calls Try.prog 13 #[tp g] w fun e w' => (∃ b x, e = .returned (.tuple #[tv x, .bool b]) ∧ (b = true ∧ 0 < n ∧ IsLeast M x ∨ b = false ∧ n = 0 ∧ x = ⟨⟨#[]⟩, 0, 0⟩)) ∧ Below w.heap.size w w' := by
  obtain ⟨m, r, hf, hr, t⟩ := H.out
  match n, H, t with
  | 0, H, t =>
    refine (next_none w (Lib.hid t)).mono ?_
    rintro e w' ⟨rfl, k⟩
    exact ⟨⟨false, _, rfl, .inr ⟨rfl, rfl, rfl⟩⟩, k⟩
  | n + 1, H, t =>
    obtain ⟨x, hx⟩ := H.out.least (by omega)
    refine (next_some w (Lib.hid t) (Lib.hid hx)).mono ?_
    rintro e w' ⟨rfl, k⟩
    exact ⟨⟨true, x, rfl, .inl ⟨rfl, by omega, hx⟩⟩, k⟩

/-- what Pop tells, and does -/
def Pops (late mark : Int) (n : Nat) (M : Tm → Prop) (b : Bool) (x : Tm) (n' : Nat) (M' : Tm → Prop) : Prop :=
  b = true ∧ IsLeast M x ∧ x.e + late ≤ mark ∧ n = n' + 1 ∧ (∀ y, M' y ↔ y ≠ x ∧ M y) ∨ b = false ∧ x = ⟨⟨#[]⟩, 0, 0⟩ ∧ n' = n ∧ (∀ y, IsLeast M y → ¬ y.e + late ≤ mark) ∧ M' = M
theorem pop_foot {g n : Nat} {M : Tm → Prop} {F : Nat → Prop} {late mark : Int} (w : World) (H : Hid (Ts w g n M F)) (hl : Hid ((Lit.int .i64 late).wf = true)) (hm : Hid ((Lit.int .i64 mark).wf = true)) :
    Calls Try.prog 11 #[tp g, .int .i64 late, .int .i64 mark] w fun e w' => ∃ b x n' M' F', e = .returned (.tuple #[tv x, .bool b]) ∧ Pops late mark n M b x n' M' ∧ Ts w' g n' M' F' ∧ Moves F F' w w' := by
  obtain ⟨m, r, hf, hr, t⟩ := H.out
  match n, H, t with
  | 0, H, t =>
    refine (pop_none w (Lib.hid t)).mono ?_
    rintro e w' ⟨rfl, k⟩
    exact ⟨false, _, 0, M, F, rfl, .inr ⟨rfl, rfl, rfl, fun y hy => absurd hy.1 (H.out.none_ y), rfl⟩, H.out.next k, Moves.of_below k H.out.in⟩
  | n + 1, H, t =>
    obtain ⟨x, hx⟩ := H.out.least (by omega)
    by_cases ho : x.e + late ≤ mark
    · refine (pop_some w (Lib.hid t) (Lib.hid hx) hl hm (Lib.hid ho)).mono ?_
      rintro e w' ⟨rfl, tt⟩
      obtain ⟨F', T, V⟩ := Ts.of_turns hf hr tt
      exact ⟨true, x, n, _, F', rfl, .inl ⟨rfl, hx, ho, rfl, fun y => Iff.rfl⟩, T, V⟩
    · refine (pop_not w (Lib.hid t) (Lib.hid hx) hl hm (Lib.hid ho)).mono ?_
      rintro e w' ⟨rfl, k⟩
      exact ⟨false, _, n + 1, M, F, rfl, .inr ⟨rfl, rfl, rfl, fun y hy => by rw [hy.one hx]; exact ho, rfl⟩, H.out.next k, Moves.of_below k H.out.in⟩

theorem len_foot {g n : Nat} {M : Tm → Prop} {F : Nat → Prop} (w : World) (H : Hid (Ts w g n M F)) :
    Calls Try.prog 14 #[tp g] w fun e w' => e = .returned (.int .i64 n) ∧ w = w' := by
  obtain ⟨m, r, hf, hr, t⟩ := H.out
  exact tlen_ok w (Lib.hid t)
end Tmr
end Go.Proofs.Ytomoophjcgahlaa
