/-
  A group by its footprint: the blocks that it is made of; contracts of group's New, Settle, Take, Panes that say just what becomes of these.
-/
import Derived.Test.YtemklcckhpchaaaGreatGrpMath
import Derived.Test.YtemklcckhpchaaaGreatGrpPanes
import Derived.Test.YtemklcckhpchaaaGreatGrpNew
namespace Go.Proofs.YtemklcckhpchaaaGreat
open Go.ChangeShapes Go.WideShapes Go.ChangeAt Go.RowKit
namespace Gr
open Small Foot Pane Grp
set_option linter.unusedVariables false

/-- a group at g, made of the blocks F: its lists are S, of at most N records; it has n timers -/
def Is (w : World) (g : Nat) (F : Nat → Prop) (cf : C8) (S : Lists) (N n : Nat) : Prop :=
  ∃ m tg cnt fm FT Bk, Gq w g m tg cf S (duesOf S) n cnt fm FT Bk ∧ Ok cf.k S N ∧ n ≤ N ∧ cnt ≤ N ∧ (∀ k, F k ↔ (Fp g m FT k ∨ Bk k)) ∧ ∀ k, Bk k → k < w.heap.size
section
variable {w w' : World} {g m tg n cnt N N' : Nat} {cf : C8} {S : Lists} {M : Tmr.Tm → Prop} {f : ByteArray → Option Value} {FT Bk F : Nat → Prop}
theorem stay (h : Gq w g m tg cf S M n cnt f FT Bk) (kf : ∀ i, Fp g m FT i → w'.heap[i]? = w.heap[i]?) (kb : ∀ i, Bk i → w'.heap[i]? = w.heap[i]?) (s : w.heap.size ≤ w'.heap.size) : Gq w' g m tg cf S M n cnt f FT Bk := by
  refine ⟨(kf g (.inl rfl)).trans h.lies, h.map.kept (kf m (.inr (.inl rfl))), h.ts.keep (fun i hi => kf i (.inr (.inr hi))) s, h.ne, h.ng, h.nm, fun x => ?_⟩
  rcases h.lists x with q | ⟨q, v, b, q1, q2, q3, q4, q5, q6⟩
  · exact .inl q
  · exact .inr ⟨q, v, b, q1, q2.keep (kb b q6) s, q3, q4, q5, q6⟩
theorem Is.keep (h : Is w g F cf S N n) (k : ∀ i, F i → w'.heap[i]? = w.heap[i]?) (s : w.heap.size ≤ w'.heap.size) : Is w' g F cf S N n := by
  obtain ⟨m, tg, cnt, fm, FT, Bk, q, o, hn, hc, hF, hB⟩ := h
  exact ⟨m, tg, cnt, fm, FT, Bk, stay q (fun i hi => k i ((hF i).2 (.inl hi))) (fun i hi => k i ((hF i).2 (.inr hi))) s, o, hn, hc, hF, fun i hi => Nat.lt_of_lt_of_le (hB i hi) s⟩
theorem Is.in (h : Is w g F cf S N n) : In w F := by
  obtain ⟨m, tg, cnt, fm, FT, Bk, q, o, hn, hc, hF, hB⟩ := h
  intro k hk
  rcases (hF k).1 hk with r | r
  · exact q.in k r
  · exact hB k r
theorem Is.here (h : Is w g F cf S N n) : F g := by
  obtain ⟨m, tg, cnt, fm, FT, Bk, q, o, hn, hc, hF, hB⟩ := h
  exact (hF g).2 (.inl (.inl rfl))
theorem Is.lt (h : Is w g F cf S N n) : g < w.heap.size := h.in g h.here
theorem Is.next (h : Is w g F cf S N n) (k : Below w.heap.size w w') : Is w' g F cf S N n := h.keep (fun i hi => k.block i (h.in i hi)) k.size
theorem Is.beside {G G' : Nat → Prop} (h : Is w g F cf S N n) (k : Moves G G' w w') (a : Apart F G) : Is w' g F cf S N n := h.keep (fun i hi => k.block i (h.in i hi) (a i hi)) k.size
theorem Is.ok (h : Is w g F cf S N n) : Ok cf.k S N := by
  obtain ⟨m, tg, cnt, fm, FT, Bk, q, o, hn, hc, hF, hB⟩ := h
  exact o
theorem Is.few (h : Is w g F cf S N n) : n ≤ N := by
  obtain ⟨m, tg, cnt, fm, FT, Bk, q, o, hn, hc, hF, hB⟩ := h
  exact hn
theorem ok_more {k : Int} (h : Ok k S N) (hN : N ≤ N') : Ok k S N' := ⟨fun z => by obtain ⟨i, c, q⟩ := h.cnt z; exact ⟨i, c, by omega⟩, h.key, h.apart⟩
theorem Is.more (h : Is w g F cf S N n) (hN : N ≤ N') : Is w g F cf S N' n := by
  obtain ⟨m, tg, cnt, fm, FT, Bk, q, o, hn, hc, hF, hB⟩ := h
  exact ⟨m, tg, cnt, fm, FT, Bk, q, ok_more o hN, by omega, by omega, hF, hB⟩
theorem Is.fine (h : Is w g F cf S N n) (hN : N ≤ 8880) : Fine S := h.ok.fine (by omega)
/-- all panes' windows lie within 64 bits -/
theorem Is.ends (h : Is w g F cf S N n) {x : ByteArray} {p : Pn} (hp : p ∈ S x) : p.key.size ≤ maxLen ∧ (Lit.int .i64 p.s).wf = true ∧ (Lit.int .i64 p.e).wf = true := by
  obtain ⟨m, tg, cnt, fm, FT, Bk, q, o, hn, hc, hF, hB⟩ := h
  obtain ⟨m', r, hf, hr, t, v, p', q', hh, hm⟩ := q.ts
  have hk := o.key x p hp
  have hd : duesOf S (tmOf p) := ⟨p, by rw [show (tmOf p).key = x from hk]; exact hp, rfl, rfl⟩
  obtain ⟨k, hk', e⟩ := (hm _).1 hd
  have := q'.fits k hk'
  rw [e] at this
  exact this
theorem Is.grown {b : Nat} (h : Is w g F cf S N n) (k : w.grownBy w' (some b)) (hb : ¬ F b) : Is w' g F cf S N n := h.keep (fun i hi => k.block i (h.in i hi) fun e => hb (Option.some.inj e ▸ hi)) k.size
/-- what a call of the group leaves -/
theorem moves_te {sv : Value} {O : List Pn} {c n' cnt' : Nat} {S' : Lists} {f' : ByteArray → Option Value} {FT' Bk' F' : Nat → Prop} (t : TE w g m tg cf n cnt N FT Bk sv O c S' n' cnt' f' FT' Bk' w') (hF : ∀ k, F k ↔ (Fp g m FT k ∨ Bk k)) (hF' : ∀ k, F' k ↔ (Fp g m FT' k ∨ Bk' k)) : Moves F F' w w' :=
  ⟨t.v.os, t.v.tape, t.v.output, t.v.size, fun k hk hn => t.v.block k hk fun q => hn ((hF k).2 (.inl q)), fun k hk => by
    rcases (hF' k).1 hk with r | r
    · exact ⟨(t.v.new k r).1.elim (fun q => .inl ((hF k).2 (.inl q))) .inr, (t.v.new k r).2⟩
    · exact ⟨(t.bk k r).1.elim (fun q => .inl ((hF k).2 (.inr q))) .inr, (t.bk k r).2⟩⟩
end
theorem own_base {α : Type} {K : Kind α} {base base' : Nat} {w : World} {v : Value} {L : List α} (h : Sl.Own K base w v L) (hb : base' ≤ base) : Sl.Own K base' w v L := by
  refine ⟨h.1, ?_⟩
  rcases h.2 with h | ⟨g, cap, cur, h1, h2, h3⟩
  · exact .inl h
  · exact .inr ⟨g, cap, cur, h1, by omega, h3⟩
theorem own_grown {α : Type} {K : Kind α} {base b : Nat} {w w' : World} {v : Value} {L : List α} (h : Sl.Own K base w v L) (k : w.grownBy w' (some b)) (hb : b < base) : Sl.Own K base w' v L :=
  h.move fun a ha => k.block a (h.lt a ha).2 fun e => by have := (h.lt a ha).1; have := Option.some.inj e; omega
theorem dues_none (y : Tmr.Tm) : False ↔ duesOf (fun _ => []) y := ⟨fun h => h.elim, fun ⟨p, hp, _⟩ => by cases hp⟩
theorem ok_none (kind : Int) (N : Nat) : Ok kind (fun _ => []) N := ⟨fun x => ⟨0, Cnt.nil, Nat.zero_le _⟩, fun x p hp => (by cases hp), fun _ x => ⟨fun p hp => (by cases hp), List.Pairwise.nil⟩⟩
theorem over_none (late mark : Int) : NoneOver late mark (fun _ => []) := fun x q hq => by cases hq
/-- where none is over nothing goes out -/
theorem outs_none {late mark : Int} {S S' : Lists} {O : List Pn} (h : Outs late mark S O S') (hn : NoneOver late mark S) : O = [] ∧ S' = S := by
  induction h with
  | none => exact ⟨rfl, rfl⟩
  | @more O1 S1 p k h hp ho _ ih =>
    obtain ⟨-, rfl⟩ := ih
    exact absurd ho (hn _ p (List.mem_of_getElem? hp))
theorem over_more {late mark mark' : Int} {S : Lists} (h : NoneOver late mark' S) (hm : mark ≤ mark') : NoneOver late mark S := fun x q hq => by have := h x q hq; omega

theorem dued {w : World} {g m tg n cnt : Nat} {cf : C8} {S : Lists} {M M' : Tmr.Tm → Prop} {f : ByteArray → Option Value} {FT Bk : Nat → Prop} (h : Gq w g m tg cf S M n cnt f FT Bk) (e : ∀ y, M y ↔ M' y) : Gq w g m tg cf S M' n cnt f FT Bk :=
  ⟨h.lies, h.map, h.ts.congr e, h.ne, h.ng, h.nm, h.lists⟩

theorem new_ok (cf : C8) (w : World) (M : Hid (Asg.may cf.k cf.s cf.l cf.g cf.z cf.h cf.r cf.c)) (s1 : cf.s ≤ 9223372036854775807) :
    Calls Tryz.prog 18 #[cf.v] w fun r w' => ∃ g F, r = .returned (.tuple #[gp g, .nilIface]) ∧ Is w' g F cf (fun _ => []) 0 0 ∧ From w.heap.size F ∧ Below w.heap.size w w' := by
  refine (Grp.new_ok cf w M s1).mono ?_
  rintro r w1 ⟨g, m, tg, FT, rfl, Q, F, k⟩
  exact ⟨g, Fp g m FT, rfl, ⟨m, tg, 0, _, FT, _, dued Q dues_none, ok_none _ _, Nat.le_refl _, Nat.le_refl _, fun k => by simp, fun k h => h.elim⟩, F, k⟩

/-- what Settle leaves -/
def Settled (w : World) (g : Nat) (F : Nat → Prop) (cf : C8) (S : Lists) (N n : Nat) (mark : Int) (r : Ending) (w' : World) : Prop :=
  ∃ sv O S' n' F', r = .returned sv ∧ Outs cf.z mark S O S' ∧ NoneOver cf.z mark S' ∧ O.length + n' = n ∧ Is w' g F' cf S' N n' ∧ Moves F F' w w' ∧ Sl.Own Pn.k w.heap.size w' sv O ∧ ∀ b, sv.ownBlock = some b → ¬ F' b
theorem settle_ok {g N n : Nat} {cf : C8} {S : Lists} {F : Nat → Prop} (mark : Int) (w : World) (H : Hid (Is w g F cf S N n)) (hN : N ≤ 8880) (fz : Hid ((Lit.int .i64 cf.z).wf = true)) (fk : Hid ((Lit.int .i64 mark).wf = true)) :
    Calls Tryz.prog 37 #[gp g, .int .i64 mark] w (Settled w g F cf S N n mark) := by
  obtain ⟨m, tg, cnt, fm, FT, Bk, q, o, hn, hc, hF, hB⟩ := H.out
  refine (Grp.settle_ok mark w (Lib.hid q) (Lib.hid (o.fine (by omega))) (Lib.hid hB) (by omega) fz fk).mono ?_
  rintro r w1 ⟨sv, O, S1, n1, cnt1, f1, FT1, Bk1, rfl, Q1, NO⟩
  have te := Q1.te o
  exact ⟨sv, O, S1, n1, fun k => Fp g m FT1 k ∨ Bk1 k, rfl, Q1.outs, NO, Q1.len, ⟨m, tg, cnt1, f1, FT1, Bk1, te.q, te.ok, by have := Q1.len; omega, by have := Q1.cnt; omega, fun _ => Iff.rfl, fun k hk => (te.bk k hk).2⟩, moves_te te hF (fun _ => Iff.rfl), te.out, fun b hb q => q.elim (te.ap b hb).1 (te.ap b hb).2⟩

/-- what Take leaves -/
def Took (w : World) (g : Nat) (F : Nat → Prop) (cf : C8) (S : Lists) (N n : Nat) (key : ByteArray) (v mark : Int) (x : Option (Nat × Int × Int × Int)) (r : Ending) (w' : World) : Prop :=
  ∃ sv O S1 code c S' n' F', r = .returned (.tuple #[.int .i64 code, sv]) ∧ Outs cf.z mark S O S1 ∧ NoneOver cf.z mark S1 ∧ Taken cf.k key v cf.z mark x S1 code c S' ∧ n' ≤ n + c ∧ Is w' g F' cf S' (N + c) n' ∧ Moves F F' w w' ∧ Sl.Own Pn.k w.heap.size w' sv O ∧ ∀ b, sv.ownBlock = some b → ¬ F' b
theorem take_ok {g N n : Nat} {cf : C8} {S : Lists} {F : Nat → Prop} (key : ByteArray) (t v mark : Int) (x : Option (Nat × Int × Int × Int)) (w : World) (H : Hid (Is w g F cf S N n)) (hN : N ≤ 8880) (M : Hid (Asg.may cf.k cf.s cf.l cf.g cf.z cf.h cf.r cf.c)) (B : Hid (cf.s ≤ 9223372036854775807 ∧ cf.l ≤ 9223372036854775807 ∧ cf.g ≤ 9223372036854775807 ∧ cf.z ≤ 9223372036854775807))
    (ft : Hid ((Lit.int .i64 t).wf = true)) (fk : Hid ((Lit.int .i64 mark).wf = true)) (hk : key.size ≤ maxLen) (T : Hid (Asg.Told cf.k cf.s cf.l cf.g cf.z t x)) :
    Calls Tryz.prog 19 #[gp g, .string key, .int .i64 t, .int .i64 v, .int .i64 mark] w (Took w g F cf S N n key v mark x) := by
  obtain ⟨m, tg, cnt, fm, FT, Bk, q, o, hn, hc, hF, hB⟩ := H.out
  refine (Grp.take_ok key t v mark x w (Lib.hid q) (Lib.hid o) (by omega) (Lib.hid hB) (by omega) (by omega) M B ft fk hk T).mono ?_
  rintro r w1 ⟨sv, O, S1, code, c, S', n', cnt', f', FT', Bk', rfl, ho, hno, htk, te⟩
  exact ⟨sv, O, S1, code, c, S', n', fun k => Fp g m FT' k ∨ Bk' k, rfl, ho, hno, htk, te.n, ⟨m, tg, cnt', f', FT', Bk', te.q, te.ok, by have := te.n; omega, by have := te.cnt; omega, fun _ => Iff.rfl, fun k hk => (te.bk k hk).2⟩, moves_te te hF (fun _ => Iff.rfl), te.out, fun b hb q => q.elim (te.ap b hb).1 (te.ap b hb).2⟩
theorem panes_ok {g N n : Nat} {cf : C8} {S : Lists} {F : Nat → Prop} (x : ByteArray) (w : World) (H : Hid (Is w g F cf S N n)) (hN : N ≤ 8880) (hk : x.size ≤ maxLen) :
    Calls Tryz.prog 33 #[gp g, .string x] w fun r w' => ∃ v', r = .returned v' ∧ Sl.Own Pn.k w.heap.size w' v' (S x) ∧ Below w.heap.size w w' := by
  have F := H.out.fine hN
  obtain ⟨m, tg, cnt, fm, FT, Bk, q, o, hn, hc, hF, hB⟩ := H.out
  exact Grp.panes_ok x w (Lib.hid q) (F.few x) hk
/-- a record's windows are at most 16, and long -/
theorem told16 {cf : C8} {t : Int} {z : Option (Nat × Int × Int × Int)} (M : Asg.may cf.k cf.s cf.l cf.g cf.z cf.h cf.r cf.c) (t0 : -9223372036854775808 ≤ t) (s1 : cf.s ≤ 9223372036854775807) (g1 : cf.g ≤ 9223372036854775807) (T : Asg.Told cf.k cf.s cf.l cf.g cf.z t z) : ∀ nn a d l, z = some (nn, a, d, l) → nn ≤ 16 ∧ 1 ≤ l := fun nn a d l e => by
  subst e
  obtain ⟨h1, -, h2, -⟩ := told_fits M t0 s1 g1 T
  exact ⟨h1, h2⟩
theorem tk_none {kind v late mark a d l : Int} {key : ByteArray} {S S' : Lists} {i c : Nat} (t : Tk kind key v late mark a d l S i c S') (h : c = 0) : S' = S := by
  induction t with
  | zero => rfl
  | over _ _ ih => exact ih h
  | put _ _ _ _ => omega
theorem taken16 {kind v late mark code : Int} {key : ByteArray} {z : Option (Nat × Int × Int × Int)} {S S' : Lists} {c : Nat} (h : Taken kind key v late mark z S code c S') (hz : ∀ nn a d l, z = some (nn, a, d, l) → nn ≤ 16 ∧ 1 ≤ l) : c ≤ 16 ∧ (code = 0 ∨ code = 1 ∨ code = 4) ∧ (code ≠ 0 → S' = S) := by
  cases z with
  | none => obtain ⟨rfl, rfl, rfl⟩ := h; exact ⟨by omega, by omega, fun _ => rfl⟩
  | some y =>
    obtain ⟨nn, a, d, l⟩ := y
    obtain ⟨h1, h2⟩ := hz nn a d l rfl
    obtain ⟨tk, hc⟩ := h
    have hle := tk.le
    refine ⟨by omega, by rw [hc]; split <;> simp, fun h0 => ?_⟩
    have c0 : c = 0 := by
      by_cases e : c = 0
      · exact e
      · rw [if_neg e] at hc; exact absurd hc h0
    exact tk_none tk c0
/-- what isn't over isn't with what was taken either -/
theorem taken_over {kind v late mark code : Int} {key : ByteArray} {z : Option (Nat × Int × Int × Int)} {S S' : Lists} {c N : Nat} (h : Taken kind key v late mark z S code c S') (hz : ∀ nn a d l, z = some (nn, a, d, l) → nn ≤ 16 ∧ 1 ≤ l) (O : Ok kind S N) (hN : N ≤ 8880) (hn : NoneOver late mark S) : NoneOver late mark S' := by
  cases z with
  | none => obtain ⟨-, -, rfl⟩ := h; exact hn
  | some y =>
    obtain ⟨nn, a, d, l⟩ := y
    obtain ⟨h1, h2⟩ := hz nn a d l rfl
    exact h.1.noneOver O h2 (by omega) hn
end Gr
end Go.Proofs.YtemklcckhpchaaaGreat
