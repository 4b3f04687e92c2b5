/-
  The document's own group (easelref06.Group) by its footprint; contracts of its Settle, Take, Panes; both groups side by side tell the same.
-/
import Derived.Test.YtmklkiklegkioaaGreatRgAll
import Derived.Test.YtmklkiklegkioaaGreatGrAll
namespace Go.Proofs.YtmklkiklegkioaaGreat
open Go.ChangeShapes Go.WideShapes Go.ChangeAt Go.RowKit
namespace Rr
open Small Foot Pane Grp Rg
set_option linter.unusedVariables false

/-- the document's group at g, made of the blocks F: its list is R -/
def Is (w : World) (g : Nat) (F : Nat → Prop) (cf : C8) (R : List Pn) : Prop := ∃ lv b, Rg.Rg w g cf lv R b ∧ b < w.heap.size ∧ ∀ k, F k ↔ (k = g ∨ k = b)
section
variable {w w' : World} {g b : Nat} {cf : C8} {R R' : List Pn} {F : Nat → Prop} {lv lv' : Value}
/-- the block of its list, or its own -/
theorem of_rg (h : Rg.Rg w g cf lv R b) : ∃ b2, Rg.Rg w g cf lv R b2 ∧ b2 < w.heap.size ∧ (b2 = g ∨ b2 = b) := by
  rcases h.list with ⟨h1, h2⟩ | ⟨off, cap, h1, h2, h3, h4, h5⟩
  · exact ⟨g, ⟨h.lies, .inl ⟨h1, h2⟩, fun q => absurd h2 q⟩, h.lies.lt, .inl rfl⟩
  · exact ⟨b, h, h4, .inr rfl⟩
theorem Is.keep (h : Is w g F cf R) (k : ∀ i, F i → w'.heap[i]? = w.heap[i]?) (s : w.heap.size ≤ w'.heap.size) : Is w' g F cf R := by
  obtain ⟨lv, b, h, hb, hF⟩ := h
  exact ⟨lv, b, ⟨(k g ((hF g).2 (.inl rfl))).trans h.lies, h.list.keep (k b ((hF b).2 (.inr rfl))) s, h.ne⟩, Nat.lt_of_lt_of_le hb s, hF⟩
theorem Is.in (h : Is w g F cf R) : In w F := by
  obtain ⟨lv, b, h, hb, hF⟩ := h
  intro k hk
  rcases (hF k).1 hk with rfl | rfl
  · exact h.lies.lt
  · exact hb
theorem Is.here (h : Is w g F cf R) : F g := by
  obtain ⟨lv, b, h, hb, hF⟩ := h
  exact (hF g).2 (.inl rfl)
theorem Is.lt (h : Is w g F cf R) : g < w.heap.size := h.in g h.here
theorem Is.next (h : Is w g F cf R) (k : Below w.heap.size w w') : Is w' g F cf R := h.keep (fun i hi => k.block i (h.in i hi)) k.size
theorem Is.beside {G G' : Nat → Prop} (h : Is w g F cf R) (k : Moves G G' w w') (a : Apart F G) : Is w' g F cf R := h.keep (fun i hi => k.block i (h.in i hi) (a i hi)) k.size
/-- what a call leaves -/
theorem Is.went {b' : Nat} (hg : g < w.heap.size) (hF : ∀ k, F k ↔ (k = g ∨ k = b)) (k : w.grownBy w' (some g)) (r : Rg.Rg w' g cf lv' R' b') (fr : b' = b ∨ w.heap.size ≤ b') : ∃ F', Is w' g F' cf R' ∧ Moves F F' w w' := by
  obtain ⟨b2, r2, hb2, e⟩ := of_rg r
  refine ⟨fun i => i = g ∨ i = b2, ⟨lv', b2, r2, hb2, fun _ => Iff.rfl⟩, k.os, k.tape, k.output, k.size, fun i hi hn => k.block i hi fun q => hn ((hF i).2 (.inl (Option.some.inj q))), fun i hi => ?_⟩
  rcases hi with rfl | rfl
  · exact ⟨.inl ((hF i).2 (.inl rfl)), Nat.lt_of_lt_of_le hg k.size⟩
  · refine ⟨?_, hb2⟩
    rcases e with rfl | rfl
    · exact .inl ((hF i).2 (.inl rfl))
    · rcases fr with rfl | q
      · exact .inl ((hF i).2 (.inr rfl))
      · exact .inr q
end

/-- what Settle leaves -/
def Settled (w : World) (g : Nat) (F : Nat → Prop) (cf : C8) (R : List Pn) (mark : Int) (r : Ending) (w' : World) : Prop :=
  ∃ sv O R' F', r = .returned sv ∧ ROuts cf.z mark R O R' ∧ (∀ q, q ∈ R' → ¬ q.e + cf.z ≤ mark) ∧ O.length + R'.length = R.length ∧ Is w' g F' cf R' ∧ Moves F F' w w' ∧ Sl.Own Pn.k w.heap.size w' sv O
theorem settle_ok {g : Nat} {cf : C8} {R : List Pn} {F : Nat → Prop} (mark : Int) (w : World) (H : Hid (Is w g F cf R)) (hn : R.length ≤ 10000) (fz : Hid ((Lit.int .i64 cf.z).wf = true)) (fk : Hid ((Lit.int .i64 mark).wf = true)) (fe : Hid (∀ p ∈ R, (Lit.int .i64 p.e).wf = true)) :
    Calls Tryz.prog 13 #[gp g, .int .i64 mark] w (Settled w g F cf R mark) := by
  obtain ⟨lv, b, h, hb, hF⟩ := H.out
  refine (Rg.settle_ok g cf lv R b mark w (Lib.hid h) hn fz fk fe).mono ?_
  rintro r w1 ⟨sv, O, R1, lv1, b1, rfl, ho, hno, out1, rg1, gr1, hlen, fr1⟩
  obtain ⟨F', i, m⟩ := Is.went h.lies.lt hF gr1 rg1 fr1
  exact ⟨sv, O, R1, F', rfl, ho, hno, hlen, i, m, out1⟩
/-- what Take leaves -/
def Took (w : World) (g : Nat) (F : Nat → Prop) (cf : C8) (R : List Pn) (key : ByteArray) (v mark : Int) (x : Option (Nat × Int × Int × Int)) (r : Ending) (w' : World) : Prop :=
  ∃ sv O R1 code R' F', r = .returned (.tuple #[.int .i64 code, sv]) ∧ ROuts cf.z mark R O R1 ∧ (∀ q, q ∈ R1 → ¬ q.e + cf.z ≤ mark) ∧ RTaken cf.k key v cf.z mark x R1 code R' ∧ O.length + R1.length = R.length ∧ Is w' g F' cf R' ∧ Moves F F' w w' ∧ Sl.Own Pn.k w.heap.size w' sv O
theorem take_ok {g : Nat} {cf : C8} {R : List Pn} {F : Nat → Prop} (key : ByteArray) (t v mark : Int) (x : Option (Nat × Int × Int × Int)) (w : World) (H : Hid (Is w g F cf R)) (hn : R.length ≤ 9000) (M : Hid (Asg.may cf.k cf.s cf.l cf.g cf.z cf.h cf.r cf.c)) (B : Hid (cf.s ≤ 9223372036854775807 ∧ cf.l ≤ 9223372036854775807 ∧ cf.g ≤ 9223372036854775807 ∧ cf.z ≤ 9223372036854775807))
    (ft : Hid ((Lit.int .i64 t).wf = true)) (fk : Hid ((Lit.int .i64 mark).wf = true)) (fe : Hid (∀ p ∈ R, (Lit.int .i64 p.e).wf = true)) (T : Hid (Asg.Told cf.k cf.s cf.l cf.g cf.z t x)) :
    Calls Tryz.prog 25 #[gp g, .string key, .int .i64 t, .int .i64 v, .int .i64 mark] w (Took w g F cf R key v mark x) := by
  obtain ⟨lv, b, h, hb, hF⟩ := H.out
  refine (Rg.take_ok g cf lv R b key t v mark x w (Lib.hid h) hn M B ft fk fe T).mono ?_
  rintro r w1 ⟨sv, O, R1, R', u, b', code, rfl, ro, rno, rtk, rt, hlen⟩
  obtain ⟨F', i, m⟩ := Is.went h.lies.lt hF rt.grown rt.rg rt.fr
  exact ⟨sv, O, R1, code, R', F', rfl, ro, rno, rtk, hlen, i, m, rt.out⟩
theorem panes_ok {g : Nat} {cf : C8} {R : List Pn} {F : Nat → Prop} {S : Lists} (key : ByteArray) (w : World) (H : Hid (Is w g F cf R)) (hn : R.length ≤ 10000) (rp : Hid (Rep S R)) (FS : Hid (Fine S)) :
    Calls Tryz.prog 26 #[gp g, .string key] w fun r w' => ∃ v, r = .returned v ∧ Sl.Own Pn.k w.heap.size w' v (S key) ∧ Below w.heap.size w w' := by
  obtain ⟨lv, b, h, hb, hF⟩ := H.out
  refine (Rg.panes_ok g cf lv R b key w (Lib.hid h) hn (Lib.hid (rp.out.apart FS.out key))).mono ?_
  rintro r w1 ⟨v, P, rfl, h1, h2, h3, h4⟩
  obtain rfl := rp.out.panes FS.out h1 h2
  exact ⟨v, rfl, h3, h4⟩
/-- a key's panes, whatever they stand for -/
theorem panesR_ok {g : Nat} {cf : C8} {R : List Pn} {F : Nat → Prop} (key : ByteArray) (w : World) (H : Hid (Is w g F cf R)) (hn : R.length ≤ 10000) (D : Hid ((ofKey key R).Pairwise fun p q => ¬ Eq2 p q.s q.e)) :
    Calls Tryz.prog 26 #[gp g, .string key] w fun r w' => ∃ v P, r = .returned v ∧ P.Perm (ofKey key R) ∧ Rises P ∧ Sl.Own Pn.k w.heap.size w' v P ∧ Below w.heap.size w w' := by
  obtain ⟨lv, b, h, hb, hF⟩ := H.out
  exact Rg.panes_ok g cf lv R b key w (Lib.hid h) hn D
theorem routs_sub {late mark : Int} {R R' O : List Pn} (h : ROuts late mark R O R') : R'.Sublist R := by
  induction h with
  | none => exact List.Sublist.refl _
  | @more O R1 p k _ hp _ _ ih =>
    refine List.Sublist.trans ?_ ih
    have e := Grp.split_at hp
    conv => rhs; rw [e]
    exact List.Sublist.append_left (List.sublist_cons_self _ _) _
theorem routs_apart {late mark : Int} {R R' O : List Pn} {key : ByteArray} (h : ROuts late mark R O R') (D : (ofKey key R).Pairwise fun p q => ¬ Eq2 p q.s q.e) : (ofKey key R').Pairwise fun p q => ¬ Eq2 p q.s q.e :=
  D.sublist ((routs_sub h).filter _)
theorem routs_none {late mark : Int} {R R' O : List Pn} (h : ROuts late mark R O R') (hn : ∀ q, q ∈ R → ¬ q.e + late ≤ mark) : O = [] ∧ R' = R := by
  induction h with
  | none => exact ⟨rfl, rfl⟩
  | @more O1 R1 p k h hp ho _ ih =>
    obtain ⟨-, rfl⟩ := ih
    exact absurd ho (hn p (List.mem_of_getElem? hp))
theorem Is.grown {w w' : World} {g b : Nat} {cf : C8} {R : List Pn} {F : Nat → Prop} (h : Is w g F cf R) (k : w.grownBy w' (some b)) (hb : ¬ F b) : Is w' g F cf R := h.keep (fun i hi => k.block i (h.in i hi) fun e => hb (Option.some.inj e ▸ hi)) k.size
theorem rep_none : Rep (fun _ => []) [] := fun x => List.Perm.refl _
/-- all of the document's windows lie within 64 bits -/
theorem ends {w : World} {g N n : Nat} {F : Nat → Prop} {cf : C8} {S : Lists} {R : List Pn} (h : Rep S R) (H : Gr.Is w g F cf S N n) : ∀ p ∈ R, (Lit.int .i64 p.e).wf = true := fun p hp => (H.ends (h.mem.1 hp)).2.2
/-- there are as many as timers -/
theorem count {w : World} {g N n : Nat} {F : Nat → Prop} {cf : C8} {S : Lists} {R : List Pn} (h : Rep S R) (H : Gr.Is w g F cf S N n) (hN : N ≤ 8880) : n = R.length := by
  have F := H.fine hN
  obtain ⟨m, tg, cnt, fm, FT, Bk, q, -⟩ := H
  exact h.count q F
/-- both take a record: one code, one list is told -/
theorem taken_both {kind v late mark code code' : Int} {key : ByteArray} {z : Option (Nat × Int × Int × Int)} {S S1 S' : Lists} {R R1 R' O O' : List Pn} {c N : Nat} (rp : Rep S R) (ok : Ok kind S N) (hN : N ≤ 8880) (ho : Outs late mark S O S1) (hno : NoneOver late mark S1) (htk : Taken kind key v late mark z S1 code c S')
    (ro : ROuts late mark R O' R1) (rno : ∀ q, q ∈ R1 → ¬ q.e + late ≤ mark) (rtk : RTaken kind key v late mark z R1 code' R') (hz : ∀ nn a d l, z = some (nn, a, d, l) → nn ≤ 16 ∧ 1 ≤ l) : O = O' ∧ code = code' ∧ Rep S' R' := by
  obtain ⟨rfl, rp1⟩ := settled rp (ok.fine (by omega)) ho ro hno rno
  have ok1 := ok.outs ho
  cases z with
  | none =>
    obtain ⟨rfl, rfl, rfl⟩ := htk
    obtain ⟨rfl, rfl⟩ := rtk
    exact ⟨rfl, rfl, rp1⟩
  | some y =>
    obtain ⟨nn, a, d, l⟩ := y
    obtain ⟨h1, h2⟩ := hz nn a d l rfl
    obtain ⟨tk, rfl⟩ := htk
    obtain ⟨rfl, rfl⟩ := rtk
    have hl := tk.live
    have hle := tk.le
    exact ⟨rfl, by rw [hl], rp1.taken ok1 h2 nn (by omega) tk⟩
end Rr
end Go.Proofs.YtmklkiklegkioaaGreat
