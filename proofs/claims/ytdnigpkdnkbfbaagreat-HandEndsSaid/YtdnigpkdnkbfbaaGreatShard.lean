/-
  A worker in memory: its config, its groups by numbers, its mailbox; contracts of shard's Box, Groups, have, settle, ask.
-/
import Derived.Test.YtdnigpkdnkbfbaaGreatShTake
import Derived.Test.YtdnigpkdnkbfbaaGreatShKeys
import Derived.Test.YtdnigpkdnkbfbaaGreatMdAll
namespace Go.Proofs.YtdnigpkdnkbfbaaGreat
open Go.ChangeShapes Go.WideShapes Go.ChangeAt Go.RowKit
set_option maxRecDepth 100000
set_option linter.unusedVariables false
namespace Sh
open Small Foot Pane Grp Ca

abbrev wcl (x : C8) (m bx : Nat) : List Value := [.int .i64 x.k, .int .i64 x.s, .int .i64 x.l, .int .i64 x.g, .int .i64 x.z, .int .i64 x.h, .int .i64 x.r, .int .i64 x.c, .map (some m), .pointer (some ⟨bx, 0, none⟩)]
/-- a worker at wk: its map at m, its mailbox at bx, whose list is bv; it has the groups p, and the messages L -/
structure Q (w : World) (wk m bx : Nat) (bv : Value) (cf : C8) (p : Int → Option Nat) (L : List Ms.M) : Prop where
  lies : Lies w wk 97 (wcl cf m bx)
  map : ∃ c, Mi w m p c
  box : Ms.Box w bx cf.c false bv L
  dom : ∀ x, p x ≠ none → 0 ≤ x ∧ x < 16
  n1 : wk ≠ m
  n2 : wk ≠ bx
  n3 : m ≠ bx
  n4 : bv.ownBlock ≠ some wk
  n5 : bv.ownBlock ≠ some m
/-- the blocks it is made of, its groups' aside -/
def WF (wk m bx : Nat) (bv : Value) : Nat → Prop := fun k => k = wk ∨ k = m ∨ k = bx ∨ bv.ownBlock = some k
def Is (w : World) (wk : Nat) (F : Nat → Prop) (cf : C8) (p : Int → Option Nat) (L : List Ms.M) : Prop :=
  ∃ m bx bv, Q w wk m bx bv cf p L ∧ ∀ k, F k ↔ WF wk m bx bv k
section
variable {w w' : World} {wk m bx : Nat} {bv : Value} {F G G' : Nat → Prop} {cf : C8} {p : Int → Option Nat} {L : List Ms.M}
theorem Q.keep (h : Q w wk m bx bv cf p L) (k : ∀ i, WF wk m bx bv i → w'.heap[i]? = w.heap[i]?) : Q w' wk m bx bv cf p L := by
  obtain ⟨c, hm⟩ := h.map
  exact ⟨(k wk (.inl rfl)).trans h.lies, ⟨c, hm.kept (k m (.inr (.inl rfl)))⟩, ⟨(k bx (.inr (.inr (.inl rfl)))).trans h.box.lies, h.box.own.move fun a ha => k a (.inr (.inr (.inr ha)))⟩, h.dom, h.n1, h.n2, h.n3, h.n4, h.n5⟩
theorem Q.in (h : Q w wk m bx bv cf p L) : In w (WF wk m bx bv) := fun k hk => by
  obtain ⟨c, hm⟩ := h.map
  rcases hk with rfl | rfl | rfl | hk
  · exact h.lies.lt
  · exact hm.lt
  · exact h.box.lies.lt
  · exact (h.box.own.lt k hk).2
theorem Is.in (h : Is w wk F cf p L) : In w F := by
  obtain ⟨m, bx, bv, q, hF⟩ := h
  exact fun k hk => q.in k ((hF k).1 hk)
theorem Is.keep (h : Is w wk F cf p L) (k : ∀ i, F i → w'.heap[i]? = w.heap[i]?) : Is w' wk F cf p L := by
  obtain ⟨m, bx, bv, q, hF⟩ := h
  exact ⟨m, bx, bv, q.keep (fun i hi => k i ((hF i).2 hi)), hF⟩
theorem Is.next (h : Is w wk F cf p L) (k : Below w.heap.size w w') : Is w' wk F cf p L := h.keep fun i hi => k.block i (h.in i hi)
theorem Is.beside (h : Is w wk F cf p L) (k : Moves G G' w w') (a : Apart F G) : Is w' wk F cf p L := h.keep fun i hi => k.block i (h.in i hi) (a i hi)
theorem Is.dom (h : Is w wk F cf p L) : ∀ x, p x ≠ none → 0 ≤ x ∧ x < 16 := by
  obtain ⟨m, bx, bv, q, hF⟩ := h
  exact q.dom
end
theorem wf_small {x : Int} (h : 0 ≤ x ∧ x < 16) : Wf x := wf_of (by omega) (by omega)

set_option maxHeartbeats 1600000 in
/-- its mailbox: what a Put leaves of the worker -/
theorem box_ok {wk : Nat} {F : Nat → Prop} {cf : C8} {p : Int → Option Nat} {L : List Ms.M} (w : World) (H : Hid (Is w wk F cf p L)) :
    Calls Tryz.prog 9 #[gp wk] w fun r w' => w = w' ∧ ∃ m bx bv, r = .returned (gp bx) ∧ Q w wk m bx bv cf p L ∧ F = WF wk m bx bv := by
  obtain ⟨m, bx, bv, q, hF⟩ := H.out
  have m9 := q.lies.cell (i := 9) rfl
  have HQ := Lib.hid q
  clear q
  go_enter Tryz.func9, Tryz.ntmps9
  go_wp2
  go_ret
  exact ⟨rfl, m, bx, bv, rfl, HQ.out, funext fun k => propext (hF k)⟩
/-- another list in the mailbox -/
theorem Q.boxed {w w' : World} {wk m bx : Nat} {bv bv' : Value} {cf : C8} {p : Int → Option Nat} {L L' : List Ms.M} (h : Q w wk m bx bv cf p L) (o : Ms.Box w' bx cf.c false bv' L') (k : Moves (Bx.Fp bx bv) (Bx.Fp bx bv') w w') :
    Q w' wk m bx bv' cf p L' ∧ Moves (WF wk m bx bv) (WF wk m bx bv') w w' := by
  obtain ⟨c, hm⟩ := h.map
  have nk : ∀ i, i < w.heap.size → i ≠ bx → bv.ownBlock ≠ some i → ¬ Bx.Fp bx bv i := fun i _ h1 h2 q => q.elim h1 h2
  have nk' : ∀ i, i < w.heap.size → i ≠ bx → bv.ownBlock ≠ some i → bv'.ownBlock ≠ some i := fun i hi h1 h2 q => by
    rcases (k.new i (.inr q)).1 with r | r
    · exact r.elim h1 h2
    · omega
  have l1 := h.lies.lt
  have l2 := hm.lt
  refine ⟨⟨(k.block _ l1 (nk _ l1 h.n2 h.n4)).trans h.lies, ⟨c, hm.kept (k.block _ l2 (nk _ l2 h.n3 h.n5))⟩, o, h.dom, h.n1, h.n2, h.n3, nk' _ l1 h.n2 h.n4, nk' _ l2 h.n3 h.n5⟩, k.os, k.tape, k.output, k.size, fun i hi hn => k.block i hi fun q => hn ?_, fun i hi => ?_⟩
  · rcases q with q | q
    · exact .inr (.inr (.inl q))
    · exact .inr (.inr (.inr q))
  · have up : ∀ j, j < w.heap.size → j < w'.heap.size := fun j hj => Nat.lt_of_lt_of_le hj k.size
    rcases hi with rfl | rfl | hi | hi
    · exact ⟨.inl (.inl rfl), up _ l1⟩
    · exact ⟨.inl (.inr (.inl rfl)), up _ l2⟩
    · have := k.new i (.inl hi)
      exact ⟨this.1.imp (fun q => .inr (.inr q)) id, this.2⟩
    · have := k.new i (.inr hi)
      exact ⟨this.1.imp (fun q => .inr (.inr q)) id, this.2⟩
/-- another map -/
theorem Q.mapped {w w' : World} {wk m bx : Nat} {bv : Value} {cf : C8} {p q : Int → Option Nat} {L : List Ms.M} {c' : Nat} (h : Q w wk m bx bv cf p L) (o : Mi w' m q c') (k : w.grownBy w' (some m)) (hd : ∀ x, q x ≠ none → 0 ≤ x ∧ x < 16) :
    Q w' wk m bx bv cf q L ∧ Moves (WF wk m bx bv) (WF wk m bx bv) w w' := by
  have ne : ∀ i, i ≠ m → some i ≠ some m := fun i hi e => hi (Option.some.inj e)
  refine ⟨⟨(k.block _ h.lies.lt (ne _ h.n1)).trans h.lies, ⟨_, o⟩, ⟨(k.block _ h.box.lies.lt (ne _ h.n3.symm)).trans h.box.lies, h.box.own.move fun a ha => k.block a (h.box.own.lt a ha).2 (ne _ fun e => h.n5 (e ▸ ha))⟩, hd, h.n1, h.n2, h.n3, h.n4, h.n5⟩, k.os, k.tape, k.output, k.size, fun i hi hn => k.block i hi fun e => hn (.inr (.inl (Option.some.inj e))), fun i hi => ⟨.inl hi, Nat.lt_of_lt_of_le (h.in i hi) k.size⟩⟩

set_option maxHeartbeats 1600000 in
theorem groups_ok {wk : Nat} {F : Nat → Prop} {cf : C8} {p : Int → Option Nat} {L : List Ms.M} (w : World) (H : Hid (Is w wk F cf p L)) :
    Calls Tryz.prog 21 #[gp wk] w fun r w' => ∃ v ks, r = .returned v ∧ KeysOf p ks ∧ Sl.Own Ik.k w.heap.size w' v ks ∧ Below w.heap.size w w' := by
  obtain ⟨m, bx, bv, q, hF⟩ := H.out
  obtain ⟨c, hm⟩ := q.map
  have hc := hm.small q.dom
  obtain ⟨D, hown, hsz, hD⟩ := hm
  have c8 := q.lies.cell (i := 8) rfl
  have HO := Lib.hid hown
  have HD := Lib.hid hD
  have dom := Lib.hid q.dom
  clear hown hD q
  go_enter Tryz.func21, Tryz.ntmps21
  go_wp2_with fail
  refine (KI.keys_call (some m) w).mono ?_
  rintro r w1 ⟨rfl, rfl⟩
  go_wp2_with fail
  refine (KI.sorted_call m c D RV w HO.out (by unfold maxLen; omega) (by omega)).mono ?_
  rintro r w2 ⟨v, ss, rfl, hp, hrow, -, hb⟩
  have FI := Lib.hid (keys_fin HO.out HD.out (fun x hx => wf_small (dom.out x hx)) hp)
  have RO : Hid (Sl.Own Ik.k w.heap.size w2 v (ss.mergeSort (fun x y => decide (x ≤ y)))) := Lib.hid (by
    have h := Gr.own_base (K := Ik.k) (L := ss.mergeSort (fun x y => decide (x ≤ y))) (base := (w.alloc (.cells #[.map (some m)] 95)).heap.size) (by unfold Sl.Own; rw [Ik.flat_enc, List.length_mergeSort]; exact hrow) (Below.size (below1 w (.cells #[.map (some m)] 95)))
    exact h)
  have BE := Lib.hid (after (below1 w (.cells #[.map (some m)] 95)) hb)
  clear hp hrow hb
  go_wp2
  go_ret
  exact ⟨v, _, rfl, FI.out, RO.out, BE.out⟩

theorem wpList_store {w : World} {ops : Array Oper} {rest : List Oper} {o : Oper} {a : Act} {Q : Exit → Act → World → Prop} (hg : o.guard = none) (mo xo vo : Operand) (hop : o.op = Op.mapUpdate 95 mo xo vo)
    {m c : Nat} {p : Int → Option Nat} {x : Int} (v : Nat) (hm : a.eval mo = .map (some m)) (hx : a.eval xo = .int .i64 x) (hv : a.eval vo = gp v) (h : Mi w m p c) (fx : Wf x) (hc : c ≤ 1048576) {q : Int → Option Nat} (hq : upd p x (some v) q)
    (hK : ∀ w' c', Mi w' m q c' → w.grownBy w' (some m) → wpList Tryz.prog ops Q rest (a.put o.dst undef) w') : wpList Tryz.prog ops Q (o :: rest) a w := by
  refine wpList_plain hg fun K' hK' => ?_
  obtain ⟨w', c', hrun, r1, -, r2⟩ := h.store fx v hc hq
  unfold Oper.wp
  simp [execOp, hop, hm, hx, hv, hrun, Result.andThen]
  exact hK' _ _ (hK w' c' r1 r2)
set_option maxHeartbeats 1600000 in
/-- a group, with its state, is had -/
theorem have_ok {wk : Nat} {F : Nat → Prop} {cf : C8} {p : Int → Option Nat} {L : List Ms.M} (x : Int) (s : Option Nat) (w : World) (H : Hid (Is w wk F cf p L)) (hx : 0 ≤ x ∧ x < 16) :
    Calls Tryz.prog 51 #[gp wk, .int .i64 x, Ms.stv s] w fun r w' => r = .returned (.tuple #[]) ∧ Is w' wk F cf (if s = none then p else updOf p x s) L ∧ Moves F F w w' := by
  cases s with
  | none =>
    go_enter Tryz.func51, Tryz.ntmps51
    go_wp2
    go_end0
    exact ⟨rfl, H.out, Moves.refl H.out.in⟩
  | some g =>
    obtain ⟨m, bx, bv, q, hF⟩ := H.out
    obtain rfl : F = WF wk m bx bv := funext fun k => propext (hF k)
    obtain ⟨c, hm⟩ := q.map
    have hc := hm.small q.dom
    have c8 := q.lies.cell (i := 8) rfl
    have HM := Lib.hid hm
    have HQ := Lib.hid q
    clear q hm hF H
    go_enter Tryz.func51, Tryz.ntmps51
    go_wp2_with (first
      | (at_mapUpdate; refine wpList_store rfl _ _ _ rfl g rfl rfl rfl HM.out (wf_small hx) (by omega) (updOf_ok p x (some g)) ?_; intro w1 c1 o1 k1)
      | fail)
    have R := Lib.hid (HQ.out.mapped o1 k1 fun y hy => by
      by_cases e : y = x
      · exact e ▸ hx
      · exact HQ.out.dom y (by simpa [updOf, e] using hy))
    clear o1 k1
    go_wp2
    go_end0
    exact ⟨rfl, ⟨m, bx, bv, R.out.1, fun _ => Iff.rfl⟩, R.out.2⟩
end Sh
end Go.Proofs.YtdnigpkdnkbfbaaGreat
