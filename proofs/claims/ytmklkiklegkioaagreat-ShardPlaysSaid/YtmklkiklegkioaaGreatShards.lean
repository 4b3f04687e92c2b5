/-
  A worker in memory: its config, its groups by numbers, its mailbox; contracts of shard's Box, Groups, have, settle, ask.
  A worker's groups, side by side; contract of shard's settle: all its groups are settled, by rising numbers.
-/
import Derived.Test.YtmklkiklegkioaaGreatShMsgs
import Derived.Test.YtmklkiklegkioaaGreatShMaps
import Derived.Test.YtmklkiklegkioaaGreatMdAll
namespace Go.Proofs.YtmklkiklegkioaaGreat
open Go.ChangeShapes Go.WideShapes Go.ChangeAt Go.RowKit
set_option maxRecDepth 100000
set_option linter.unusedVariables false
namespace Sh
open Small Foot Pane Grp Ca

abbrev wcl (x : C8) (m bx : Nat) : List Value := [.int .i64 x.k, .int .i64 x.s, .int .i64 x.l, .int .i64 x.g, .int .i64 x.z, .int .i64 x.h, .int .i64 x.r, .int .i64 x.c, .map (some m), .pointer (some ⟨bx, 0, none⟩)]
/-- a worker at wk: its map at m, its mailbox at bx, whose list is bv; it has the groups p, and the messages L -/
structure Q (w : World) (wk m bx : Nat) (bv : Value) (cf : C8) (p : Int → Option Nat) (L : List Ms.M) : Prop where
  lies : Lies w wk 72 (wcl cf m bx)
  map : ∃ c, Mi w m p c
  box : Ms.Box w bx cf.c false bv L
  dom : ∀ x, p x ≠ none → 0 ≤ x ∧ x < 16
  n1 : wk ≠ m
  n2 : wk ≠ bx
  n3 : m ≠ bx
  n4 : bv.ownBlock ≠ some wk
  n5 : bv.ownBlock ≠ some m
/-- the blocks it is made of, its groups' aside -/
def WF (wk m bx : Nat) (bv : Value) : Nat → Prop := fun k => k = wk ∨ k = m ∨ k = bx ∨ bv.ownBlock = some k
def Is (w : World) (wk : Nat) (F : Nat → Prop) (cf : C8) (p : Int → Option Nat) (L : List Ms.M) : Prop :=
  ∃ m bx bv, Q w wk m bx bv cf p L ∧ ∀ k, F k ↔ WF wk m bx bv k
section
variable {w w' : World} {wk m bx : Nat} {bv : Value} {F G G' : Nat → Prop} {cf : C8} {p : Int → Option Nat} {L : List Ms.M}
theorem Q.keep (h : Q w wk m bx bv cf p L) (k : ∀ i, WF wk m bx bv i → w'.heap[i]? = w.heap[i]?) : Q w' wk m bx bv cf p L := by
  obtain ⟨c, hm⟩ := h.map
  exact ⟨(k wk (.inl rfl)).trans h.lies, ⟨c, hm.kept (k m (.inr (.inl rfl)))⟩, ⟨(k bx (.inr (.inr (.inl rfl)))).trans h.box.lies, h.box.own.move fun a ha => k a (.inr (.inr (.inr ha)))⟩, h.dom, h.n1, h.n2, h.n3, h.n4, h.n5⟩
theorem Q.in (h : Q w wk m bx bv cf p L) : In w (WF wk m bx bv) := fun k hk => by
  obtain ⟨c, hm⟩ := h.map
  rcases hk with rfl | rfl | rfl | hk
  · exact h.lies.lt
  · exact hm.lt
  · exact h.box.lies.lt
  · exact (h.box.own.lt k hk).2
theorem Is.in (h : Is w wk F cf p L) : In w F := by
  obtain ⟨m, bx, bv, q, hF⟩ := h
  exact fun k hk => q.in k ((hF k).1 hk)
theorem Is.keep (h : Is w wk F cf p L) (k : ∀ i, F i → w'.heap[i]? = w.heap[i]?) : Is w' wk F cf p L := by
  obtain ⟨m, bx, bv, q, hF⟩ := h
  exact ⟨m, bx, bv, q.keep (fun i hi => k i ((hF i).2 hi)), hF⟩
theorem Is.next (h : Is w wk F cf p L) (k : Below w.heap.size w w') : Is w' wk F cf p L := h.keep fun i hi => k.block i (h.in i hi)
theorem Is.beside (h : Is w wk F cf p L) (k : Moves G G' w w') (a : Apart F G) : Is w' wk F cf p L := h.keep fun i hi => k.block i (h.in i hi) (a i hi)
theorem Is.dom (h : Is w wk F cf p L) : ∀ x, p x ≠ none → 0 ≤ x ∧ x < 16 := by
  obtain ⟨m, bx, bv, q, hF⟩ := h
  exact q.dom
end
theorem wf_small {x : Int} (h : 0 ≤ x ∧ x < 16) : Wf x := wf_of (by omega) (by omega)

set_option maxHeartbeats 1600000 in
/-- its mailbox: what a Put leaves of the worker -/
theorem box_ok {wk : Nat} {F : Nat → Prop} {cf : C8} {p : Int → Option Nat} {L : List Ms.M} (w : World) (H : Hid (Is w wk F cf p L)) :
    Calls Tryz.prog 7 #[gp wk] w fun r w' => w = w' ∧ ∃ m bx bv, r = .returned (gp bx) ∧ Q w wk m bx bv cf p L ∧ F = WF wk m bx bv := by
  obtain ⟨m, bx, bv, q, hF⟩ := H.out
  have m9 := q.lies.cell (i := 9) rfl
  have HQ := Lib.hid q
  clear q
  go_enter Tryz.func7, Tryz.ntmps7
  go_wp2
  go_ret
  exact ⟨rfl, m, bx, bv, rfl, HQ.out, funext fun k => propext (hF k)⟩
/-- another list in the mailbox -/
theorem Q.boxed {w w' : World} {wk m bx : Nat} {bv bv' : Value} {cf : C8} {p : Int → Option Nat} {L L' : List Ms.M} (h : Q w wk m bx bv cf p L) (o : Ms.Box w' bx cf.c false bv' L') (k : Moves (Bx.Fp bx bv) (Bx.Fp bx bv') w w') :
    Q w' wk m bx bv' cf p L' ∧ Moves (WF wk m bx bv) (WF wk m bx bv') w w' := by
  obtain ⟨c, hm⟩ := h.map
  have nk : ∀ i, i < w.heap.size → i ≠ bx → bv.ownBlock ≠ some i → ¬ Bx.Fp bx bv i := fun i _ h1 h2 q => q.elim h1 h2
  have nk' : ∀ i, i < w.heap.size → i ≠ bx → bv.ownBlock ≠ some i → bv'.ownBlock ≠ some i := fun i hi h1 h2 q => by
    rcases (k.new i (.inr q)).1 with r | r
    · exact r.elim h1 h2
    · omega
  have l1 := h.lies.lt
  have l2 := hm.lt
  refine ⟨⟨(k.block _ l1 (nk _ l1 h.n2 h.n4)).trans h.lies, ⟨c, hm.kept (k.block _ l2 (nk _ l2 h.n3 h.n5))⟩, o, h.dom, h.n1, h.n2, h.n3, nk' _ l1 h.n2 h.n4, nk' _ l2 h.n3 h.n5⟩, k.os, k.tape, k.output, k.size, fun i hi hn => k.block i hi fun q => hn ?_, fun i hi => ?_⟩
  · rcases q with q | q
    · exact .inr (.inr (.inl q))
    · exact .inr (.inr (.inr q))
  · have up : ∀ j, j < w.heap.size → j < w'.heap.size := fun j hj => Nat.lt_of_lt_of_le hj k.size
    rcases hi with rfl | rfl | hi | hi
    · exact ⟨.inl (.inl rfl), up _ l1⟩
    · exact ⟨.inl (.inr (.inl rfl)), up _ l2⟩
    · have := k.new i (.inl hi)
      exact ⟨this.1.imp (fun q => .inr (.inr q)) id, this.2⟩
    · have := k.new i (.inr hi)
      exact ⟨this.1.imp (fun q => .inr (.inr q)) id, this.2⟩
/-- another map -/
theorem Q.mapped {w w' : World} {wk m bx : Nat} {bv : Value} {cf : C8} {p q : Int → Option Nat} {L : List Ms.M} {c' : Nat} (h : Q w wk m bx bv cf p L) (o : Mi w' m q c') (k : w.grownBy w' (some m)) (hd : ∀ x, q x ≠ none → 0 ≤ x ∧ x < 16) :
    Q w' wk m bx bv cf q L ∧ Moves (WF wk m bx bv) (WF wk m bx bv) w w' := by
  have ne : ∀ i, i ≠ m → some i ≠ some m := fun i hi e => hi (Option.some.inj e)
  refine ⟨⟨(k.block _ h.lies.lt (ne _ h.n1)).trans h.lies, ⟨_, o⟩, ⟨(k.block _ h.box.lies.lt (ne _ h.n3.symm)).trans h.box.lies, h.box.own.move fun a ha => k.block a (h.box.own.lt a ha).2 (ne _ fun e => h.n5 (e ▸ ha))⟩, hd, h.n1, h.n2, h.n3, h.n4, h.n5⟩, k.os, k.tape, k.output, k.size, fun i hi hn => k.block i hi fun e => hn (.inr (.inl (Option.some.inj e))), fun i hi => ⟨.inl hi, Nat.lt_of_lt_of_le (h.in i hi) k.size⟩⟩

set_option maxHeartbeats 1600000 in
theorem groups_ok {wk : Nat} {F : Nat → Prop} {cf : C8} {p : Int → Option Nat} {L : List Ms.M} (w : World) (H : Hid (Is w wk F cf p L)) :
    Calls Tryz.prog 19 #[gp wk] w fun r w' => ∃ v ks, r = .returned v ∧ KeysOf p ks ∧ Sl.Own Ik.k w.heap.size w' v ks ∧ Below w.heap.size w w' := by
  obtain ⟨m, bx, bv, q, hF⟩ := H.out
  obtain ⟨c, hm⟩ := q.map
  have hc := hm.small q.dom
  obtain ⟨D, hown, hsz, hD⟩ := hm
  have c8 := q.lies.cell (i := 8) rfl
  have HO := Lib.hid hown
  have HD := Lib.hid hD
  have dom := Lib.hid q.dom
  clear hown hD q
  go_enter Tryz.func19, Tryz.ntmps19
  go_wp2_with fail
  refine (KI.keys_call (some m) w).mono ?_
  rintro r w1 ⟨rfl, rfl⟩
  go_wp2_with fail
  refine (KI.sorted_call m c D RV w HO.out (by unfold maxLen; omega) (by omega)).mono ?_
  rintro r w2 ⟨v, ss, rfl, hp, hrow, -, hb⟩
  have FI := Lib.hid (keys_fin HO.out HD.out (fun x hx => wf_small (dom.out x hx)) hp)
  have RO : Hid (Sl.Own Ik.k w.heap.size w2 v (ss.mergeSort (fun x y => decide (x ≤ y)))) := Lib.hid (by
    have h := Gr.own_base (K := Ik.k) (L := ss.mergeSort (fun x y => decide (x ≤ y))) (base := (w.alloc (.cells #[.map (some m)] 70)).heap.size) (by unfold Sl.Own; rw [Ik.flat_enc, List.length_mergeSort]; exact hrow) (Below.size (below1 w (.cells #[.map (some m)] 70)))
    exact h)
  have BE := Lib.hid (after (below1 w (.cells #[.map (some m)] 70)) hb)
  clear hp hrow hb
  go_wp2
  go_ret
  exact ⟨v, _, rfl, FI.out, RO.out, BE.out⟩

theorem wpList_store {w : World} {ops : Array Oper} {rest : List Oper} {o : Oper} {a : Act} {Q : Exit → Act → World → Prop} (hg : o.guard = none) (mo xo vo : Operand) (hop : o.op = Op.mapUpdate 70 mo xo vo)
    {m c : Nat} {p : Int → Option Nat} {x : Int} (v : Nat) (hm : a.eval mo = .map (some m)) (hx : a.eval xo = .int .i64 x) (hv : a.eval vo = gp v) (h : Mi w m p c) (fx : Wf x) (hc : c ≤ 1048576) {q : Int → Option Nat} (hq : upd p x (some v) q)
    (hK : ∀ w' c', Mi w' m q c' → w.grownBy w' (some m) → wpList Tryz.prog ops Q rest (a.put o.dst undef) w') : wpList Tryz.prog ops Q (o :: rest) a w := by
  refine wpList_plain hg fun K' hK' => ?_
  obtain ⟨w', c', hrun, r1, -, r2⟩ := h.store fx v hc hq
  unfold Oper.wp
  simp [execOp, hop, hm, hx, hv, hrun, Result.andThen]
  exact hK' _ _ (hK w' c' r1 r2)
set_option maxHeartbeats 1600000 in
/-- a group, with its state, is had -/
theorem have_ok {wk : Nat} {F : Nat → Prop} {cf : C8} {p : Int → Option Nat} {L : List Ms.M} (x : Int) (s : Option Nat) (w : World) (H : Hid (Is w wk F cf p L)) (hx : 0 ≤ x ∧ x < 16) :
    Calls Tryz.prog 33 #[gp wk, .int .i64 x, Ms.stv s] w fun r w' => r = .returned (.tuple #[]) ∧ Is w' wk F cf (if s = none then p else updOf p x s) L ∧ Moves F F w w' := by
  cases s with
  | none =>
    go_enter Tryz.func33, Tryz.ntmps33
    go_wp2
    go_end0
    exact ⟨rfl, H.out, Moves.refl H.out.in⟩
  | some g =>
    obtain ⟨m, bx, bv, q, hF⟩ := H.out
    obtain rfl : F = WF wk m bx bv := funext fun k => propext (hF k)
    obtain ⟨c, hm⟩ := q.map
    have hc := hm.small q.dom
    have c8 := q.lies.cell (i := 8) rfl
    have HM := Lib.hid hm
    have HQ := Lib.hid q
    clear q hm hF H
    go_enter Tryz.func33, Tryz.ntmps33
    go_wp2_with (first
      | (at_mapUpdate; refine wpList_store rfl _ _ _ rfl g rfl rfl rfl HM.out (wf_small hx) (by omega) (updOf_ok p x (some g)) ?_; intro w1 c1 o1 k1)
      | fail)
    have R := Lib.hid (HQ.out.mapped o1 k1 fun y hy => by
      by_cases e : y = x
      · exact e ▸ hx
      · exact HQ.out.dom y (by simpa [updOf, e] using hy))
    clear o1 k1
    go_wp2
    go_end0
    exact ⟨rfl, ⟨m, bx, bv, R.out.1, fun _ => Iff.rfl⟩, R.out.2⟩
end Sh
end Go.Proofs.YtmklkiklegkioaaGreat

namespace Go.Proofs.YtmklkiklegkioaaGreat
open Go.ChangeShapes Go.WideShapes Go.ChangeAt Go.RowKit
set_option maxRecDepth 100000
set_option linter.unusedVariables false
namespace Sh
open Small Foot Pane Grp Ca

/-- groups by numbers, each of blocks of its own -/
structure Pool (w : World) (p : Int → Option Nat) (FF : Int → Nat → Prop) (cf : C8) (S : Int → Lists) (N : Nat) (n : Int → Nat) : Prop where
  is : ∀ x a, p x = some a → Gr.Is w a (FF x) cf (S x) N (n x)
  apart : ∀ x y, x ≠ y → p x ≠ none → p y ≠ none → Apart (FF x) (FF y)
/-- the blocks of all -/
def UF (p : Int → Option Nat) (FF : Int → Nat → Prop) : Nat → Prop := fun i => ∃ x, p x ≠ none ∧ FF x i
/-- groups are settled, one behind the other -/
inductive Mk (z mark : Int) (S : Int → Lists) : List Int → List Pn → (Int → Lists) → Prop
  | nil : Mk z mark S [] [] S
  | snoc {ks : List Int} {k : Int} {O Ok : List Pn} {S1 : Int → Lists} {T : Lists} (h : Mk z mark S ks O S1) (o : Outs z mark (S1 k) Ok T) (no : NoneOver z mark T) : Mk z mark S (ks ++ [k]) (O ++ Ok) (fun j => if j = k then T else S1 j)
section
variable {w w' : World} {p : Int → Option Nat} {FF : Int → Nat → Prop} {cf : C8} {S : Int → Lists} {N : Nat} {n : Int → Nat} {G G' : Nat → Prop}
theorem Pool.in (h : Pool w p FF cf S N n) : In w (UF p FF) := fun i ⟨x, hx, hi⟩ => by
  obtain ⟨a, ha⟩ := Option.ne_none_iff_exists'.1 hx
  exact (h.is x a ha).in i hi
theorem Pool.next (h : Pool w p FF cf S N n) (k : Below w.heap.size w w') : Pool w' p FF cf S N n := ⟨fun x a ha => (h.is x a ha).next k, h.apart⟩
theorem Pool.beside (h : Pool w p FF cf S N n) (k : Moves G G' w w') (a : Apart G (UF p FF)) : Pool w' p FF cf S N n :=
  ⟨fun x b hb => (h.is x b hb).beside k fun i hi q => a i q ⟨x, by rw [hb]; simp, hi⟩, h.apart⟩
theorem Pool.grown {b : Nat} (h : Pool w p FF cf S N n) (k : w.grownBy w' (some b)) (hb : ¬ UF p FF b) : Pool w' p FF cf S N n :=
  ⟨fun x a ha => (h.is x a ha).grown k fun q => hb ⟨x, by rw [ha]; simp, q⟩, h.apart⟩
theorem Pool.row {r : Option Nat} (h : Pool w p FF cf S N n) (k : w.grownBy w' r) (hb : ∀ b, r = some b → ¬ UF p FF b) : Pool w' p FF cf S N n :=
  ⟨fun x a ha => (h.is x a ha).keep (fun i hi => k.block i ((h.is x a ha).in i hi) fun e => hb i e.symm ⟨x, by rw [ha]; simp, hi⟩) k.size, h.apart⟩
/-- one group went on -/
theorem Pool.one {x : Int} {a : Nat} {F' : Nat → Prop} {T : Lists} {N' n' : Nat} (h : Pool w p FF cf S N n) (hx : p x = some a) (G : Gr.Is w' a F' cf T N' n') (V : Moves (FF x) F' w w') (hN : N ≤ N') :
    Pool w' p (fun y => if y = x then F' else FF y) cf (fun y => if y = x then T else S y) N' (fun y => if y = x then n' else n y) ∧ Moves (UF p FF) (UF p fun y => if y = x then F' else FF y) w w' := by
  have hxn : p x ≠ none := by rw [hx]; simp
  have ap : ∀ y, y ≠ x → p y ≠ none → Apart F' (FF y) := fun y hy hn => by
    obtain ⟨b, hb⟩ := Option.ne_none_iff_exists'.1 hn
    exact V.apart (h.apart x y (Ne.symm hy) hxn hn) (h.is y b hb).in
  refine ⟨⟨fun y b hb => ?_, fun y y' hne hy hy' => ?_⟩, V.os, V.tape, V.output, V.size, fun i hi hn => V.block i hi fun q => hn ⟨x, hxn, q⟩, fun i hi => ?_⟩
  · by_cases e : y = x
    · subst e
      rw [hx] at hb
      obtain rfl := Option.some.inj hb
      simpa using G
    · simp only [e, if_false]
      exact ((h.is y b hb).beside V (h.apart y x e (by rw [hb]; simp) hxn)).more hN
  · by_cases e : y = x
    · subst e
      rw [if_pos rfl, if_neg (Ne.symm hne)]
      exact ap y' (Ne.symm hne) hy'
    · by_cases e' : y' = x
      · subst e'
        rw [if_pos rfl, if_neg e]
        exact (ap y e hy).symm
      · rw [if_neg e, if_neg e']
        exact h.apart y y' hne hy hy'
  · obtain ⟨y, hy, hi⟩ := hi
    by_cases e : y = x
    · subst e
      simp only [if_true] at hi
      exact ⟨(V.new i hi).1.imp (fun q => ⟨y, hy, q⟩) id, (V.new i hi).2⟩
    · simp only [e, if_false] at hi
      obtain ⟨b, hb⟩ := Option.ne_none_iff_exists'.1 hy
      exact ⟨.inl ⟨y, hy, hi⟩, Nat.lt_of_lt_of_le ((h.is y b hb).in i hi) V.size⟩
end
theorem keys_few {p : Int → Option Nat} {ks : List Int} (h : KeysOf p ks) (hd : ∀ x, p x ≠ none → 0 ≤ x ∧ x < 16) : ks.length ≤ 16 := by
  have := List.Nodup.length_le_of_subset (l₁ := ks) (l₂ := (List.range 16).map fun k : Nat => (k : Int)) (h.up.imp fun {a b} q e => by omega) fun x hx => by
    obtain ⟨q1, q2⟩ := hd x ((h.mem x).1 hx)
    exact List.mem_map.2 ⟨x.toNat, List.mem_range.2 (by omega), by omega⟩
  rwa [List.length_map, List.length_range] at this

/-- what settle leaves -/
def Settled (w : World) (wk : Nat) (F : Nat → Prop) (FF : Int → Nat → Prop) (cf : C8) (p : Int → Option Nat) (L : List Ms.M) (S : Int → Lists) (N : Nat) (mark : Int) (r : Ending) (w' : World) : Prop :=
  ∃ sv ks O S' n' FF', r = .returned sv ∧ KeysOf p ks ∧ Mk cf.z mark S ks O S' ∧ O.length ≤ 142080 ∧ Is w' wk F cf p L ∧ Pool w' p FF' cf S' N n' ∧ Moves (UF p FF) (UF p FF') w w' ∧ Sl.Own Pn.k w.heap.size w' sv O

set_option maxHeartbeats 8000000 in
theorem settle_ok {wk N : Nat} {F : Nat → Prop} {FF : Int → Nat → Prop} {cf : C8} {p : Int → Option Nat} {L : List Ms.M} {S : Int → Lists} {n : Int → Nat} (mark : Int) (w : World) (H : Hid (Is w wk F cf p L)) (P : Hid (Pool w p FF cf S N n)) (A : Hid (Apart F (UF p FF)))
    (hN : N ≤ 8880) (fz : Hid ((Lit.int .i64 cf.z).wf = true)) (fk : Hid ((Lit.int .i64 mark).wf = true)) :
    Calls Tryz.prog 32 #[gp wk, .int .i64 mark] w (Settled w wk F FF cf p L S N mark) := by
  go_enter Tryz.func32, Tryz.ntmps32
  go_wp2_with fail
  refine (groups_ok w H).mono ?_
  rintro r w1 ⟨v, ks, rfl, hks, o1, k1⟩
  have hl16 := keys_few hks H.out.dom
  obtain ⟨b, hbb, hI⟩ := o1.is
  obtain ⟨A0, cp, hv⟩ := hI.len
  subst hv
  have KS := Lib.hid hks
  have I1 := Lib.hid hI
  have H1 := Lib.hid (H.out.next k1)
  have P1 := Lib.hid (P.out.next k1)
  have K1 := Lib.hid k1
  have hb1 := Lib.hid hbb
  have Fin := Lib.hid H.out.in
  have Uin := Lib.hid P.out.in
  clear hks o1 hI k1 hbb
  go_wp2_with fail
  go_loopw [5, 11] (fun so si wr => ∃ (k : Nat) (A : Option Addr) (cap : Nat) (O : List Pn) (S1 : Int → Lists) (n1 : Int → Nat) (FF1 : Int → Nat → Prop), k ≤ ks.length ∧ si = .int .i64 k ∧ so = .slice A O.length cap ∧ O.length ≤ k * 8880 ∧ Hid (Mk cf.z mark S (ks.take k) O S1) ∧ Hid (Pool wr p FF1 cf S1 N n1) ∧ Hid (Moves (UF p FF) (UF p FF1) w1 wr) ∧ Hid (Sl.Own Pn.k w1.heap.size wr so O) ∧ Hid (∀ c, so.ownBlock = some c → ¬ UF p FF1 c)) (fun _ si _ => ks.length - (intOf si).toNat)
  case atStart => exact ⟨0, none, 0, [], S, n, FF, by omega, rfl, rfl, by simp, Lib.hid (by rw [List.take_zero]; exact .nil), P1, Lib.hid (.refl P1.out.in), Lib.hid (Sl.Own.nil _ _ _), Lib.hid (by intro c hc; cases hc)⟩
  case round =>
    obtain ⟨k, A1, cap, O, S1, n1, FF1, hk, rfl, rfl, hO, MK, PL, MV, OW, NU⟩ := hrel
    have s1 := MV.out.size
    have Hr : Hid (Is wr wk F cf p L) := Lib.hid (H1.out.beside MV.out fun i hi q => A.out i hi q)
    by_cases hlt : k < ks.length
    · have i1 : (k : Int) < ks.length := by omega
      have i0 : (0 : Int) ≤ (k : Int) := by omega
      obtain ⟨x, hx⟩ : ∃ x, ks[k]? = some x := ⟨_, List.getElem?_eq_getElem hlt⟩
      have hxm := (KS.out.mem x).1 (List.mem_of_getElem? hx)
      obtain ⟨a, ha⟩ := Option.ne_none_iff_exists'.1 hxm
      have nb : ¬ UF p FF b := fun q => by have := Uin.out b q; have := hb1.out; omega
      have hcell : ∃ off, A0 = some ⟨b, off, none⟩ ∧ wr.cell? ⟨b, off + k, none⟩ = some (.int .i64 x) := by
        obtain ⟨off, cap', e, -, -, hbl, hc⟩ := I1.out.some_ Ik.ok (by omega)
        simp only [Value.slice.injEq] at e
        refine ⟨off, e.1, ?_⟩
        have := hc k x hx 0 _ rfl
        have hh := MV.out.block b hbl nb
        have := (World.cell?_of_block (a := ⟨b, off + (k * Ik.k.k + 0), none⟩) hh).trans this
        simpa using this
      obtain ⟨off, rfl, hcell⟩ := hcell
      obtain ⟨m, bx, bv, q, -⟩ := Hr.out
      obtain ⟨c, hm⟩ := q.map
      have c8 := q.lies.cell (i := 8) rfl
      have lk := hm.look (wf_small (H.out.dom x hxm))
      rw [ha] at lk
      have HX := Lib.hid hx
      have HA := Lib.hid ha
      clear hx ha q hm hxm
      go_wp2_with fail
      refine (Gr.settle_ok mark _ (Lib.hid (PL.out.is x a HA.out)) hN fz fk).mono ?_
      rintro r w3 ⟨sv, Ok, T, n', F', rfl, ho, hno, hlen, G3, V3, o3, nn3⟩
      have hnx := (PL.out.is x a HA.out).few
      have s3 := V3.size
      have MK3 := Lib.hid (Mk.snoc MK.out ho hno)
      obtain ⟨P3, M3⟩ := PL.out.one HA.out G3 V3 (Nat.le_refl _)
      have xn : p x ≠ none := by rw [HA.out]; simp
      have nbo : ∀ c, (Value.slice A1 O.length cap).ownBlock = some c → c < wr.heap.size ∧ ¬ F' c := fun c hc => by
        have hl := (OW.out.lt c hc).2
        refine ⟨hl, fun q => ?_⟩
        rcases (V3.new c q).1 with r | r
        · exact NU.out c hc ⟨x, xn, r⟩
        · omega
      have OW3 : Hid (Sl.Own Pn.k w1.heap.size w3 (.slice A1 O.length cap) O) := Lib.hid (OW.out.move fun c hc => V3.block c (OW.out.lt c hc).2 fun q => NU.out c hc ⟨x, xn, q⟩)
      have NU3 : Hid (∀ c, (Value.slice A1 O.length cap).ownBlock = some c → ¬ UF p (fun y => if y = x then F' else FF1 y) c) := Lib.hid (fun c hc q => by
        obtain ⟨y, hy, q⟩ := q
        by_cases e : y = x
        · simp only [e, if_true] at q
          exact (nbo c hc).2 q
        · simp only [e, if_false] at q
          exact NU.out c hc ⟨y, hy, q⟩)
      obtain ⟨b3, -, i3⟩ := o3.is
      obtain ⟨A3, c3, rfl⟩ := i3.len
      have P3 := Lib.hid P3
      have M3 := Lib.hid (MV.out.trans M3)
      have I3 := Lib.hid i3
      have hO3 : O.length + Ok.length ≤ (k + 1) * 8880 := by omega
      clear ho hno G3 V3 o3 nn3 nbo i3
      go_wp2_with (at_builtin; refine wpList_plain rfl fun K' hK' => Sl.wp_append Pn.ok (.tmp 15) (.tmp 23) rfl (base := w1.heap.size) (l := O) (l2 := Ok) (b2 := b3) (by exact OW3.out) (by exact I3.out) (by omega) (by omega) (fun u w4 z1 z2 z3 => hK' _ _ ?_))
      obtain ⟨bu, -, iu⟩ := z1.is
      obtain ⟨Au, cu, rfl⟩ := iu.len
      have eq : ks.take (k + 1) = ks.take k ++ [x] := by rw [List.take_add_one, HX.out]; rfl
      refine ⟨⟨k + 1, Au, cu, O ++ Ok, _, _, _, by omega, by go_num, rfl, by rw [List.length_append]; exact hO3, Lib.hid (by rw [eq]; exact MK3.out), Lib.hid (P3.out.row z2 NU3.out), Lib.hid (moves_grown M3.out z2 fun c hc => (OW3.out.lt c hc).1), Lib.hid z1, Lib.hid fun c hc q => ?_⟩, by simp [intOf]; omega⟩
      rcases z3 with e | e
      · rw [e] at hc
        exact NU3.out c hc q
      · rw [e] at hc
        have h1 := P3.out.in c q
        have h2 := Option.some.inj hc
        omega
    · obtain rfl : k = ks.length := by omega
      have i1 : ¬ ((ks.length : Int) < ks.length) := by omega
      rw [List.take_length] at MK
      have V9 := Lib.hid ((Moves.of_below K1.out Uin.out).trans MV.out)
      have O9 := Lib.hid (Gr.own_base OW.out K1.out.size)
      have s9 := Lib.hid hl16
      clear i1
      go_wp2
      go_ret
      exact ⟨_, ks, O, S1, n1, FF1, rfl, KS.out, MK.out, by have := s9.out; omega, Hr.out, PL.out, V9.out, O9.out⟩
end Sh
end Go.Proofs.YtmklkiklegkioaaGreat
