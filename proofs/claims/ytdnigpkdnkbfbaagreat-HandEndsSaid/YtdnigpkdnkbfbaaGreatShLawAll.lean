/-
  What lies in memory in the midst of ShardModel: a model, two workers, groups each of one of them, an output; each made of blocks of its own; what each call leaves of it.
  What a worker's step leaves of a model, two workers and their groups; what an Advance does to the model.
  Box of a worker whose mailbox is known; Pick, what it tells.
-/
import Derived.Test.YtdnigpkdnkbfbaaGreatShMath
import Derived.Test.YtdnigpkdnkbfbaaGreatShNews
import Derived.Test.YtdnigpkdnkbfbaaGreatMdHead
namespace Go.Proofs.YtdnigpkdnkbfbaaGreat
open Go.ChangeShapes Go.WideShapes Go.ChangeAt Go.RowKit
set_option linter.unusedVariables false
set_option maxRecDepth 100000
namespace Sh
open Small Foot Pane Grp Ca Md

/-- parts of the memory, apart from one another, all made behind w0 -/
structure Fam (w0 w : World) (R : Nat → Nat → Prop) : Prop where
  in_ : ∀ i, In w (R i)
  lo : ∀ i, From w0.heap.size (R i)
  ap : ∀ i j, i ≠ j → Apart (R i) (R j)
  below : Below w0.heap.size w0 w
def rset (R : Nat → Nat → Prop) (i : Nat) (F : Nat → Prop) : Nat → Nat → Prop := fun k => if k = i then F else R k
section
variable {w0 w w' : World} {R : Nat → Nat → Prop} {F F' G G' : Nat → Prop} {i j : Nat}
theorem Fam.next (h : Fam w0 w R) (k : Below w.heap.size w w') : Fam w0 w' R := ⟨fun i => (h.in_ i).next k.size, h.lo, h.ap, after h.below k⟩
theorem Fam.one (h : Fam w0 w R) (k : Moves (R i) F' w w') : Fam w0 w' (rset R i F') := by
  have ap : ∀ j, j ≠ i → Apart F' (R j) := fun j hj => k.apart (h.ap i j (Ne.symm hj)) (h.in_ j)
  refine ⟨fun j => ?_, fun j => ?_, fun j l hjl => ?_, h.below.trans (k.below (h.lo i) h.below.size)⟩
  · unfold rset; split
    · exact k.in
    · exact (h.in_ j).next k.size
  · unfold rset; split
    · exact k.from (h.lo i) h.below.size
    · exact h.lo j
  · unfold rset
    by_cases e : j = i
    · rw [if_pos e, if_neg (fun q => hjl (e.trans q.symm))]
      exact ap l fun q => hjl (e.trans q.symm)
    · rw [if_neg e]
      by_cases e' : l = i
      · rw [if_pos e']; exact (ap j e).symm
      · rw [if_neg e']; exact h.ap j l hjl
theorem Fam.two (h : Fam w0 w R) (hij : i ≠ j) (k : Moves (Or2 (R i) (R j)) (Or2 F' G') w w') (a : Apart F' G') : Fam w0 w' (rset (rset R i F') j G') := by
  have ap : ∀ l, l ≠ i → l ≠ j → Apart (Or2 F' G') (R l) := fun l h1 h2 => k.apart (fun b hb q => hb.elim (fun r => h.ap i l (Ne.symm h1) b r q) fun r => h.ap j l (Ne.symm h2) b r q) (h.in_ l)
  have lo : From w0.heap.size (Or2 F' G') := k.from (fun b hb => hb.elim (h.lo i b) (h.lo j b)) h.below.size
  have val : ∀ l, rset (rset R i F') j G' l = if l = j then G' else if l = i then F' else R l := fun l => rfl
  refine ⟨fun l => ?_, fun l => ?_, fun l m hlm => ?_, h.below.trans (k.below (fun b hb => hb.elim (h.lo i b) (h.lo j b)) h.below.size)⟩
  · rw [val]; split
    · exact fun b hb => k.in b (.inr hb)
    · split
      · exact fun b hb => k.in b (.inl hb)
      · exact (h.in_ l).next k.size
  · rw [val]; split
    · exact fun b hb => lo b (.inr hb)
    · split
      · exact fun b hb => lo b (.inl hb)
      · exact h.lo l
  · rw [val, val]
    by_cases e1 : l = j
    · subst e1
      rw [if_pos rfl, if_neg (Ne.symm hlm)]
      by_cases e2 : m = i
      · rw [if_pos e2]; exact a.symm
      · rw [if_neg e2]; exact fun b hb q => ap m e2 (Ne.symm hlm) b (.inr hb) q
    · rw [if_neg e1]
      by_cases e3 : m = j
      · subst e3
        rw [if_pos rfl]
        by_cases e2 : l = i
        · rw [if_pos e2]; exact a
        · rw [if_neg e2]; exact fun b hb q => ap l e2 e1 b (.inr q) hb
      · rw [if_neg e3]
        by_cases e2 : l = i
        · subst e2
          rw [if_pos rfl, if_neg (Ne.symm hlm)]
          exact fun b hb q => ap m (Ne.symm hlm) e3 b (.inl hb) q
        · rw [if_neg e2]
          by_cases e4 : m = i
          · subst e4; rw [if_pos rfl]; exact fun b hb q => ap l e2 e1 b (.inl q) hb
          · rw [if_neg e4]; exact h.ap l m hlm
theorem Fam.kept (h : Fam w0 w R) (k : Moves (R i) F' w w') (hj : j ≠ i) : ∀ b, R j b → w'.heap[b]? = w.heap[b]? := fun b hb => k.block b (h.in_ j b hb) fun q => h.ap i j (Ne.symm hj) b q hb
theorem Fam.kept2 (h : Fam w0 w R) (k : Moves (Or2 (R i) (R j)) F' w w') {l : Nat} (h1 : l ≠ i) (h2 : l ≠ j) : ∀ b, R l b → w'.heap[b]? = w.heap[b]? := fun b hb => k.block b (h.in_ l b hb) fun q => q.elim (fun q => h.ap i l (Ne.symm h1) b q hb) fun q => h.ap j l (Ne.symm h2) b q hb
end
def fam (Fm Fa Fb U : Nat → Prop) (g4 : Nat) (vo : Value) : Nat → Nat → Prop
  | 0 => Fm
  | 1 => Fa
  | 2 => Fb
  | 3 => U
  | 4 => fun b => b = g4
  | 5 => fun b => vo.ownBlock = some b
  | _ => fun _ => False
theorem Pool.kept {w w' : World} {p : Int → Option Nat} {FF : Int → Nat → Prop} {cf : C8} {S : Int → Lists} {N : Nat} {n : Int → Nat} (h : Pool w p FF cf S N n) (k : ∀ b, UF p FF b → w'.heap[b]? = w.heap[b]?) (s : w.heap.size ≤ w'.heap.size) : Pool w' p FF cf S N n :=
  ⟨fun x a ha => (h.is x a ha).keep (fun i hi => k i ⟨x, by rw [ha]; simp, hi⟩) s, h.apart⟩
theorem Pool.more {w : World} {p : Int → Option Nat} {FF : Int → Nat → Prop} {cf : C8} {S : Int → Lists} {N N' : Nat} {n : Int → Nat} (h : Pool w p FF cf S N n) (hN : N ≤ N') : Pool w p FF cf S N' n := ⟨fun x a ha => (h.is x a ha).more hN, h.apart⟩

/-- a group went on, and something else beside it -/
theorem Pool.two {w w' : World} {p : Int → Option Nat} {FF : Int → Nat → Prop} {cf : C8} {S : Int → Lists} {N N' n' : Nat} {n : Int → Nat} {E E' F' : Nat → Prop} {x : Int} {a : Nat} {T : Lists} (h : Pool w p FF cf S N n) (hx : p x = some a) (G : Gr.Is w' a F' cf T N' n') (V : Moves (Or2 E (FF x)) (Or2 E' F') w w') (A : Apart E (UF p FF)) (A' : Apart E' F') (hN : N ≤ N') :
    Pool w' p (fun y => if y = x then F' else FF y) cf (fun y => if y = x then T else S y) N' (fun y => if y = x then n' else n y) ∧ Moves (Or2 E (UF p FF)) (Or2 E' (UF p fun y => if y = x then F' else FF y)) w w' ∧ Apart E' (UF p fun y => if y = x then F' else FF y) := by
  have hxn : p x ≠ none := by rw [hx]; simp
  have ap0 : ∀ y, y ≠ x → p y ≠ none → Apart (Or2 E (FF x)) (FF y) := fun y hy hn i hi q => hi.elim (fun r => A i r ⟨y, hn, q⟩) fun r => h.apart x y (Ne.symm hy) hxn hn i r q
  have ap : ∀ y, y ≠ x → p y ≠ none → Apart (Or2 E' F') (FF y) := fun y hy hn => by
    obtain ⟨b, hb⟩ := Option.ne_none_iff_exists'.1 hn
    exact V.apart (ap0 y hy hn) (h.is y b hb).in
  refine ⟨⟨fun y b hb => ?_, fun y y' hne hy hy' => ?_⟩, ⟨V.os, V.tape, V.output, V.size, fun i hi hn => V.block i hi fun q => hn (q.imp id fun q => ⟨x, hxn, q⟩), fun i hi => ?_⟩, fun i hi q => ?_⟩
  · by_cases e : y = x
    · subst e
      rw [hx] at hb
      obtain rfl := Option.some.inj hb
      simpa using G
    · simp only [e, if_false]
      have hn : p y ≠ none := by rw [hb]; simp
      exact ((h.is y b hb).keep (fun i hi => V.block i ((h.is y b hb).in i hi) fun q => ap0 y e hn i q hi) V.size).more hN
  · by_cases e : y = x
    · subst e
      rw [if_pos rfl, if_neg (Ne.symm hne)]
      exact fun i hi q => ap y' (Ne.symm hne) hy' i (.inr hi) q
    · by_cases e' : y' = x
      · subst e'
        rw [if_pos rfl, if_neg e]
        exact fun i hi q => ap y e hy i (.inr q) hi
      · rw [if_neg e, if_neg e']
        exact h.apart y y' hne hy hy'
  · rcases hi with hi | ⟨y, hy, hi⟩
    · exact ⟨(V.new i (.inl hi)).1.imp (fun q => q.imp id fun q => ⟨x, hxn, q⟩) id, (V.new i (.inl hi)).2⟩
    · by_cases e : y = x
      · subst e
        simp only [if_true] at hi
        exact ⟨(V.new i (.inr hi)).1.imp (fun q => q.imp id fun q => ⟨y, hy, q⟩) id, (V.new i (.inr hi)).2⟩
      · simp only [e, if_false] at hi
        obtain ⟨b, hb⟩ := Option.ne_none_iff_exists'.1 hy
        exact ⟨.inl (.inr ⟨y, hy, hi⟩), Nat.lt_of_lt_of_le ((h.is y b hb).in i hi) V.size⟩
  · obtain ⟨y, hy, q⟩ := q
    by_cases e : y = x
    · subst e
      simp only [if_true] at q
      exact A' i hi q
    · simp only [e, if_false] at q
      exact ap y e hy i (.inl hi) q
theorem Pool.sub {w : World} {p q : Int → Option Nat} {FF : Int → Nat → Prop} {cf : C8} {S : Int → Lists} {N : Nat} {n : Int → Nat} (h : Pool w p FF cf S N n) (hs : ∀ x, q x ≠ none → q x = p x) : Pool w q FF cf S N n :=
  ⟨fun x a ha => h.is x a (by rw [← hs x (by rw [ha]; simp)]; exact ha), fun x y hne hx hy => h.apart x y hne (hs x hx ▸ hx) (hs y hy ▸ hy)⟩
/-- those of one worker went on, and something else beside them -/
theorem Pool.merge {w w' : World} {p q : Int → Option Nat} {FF FF' : Int → Nat → Prop} {cf : C8} {S S' : Int → Lists} {N : Nat} {n n' : Int → Nat} {E E' : Nat → Prop} (h : Pool w p FF cf S N n) (hs : ∀ x, q x ≠ none → q x = p x) (k : Pool w' q FF' cf S' N n') (V : Moves (Or2 E (UF q FF)) (Or2 E' (UF q FF')) w w') (A : Apart E (UF p FF)) (A' : Apart E' (UF q FF')) :
    Pool w' p (fun y => if q y = none then FF y else FF' y) cf (fun y => if q y = none then S y else S' y) N (fun y => if q y = none then n y else n' y) ∧ Moves (Or2 E (UF p FF)) (Or2 E' (UF p fun y => if q y = none then FF y else FF' y)) w w' ∧ Apart E' (UF p fun y => if q y = none then FF y else FF' y) := by
  have up : ∀ y, q y ≠ none → p y ≠ none := fun y hy => hs y hy ▸ hy
  have uu : ∀ i, UF q FF i → UF p FF i := fun i ⟨y, hy, hi⟩ => ⟨y, up y hy, hi⟩
  have ap0 : ∀ y, q y = none → p y ≠ none → Apart (Or2 E (UF q FF)) (FF y) := fun y hy hn i hi r => hi.elim (fun s => A i s ⟨y, hn, r⟩) fun ⟨z, hz, s⟩ => h.apart z y (fun e => hz (e ▸ hy)) (up z hz) hn i s r
  have ap : ∀ y, q y = none → p y ≠ none → Apart (Or2 E' (UF q FF')) (FF y) := fun y hy hn => by
    obtain ⟨b, hb⟩ := Option.ne_none_iff_exists'.1 hn
    exact V.apart (ap0 y hy hn) (h.is y b hb).in
  refine ⟨⟨fun y b hb => ?_, fun y y' hne hy hy' => ?_⟩, ⟨V.os, V.tape, V.output, V.size, fun i hi hn => V.block i hi fun r => hn (r.imp id (uu i)), fun i hi => ?_⟩, fun i hi r => ?_⟩
  · by_cases e : q y = none
    · simp only [e, if_true]
      have hn : p y ≠ none := by rw [hb]; simp
      exact (h.is y b hb).keep (fun i hi => V.block i ((h.is y b hb).in i hi) fun r => ap0 y e hn i r hi) V.size
    · simp only [e, if_false]
      exact k.is y b ((hs y e).trans hb)
  · by_cases e : q y = none
    · rw [if_pos e]
      by_cases e' : q y' = none
      · rw [if_pos e']; exact h.apart y y' hne hy hy'
      · rw [if_neg e']; exact fun i hi r => ap y e hy i (.inr ⟨y', e', r⟩) hi
    · rw [if_neg e]
      by_cases e' : q y' = none
      · rw [if_pos e']; exact fun i hi r => ap y' e' hy' i (.inr ⟨y, e, hi⟩) r
      · rw [if_neg e']; exact k.apart y y' hne e e'
  · rcases hi with hi | ⟨y, hy, hi⟩
    · exact ⟨(V.new i (.inl hi)).1.imp (fun r => r.imp id (uu i)) id, (V.new i (.inl hi)).2⟩
    · by_cases e : q y = none
      · simp only [e, if_true] at hi
        obtain ⟨b, hb⟩ := Option.ne_none_iff_exists'.1 hy
        exact ⟨.inl (.inr ⟨y, hy, hi⟩), Nat.lt_of_lt_of_le ((h.is y b hb).in i hi) V.size⟩
      · simp only [e, if_false] at hi
        exact ⟨(V.new i (.inr ⟨y, e, hi⟩)).1.imp (fun r => r.imp id (uu i)) id, (V.new i (.inr ⟨y, e, hi⟩)).2⟩
  · obtain ⟨y, hy, r⟩ := r
    by_cases e : q y = none
    · simp only [e, if_true] at r
      exact ap y e hy i (.inl hi) r
    · simp only [e, if_false] at r
      exact A' i hi ⟨y, e, r⟩
theorem fam_set_0 (a b c d : Nat → Prop) (e : Nat) (f : Value) (x : Nat → Prop) : rset (fam a b c d e f) 0 x = fam x b c d e f := by
  funext l; match l with
  | 0 => rfl
  | 1 => rfl
  | 2 => rfl
  | 3 => rfl
  | 4 => rfl
  | 5 => rfl
  | l + 6 => rfl
theorem fam_set_1 (a b c d : Nat → Prop) (e : Nat) (f : Value) (x : Nat → Prop) : rset (fam a b c d e f) 1 x = fam a x c d e f := by
  funext l; match l with
  | 0 => rfl
  | 1 => rfl
  | 2 => rfl
  | 3 => rfl
  | 4 => rfl
  | 5 => rfl
  | l + 6 => rfl
theorem fam_set_2 (a b c d : Nat → Prop) (e : Nat) (f : Value) (x : Nat → Prop) : rset (fam a b c d e f) 2 x = fam a b x d e f := by
  funext l; match l with
  | 0 => rfl
  | 1 => rfl
  | 2 => rfl
  | 3 => rfl
  | 4 => rfl
  | 5 => rfl
  | l + 6 => rfl
theorem fam_set_3 (a b c d : Nat → Prop) (e : Nat) (f : Value) (x : Nat → Prop) : rset (fam a b c d e f) 3 x = fam a b c x e f := by
  funext l; match l with
  | 0 => rfl
  | 1 => rfl
  | 2 => rfl
  | 3 => rfl
  | 4 => rfl
  | 5 => rfl
  | l + 6 => rfl
theorem fam_set_5 (a b c d : Nat → Prop) (e : Nat) (f : Value) (x : Value) : rset (fam a b c d e f) 5 (fun b => x.ownBlock = some b) = fam a b c d e x := by
  funext l; match l with
  | 0 => rfl
  | 1 => rfl
  | 2 => rfl
  | 3 => rfl
  | 4 => rfl
  | 5 => rfl
  | l + 6 => rfl

structure LM (w0 : World) (g4 : Nat) (cf : C8) (mo wa wb : Nat) (pp pa pb : Int → Option Nat) (Fm Fa Fb : Nat → Prop) (FF : Int → Nat → Prop) (SM : Lists) (S : Int → Lists) (N : Nat) (n : Int → Nat) (mark : Int) (L : List Pn) (La Lb : List Ms.M) (vo : Value) (out : List Pn) (w : World) : Prop where
  fam : Fam w0 w (fam Fm Fa Fb (UF pp FF) g4 vo)
  cfg : Lies w g4 23 cf.cl
  mod : Md.Is w mo Fm cf SM N mark L false
  a : Is w wa Fa cf pa La
  b : Is w wb Fb cf pb Lb
  pool : Pool w pp FF cf S N n
  out : Sl.Own Pn.k w0.heap.size w vo out
  every : ∀ x, pp x ≠ none ↔ (0 ≤ x ∧ x < cf.r)
  subA : ∀ x, pa x ≠ none → pa x = pp x
  subB : ∀ x, pb x ≠ none → pb x = pp x
section
variable {w0 w w' : World} {g4 : Nat} {cf : C8} {mo wa wb : Nat} {pp pa pb pa' pb' : Int → Option Nat} {Fm Fa Fb Fm' Fa' Fb' : Nat → Prop} {FF FF' : Int → Nat → Prop} {SM SM' : Lists} {S S' : Int → Lists} {N N' : Nat} {n n' : Int → Nat} {mark mark' : Int} {L L' : List Pn} {La Lb La' Lb' : List Ms.M} {vo vo' : Value} {out O : List Pn}
theorem LM.next (h : LM w0 g4 cf mo wa wb pp pa pb Fm Fa Fb FF SM S N n mark L La Lb vo out w) (k : Below w.heap.size w w') : LM w0 g4 cf mo wa wb pp pa pb Fm Fa Fb FF SM S N n mark L La Lb vo out w' :=
  ⟨h.fam.next k, h.cfg.next k, h.mod.next k, h.a.next k, h.b.next k, h.pool.next k, h.out.next k, h.every, h.subA, h.subB⟩
/-- the model went on -/
theorem LM.model (h : LM w0 g4 cf mo wa wb pp pa pb Fm Fa Fb FF SM S N n mark L La Lb vo out w) (m : Md.Is w' mo Fm' cf SM' N' mark' L' false) (k : Moves Fm Fm' w w') (hN : N ≤ N') : LM w0 g4 cf mo wa wb pp pa pb Fm' Fa Fb FF SM' S N' n mark' L' La Lb vo out w' := by
  have f := h.fam.one (i := 0) k
  have e : rset (Sh.fam Fm Fa Fb (UF pp FF) g4 vo) 0 Fm' = Sh.fam Fm' Fa Fb (UF pp FF) g4 vo := fam_set_0 ..
  rw [e] at f
  exact ⟨f, (h.fam.kept (i := 0) (j := 4) k (by decide) g4 rfl).trans h.cfg, m, h.a.keep (h.fam.kept (i := 0) (j := 1) k (by decide)), h.b.keep (h.fam.kept (i := 0) (j := 2) k (by decide)), (h.pool.kept (h.fam.kept (i := 0) (j := 3) k (by decide)) k.size).more hN, h.out.move (h.fam.kept (i := 0) (j := 5) k (by decide)), h.every, h.subA, h.subB⟩
/-- a worker went on, its groups aside -/
theorem LM.onA (h : LM w0 g4 cf mo wa wb pp pa pb Fm Fa Fb FF SM S N n mark L La Lb vo out w) (m : Is w' wa Fa' cf pa' La') (k : Moves Fa Fa' w w') (hs : ∀ x, pa' x ≠ none → pa' x = pp x) : LM w0 g4 cf mo wa wb pp pa' pb Fm Fa' Fb FF SM S N n mark L La' Lb vo out w' := by
  have f := h.fam.one (i := 1) k
  have e : rset (Sh.fam Fm Fa Fb (UF pp FF) g4 vo) 1 Fa' = Sh.fam Fm Fa' Fb (UF pp FF) g4 vo := fam_set_1 ..
  rw [e] at f
  exact ⟨f, (h.fam.kept (i := 1) (j := 4) k (by decide) g4 rfl).trans h.cfg, h.mod.keep (h.fam.kept (i := 1) (j := 0) k (by decide)) k.size, m, h.b.keep (h.fam.kept (i := 1) (j := 2) k (by decide)), h.pool.kept (h.fam.kept (i := 1) (j := 3) k (by decide)) k.size, h.out.move (h.fam.kept (i := 1) (j := 5) k (by decide)), h.every, hs, h.subB⟩
theorem LM.onB (h : LM w0 g4 cf mo wa wb pp pa pb Fm Fa Fb FF SM S N n mark L La Lb vo out w) (m : Is w' wb Fb' cf pb' Lb') (k : Moves Fb Fb' w w') (hs : ∀ x, pb' x ≠ none → pb' x = pp x) : LM w0 g4 cf mo wa wb pp pa pb' Fm Fa Fb' FF SM S N n mark L La Lb' vo out w' := by
  have f := h.fam.one (i := 2) k
  have e : rset (Sh.fam Fm Fa Fb (UF pp FF) g4 vo) 2 Fb' = Sh.fam Fm Fa Fb' (UF pp FF) g4 vo := fam_set_2 ..
  rw [e] at f
  exact ⟨f, (h.fam.kept (i := 2) (j := 4) k (by decide) g4 rfl).trans h.cfg, h.mod.keep (h.fam.kept (i := 2) (j := 0) k (by decide)) k.size, h.a.keep (h.fam.kept (i := 2) (j := 1) k (by decide)), m, h.pool.kept (h.fam.kept (i := 2) (j := 3) k (by decide)) k.size, h.out.move (h.fam.kept (i := 2) (j := 5) k (by decide)), h.every, h.subA, hs⟩
/-- a worker, and groups, went on -/
theorem LM.allA (h : LM w0 g4 cf mo wa wb pp pa pb Fm Fa Fb FF SM S N n mark L La Lb vo out w) (m : Is w' wa Fa' cf pa La') (P : Pool w' pp FF' cf S' N' n') (k : Moves (Or2 Fa (UF pp FF)) (Or2 Fa' (UF pp FF')) w w') (A : Apart Fa' (UF pp FF')) (hN : N ≤ N') : LM w0 g4 cf mo wa wb pp pa pb Fm Fa' Fb FF' SM S' N' n' mark L La' Lb vo out w' := by
  have f := h.fam.two (i := 1) (j := 3) (by decide) k A
  rw [show rset (rset (Sh.fam Fm Fa Fb (UF pp FF) g4 vo) 1 Fa') 3 (UF pp FF') = Sh.fam Fm Fa' Fb (UF pp FF') g4 vo by rw [fam_set_1, fam_set_3]] at f
  exact ⟨f, (h.fam.kept2 (i := 1) (j := 3) k (l := 4) (by decide) (by decide) g4 rfl).trans h.cfg, (h.mod.keep (h.fam.kept2 (i := 1) (j := 3) k (l := 0) (by decide) (by decide)) k.size).more hN, m, h.b.keep (h.fam.kept2 (i := 1) (j := 3) k (l := 2) (by decide) (by decide)), P, h.out.move (h.fam.kept2 (i := 1) (j := 3) k (l := 5) (by decide) (by decide)), h.every, h.subA, h.subB⟩
theorem LM.allB (h : LM w0 g4 cf mo wa wb pp pa pb Fm Fa Fb FF SM S N n mark L La Lb vo out w) (m : Is w' wb Fb' cf pb Lb') (P : Pool w' pp FF' cf S' N' n') (k : Moves (Or2 Fb (UF pp FF)) (Or2 Fb' (UF pp FF')) w w') (A : Apart Fb' (UF pp FF')) (hN : N ≤ N') : LM w0 g4 cf mo wa wb pp pa pb Fm Fa Fb' FF' SM S' N' n' mark L La Lb' vo out w' := by
  have f := h.fam.two (i := 2) (j := 3) (by decide) k A
  rw [show rset (rset (Sh.fam Fm Fa Fb (UF pp FF) g4 vo) 2 Fb') 3 (UF pp FF') = Sh.fam Fm Fa Fb' (UF pp FF') g4 vo by rw [fam_set_2, fam_set_3]] at f
  exact ⟨f, (h.fam.kept2 (i := 2) (j := 3) k (l := 4) (by decide) (by decide) g4 rfl).trans h.cfg, (h.mod.keep (h.fam.kept2 (i := 2) (j := 3) k (l := 0) (by decide) (by decide)) k.size).more hN, h.a.keep (h.fam.kept2 (i := 2) (j := 3) k (l := 1) (by decide) (by decide)), m, P, h.out.move (h.fam.kept2 (i := 2) (j := 3) k (l := 5) (by decide) (by decide)), h.every, h.subA, h.subB⟩
/-- something was put behind the output -/
theorem LM.put (h : LM w0 g4 cf mo wa wb pp pa pb Fm Fa Fb FF SM S N n mark L La Lb vo out w) (o : Sl.Own Pn.k w0.heap.size w' vo' (out ++ O)) (k : w.grownBy w' vo.ownBlock) (e : vo'.ownBlock = vo.ownBlock ∨ vo'.ownBlock = some w.heap.size) : LM w0 g4 cf mo wa wb pp pa pb Fm Fa Fb FF SM S N n mark L La Lb vo' (out ++ O) w' := by
  have mv : Moves (fun b => vo.ownBlock = some b) (fun b => vo'.ownBlock = some b) w w' := ⟨k.os, k.tape, k.output, k.size, fun i hi hn => k.block i hi fun q => hn q.symm, fun i hi => ⟨by
    rcases e with e | e
    · exact .inl (e ▸ hi)
    · rw [e] at hi; exact .inr (Nat.le_of_eq (Option.some.inj hi)), (o.lt i hi).2⟩⟩
  have f := h.fam.one (i := 5) mv
  rw [fam_set_5] at f
  exact ⟨f, (h.fam.kept (i := 5) (j := 4) mv (by decide) g4 rfl).trans h.cfg, h.mod.keep (h.fam.kept (i := 5) (j := 0) mv (by decide)) k.size, h.a.keep (h.fam.kept (i := 5) (j := 1) mv (by decide)), h.b.keep (h.fam.kept (i := 5) (j := 2) mv (by decide)), h.pool.kept (h.fam.kept (i := 5) (j := 3) mv (by decide)) k.size, o, h.every, h.subA, h.subB⟩
end
end Sh
end Go.Proofs.YtdnigpkdnkbfbaaGreat

namespace Go.Proofs.YtdnigpkdnkbfbaaGreat
open Go.ChangeShapes Go.WideShapes Go.ChangeAt Go.RowKit
set_option linter.unusedVariables false
set_option maxRecDepth 100000
namespace Sh
open Small Foot Pane Grp Ca Md
/-- a key's group -/
abbrev gk (cf : C8) (x : ByteArray) : Int := Fnv.grp (Fnv.num x.data.toList) cf.r
theorem part_upd {G : ByteArray → Int} {T T' : Lists} {k : Int} {S1 : Lists} (h1 : S1 = Sh.part G T' k) (h2 : ∀ j, j ≠ k → Sh.part G T' j = Sh.part G T j) : (fun y => if y = k then S1 else Sh.part G T y) = Sh.part G T' := funext fun y => by
  by_cases e : y = k
  · subst e; rw [if_pos rfl]; exact h1
  · rw [if_neg e]; exact (h2 y e).symm
/-- an Advance of the model -/
theorem adv {cf : C8} {S S' : Lists} {mark mark' code : Int} {L L' P : List Pn} {x : Cl} {z : Option (Nat × Int × Int × Int)} {c : Nat} {cl' : Bool} (h : MDid cf S mark L false x z code P c S' mark' L' cl') (ho : x.op = 3) :
    cl' = false ∧ c = 0 ∧ ((code = 0 ∧ mark' = x.t ∧ mark ≤ x.t ∧ ∃ O, L' = L ++ O ∧ Outs cf.z x.t S O S' ∧ NoneOver cf.z x.t S') ∨ (code ≠ 0 ∧ S' = S ∧ mark' = mark ∧ L' = L)) := by
  cases h with
  | bad h => exact ⟨rfl, rfl, .inr ⟨by decide, rfl, rfl, rfl⟩⟩
  | closed _ hc => cases hc
  | stale _ _ _ ht => exact ⟨rfl, rfl, .inr ⟨by decide, rfl, rfl, rfl⟩⟩
  | put _ _ hp => exact absurd ho (by simp [puts] at hp; omega)
  | up _ _ _ ht o no => exact ⟨rfl, rfl, .inl ⟨rfl, rfl, by omega, _, rfl, o, no⟩⟩
  | query _ _ hq => omega
  | still _ _ hs => omega
  | shut _ _ hs => omega
/-- the lengths: what went out is no more than what the model told -/
theorem count_len {A B : List Pn} (h : ∀ p, A.count p ≤ B.count p) : A.length ≤ B.length := by
  induction A generalizing B with
  | nil => exact Nat.zero_le _
  | cons p A ih =>
    have hp : p ∈ B := List.count_pos_iff.1 (by have := h p; rw [List.count_cons_self] at this; omega)
    have := ih (B := B.erase p) fun q => by
      have h1 := h q
      by_cases e : p = q
      · subst e
        rw [List.count_cons_self] at h1
        rw [List.count_erase_self]
        omega
      · rw [List.count_cons_of_ne e] at h1
        rw [List.count_erase_of_ne (Ne.symm e)]
        exact h1
    rw [List.length_erase_of_mem hp] at this
    have := List.length_pos_of_mem hp
    simp only [List.length_cons]
    omega
theorem Inv.len {G : ByteArray → Int} {z mark : Int} {T M : Lists} {out L : List Pn} (h : Inv G z mark T M out L) : out.length ≤ L.length := count_len fun p => by
  obtain ⟨X, hX, -⟩ := h.went p.key
  have c : ∀ l : List Pn, l.count p = (ofK p.key l).count p := fun l => (List.count_filter (by simp)).symm
  rw [c out, c L, hX, List.count_append]
  omega
/-- a block that is none of the parts -/
def OG (Fm Fa Fb U : Nat → Prop) (g4 : Nat) (vo : Value) (g : Nat) (T : TypeId) (cs : List Value) (w : World) : Prop := Lies w g T cs ∧ ∀ j, ¬ Sh.fam Fm Fa Fb U g4 vo j g
section
variable {w0 w w' : World} {Fm Fa Fb Fm' Fa' Fb' U U' : Nat → Prop} {g4 g : Nat} {vo vo' : Value} {TT : TypeId} {cs : List Value}
theorem OG.next (h : OG Fm Fa Fb U g4 vo g TT cs w) (k : Below w.heap.size w w') : OG Fm Fa Fb U g4 vo g TT cs w' := ⟨h.1.next k, h.2⟩
theorem OG.new (w : World) (H : Fam w0 w (Sh.fam Fm Fa Fb U g4 vo)) (k : Lies w' w.heap.size TT cs) : OG Fm Fa Fb U g4 vo w.heap.size TT cs w' := ⟨k, fun j hj => Nat.lt_irrefl _ (H.in_ j _ hj)⟩
theorem OG.model (h : OG Fm Fa Fb U g4 vo g TT cs w) (k : Moves Fm Fm' w w') : OG Fm' Fa Fb U g4 vo g TT cs w' := by
  refine ⟨k.lies (h.2 0) h.1, fun j hj => ?_⟩
  have e : ∀ j, Sh.fam Fm' Fa Fb U g4 vo j g → Sh.fam Fm Fa Fb U g4 vo j g ∨ Fm' g := fun j hj => by
    match j, hj with
    | 0, hj => exact .inr hj
    | 1, hj => exact .inl (show Sh.fam Fm Fa Fb U g4 vo 1 g from hj)
    | 2, hj => exact .inl (show Sh.fam Fm Fa Fb U g4 vo 2 g from hj)
    | 3, hj => exact .inl (show Sh.fam Fm Fa Fb U g4 vo 3 g from hj)
    | 4, hj => exact .inl (show Sh.fam Fm Fa Fb U g4 vo 4 g from hj)
    | 5, hj => exact .inl (show Sh.fam Fm Fa Fb U g4 vo 5 g from hj)
    | j + 6, hj => exact hj.elim
  rcases e j hj with q | q
  · exact h.2 j q
  · rcases (k.new _ q).1 with r | r
    · exact h.2 0 r
    · have := h.1.lt; omega
theorem OG.onA (h : OG Fm Fa Fb U g4 vo g TT cs w) (k : Moves Fa Fa' w w') : OG Fm Fa' Fb U g4 vo g TT cs w' := by
  refine ⟨k.lies (h.2 1) h.1, fun j hj => ?_⟩
  have e : ∀ j, Sh.fam Fm Fa' Fb U g4 vo j g → Sh.fam Fm Fa Fb U g4 vo j g ∨ Fa' g := fun j hj => by
    match j, hj with
    | 0, hj => exact .inl (show Sh.fam Fm Fa Fb U g4 vo 0 g from hj)
    | 1, hj => exact .inr hj
    | 2, hj => exact .inl (show Sh.fam Fm Fa Fb U g4 vo 2 g from hj)
    | 3, hj => exact .inl (show Sh.fam Fm Fa Fb U g4 vo 3 g from hj)
    | 4, hj => exact .inl (show Sh.fam Fm Fa Fb U g4 vo 4 g from hj)
    | 5, hj => exact .inl (show Sh.fam Fm Fa Fb U g4 vo 5 g from hj)
    | j + 6, hj => exact hj.elim
  rcases e j hj with q | q
  · exact h.2 j q
  · rcases (k.new _ q).1 with r | r
    · exact h.2 1 r
    · have := h.1.lt; omega
theorem OG.onB (h : OG Fm Fa Fb U g4 vo g TT cs w) (k : Moves Fb Fb' w w') : OG Fm Fa Fb' U g4 vo g TT cs w' := by
  refine ⟨k.lies (h.2 2) h.1, fun j hj => ?_⟩
  have e : ∀ j, Sh.fam Fm Fa Fb' U g4 vo j g → Sh.fam Fm Fa Fb U g4 vo j g ∨ Fb' g := fun j hj => by
    match j, hj with
    | 0, hj => exact .inl (show Sh.fam Fm Fa Fb U g4 vo 0 g from hj)
    | 1, hj => exact .inl (show Sh.fam Fm Fa Fb U g4 vo 1 g from hj)
    | 2, hj => exact .inr hj
    | 3, hj => exact .inl (show Sh.fam Fm Fa Fb U g4 vo 3 g from hj)
    | 4, hj => exact .inl (show Sh.fam Fm Fa Fb U g4 vo 4 g from hj)
    | 5, hj => exact .inl (show Sh.fam Fm Fa Fb U g4 vo 5 g from hj)
    | j + 6, hj => exact hj.elim
  rcases e j hj with q | q
  · exact h.2 j q
  · rcases (k.new _ q).1 with r | r
    · exact h.2 2 r
    · have := h.1.lt; omega
theorem OG.put (h : OG Fm Fa Fb U g4 vo g TT cs w) (k : Moves (fun b => vo.ownBlock = some b) (fun b => vo'.ownBlock = some b) w w') : OG Fm Fa Fb U g4 vo' g TT cs w' := by
  refine ⟨k.lies (h.2 5) h.1, fun j hj => ?_⟩
  have e : ∀ j, Sh.fam Fm Fa Fb U g4 vo' j g → Sh.fam Fm Fa Fb U g4 vo j g ∨ (fun b => vo'.ownBlock = some b) g := fun j hj => by
    match j, hj with
    | 0, hj => exact .inl (show Sh.fam Fm Fa Fb U g4 vo 0 g from hj)
    | 1, hj => exact .inl (show Sh.fam Fm Fa Fb U g4 vo 1 g from hj)
    | 2, hj => exact .inl (show Sh.fam Fm Fa Fb U g4 vo 2 g from hj)
    | 3, hj => exact .inl (show Sh.fam Fm Fa Fb U g4 vo 3 g from hj)
    | 4, hj => exact .inl (show Sh.fam Fm Fa Fb U g4 vo 4 g from hj)
    | 5, hj => exact .inr hj
    | j + 6, hj => exact hj.elim
  rcases e j hj with q | q
  · exact h.2 j q
  · rcases (k.new _ q).1 with r | r
    · exact h.2 5 r
    · have := h.1.lt; omega
theorem OG.allA (h : OG Fm Fa Fb U g4 vo g TT cs w) (k : Moves (Or2 Fa U) (Or2 Fa' U') w w') : OG Fm Fa' Fb U' g4 vo g TT cs w' := by
  refine ⟨k.lies (fun q => q.elim (h.2 1) (h.2 3)) h.1, fun j hj => ?_⟩
  have e : ∀ j, Sh.fam Fm Fa' Fb U' g4 vo j g → Sh.fam Fm Fa Fb U g4 vo j g ∨ Or2 Fa' U' g := fun j hj => by
    match j, hj with
    | 0, hj => exact .inl (show Sh.fam Fm Fa Fb U g4 vo 0 g from hj)
    | 1, hj => exact .inr (.inl hj)
    | 2, hj => exact .inl (show Sh.fam Fm Fa Fb U g4 vo 2 g from hj)
    | 3, hj => exact .inr (.inr hj)
    | 4, hj => exact .inl (show Sh.fam Fm Fa Fb U g4 vo 4 g from hj)
    | 5, hj => exact .inl (show Sh.fam Fm Fa Fb U g4 vo 5 g from hj)
    | j + 6, hj => exact hj.elim
  rcases e j hj with q | q
  · exact h.2 j q
  · rcases (k.new _ q).1 with r | r
    · exact r.elim (h.2 1) (h.2 3)
    · have := h.1.lt; omega
theorem OG.allB (h : OG Fm Fa Fb U g4 vo g TT cs w) (k : Moves (Or2 Fb U) (Or2 Fb' U') w w') : OG Fm Fa Fb' U' g4 vo g TT cs w' := by
  refine ⟨k.lies (fun q => q.elim (h.2 2) (h.2 3)) h.1, fun j hj => ?_⟩
  have e : ∀ j, Sh.fam Fm Fa Fb' U' g4 vo j g → Sh.fam Fm Fa Fb U g4 vo j g ∨ Or2 Fb' U' g := fun j hj => by
    match j, hj with
    | 0, hj => exact .inl (show Sh.fam Fm Fa Fb U g4 vo 0 g from hj)
    | 1, hj => exact .inl (show Sh.fam Fm Fa Fb U g4 vo 1 g from hj)
    | 2, hj => exact .inr (.inl hj)
    | 3, hj => exact .inr (.inr hj)
    | 4, hj => exact .inl (show Sh.fam Fm Fa Fb U g4 vo 4 g from hj)
    | 5, hj => exact .inl (show Sh.fam Fm Fa Fb U g4 vo 5 g from hj)
    | j + 6, hj => exact hj.elim
  rcases e j hj with q | q
  · exact h.2 j q
  · rcases (k.new _ q).1 with r | r
    · exact r.elim (h.2 2) (h.2 3)
    · have := h.1.lt; omega
end
section
variable {w0 w w' : World} {g4 : Nat} {cf : C8} {mo wa wb : Nat} {pp qa qb : Int → Option Nat} {Fm Fa Fb Fa' Fb' Fg' : Nat → Prop} {FF FF' : Int → Nat → Prop} {SM T S1 : Lists} {S' : Int → Lists} {N n1 c : Nat} {n n' : Int → Nat} {mark : Int} {L : List Pn} {La Lb La' Lb' : List Ms.M} {vo : Value} {out O : List Pn} {ks : List Int} {k : Int} {ad : Nat}
theorem LM.apA (h : LM w0 g4 cf mo wa wb pp qa qb Fm Fa Fb FF SM (Sh.part (gk cf) T) N n mark L La Lb vo out w) : Apart Fa (UF qa FF) := fun i hi ⟨x, hx, r⟩ => h.fam.ap 1 3 (by decide) i hi ⟨x, h.subA x hx ▸ hx, r⟩
theorem LM.markA (h : LM w0 g4 cf mo wa wb pp qa qb Fm Fa Fb FF SM (Sh.part (gk cf) T) N n mark L La Lb vo out w) (inv : Inv (gk cf) cf.z mark T SM out L) (hks : KeysOf qa ks) (hmk : Mk cf.z mark (Sh.part (gk cf) T) ks O S') (hi : Is w' wa Fa' cf qa La') (hp : Pool w' qa FF' cf S' N n') (ha : Apart Fa' (UF qa FF')) (hv : Moves (Or2 Fa (UF qa FF)) (Or2 Fa' (UF qa FF')) w w') :
    ∃ T' FF'' n'', LM w0 g4 cf mo wa wb pp qa qb Fm Fa' Fb FF'' SM (Sh.part (gk cf) T') N n'' mark L La' Lb vo out w' ∧ Inv (gk cf) cf.z mark T' SM (out ++ O) L ∧ (∀ x, qa (gk cf x) ≠ none → T' x = SM x) ∧ (∀ x, qa (gk cf x) = none → T' x = T x) ∧ Moves (Or2 Fa (UF pp FF)) (Or2 Fa' (UF pp FF'')) w w' := by
  obtain ⟨P, V, A⟩ := h.pool.merge h.subA hp hv (fun i hi r => h.fam.ap 1 3 (by decide) i hi r) ha
  obtain ⟨T', t1, t2, t3, t4, t5⟩ := inv.marked (hks.up.imp fun {a b} q e => by omega) hmk fun _ _ => rfl
  have e : (fun y => if qa y = none then Sh.part (gk cf) T y else S' y) = Sh.part (gk cf) T' := funext fun y => by
    by_cases e : qa y = none
    · rw [if_pos e]
      exact (t2 y fun r => (hks.mem y).1 r e).2.symm
    · rw [if_neg e]
      exact t1 y ((hks.mem y).2 e)
  rw [e] at P
  exact ⟨T', _, _, h.allA hi P V A (Nat.le_refl _), t3, fun x hx => t4 x ((hks.mem _).2 hx), fun x hx => t5 x (fun r => (hks.mem _).1 r hx), V⟩
theorem LM.askA (h : LM w0 g4 cf mo wa wb pp qa qb Fm Fa Fb FF SM (Sh.part (gk cf) T) N n mark L La Lb vo out w) (hk : qa k = some ad) (hi : Is w' wa Fa' cf qa La') (G : Gr.Is w' ad Fg' cf S1 (N + c) n1) (ha : Apart Fa' Fg') (hv : Moves (Or2 Fa (FF k)) (Or2 Fa' Fg') w w') :
    LM w0 g4 cf mo wa wb pp qa qb Fm Fa' Fb (fun y => if y = k then Fg' else FF y) SM (fun y => if y = k then S1 else Sh.part (gk cf) T y) (N + c) (fun y => if y = k then n1 else n y) mark L La' Lb vo out w' ∧ Moves (Or2 Fa (UF pp FF)) (Or2 Fa' (UF pp fun y => if y = k then Fg' else FF y)) w w' := by
  have hp : pp k = some ad := by rw [← h.subA k (by rw [hk]; simp)]; exact hk
  obtain ⟨P, V, A⟩ := h.pool.two hp G hv (fun i hi r => h.fam.ap 1 3 (by decide) i hi r) ha (Nat.le_add_right _ _)
  exact ⟨h.allA hi P V A (Nat.le_add_right _ _), V⟩
theorem LM.apB (h : LM w0 g4 cf mo wa wb pp qa qb Fm Fa Fb FF SM (Sh.part (gk cf) T) N n mark L La Lb vo out w) : Apart Fb (UF qb FF) := fun i hi ⟨x, hx, r⟩ => h.fam.ap 2 3 (by decide) i hi ⟨x, h.subB x hx ▸ hx, r⟩
theorem LM.markB (h : LM w0 g4 cf mo wa wb pp qa qb Fm Fa Fb FF SM (Sh.part (gk cf) T) N n mark L La Lb vo out w) (inv : Inv (gk cf) cf.z mark T SM out L) (hks : KeysOf qb ks) (hmk : Mk cf.z mark (Sh.part (gk cf) T) ks O S') (hi : Is w' wb Fb' cf qb Lb') (hp : Pool w' qb FF' cf S' N n') (ha : Apart Fb' (UF qb FF')) (hv : Moves (Or2 Fb (UF qb FF)) (Or2 Fb' (UF qb FF')) w w') :
    ∃ T' FF'' n'', LM w0 g4 cf mo wa wb pp qa qb Fm Fa Fb' FF'' SM (Sh.part (gk cf) T') N n'' mark L La Lb' vo out w' ∧ Inv (gk cf) cf.z mark T' SM (out ++ O) L ∧ (∀ x, qb (gk cf x) ≠ none → T' x = SM x) ∧ (∀ x, qb (gk cf x) = none → T' x = T x) ∧ Moves (Or2 Fb (UF pp FF)) (Or2 Fb' (UF pp FF'')) w w' := by
  obtain ⟨P, V, A⟩ := h.pool.merge h.subB hp hv (fun i hi r => h.fam.ap 2 3 (by decide) i hi r) ha
  obtain ⟨T', t1, t2, t3, t4, t5⟩ := inv.marked (hks.up.imp fun {a b} q e => by omega) hmk fun _ _ => rfl
  have e : (fun y => if qb y = none then Sh.part (gk cf) T y else S' y) = Sh.part (gk cf) T' := funext fun y => by
    by_cases e : qb y = none
    · rw [if_pos e]
      exact (t2 y fun r => (hks.mem y).1 r e).2.symm
    · rw [if_neg e]
      exact t1 y ((hks.mem y).2 e)
  rw [e] at P
  exact ⟨T', _, _, h.allB hi P V A (Nat.le_refl _), t3, fun x hx => t4 x ((hks.mem _).2 hx), fun x hx => t5 x (fun r => (hks.mem _).1 r hx), V⟩
theorem LM.askB (h : LM w0 g4 cf mo wa wb pp qa qb Fm Fa Fb FF SM (Sh.part (gk cf) T) N n mark L La Lb vo out w) (hk : qb k = some ad) (hi : Is w' wb Fb' cf qb Lb') (G : Gr.Is w' ad Fg' cf S1 (N + c) n1) (ha : Apart Fb' Fg') (hv : Moves (Or2 Fb (FF k)) (Or2 Fb' Fg') w w') :
    LM w0 g4 cf mo wa wb pp qa qb Fm Fa Fb' (fun y => if y = k then Fg' else FF y) SM (fun y => if y = k then S1 else Sh.part (gk cf) T y) (N + c) (fun y => if y = k then n1 else n y) mark L La Lb' vo out w' ∧ Moves (Or2 Fb (UF pp FF)) (Or2 Fb' (UF pp fun y => if y = k then Fg' else FF y)) w w' := by
  have hp : pp k = some ad := by rw [← h.subB k (by rw [hk]; simp)]; exact hk
  obtain ⟨P, V, A⟩ := h.pool.two hp G hv (fun i hi r => h.fam.ap 2 3 (by decide) i hi r) ha (Nat.le_add_right _ _)
  exact ⟨h.allB hi P V A (Nat.le_add_right _ _), V⟩
theorem LM.more {N' : Nat} (h : LM w0 g4 cf mo wa wb pp qa qb Fm Fa Fb FF SM S' N n mark L La Lb vo out w) (hN : N ≤ N') : LM w0 g4 cf mo wa wb pp qa qb Fm Fa Fb FF SM S' N' n mark L La Lb vo out w :=
  ⟨h.fam, h.cfg, h.mod.more hN, h.a, h.b, h.pool.more hN, h.out, h.every, h.subA, h.subB⟩
theorem LM.few (h : LM w0 g4 cf mo wa wb pp qa qb Fm Fa Fb FF SM S' N n mark L La Lb vo out w) : L.length ≤ N := by
  obtain ⟨g, Fg, m, G, q⟩ := h.mod.grp
  omega
theorem LM.grp (h : LM w0 g4 cf mo wa wb pp qa qb Fm Fa Fb FF SM (Sh.part (gk cf) T) N n mark L La Lb vo out w) (hk : pp k = some ad) : Gr.Is w ad (FF k) cf (Sh.part (gk cf) T k) N (n k) := h.pool.is k ad hk
end
end Sh
end Go.Proofs.YtdnigpkdnkbfbaaGreat

namespace Go.Proofs.YtdnigpkdnkbfbaaGreat
open Go.ChangeShapes Go.WideShapes Go.ChangeAt Go.RowKit
set_option linter.unusedVariables false
set_option maxRecDepth 100000
namespace Sh
open Small Foot Pane Grp Ca Md
set_option maxHeartbeats 1600000 in
theorem box_at {wk m bx : Nat} {bv : Value} {cf : C8} {p : Int → Option Nat} {L : List Ms.M} (w : World) (H : Hid (Q w wk m bx bv cf p L)) :
    Calls Tryz.prog 9 #[gp wk] w fun r w' => r = .returned (gp bx) ∧ w = w' := by
  have m9 := H.out.lies.cell (i := 9) rfl
  go_enter Tryz.func9, Tryz.ntmps9
  go_wp2
  go_ret
  exact ⟨rfl, rfl⟩
theorem Q.next {w w' : World} {wk m bx : Nat} {bv : Value} {cf : C8} {p : Int → Option Nat} {L : List Ms.M} (h : Q w wk m bx bv cf p L) (k : Below w.heap.size w w') : Q w' wk m bx bv cf p L := h.keep fun i hi => k.block i (h.in i hi)
/-- what Pick tells -/
def pk (c n : Int) : Int := (if c < 0 then -(c + 1) else c) % n
theorem pk_in {c n : Int} (h : 0 < n) : 0 ≤ pk c n ∧ pk c n < n := ⟨Int.emod_nonneg _ (by omega), Int.emod_lt_of_pos _ h⟩
set_option maxHeartbeats 800000 in
theorem pick_det (c n : Int) (w : World) (hc : (Lit.int .i64 c).wf = true) (hn : 0 < n) (hn2 : n ≤ 1000) : Calls Tryz.prog 10 #[.int .i64 c, .int .i64 n] w fun r w' => r = .returned (.int .i64 (pk c n)) ∧ w = w' := by
  obtain ⟨c0, c1⟩ := fit hc
  by_cases h : c < 0
  · have t1 : IntKind.i64.wrap (c + 1) = c + 1 := IntWalk.i64_in _ (by omega)
    have t2 : IntKind.i64.wrap (-(c + 1)) = -(c + 1) := IntWalk.i64_in _ (by omega)
    have n0 : ¬ n = 0 := by omega
    have n1 : (n == 0) = false := by simpa using n0
    have e : (-(c + 1)).tmod n = (-(c + 1)) % n := Int.tmod_eq_emod_of_nonneg (by omega)
    have e2 : -(c + 1).tmod n = (-(c + 1)) % n := by rw [← e, Int.neg_tmod]
    have hp : pk c n = (-(c + 1)) % n := by unfold pk; rw [if_pos h]
    have E := Lib.hid e2
    have HP := Lib.hid hp
    clear e e2 hp
    go_enter Tryz.func10, Tryz.ntmps10
    go_wp2
    go_ret
    exact ⟨ret_int (by first | (rw [HP.out]; done) | rw [E.out, HP.out]), rfl⟩
  · have n0 : ¬ n = 0 := by omega
    have n1 : (n == 0) = false := by simpa using n0
    have e : c.tmod n = c % n := Int.tmod_eq_emod_of_nonneg (by omega)
    have hp : pk c n = c % n := by unfold pk; rw [if_neg h]
    have E := Lib.hid e
    have HP := Lib.hid hp
    clear e hp
    go_enter Tryz.func10, Tryz.ntmps10
    go_wp2
    go_ret
    exact ⟨ret_int (by first | (rw [HP.out]; done) | rw [E.out, HP.out]), rfl⟩
/-- a block that is none of the parts was written -/
theorem LM.far {w0 w w' : World} {g4 g : Nat} {cf : C8} {mo wa wb : Nat} {pp qa qb : Int → Option Nat} {Fm Fa Fb : Nat → Prop} {FF : Int → Nat → Prop} {SM : Lists} {S' : Int → Lists} {N : Nat} {n : Int → Nat} {mark : Int} {L : List Pn} {La Lb : List Ms.M} {vo : Value} {out : List Pn}
    (h : LM w0 g4 cf mo wa wb pp qa qb Fm Fa Fb FF SM S' N n mark L La Lb vo out w) (k : w.grownBy w' (some g)) (hg : ∀ j, ¬ Sh.fam Fm Fa Fb (UF pp FF) g4 vo j g) (lo : w0.heap.size ≤ g) : LM w0 g4 cf mo wa wb pp qa qb Fm Fa Fb FF SM S' N n mark L La Lb vo out w' := by
  have kp : ∀ j b, Sh.fam Fm Fa Fb (UF pp FF) g4 vo j b → w'.heap[b]? = w.heap[b]? := fun j b hb => k.block b (h.fam.in_ j b hb) fun e => hg j (Option.some.inj e ▸ hb)
  exact ⟨⟨fun i => (h.fam.in_ i).next k.size, h.fam.lo, h.fam.ap, h.fam.below.grown k h.fam.below.size (fun j hj => by cases hj; exact lo)⟩, (kp 4 g4 rfl).trans h.cfg, h.mod.keep (kp 0) k.size, h.a.keep (kp 1), h.b.keep (kp 2), h.pool.kept (kp 3) k.size, h.out.move (kp 5), h.every, h.subA, h.subB⟩
theorem OG.far {w w' : World} {Fm Fa Fb U : Nat → Prop} {g4 g b : Nat} {vo : Value} {TT : TypeId} {cs : List Value} (h : OG Fm Fa Fb U g4 vo b TT cs w) (k : w.grownBy w' (some g)) (hne : b ≠ g) : OG Fm Fa Fb U g4 vo b TT cs w' :=
  ⟨(k.block b h.1.lt fun e => hne (Option.some.inj e)).trans h.1, h.2⟩
end Sh
end Go.Proofs.YtdnigpkdnkbfbaaGreat
