/-
  What lies in memory in the midst of ShardModel: a model, two workers, groups each of one of them, an output; each made of blocks of its own; what each call leaves of it.
-/
import Derived.Test.YtdnigpkdnkbfbaaGreatShMath
import Derived.Test.YtdnigpkdnkbfbaaGreatUp14
namespace Go.Proofs.YtdnigpkdnkbfbaaGreat
open Go.ChangeShapes Go.WideShapes Go.ChangeAt Go.RowKit
set_option linter.unusedVariables false
set_option maxRecDepth 100000
namespace Sh
open Small Foot Pane Grp Ca Md

/-- parts of the memory, apart from one another, all made behind w0 -/
structure Fam (w0 w : World) (R : Nat → Nat → Prop) : Prop where
  in_ : ∀ i, In w (R i)
  lo : ∀ i, From w0.heap.size (R i)
  ap : ∀ i j, i ≠ j → Apart (R i) (R j)
  below : Below w0.heap.size w0 w
def rset (R : Nat → Nat → Prop) (i : Nat) (F : Nat → Prop) : Nat → Nat → Prop := fun k => if k = i then F else R k
section
variable {w0 w w' : World} {R : Nat → Nat → Prop} {F F' G G' : Nat → Prop} {i j : Nat}
theorem Fam.next (h : Fam w0 w R) (k : Below w.heap.size w w') : Fam w0 w' R := ⟨fun i => (h.in_ i).next k.size, h.lo, h.ap, after h.below k⟩
theorem Fam.one (h : Fam w0 w R) (k : Moves (R i) F' w w') : Fam w0 w' (rset R i F') := by
  have ap : ∀ j, j ≠ i → Apart F' (R j) := fun j hj => k.apart (h.ap i j (Ne.symm hj)) (h.in_ j)
  refine ⟨fun j => ?_, fun j => ?_, fun j l hjl => ?_, h.below.trans (k.below (h.lo i) h.below.size)⟩
  · unfold rset; split
    · exact k.in
    · exact (h.in_ j).next k.size
  · unfold rset; split
    · exact k.from (h.lo i) h.below.size
    · exact h.lo j
  · unfold rset
    by_cases e : j = i
    · rw [if_pos e, if_neg (fun q => hjl (e.trans q.symm))]
      exact ap l fun q => hjl (e.trans q.symm)
    · rw [if_neg e]
      by_cases e' : l = i
      · rw [if_pos e']; exact (ap j e).symm
      · rw [if_neg e']; exact h.ap j l hjl
theorem Fam.two (h : Fam w0 w R) (hij : i ≠ j) (k : Moves (Or2 (R i) (R j)) (Or2 F' G') w w') (a : Apart F' G') : Fam w0 w' (rset (rset R i F') j G') := by
  have ap : ∀ l, l ≠ i → l ≠ j → Apart (Or2 F' G') (R l) := fun l h1 h2 => k.apart (fun b hb q => hb.elim (fun r => h.ap i l (Ne.symm h1) b r q) fun r => h.ap j l (Ne.symm h2) b r q) (h.in_ l)
  have lo : From w0.heap.size (Or2 F' G') := k.from (fun b hb => hb.elim (h.lo i b) (h.lo j b)) h.below.size
  have val : ∀ l, rset (rset R i F') j G' l = if l = j then G' else if l = i then F' else R l := fun l => rfl
  refine ⟨fun l => ?_, fun l => ?_, fun l m hlm => ?_, h.below.trans (k.below (fun b hb => hb.elim (h.lo i b) (h.lo j b)) h.below.size)⟩
  · rw [val]; split
    · exact fun b hb => k.in b (.inr hb)
    · split
      · exact fun b hb => k.in b (.inl hb)
      · exact (h.in_ l).next k.size
  · rw [val]; split
    · exact fun b hb => lo b (.inr hb)
    · split
      · exact fun b hb => lo b (.inl hb)
      · exact h.lo l
  · rw [val, val]
    by_cases e1 : l = j
    · subst e1
      rw [if_pos rfl, if_neg (Ne.symm hlm)]
      by_cases e2 : m = i
      · rw [if_pos e2]; exact a.symm
      · rw [if_neg e2]; exact fun b hb q => ap m e2 (Ne.symm hlm) b (.inr hb) q
    · rw [if_neg e1]
      by_cases e3 : m = j
      · subst e3
        rw [if_pos rfl]
        by_cases e2 : l = i
        · rw [if_pos e2]; exact a
        · rw [if_neg e2]; exact fun b hb q => ap l e2 e1 b (.inr q) hb
      · rw [if_neg e3]
        by_cases e2 : l = i
        · subst e2
          rw [if_pos rfl, if_neg (Ne.symm hlm)]
          exact fun b hb q => ap m (Ne.symm hlm) e3 b (.inl hb) q
        · rw [if_neg e2]
          by_cases e4 : m = i
          · subst e4; rw [if_pos rfl]; exact fun b hb q => ap l e2 e1 b (.inl q) hb
          · rw [if_neg e4]; exact h.ap l m hlm
theorem Fam.kept (h : Fam w0 w R) (k : Moves (R i) F' w w') (hj : j ≠ i) : ∀ b, R j b → w'.heap[b]? = w.heap[b]? := fun b hb => k.block b (h.in_ j b hb) fun q => h.ap i j (Ne.symm hj) b q hb
theorem Fam.kept2 (h : Fam w0 w R) (k : Moves (Or2 (R i) (R j)) F' w w') {l : Nat} (h1 : l ≠ i) (h2 : l ≠ j) : ∀ b, R l b → w'.heap[b]? = w.heap[b]? := fun b hb => k.block b (h.in_ l b hb) fun q => q.elim (fun q => h.ap i l (Ne.symm h1) b q hb) fun q => h.ap j l (Ne.symm h2) b q hb
end
def fam (Fm Fa Fb U : Nat → Prop) (g4 : Nat) (vo : Value) : Nat → Nat → Prop
  | 0 => Fm
  | 1 => Fa
  | 2 => Fb
  | 3 => U
  | 4 => fun b => b = g4
  | 5 => fun b => vo.ownBlock = some b
  | _ => fun _ => False
theorem Pool.kept {w w' : World} {p : Int → Option Nat} {FF : Int → Nat → Prop} {cf : C8} {S : Int → Lists} {N : Nat} {n : Int → Nat} (h : Pool w p FF cf S N n) (k : ∀ b, UF p FF b → w'.heap[b]? = w.heap[b]?) (s : w.heap.size ≤ w'.heap.size) : Pool w' p FF cf S N n :=
  ⟨fun x a ha => (h.is x a ha).keep (fun i hi => k i ⟨x, by rw [ha]; simp, hi⟩) s, h.apart⟩
theorem Pool.more {w : World} {p : Int → Option Nat} {FF : Int → Nat → Prop} {cf : C8} {S : Int → Lists} {N N' : Nat} {n : Int → Nat} (h : Pool w p FF cf S N n) (hN : N ≤ N') : Pool w p FF cf S N' n := ⟨fun x a ha => (h.is x a ha).more hN, h.apart⟩

/-- a group went on, and something else beside it -/
theorem Pool.two {w w' : World} {p : Int → Option Nat} {FF : Int → Nat → Prop} {cf : C8} {S : Int → Lists} {N N' n' : Nat} {n : Int → Nat} {E E' F' : Nat → Prop} {x : Int} {a : Nat} {T : Lists} (h : Pool w p FF cf S N n) (hx : p x = some a) (G : Gr.Is w' a F' cf T N' n') (V : Moves (Or2 E (FF x)) (Or2 E' F') w w') (A : Apart E (UF p FF)) (A' : Apart E' F') (hN : N ≤ N') :
    Pool w' p (fun y => if y = x then F' else FF y) cf (fun y => if y = x then T else S y) N' (fun y => if y = x then n' else n y) ∧ Moves (Or2 E (UF p FF)) (Or2 E' (UF p fun y => if y = x then F' else FF y)) w w' ∧ Apart E' (UF p fun y => if y = x then F' else FF y) := by
  have hxn : p x ≠ none := by rw [hx]; simp
  have ap0 : ∀ y, y ≠ x → p y ≠ none → Apart (Or2 E (FF x)) (FF y) := fun y hy hn i hi q => hi.elim (fun r => A i r ⟨y, hn, q⟩) fun r => h.apart x y (Ne.symm hy) hxn hn i r q
  have ap : ∀ y, y ≠ x → p y ≠ none → Apart (Or2 E' F') (FF y) := fun y hy hn => by
    obtain ⟨b, hb⟩ := Option.ne_none_iff_exists'.1 hn
    exact V.apart (ap0 y hy hn) (h.is y b hb).in
  refine ⟨⟨fun y b hb => ?_, fun y y' hne hy hy' => ?_⟩, ⟨V.os, V.tape, V.output, V.size, fun i hi hn => V.block i hi fun q => hn (q.imp id fun q => ⟨x, hxn, q⟩), fun i hi => ?_⟩, fun i hi q => ?_⟩
  · by_cases e : y = x
    · subst e
      rw [hx] at hb
      obtain rfl := Option.some.inj hb
      simpa using G
    · simp only [e, if_false]
      have hn : p y ≠ none := by rw [hb]; simp
      exact ((h.is y b hb).keep (fun i hi => V.block i ((h.is y b hb).in i hi) fun q => ap0 y e hn i q hi) V.size).more hN
  · by_cases e : y = x
    · subst e
      rw [if_pos rfl, if_neg (Ne.symm hne)]
      exact fun i hi q => ap y' (Ne.symm hne) hy' i (.inr hi) q
    · by_cases e' : y' = x
      · subst e'
        rw [if_pos rfl, if_neg e]
        exact fun i hi q => ap y e hy i (.inr q) hi
      · rw [if_neg e, if_neg e']
        exact h.apart y y' hne hy hy'
  · rcases hi with hi | ⟨y, hy, hi⟩
    · exact ⟨(V.new i (.inl hi)).1.imp (fun q => q.imp id fun q => ⟨x, hxn, q⟩) id, (V.new i (.inl hi)).2⟩
    · by_cases e : y = x
      · subst e
        simp only [if_true] at hi
        exact ⟨(V.new i (.inr hi)).1.imp (fun q => q.imp id fun q => ⟨y, hy, q⟩) id, (V.new i (.inr hi)).2⟩
      · simp only [e, if_false] at hi
        obtain ⟨b, hb⟩ := Option.ne_none_iff_exists'.1 hy
        exact ⟨.inl (.inr ⟨y, hy, hi⟩), Nat.lt_of_lt_of_le ((h.is y b hb).in i hi) V.size⟩
  · obtain ⟨y, hy, q⟩ := q
    by_cases e : y = x
    · subst e
      simp only [if_true] at q
      exact A' i hi q
    · simp only [e, if_false] at q
      exact ap y e hy i (.inl hi) q
theorem Pool.sub {w : World} {p q : Int → Option Nat} {FF : Int → Nat → Prop} {cf : C8} {S : Int → Lists} {N : Nat} {n : Int → Nat} (h : Pool w p FF cf S N n) (hs : ∀ x, q x ≠ none → q x = p x) : Pool w q FF cf S N n :=
  ⟨fun x a ha => h.is x a (by rw [← hs x (by rw [ha]; simp)]; exact ha), fun x y hne hx hy => h.apart x y hne (hs x hx ▸ hx) (hs y hy ▸ hy)⟩
/-- those of one worker went on, and something else beside them -/
theorem Pool.merge {w w' : World} {p q : Int → Option Nat} {FF FF' : Int → Nat → Prop} {cf : C8} {S S' : Int → Lists} {N : Nat} {n n' : Int → Nat} {E E' : Nat → Prop} (h : Pool w p FF cf S N n) (hs : ∀ x, q x ≠ none → q x = p x) (k : Pool w' q FF' cf S' N n') (V : Moves (Or2 E (UF q FF)) (Or2 E' (UF q FF')) w w') (A : Apart E (UF p FF)) (A' : Apart E' (UF q FF')) :
    Pool w' p (fun y => if q y = none then FF y else FF' y) cf (fun y => if q y = none then S y else S' y) N (fun y => if q y = none then n y else n' y) ∧ Moves (Or2 E (UF p FF)) (Or2 E' (UF p fun y => if q y = none then FF y else FF' y)) w w' ∧ Apart E' (UF p fun y => if q y = none then FF y else FF' y) := by
  have up : ∀ y, q y ≠ none → p y ≠ none := fun y hy => hs y hy ▸ hy
  have uu : ∀ i, UF q FF i → UF p FF i := fun i ⟨y, hy, hi⟩ => ⟨y, up y hy, hi⟩
  have ap0 : ∀ y, q y = none → p y ≠ none → Apart (Or2 E (UF q FF)) (FF y) := fun y hy hn i hi r => hi.elim (fun s => A i s ⟨y, hn, r⟩) fun ⟨z, hz, s⟩ => h.apart z y (fun e => hz (e ▸ hy)) (up z hz) hn i s r
  have ap : ∀ y, q y = none → p y ≠ none → Apart (Or2 E' (UF q FF')) (FF y) := fun y hy hn => by
    obtain ⟨b, hb⟩ := Option.ne_none_iff_exists'.1 hn
    exact V.apart (ap0 y hy hn) (h.is y b hb).in
  refine ⟨⟨fun y b hb => ?_, fun y y' hne hy hy' => ?_⟩, ⟨V.os, V.tape, V.output, V.size, fun i hi hn => V.block i hi fun r => hn (r.imp id (uu i)), fun i hi => ?_⟩, fun i hi r => ?_⟩
  · by_cases e : q y = none
    · simp only [e, if_true]
      have hn : p y ≠ none := by rw [hb]; simp
      exact (h.is y b hb).keep (fun i hi => V.block i ((h.is y b hb).in i hi) fun r => ap0 y e hn i r hi) V.size
    · simp only [e, if_false]
      exact k.is y b ((hs y e).trans hb)
  · by_cases e : q y = none
    · rw [if_pos e]
      by_cases e' : q y' = none
      · rw [if_pos e']; exact h.apart y y' hne hy hy'
      · rw [if_neg e']; exact fun i hi r => ap y e hy i (.inr ⟨y', e', r⟩) hi
    · rw [if_neg e]
      by_cases e' : q y' = none
      · rw [if_pos e']; exact fun i hi r => ap y' e' hy' i (.inr ⟨y, e, hi⟩) r
      · rw [if_neg e']; exact k.apart y y' hne e e'
  · rcases hi with hi | ⟨y, hy, hi⟩
    · exact ⟨(V.new i (.inl hi)).1.imp (fun r => r.imp id (uu i)) id, (V.new i (.inl hi)).2⟩
    · by_cases e : q y = none
      · simp only [e, if_true] at hi
        obtain ⟨b, hb⟩ := Option.ne_none_iff_exists'.1 hy
        exact ⟨.inl (.inr ⟨y, hy, hi⟩), Nat.lt_of_lt_of_le ((h.is y b hb).in i hi) V.size⟩
      · simp only [e, if_false] at hi
        exact ⟨(V.new i (.inr ⟨y, e, hi⟩)).1.imp (fun r => r.imp id (uu i)) id, (V.new i (.inr ⟨y, e, hi⟩)).2⟩
  · obtain ⟨y, hy, r⟩ := r
    by_cases e : q y = none
    · simp only [e, if_true] at r
      exact ap y e hy i (.inl hi) r
    · simp only [e, if_false] at r
      exact A' i hi ⟨y, e, r⟩
theorem fam_set_0 (a b c d : Nat → Prop) (e : Nat) (f : Value) (x : Nat → Prop) : rset (fam a b c d e f) 0 x = fam x b c d e f := by
  funext l; match l with
  | 0 => rfl
  | 1 => rfl
  | 2 => rfl
  | 3 => rfl
  | 4 => rfl
  | 5 => rfl
  | l + 6 => rfl
theorem fam_set_1 (a b c d : Nat → Prop) (e : Nat) (f : Value) (x : Nat → Prop) : rset (fam a b c d e f) 1 x = fam a x c d e f := by
  funext l; match l with
  | 0 => rfl
  | 1 => rfl
  | 2 => rfl
  | 3 => rfl
  | 4 => rfl
  | 5 => rfl
  | l + 6 => rfl
theorem fam_set_2 (a b c d : Nat → Prop) (e : Nat) (f : Value) (x : Nat → Prop) : rset (fam a b c d e f) 2 x = fam a b x d e f := by
  funext l; match l with
  | 0 => rfl
  | 1 => rfl
  | 2 => rfl
  | 3 => rfl
  | 4 => rfl
  | 5 => rfl
  | l + 6 => rfl
theorem fam_set_3 (a b c d : Nat → Prop) (e : Nat) (f : Value) (x : Nat → Prop) : rset (fam a b c d e f) 3 x = fam a b c x e f := by
  funext l; match l with
  | 0 => rfl
  | 1 => rfl
  | 2 => rfl
  | 3 => rfl
  | 4 => rfl
  | 5 => rfl
  | l + 6 => rfl
theorem fam_set_5 (a b c d : Nat → Prop) (e : Nat) (f : Value) (x : Value) : rset (fam a b c d e f) 5 (fun b => x.ownBlock = some b) = fam a b c d e x := by
  funext l; match l with
  | 0 => rfl
  | 1 => rfl
  | 2 => rfl
  | 3 => rfl
  | 4 => rfl
  | 5 => rfl
  | l + 6 => rfl

structure LM (w0 : World) (g4 : Nat) (cf : C8) (mo wa wb : Nat) (pp pa pb : Int → Option Nat) (Fm Fa Fb : Nat → Prop) (FF : Int → Nat → Prop) (SM : Lists) (S : Int → Lists) (N : Nat) (n : Int → Nat) (mark : Int) (L : List Pn) (La Lb : List Ms.M) (vo : Value) (out : List Pn) (w : World) : Prop where
  fam : Fam w0 w (fam Fm Fa Fb (UF pp FF) g4 vo)
  cfg : Lies w g4 23 cf.cl
  mod : Md.Is w mo Fm cf SM N mark L false
  a : Is w wa Fa cf pa La
  b : Is w wb Fb cf pb Lb
  pool : Pool w pp FF cf S N n
  out : Sl.Own Pn.k w0.heap.size w vo out
  every : ∀ x, pp x ≠ none ↔ (0 ≤ x ∧ x < cf.r)
  subA : ∀ x, pa x ≠ none → pa x = pp x
  subB : ∀ x, pb x ≠ none → pb x = pp x
section
variable {w0 w w' : World} {g4 : Nat} {cf : C8} {mo wa wb : Nat} {pp pa pb pa' pb' : Int → Option Nat} {Fm Fa Fb Fm' Fa' Fb' : Nat → Prop} {FF FF' : Int → Nat → Prop} {SM SM' : Lists} {S S' : Int → Lists} {N N' : Nat} {n n' : Int → Nat} {mark mark' : Int} {L L' : List Pn} {La Lb La' Lb' : List Ms.M} {vo vo' : Value} {out O : List Pn}
theorem LM.next (h : LM w0 g4 cf mo wa wb pp pa pb Fm Fa Fb FF SM S N n mark L La Lb vo out w) (k : Below w.heap.size w w') : LM w0 g4 cf mo wa wb pp pa pb Fm Fa Fb FF SM S N n mark L La Lb vo out w' :=
  ⟨h.fam.next k, h.cfg.next k, h.mod.next k, h.a.next k, h.b.next k, h.pool.next k, h.out.next k, h.every, h.subA, h.subB⟩
/-- the model went on -/
theorem LM.model (h : LM w0 g4 cf mo wa wb pp pa pb Fm Fa Fb FF SM S N n mark L La Lb vo out w) (m : Md.Is w' mo Fm' cf SM' N' mark' L' false) (k : Moves Fm Fm' w w') (hN : N ≤ N') : LM w0 g4 cf mo wa wb pp pa pb Fm' Fa Fb FF SM' S N' n mark' L' La Lb vo out w' := by
  have f := h.fam.one (i := 0) k
  have e : rset (Sh.fam Fm Fa Fb (UF pp FF) g4 vo) 0 Fm' = Sh.fam Fm' Fa Fb (UF pp FF) g4 vo := fam_set_0 ..
  rw [e] at f
  exact ⟨f, (h.fam.kept (i := 0) (j := 4) k (by decide) g4 rfl).trans h.cfg, m, h.a.keep (h.fam.kept (i := 0) (j := 1) k (by decide)), h.b.keep (h.fam.kept (i := 0) (j := 2) k (by decide)), (h.pool.kept (h.fam.kept (i := 0) (j := 3) k (by decide)) k.size).more hN, h.out.move (h.fam.kept (i := 0) (j := 5) k (by decide)), h.every, h.subA, h.subB⟩
/-- a worker went on, its groups aside -/
theorem LM.onA (h : LM w0 g4 cf mo wa wb pp pa pb Fm Fa Fb FF SM S N n mark L La Lb vo out w) (m : Is w' wa Fa' cf pa' La') (k : Moves Fa Fa' w w') (hs : ∀ x, pa' x ≠ none → pa' x = pp x) : LM w0 g4 cf mo wa wb pp pa' pb Fm Fa' Fb FF SM S N n mark L La' Lb vo out w' := by
  have f := h.fam.one (i := 1) k
  have e : rset (Sh.fam Fm Fa Fb (UF pp FF) g4 vo) 1 Fa' = Sh.fam Fm Fa' Fb (UF pp FF) g4 vo := fam_set_1 ..
  rw [e] at f
  exact ⟨f, (h.fam.kept (i := 1) (j := 4) k (by decide) g4 rfl).trans h.cfg, h.mod.keep (h.fam.kept (i := 1) (j := 0) k (by decide)) k.size, m, h.b.keep (h.fam.kept (i := 1) (j := 2) k (by decide)), h.pool.kept (h.fam.kept (i := 1) (j := 3) k (by decide)) k.size, h.out.move (h.fam.kept (i := 1) (j := 5) k (by decide)), h.every, hs, h.subB⟩
theorem LM.onB (h : LM w0 g4 cf mo wa wb pp pa pb Fm Fa Fb FF SM S N n mark L La Lb vo out w) (m : Is w' wb Fb' cf pb' Lb') (k : Moves Fb Fb' w w') (hs : ∀ x, pb' x ≠ none → pb' x = pp x) : LM w0 g4 cf mo wa wb pp pa pb' Fm Fa Fb' FF SM S N n mark L La Lb' vo out w' := by
  have f := h.fam.one (i := 2) k
  have e : rset (Sh.fam Fm Fa Fb (UF pp FF) g4 vo) 2 Fb' = Sh.fam Fm Fa Fb' (UF pp FF) g4 vo := fam_set_2 ..
  rw [e] at f
  exact ⟨f, (h.fam.kept (i := 2) (j := 4) k (by decide) g4 rfl).trans h.cfg, h.mod.keep (h.fam.kept (i := 2) (j := 0) k (by decide)) k.size, h.a.keep (h.fam.kept (i := 2) (j := 1) k (by decide)), m, h.pool.kept (h.fam.kept (i := 2) (j := 3) k (by decide)) k.size, h.out.move (h.fam.kept (i := 2) (j := 5) k (by decide)), h.every, h.subA, hs⟩
/-- a worker, and groups, went on -/
theorem LM.allA (h : LM w0 g4 cf mo wa wb pp pa pb Fm Fa Fb FF SM S N n mark L La Lb vo out w) (m : Is w' wa Fa' cf pa La') (P : Pool w' pp FF' cf S' N' n') (k : Moves (Or2 Fa (UF pp FF)) (Or2 Fa' (UF pp FF')) w w') (A : Apart Fa' (UF pp FF')) (hN : N ≤ N') : LM w0 g4 cf mo wa wb pp pa pb Fm Fa' Fb FF' SM S' N' n' mark L La' Lb vo out w' := by
  have f := h.fam.two (i := 1) (j := 3) (by decide) k A
  rw [show rset (rset (Sh.fam Fm Fa Fb (UF pp FF) g4 vo) 1 Fa') 3 (UF pp FF') = Sh.fam Fm Fa' Fb (UF pp FF') g4 vo by rw [fam_set_1, fam_set_3]] at f
  exact ⟨f, (h.fam.kept2 (i := 1) (j := 3) k (l := 4) (by decide) (by decide) g4 rfl).trans h.cfg, (h.mod.keep (h.fam.kept2 (i := 1) (j := 3) k (l := 0) (by decide) (by decide)) k.size).more hN, m, h.b.keep (h.fam.kept2 (i := 1) (j := 3) k (l := 2) (by decide) (by decide)), P, h.out.move (h.fam.kept2 (i := 1) (j := 3) k (l := 5) (by decide) (by decide)), h.every, h.subA, h.subB⟩
theorem LM.allB (h : LM w0 g4 cf mo wa wb pp pa pb Fm Fa Fb FF SM S N n mark L La Lb vo out w) (m : Is w' wb Fb' cf pb Lb') (P : Pool w' pp FF' cf S' N' n') (k : Moves (Or2 Fb (UF pp FF)) (Or2 Fb' (UF pp FF')) w w') (A : Apart Fb' (UF pp FF')) (hN : N ≤ N') : LM w0 g4 cf mo wa wb pp pa pb Fm Fa Fb' FF' SM S' N' n' mark L La Lb' vo out w' := by
  have f := h.fam.two (i := 2) (j := 3) (by decide) k A
  rw [show rset (rset (Sh.fam Fm Fa Fb (UF pp FF) g4 vo) 2 Fb') 3 (UF pp FF') = Sh.fam Fm Fa Fb' (UF pp FF') g4 vo by rw [fam_set_2, fam_set_3]] at f
  exact ⟨f, (h.fam.kept2 (i := 2) (j := 3) k (l := 4) (by decide) (by decide) g4 rfl).trans h.cfg, (h.mod.keep (h.fam.kept2 (i := 2) (j := 3) k (l := 0) (by decide) (by decide)) k.size).more hN, h.a.keep (h.fam.kept2 (i := 2) (j := 3) k (l := 1) (by decide) (by decide)), m, P, h.out.move (h.fam.kept2 (i := 2) (j := 3) k (l := 5) (by decide) (by decide)), h.every, h.subA, h.subB⟩
/-- something was put behind the output -/
theorem LM.put (h : LM w0 g4 cf mo wa wb pp pa pb Fm Fa Fb FF SM S N n mark L La Lb vo out w) (o : Sl.Own Pn.k w0.heap.size w' vo' (out ++ O)) (k : w.grownBy w' vo.ownBlock) (e : vo'.ownBlock = vo.ownBlock ∨ vo'.ownBlock = some w.heap.size) : LM w0 g4 cf mo wa wb pp pa pb Fm Fa Fb FF SM S N n mark L La Lb vo' (out ++ O) w' := by
  have mv : Moves (fun b => vo.ownBlock = some b) (fun b => vo'.ownBlock = some b) w w' := ⟨k.os, k.tape, k.output, k.size, fun i hi hn => k.block i hi fun q => hn q.symm, fun i hi => ⟨by
    rcases e with e | e
    · exact .inl (e ▸ hi)
    · rw [e] at hi; exact .inr (Nat.le_of_eq (Option.some.inj hi)), (o.lt i hi).2⟩⟩
  have f := h.fam.one (i := 5) mv
  rw [fam_set_5] at f
  exact ⟨f, (h.fam.kept (i := 5) (j := 4) mv (by decide) g4 rfl).trans h.cfg, h.mod.keep (h.fam.kept (i := 5) (j := 0) mv (by decide)) k.size, h.a.keep (h.fam.kept (i := 5) (j := 1) mv (by decide)), h.b.keep (h.fam.kept (i := 5) (j := 2) mv (by decide)), h.pool.kept (h.fam.kept (i := 5) (j := 3) mv (by decide)) k.size, o, h.every, h.subA, h.subB⟩
end
end Sh
end Go.Proofs.YtdnigpkdnkbfbaaGreat
