/-
  What lies in memory in the midst of ShardPlays: a worker, its groups, a group that was given away; the document's groups, and the one that was kept; boxes; each made of blocks of its own; what each event leaves of it.
  ShardPlays: what is told of each message, by the document, and by the worker; the document's groups settled one behind the other; lists of numbers, of panes; what came in.
  ShardPlays: whether two lists of numbers are the same; a message, and a group of the document's, that are made; deeds and numbers that came in.
  ShardPlays: what is kept from deed to deed; what a message's answers are, ahead of the worker's step; the blocks of the law's text.
-/
import Derived.Test.YtmklkiklegkioaaGreatShFam
import Derived.Test.YtmklkiklegkioaaGreatRmAll
import Derived.Test.YtmklkiklegkioaaGreatShLen
import Derived.Test.YtmklkiklegkioaaGreatShNews
import Derived.Test.YtmklkiklegkioaaGreatOpens
import Derived.BigQuiet
namespace Go.Proofs.YtmklkiklegkioaaGreat
open Go.ChangeShapes Go.WideShapes Go.ChangeAt Go.RowKit
set_option maxRecDepth 100000
set_option linter.unusedVariables false
namespace Sp
open Small Foot Pane Grp Ca Md Sh Rg Rm
abbrev none0 : Nat → Prop := fun _ => False
/-- the document's groups by numbers, each of blocks of its own -/
structure RPool (w : World) (M : Int → Option Nat) (FR : Int → Nat → Prop) (cf : C8) (RR : Int → List Pn) : Prop where
  is : ∀ x a, M x = some a → Rr.Is w a (FR x) cf (RR x)
  apart : ∀ x y, x ≠ y → M x ≠ none → M y ≠ none → Apart (FR x) (FR y)
section
variable {w w' : World} {M M' p p' : Int → Option Nat} {FR FF : Int → Nat → Prop} {cf : C8} {RR : Int → List Pn} {S : Int → Lists} {x : Int} {a N nK : Nat} {n : Int → Nat} {F F' : Nat → Prop} {R' : List Pn} {T : Lists}
theorem RPool.in (h : RPool w M FR cf RR) : In w (UF M FR) := fun i ⟨x, hx, hi⟩ => by
  obtain ⟨a, ha⟩ := Option.ne_none_iff_exists'.1 hx
  exact (h.is x a ha).in i hi
theorem RPool.kept (h : RPool w M FR cf RR) (k : ∀ b, UF M FR b → w'.heap[b]? = w.heap[b]?) (s : w.heap.size ≤ w'.heap.size) : RPool w' M FR cf RR :=
  ⟨fun x a ha => (h.is x a ha).keep (fun i hi => k i ⟨x, by rw [ha]; simp, hi⟩) s, h.apart⟩
/-- one group went on -/
theorem RPool.one (h : RPool w M FR cf RR) (hx : M x = some a) (G : Rr.Is w' a F' cf R') (V : Moves (FR x) F' w w') :
    RPool w' M (fun y => if y = x then F' else FR y) cf (fun y => if y = x then R' else RR y) ∧ Moves (UF M FR) (UF M fun y => if y = x then F' else FR y) w w' := by
  have hxn : M x ≠ none := by rw [hx]; simp
  have ap : ∀ y, y ≠ x → M y ≠ none → Apart F' (FR y) := fun y hy hn => by
    obtain ⟨b, hb⟩ := Option.ne_none_iff_exists'.1 hn
    exact V.apart (h.apart x y (Ne.symm hy) hxn hn) (h.is y b hb).in
  refine ⟨⟨fun y b hb => ?_, fun y y' hne hy hy' => ?_⟩, V.os, V.tape, V.output, V.size, fun i hi hn => V.block i hi fun q => hn ⟨x, hxn, q⟩, fun i hi => ?_⟩
  · by_cases e : y = x
    · subst e
      rw [hx] at hb
      obtain rfl := Option.some.inj hb
      simpa using G
    · simp only [e, if_false]
      exact (h.is y b hb).beside V (h.apart y x e (by rw [hb]; simp) hxn)
  · by_cases e : y = x
    · subst e
      rw [if_pos rfl, if_neg (Ne.symm hne)]
      exact ap y' (Ne.symm hne) hy'
    · by_cases e' : y' = x
      · subst e'
        rw [if_pos rfl, if_neg e]
        exact (ap y e hy).symm
      · rw [if_neg e, if_neg e']
        exact h.apart y y' hne hy hy'
  · obtain ⟨y, hy, hi⟩ := hi
    by_cases e : y = x
    · subst e
      simp only [if_true] at hi
      exact ⟨(V.new i hi).1.imp (fun q => ⟨y, hy, q⟩) id, (V.new i hi).2⟩
    · simp only [e, if_false] at hi
      obtain ⟨b, hb⟩ := Option.ne_none_iff_exists'.1 hy
      exact ⟨.inl ⟨y, hy, hi⟩, Nat.lt_of_lt_of_le ((h.is y b hb).in i hi) V.size⟩
theorem RPool.sub (h : RPool w M FR cf RR) (hs : ∀ x, M' x ≠ none → M' x = M x) : RPool w M' FR cf RR :=
  ⟨fun x a ha => h.is x a (by rw [← hs x (by rw [ha]; simp)]; exact ha), fun x y hne hx hy => h.apart x y hne (hs x hx ▸ hx) (hs y hy ▸ hy)⟩
theorem upd_same {p : Int → Option Nat} {x : Int} {v : Option Nat} : updOf p x v x = v := if_pos rfl
theorem upd_ne {p : Int → Option Nat} {x y : Int} {v : Option Nat} (h : y ≠ x) : updOf p x v y = p y := if_neg h
theorem upd_sub {p : Int → Option Nat} {x : Int} : ∀ y, updOf p x none y ≠ none → updOf p x none y = p y := fun y hy => by
  by_cases e : y = x
  · subst e; exact absurd upd_same hy
  · exact upd_ne e
theorem upd_none {p : Int → Option Nat} {x : Int} (h : p x = none) : updOf p x none = p := funext fun y => by
  by_cases e : y = x
  · subst e; rw [upd_same, h]
  · exact upd_ne e
theorem uf_drop {i : Nat} (h : UF (updOf p x none) FF i) : UF p FF i := by
  obtain ⟨y, hy, hi⟩ := h
  exact ⟨y, upd_sub y hy ▸ hy, hi⟩
theorem uf_put {i : Nat} (h : UF (updOf p x (some a)) (fun y => if y = x then F else FF y) i) : F i ∨ UF p FF i := by
  obtain ⟨y, hy, hi⟩ := h
  by_cases e : y = x
  · subst e; simp only [if_true] at hi; exact .inl hi
  · simp only [e, if_false] at hi
    rw [upd_ne e] at hy
    exact .inr ⟨y, hy, hi⟩
theorem apart_put (h : ∀ x y, x ≠ y → p x ≠ none → p y ≠ none → Apart (FF x) (FF y)) (A : Apart F (UF p FF)) : ∀ y y', y ≠ y' → updOf p x (some a) y ≠ none → updOf p x (some a) y' ≠ none → Apart ((fun y => if y = x then F else FF y) y) ((fun y => if y = x then F else FF y) y') := fun y y' hne hy hy' => by
  by_cases e : y = x
  · subst e
    have e' : y' ≠ y := Ne.symm hne
    simp only [if_true, e', if_false]
    rw [upd_ne e'] at hy'
    exact fun i hi q => A i hi ⟨y', hy', q⟩
  · rw [upd_ne e] at hy
    by_cases e' : y' = x
    · subst e'
      simp only [if_true, e, if_false]
      exact fun i hi q => A i q ⟨y, hy, hi⟩
    · rw [upd_ne e'] at hy'
      simp only [e, e', if_false]
      exact h y y' hne hy hy'
theorem RPool.put (h : RPool w M FR cf RR) (G : Rr.Is w a F cf R') (A : Apart F (UF M FR)) : RPool w (updOf M x (some a)) (fun y => if y = x then F else FR y) cf (fun y => if y = x then R' else RR y) := by
  refine ⟨fun y b hb => ?_, apart_put h.apart A⟩
  by_cases e : y = x
  · subst e
    rw [upd_same] at hb
    cases hb
    simpa using G
  · rw [upd_ne e] at hb
    simp only [e, if_false]
    exact h.is y b hb
theorem pool_put (h : Pool w p FF cf S N n) (G : Gr.Is w a F cf T N nK) (A : Apart F (UF p FF)) : Pool w (updOf p x (some a)) (fun y => if y = x then F else FF y) cf (fun y => if y = x then T else S y) N (fun y => if y = x then nK else n y) := by
  refine ⟨fun y b hb => ?_, apart_put h.apart A⟩
  by_cases e : y = x
  · subst e
    rw [upd_same] at hb
    cases hb
    simpa using G
  · rw [upd_ne e] at hb
    simp only [e, if_false]
    exact h.is y b hb
end
section
variable {w0 w w' : World} {R R' : Nat → Nat → Prop} {F G : Nat → Prop} {i j : Nat}
theorem rset_same (R : Nat → Nat → Prop) (i : Nat) (F : Nat → Prop) : rset R i F i = F := if_pos rfl
theorem rset_ne (R : Nat → Nat → Prop) {i j : Nat} (F : Nat → Prop) (h : j ≠ i) : rset R i F j = R j := if_neg h
theorem rset_self (R : Nat → Nat → Prop) (i : Nat) : rset R i (R i) = R := funext fun j => by
  by_cases e : j = i
  · subst e; exact rset_same _ _ _
  · exact rset_ne _ _ e
theorem less (h : Fam w0 w R) (hs : ∀ i b, R' i b → R i b) : Fam w0 w R' := ⟨fun i b hb => h.in_ i b (hs i b hb), fun i b hb => h.lo i b (hs i b hb), fun i j hij b hb q => h.ap i j hij b (hs i b hb) (hs j b q), h.below⟩
theorem regroup (h : Fam w0 w R) (hij : i ≠ j) (hF : ∀ b, F b ∨ G b → R i b ∨ R j b) (A : Apart F G) : Fam w0 w (rset (rset R i F) j G) := by
  have val : ∀ l, rset (rset R i F) j G l = if l = j then G else if l = i then F else R l := fun l => rfl
  have ap : ∀ l, l ≠ i → l ≠ j → ∀ b, F b ∨ G b → ¬ R l b := fun l h1 h2 b hb q => (hF b hb).elim (fun r => h.ap i l (Ne.symm h1) b r q) fun r => h.ap j l (Ne.symm h2) b r q
  refine ⟨fun l b hb => ?_, fun l b hb => ?_, fun l m hlm b hb q => ?_, h.below⟩
  · rw [val] at hb
    split at hb
    · exact (hF b (.inr hb)).elim (h.in_ i b) (h.in_ j b)
    · split at hb
      · exact (hF b (.inl hb)).elim (h.in_ i b) (h.in_ j b)
      · exact h.in_ l b hb
  · rw [val] at hb
    split at hb
    · exact (hF b (.inr hb)).elim (h.lo i b) (h.lo j b)
    · split at hb
      · exact (hF b (.inl hb)).elim (h.lo i b) (h.lo j b)
      · exact h.lo l b hb
  · rw [val] at hb q
    by_cases e1 : l = j
    · rw [if_pos e1] at hb
      have e2 : m ≠ j := fun e => hlm (e1.trans e.symm)
      rw [if_neg e2] at q
      by_cases e3 : m = i
      · rw [if_pos e3] at q; exact A b q hb
      · rw [if_neg e3] at q; exact ap m e3 e2 b (.inr hb) q
    · rw [if_neg e1] at hb
      by_cases e2 : l = i
      · rw [if_pos e2] at hb
        have e3 : m ≠ i := fun e => hlm (e2.trans e.symm)
        by_cases e4 : m = j
        · rw [if_pos e4] at q; exact A b hb q
        · rw [if_neg e4, if_neg e3] at q; exact ap m e3 e4 b (.inl hb) q
      · rw [if_neg e2] at hb
        by_cases e4 : m = j
        · rw [if_pos e4] at q; exact ap l e2 e1 b (.inr q) hb
        · rw [if_neg e4] at q
          by_cases e3 : m = i
          · rw [if_pos e3] at q; exact ap l e2 e1 b (.inl q) hb
          · rw [if_neg e3] at q; exact h.ap l m hlm b hb q
theorem made_moves (e : R i = none0) (k : Below w.heap.size w w') (hF : From w.heap.size F) (hin : In w' F) : Moves (R i) F w w' := by
  rw [e]
  exact ⟨k.os, k.tape, k.output, k.size, fun j hj _ => k.block j hj, fun j hj => ⟨.inr (hF j hj), hin j hj⟩⟩
end
/-- a box: its block, its type, its cells -/
structure Bb where
  g : Nat
  t : TypeId
  cs : List Value
/-- part i stayed -/
def Kp (R R' : Nat → Nat → Prop) (w w' : World) (i : Nat) : Prop := R' i = R i ∧ ∀ b, R i b → w'.heap[b]? = w.heap[b]?
/-- R: the worker's blocks (0), its groups' (1), those of the one that was given (2); of the document's groups (4), of the one that was kept (5); of box i (8 + i) -/
structure PM (w0 : World) (wk : Nat) (cf : C8) (pw p : Int → Option Nat) (FF : Int → Nat → Prop) (S : Int → Lists) (N : Nat) (n : Int → Nat) (L : List Ms.M) (ko : Option Nat) (SK : Lists) (nK : Nat) (M : Int → Option Nat) (FR : Int → Nat → Prop) (RR : Int → List Pn) (kd : Option Nat) (RK : List Pn) (E : List Bb) (R : Nat → Nat → Prop) (w : World) : Prop where
  fam : Fam w0 w R
  work : Sh.Is w wk (R 0) cf pw L
  pool : Pool w p FF cf S N n
  r1 : R 1 = UF p FF
  kept : ∀ a, ko = some a → Gr.Is w a (R 2) cf SK N nK
  docs : RPool w M FR cf RR
  r4 : R 4 = UF M FR
  dkept : ∀ a, kd = some a → Rr.Is w a (R 5) cf RK
  boxes : ∀ i b, E[i]? = some b → Lies w b.g b.t b.cs ∧ R (8 + i) = fun j => j = b.g
  rest : ∀ i, E.length ≤ i → R (8 + i) = none0
section
variable {w0 w w' : World} {wk N N' nK nK' : Nat} {cf : C8} {pw p pw' p' M M' : Int → Option Nat} {FF FF' FR FR' : Int → Nat → Prop} {S S' : Int → Lists} {n n' : Int → Nat} {L L' : List Ms.M} {ko ko' kd kd' : Option Nat} {SK T : Lists} {RR RR' : Int → List Pn} {RK RK' Rx : List Pn} {E : List Bb} {R R' : Nat → Nat → Prop} {F' G' : Nat → Prop} {i : Nat} {x : Int} {a c : Nat}
theorem PM.k0 (h : PM w0 wk cf pw p FF S N n L ko SK nK M FR RR kd RK E R w) (k : Kp R R' w w' 0) : Sh.Is w' wk (R' 0) cf pw L := by rw [k.1]; exact h.work.keep k.2
theorem PM.k1 (h : PM w0 wk cf pw p FF S N n L ko SK nK M FR RR kd RK E R w) (s : w.heap.size ≤ w'.heap.size) (k : Kp R R' w w' 1) : Pool w' p FF cf S N n ∧ R' 1 = UF p FF := ⟨h.pool.kept (fun b hb => k.2 b (by rw [h.r1]; exact hb)) s, k.1.trans h.r1⟩
theorem PM.k2 (h : PM w0 wk cf pw p FF S N n L ko SK nK M FR RR kd RK E R w) (s : w.heap.size ≤ w'.heap.size) (k : Kp R R' w w' 2) : ∀ a, ko = some a → Gr.Is w' a (R' 2) cf SK N nK := fun a e => by rw [k.1]; exact (h.kept a e).keep k.2 s
theorem PM.k4 (h : PM w0 wk cf pw p FF S N n L ko SK nK M FR RR kd RK E R w) (s : w.heap.size ≤ w'.heap.size) (k : Kp R R' w w' 4) : RPool w' M FR cf RR ∧ R' 4 = UF M FR := ⟨h.docs.kept (fun b hb => k.2 b (by rw [h.r4]; exact hb)) s, k.1.trans h.r4⟩
theorem PM.k5 (h : PM w0 wk cf pw p FF S N n L ko SK nK M FR RR kd RK E R w) (s : w.heap.size ≤ w'.heap.size) (k : Kp R R' w w' 5) : ∀ a, kd = some a → Rr.Is w' a (R' 5) cf RK := fun a e => by rw [k.1]; exact (h.dkept a e).keep k.2 s
theorem PM.k8 (h : PM w0 wk cf pw p FF S N n L ko SK nK M FR RR kd RK E R w) (k : ∀ i, Kp R R' w w' (8 + i)) : (∀ i b, E[i]? = some b → Lies w' b.g b.t b.cs ∧ R' (8 + i) = fun j => j = b.g) ∧ ∀ i, E.length ≤ i → R' (8 + i) = none0 :=
  ⟨fun i b e => by
    obtain ⟨l, r⟩ := h.boxes i b e
    exact ⟨((k i).2 b.g (by rw [r])).trans l, (k i).1.trans r⟩, fun i hi => (k i).1.trans (h.rest i hi)⟩
theorem PM.next (h : PM w0 wk cf pw p FF S N n L ko SK nK M FR RR kd RK E R w) (k : Below w.heap.size w w') : PM w0 wk cf pw p FF S N n L ko SK nK M FR RR kd RK E R w' := by
  have K : ∀ i, Kp R R w w' i := fun i => ⟨rfl, fun b hb => k.block b (h.fam.in_ i b hb)⟩
  exact ⟨h.fam.next k, h.k0 (K 0), (h.k1 k.size (K 1)).1, h.r1, h.k2 k.size (K 2), (h.k4 k.size (K 4)).1, h.r4, h.k5 k.size (K 5), (h.k8 fun i => K _).1, h.rest⟩
theorem one_kp (h : Fam w0 w R) (k : Moves (R i) F' w w') : ∀ j, j ≠ i → Kp R (rset R i F') w w' j := fun j hj => ⟨rset_ne _ _ hj, h.kept k hj⟩
theorem two_kp {j : Nat} (h : Fam w0 w R) (k : Moves (Or2 (R i) (R j)) (Or2 F' G') w w') : ∀ l, l ≠ i → l ≠ j → Kp R (rset (rset R i F') j G') w w' l := fun l h1 h2 => ⟨by rw [rset_ne _ _ h2, rset_ne _ _ h1], h.kept2 k h1 h2⟩
/-- the worker alone -/
theorem PM.on0 (h : PM w0 wk cf pw p FF S N n L ko SK nK M FR RR kd RK E R w) (m : Sh.Is w' wk F' cf pw' L') (k : Moves (R 0) F' w w') : PM w0 wk cf pw' p FF S N n L' ko SK nK M FR RR kd RK E (rset R 0 F') w' := by
  have K := one_kp h.fam k
  have s := k.size
  exact ⟨h.fam.one k, by rw [rset_same]; exact m, (h.k1 s (K 1 (by decide))).1, (h.k1 s (K 1 (by decide))).2, h.k2 s (K 2 (by decide)), (h.k4 s (K 4 (by decide))).1, (h.k4 s (K 4 (by decide))).2, h.k5 s (K 5 (by decide)), (h.k8 fun i => K _ (by omega)).1, (h.k8 fun i => K _ (by omega)).2⟩
/-- the worker and its groups -/
theorem PM.onAll (h : PM w0 wk cf pw p FF S N n L ko SK nK M FR RR kd RK E R w) (m : Sh.Is w' wk F' cf pw' L') (P : Pool w' p FF' cf S' N' n') (A : Apart F' (UF p FF')) (k : Moves (Or2 (R 0) (UF p FF)) (Or2 F' (UF p FF')) w w') (hN : N ≤ N') : PM w0 wk cf pw' p FF' S' N' n' L' ko SK nK M FR RR kd RK E (rset (rset R 0 F') 1 (UF p FF')) w' := by
  rw [← h.r1] at k
  have K := two_kp (i := 0) (j := 1) h.fam k
  have s := k.size
  exact ⟨h.fam.two (by decide) k A, by rw [rset_ne _ _ (by decide), rset_same]; exact m, P, rset_same _ _ _, fun a e => (h.k2 s (K 2 (by decide) (by decide)) a e).more hN, (h.k4 s (K 4 (by decide) (by decide))).1, (h.k4 s (K 4 (by decide) (by decide))).2, h.k5 s (K 5 (by decide) (by decide)), (h.k8 fun i => K _ (by omega) (by omega)).1, (h.k8 fun i => K _ (by omega) (by omega)).2⟩
theorem PM.ap01 (h : PM w0 wk cf pw p FF S N n L ko SK nK M FR RR kd RK E R w) : Apart (R 0) (UF p FF) := by rw [← h.r1]; exact h.fam.ap 0 1 (by decide)
/-- the worker and one of its groups -/
theorem PM.onOne (h : PM w0 wk cf pw p FF S N n L ko SK nK M FR RR kd RK E R w) (hx : p x = some a) (m : Sh.Is w' wk F' cf pw' L') (G : Gr.Is w' a G' cf T N' c) (A : Apart F' G') (k : Moves (Or2 (R 0) (FF x)) (Or2 F' G') w w') (hN : N ≤ N') :
    ∃ R', PM w0 wk cf pw' p (fun y => if y = x then G' else FF y) (fun y => if y = x then T else S y) N' (fun y => if y = x then c else n y) L' ko SK nK M FR RR kd RK E R' w' ∧ R' 0 = F' ∧ R' 2 = R 2 ∧ Moves (Or2 (R 0) (R 1)) (Or2 (R' 0) (R' 1)) w w' := by
  obtain ⟨P, V, A2⟩ := h.pool.two hx G k h.ap01 A hN
  refine ⟨_, h.onAll m P A2 V hN, by rw [rset_ne _ _ (by decide), rset_same], by rw [rset_ne _ _ (by decide), rset_ne _ _ (by decide)], ?_⟩
  rw [rset_same, rset_ne _ _ (by decide), rset_same, h.r1]
  exact V
/-- a group is given away: it is kept from now on -/
theorem PM.gave (h : PM w0 wk cf pw p FF S N n L ko SK nK M FR RR kd RK E R w) (hx : p x = some a) : PM w0 wk cf pw (updOf p x none) FF S N n L (some a) (S x) (n x) M FR RR kd RK E (rset (rset R 1 (UF (updOf p x none) FF)) 2 (FF x)) w := by
  have xn : p x ≠ none := by rw [hx]; simp
  have f : Fam w0 w (rset (rset R 1 (UF (updOf p x none) FF)) 2 (FF x)) := regroup h.fam (by decide) (fun b hb => .inl (by
    rw [h.r1]
    exact hb.elim (fun q => uf_drop q) fun q => ⟨x, xn, q⟩)) (fun b ⟨y, hy, q⟩ r => by
      have e : y ≠ x := fun e => hy (e ▸ upd_same)
      rw [upd_ne e] at hy
      exact h.pool.apart y x e hy xn b q r)
  have rs : ∀ j, j ≠ 1 → j ≠ 2 → rset (rset R 1 (UF (updOf p x none) FF)) 2 (FF x) j = R j := fun j h1 h2 => by rw [rset_ne _ _ h2, rset_ne _ _ h1]
  have K : ∀ j, j ≠ 1 → j ≠ 2 → Kp R (rset (rset R 1 (UF (updOf p x none) FF)) 2 (FF x)) w w j := fun j h1 h2 => ⟨rs j h1 h2, fun _ _ => rfl⟩
  exact ⟨f, h.k0 (K 0 (by decide) (by decide)), h.pool.sub upd_sub, by rw [rset_ne _ _ (by decide), rset_same], fun b e => by
    cases e
    rw [rset_same]
    exact h.pool.is x a hx, h.docs, (rs 4 (by decide) (by decide)).trans h.r4, h.k5 (Nat.le_refl _) (K 5 (by decide) (by decide)), (h.k8 fun i => K _ (by omega) (by omega)).1, (h.k8 fun i => K _ (by omega) (by omega)).2⟩
/-- .. and had again -/
theorem PM.had (h : PM w0 wk cf pw p FF S N n L (some a) SK nK M FR RR kd RK E R w) : ∃ FF' R', PM w0 wk cf pw (updOf p x (some a)) FF' (fun y => if y = x then SK else S y) N (fun y => if y = x then nK else n y) L none SK nK M FR RR kd RK E R' w ∧ R' 0 = R 0 ∧ (∀ b, R' 1 b → R 1 b ∨ R 2 b) ∧ R' 2 = none0 := by
  have A : Apart (R 2) (UF p FF) := by rw [← h.r1]; exact h.fam.ap 2 1 (by decide)
  have P := pool_put (x := x) h.pool (h.kept a rfl) A
  have f : Fam w0 w (rset (rset R 1 (UF (updOf p x (some a)) fun y => if y = x then R 2 else FF y)) 2 none0) := regroup h.fam (by decide) (fun b hb => by
    rcases hb with q | q
    · rcases uf_put q with r | r
      · exact .inr r
      · exact .inl (by rw [h.r1]; exact r)
    · exact q.elim) (fun b _ q => q)
  have rs : ∀ j, j ≠ 1 → j ≠ 2 → rset (rset R 1 (UF (updOf p x (some a)) fun y => if y = x then R 2 else FF y)) 2 none0 j = R j := fun j h1 h2 => by rw [rset_ne _ _ h2, rset_ne _ _ h1]
  have K : ∀ j, j ≠ 1 → j ≠ 2 → Kp R (rset (rset R 1 (UF (updOf p x (some a)) fun y => if y = x then R 2 else FF y)) 2 none0) w w j := fun j h1 h2 => ⟨rs j h1 h2, fun _ _ => rfl⟩
  refine ⟨_, _, ⟨f, h.k0 (K 0 (by decide) (by decide)), P, by rw [rset_ne _ _ (by decide), rset_same], fun b e => (by cases e), h.docs, (rs 4 (by decide) (by decide)).trans h.r4, h.k5 (Nat.le_refl _) (K 5 (by decide) (by decide)), (h.k8 fun i => K _ (by omega) (by omega)).1, (h.k8 fun i => K _ (by omega) (by omega)).2⟩, rs 0 (by decide) (by decide), fun b hb => ?_, rset_same _ _ _⟩
  rw [rset_ne _ _ (by decide), rset_same] at hb
  rcases uf_put hb with r | r
  · exact .inr r
  · exact .inl (by rw [h.r1]; exact r)
/-- one of the document's groups went on -/
theorem PM.dOne (h : PM w0 wk cf pw p FF S N n L ko SK nK M FR RR kd RK E R w) (hx : M x = some a) (G : Rr.Is w' a F' cf Rx) (k : Moves (FR x) F' w w') :
    PM w0 wk cf pw p FF S N n L ko SK nK M (fun y => if y = x then F' else FR y) (fun y => if y = x then Rx else RR y) kd RK E (rset R 4 (UF M fun y => if y = x then F' else FR y)) w' := by
  obtain ⟨P, V⟩ := h.docs.one hx G k
  rw [← h.r4] at V
  have K := one_kp h.fam V
  have s := V.size
  exact ⟨h.fam.one V, h.k0 (K 0 (by decide)), (h.k1 s (K 1 (by decide))).1, (h.k1 s (K 1 (by decide))).2, h.k2 s (K 2 (by decide)), P, rset_same _ _ _, h.k5 s (K 5 (by decide)), (h.k8 fun i => K _ (by omega)).1, (h.k8 fun i => K _ (by omega)).2⟩
/-- .. is given away, and kept -/
theorem PM.dGave (h : PM w0 wk cf pw p FF S N n L ko SK nK M FR RR kd RK E R w) (hx : M x = some a) : PM w0 wk cf pw p FF S N n L ko SK nK (updOf M x none) FR RR (some a) (RR x) E (rset (rset R 4 (UF (updOf M x none) FR)) 5 (FR x)) w := by
  have xn : M x ≠ none := by rw [hx]; simp
  have f : Fam w0 w (rset (rset R 4 (UF (updOf M x none) FR)) 5 (FR x)) := regroup h.fam (by decide) (fun b hb => .inl (by
    rw [h.r4]
    exact hb.elim (fun q => uf_drop q) fun q => ⟨x, xn, q⟩)) (fun b ⟨y, hy, q⟩ r => by
      have e : y ≠ x := fun e => hy (e ▸ upd_same)
      rw [upd_ne e] at hy
      exact h.docs.apart y x e hy xn b q r)
  have rs : ∀ j, j ≠ 4 → j ≠ 5 → rset (rset R 4 (UF (updOf M x none) FR)) 5 (FR x) j = R j := fun j h1 h2 => by rw [rset_ne _ _ h2, rset_ne _ _ h1]
  have K : ∀ j, j ≠ 4 → j ≠ 5 → Kp R (rset (rset R 4 (UF (updOf M x none) FR)) 5 (FR x)) w w j := fun j h1 h2 => ⟨rs j h1 h2, fun _ _ => rfl⟩
  exact ⟨f, h.k0 (K 0 (by decide) (by decide)), h.pool, (rs 1 (by decide) (by decide)).trans h.r1, h.k2 (Nat.le_refl _) (K 2 (by decide) (by decide)), h.docs.sub upd_sub, by rw [rset_ne _ _ (by decide), rset_same], fun b e => by
    cases e
    rw [rset_same]
    exact h.docs.is x a hx, (h.k8 fun i => K _ (by omega) (by omega)).1, (h.k8 fun i => K _ (by omega) (by omega)).2⟩
/-- .. and had again -/
theorem PM.dHad (h : PM w0 wk cf pw p FF S N n L ko SK nK M FR RR (some a) RK E R w) : ∃ FR' R', PM w0 wk cf pw p FF S N n L ko SK nK (updOf M x (some a)) FR' (fun y => if y = x then RK else RR y) none RK E R' w := by
  have A : Apart (R 5) (UF M FR) := by rw [← h.r4]; exact h.fam.ap 5 4 (by decide)
  have P := RPool.put (x := x) h.docs (h.dkept a rfl) A
  have f : Fam w0 w (rset (rset R 4 (UF (updOf M x (some a)) fun y => if y = x then R 5 else FR y)) 5 none0) := regroup h.fam (by decide) (fun b hb => by
    rcases hb with q | q
    · rcases uf_put q with r | r
      · exact .inr r
      · exact .inl (by rw [h.r4]; exact r)
    · exact q.elim) (fun b _ q => q)
  have rs : ∀ j, j ≠ 4 → j ≠ 5 → rset (rset R 4 (UF (updOf M x (some a)) fun y => if y = x then R 5 else FR y)) 5 none0 j = R j := fun j h1 h2 => by rw [rset_ne _ _ h2, rset_ne _ _ h1]
  have K : ∀ j, j ≠ 4 → j ≠ 5 → Kp R (rset (rset R 4 (UF (updOf M x (some a)) fun y => if y = x then R 5 else FR y)) 5 none0) w w j := fun j h1 h2 => ⟨rs j h1 h2, fun _ _ => rfl⟩
  exact ⟨_, _, f, h.k0 (K 0 (by decide) (by decide)), h.pool, (rs 1 (by decide) (by decide)).trans h.r1, h.k2 (Nat.le_refl _) (K 2 (by decide) (by decide)), P, by rw [rset_ne _ _ (by decide), rset_same], fun b e => (by cases e), (h.k8 fun i => K _ (by omega) (by omega)).1, (h.k8 fun i => K _ (by omega) (by omega)).2⟩
/-- what was kept is let go of -/
theorem PM.dForget (h : PM w0 wk cf pw p FF S N n L ko SK nK M FR RR kd RK E R w) : PM w0 wk cf pw p FF S N n L ko SK nK M FR RR none RK E R w :=
  ⟨h.fam, h.work, h.pool, h.r1, h.kept, h.docs, h.r4, fun _ e => (by cases e), h.boxes, h.rest⟩
/-- one of the document's is made -/
theorem PM.dNew (h : PM w0 wk cf pw p FF S N n L ko SK nK M FR RR kd RK E R w) (k : Below w.heap.size w w') (G : Rr.Is w' a F' cf Rx) (hF : From w.heap.size F') : ∃ FR' R', PM w0 wk cf pw p FF S N n L ko SK nK (updOf M x (some a)) FR' (fun y => if y = x then Rx else RR y) kd RK E R' w' := by
  have h' := h.next k
  have A : Apart F' (UF M FR) := fun b hb q => by have := hF b hb; have := h.docs.in b q; omega
  have P := RPool.put (x := x) h'.docs G A
  have V : Moves (R 4) (UF (updOf M x (some a)) fun y => if y = x then F' else FR y) w w' := by
    rw [h.r4]
    refine ⟨k.os, k.tape, k.output, k.size, fun j hj _ => k.block j hj, fun j hj => ?_⟩
    rcases uf_put hj with r | r
    · exact ⟨.inr (hF j r), G.in j r⟩
    · exact ⟨.inl r, h'.docs.in j r⟩
  have K := one_kp h.fam V
  have s := V.size
  exact ⟨_, _, h.fam.one V, h.k0 (K 0 (by decide)), (h.k1 s (K 1 (by decide))).1, (h.k1 s (K 1 (by decide))).2, h.k2 s (K 2 (by decide)), P, rset_same _ _ _, h.k5 s (K 5 (by decide)), (h.k8 fun i => K _ (by omega)).1, (h.k8 fun i => K _ (by omega)).2⟩
/-- a box is made -/
theorem PM.push {t : TypeId} {cs : List Value} {g : Nat} (h : PM w0 wk cf pw p FF S N n L ko SK nK M FR RR kd RK E R w) (k : Below w.heap.size w w') (l : Lies w' g t cs) (hg : w.heap.size ≤ g) : PM w0 wk cf pw p FF S N n L ko SK nK M FR RR kd RK (E ++ [⟨g, t, cs⟩]) (rset R (8 + E.length) fun j => j = g) w' := by
  have h' := h.next k
  have V : Moves (R (8 + E.length)) (fun j => j = g) w w' := made_moves (h.rest _ (Nat.le_refl _)) k (fun j hj => by rw [hj]; exact hg) (fun j hj => by rw [hj]; exact l.lt)
  have rs : ∀ j, j ≠ 8 + E.length → rset R (8 + E.length) (fun j => j = g) j = R j := fun j hj => rset_ne _ _ hj
  refine ⟨h.fam.one V, by rw [rs 0 (by omega)]; exact h'.work, h'.pool, (rs 1 (by omega)).trans h.r1, by rw [rs 2 (by omega)]; exact h'.kept, h'.docs, (rs 4 (by omega)).trans h.r4, by rw [rs 5 (by omega)]; exact h'.dkept, fun i b e => ?_, fun i hi => ?_⟩
  · by_cases hi : i < E.length
    · rw [List.getElem?_append_left hi] at e
      rw [rs _ (by omega)]
      exact h'.boxes i b e
    · have hl := (List.getElem?_eq_some_iff.1 e).1
      simp only [List.length_append, List.length_singleton] at hl
      obtain rfl : i = E.length := by omega
      rw [List.getElem?_append_right (Nat.le_refl _)] at e
      simp at e
      subst e
      exact ⟨l, rset_same _ _ _⟩
  · simp only [List.length_append, List.length_singleton] at hi
    rw [rs _ (by omega)]
    exact h.rest i (by omega)
/-- a box is written -/
theorem PM.setb {b : Bb} {cs' : List Value} (h : PM w0 wk cf pw p FF S N n L ko SK nK M FR RR kd RK E R w) (e : E[i]? = some b) (k : w.grownBy w' (some b.g)) (l : Lies w' b.g b.t cs') : PM w0 wk cf pw p FF S N n L ko SK nK M FR RR kd RK (E.set i ⟨b.g, b.t, cs'⟩) R w' := by
  obtain ⟨l0, r0⟩ := h.boxes i b e
  have V : Moves (R (8 + i)) (R (8 + i)) w w' := ⟨k.os, k.tape, k.output, k.size, fun j hj hn => k.block j hj fun q => hn (by rw [r0]; exact Option.some.inj q), fun j hj => ⟨.inl hj, by rw [r0] at hj; rw [hj]; exact l.lt⟩⟩
  have f := h.fam.one V
  rw [rset_self] at f
  have K : ∀ j, j ≠ 8 + i → Kp R R w w' j := fun j hj => ⟨rfl, h.fam.kept V hj⟩
  have s := k.size
  refine ⟨f, h.k0 (K 0 (by omega)), (h.k1 s (K 1 (by omega))).1, h.r1, h.k2 s (K 2 (by omega)), (h.k4 s (K 4 (by omega))).1, h.r4, h.k5 s (K 5 (by omega)), fun j b' e' => ?_, fun j hj => h.rest j (by simpa using hj)⟩
  have hi := (List.getElem?_eq_some_iff.1 e).1
  by_cases ej : i = j
  · subst ej
    rw [List.getElem?_set_self hi] at e'
    cases e'
    exact ⟨l, r0⟩
  · rw [List.getElem?_set_ne ej] at e'
    obtain ⟨l1, r1⟩ := h.boxes j b' e'
    exact ⟨((K (8 + j) (by omega)).2 b'.g (by rw [r1])).trans l1, r1⟩
/-- the last boxes are let go of -/
theorem PM.drop (h : PM w0 wk cf pw p FF S N n L ko SK nK M FR RR kd RK E R w) (k : Nat) (hk : k ≤ E.length) : ∃ R', PM w0 wk cf pw p FF S N n L ko SK nK M FR RR kd RK (E.take k) R' w := by
  have rs : ∀ j, j < 8 + k → (if 8 + k ≤ j then none0 else R j) = R j := fun j hj => if_neg (by omega)
  refine ⟨fun j => if 8 + k ≤ j then none0 else R j, less h.fam (fun j b hb => ?_), by rw [rs 0 (by omega)]; exact h.work, h.pool, (rs 1 (by omega)).trans h.r1, by rw [rs 2 (by omega)]; exact h.kept, h.docs, (rs 4 (by omega)).trans h.r4, by rw [rs 5 (by omega)]; exact h.dkept, fun i b e => ?_, fun i hi => if_pos (by rw [List.length_take] at hi; omega)⟩
  · by_cases hj : 8 + k ≤ j
    · rw [if_pos hj] at hb; exact hb.elim
    · rw [if_neg hj] at hb; exact hb
  · have hi := (List.getElem?_eq_some_iff.1 e).1
    rw [List.length_take] at hi
    rw [rs _ (by omega)]
    rw [List.getElem?_take_of_lt (by omega)] at e
    exact h.boxes i b e
theorem PM.box (h : PM w0 wk cf pw p FF S N n L ko SK nK M FR RR kd RK E R w) {b : Bb} (e : E[i]? = some b) : Lies w b.g b.t b.cs := (h.boxes i b e).1
theorem PM.more (h : PM w0 wk cf pw p FF S N n L ko SK nK M FR RR kd RK E R w) (hN : N ≤ N') : PM w0 wk cf pw p FF S N' n L ko SK nK M FR RR kd RK E R w :=
  ⟨h.fam, h.work, h.pool.more hN, h.r1, fun a e => (h.kept a e).more hN, h.docs, h.r4, h.dkept, h.boxes, h.rest⟩
/-- at first: the worker, its groups, a box -/
theorem PM.start {F : Nat → Prop} {B g : Nat} {t : TypeId} {cs : List Value} (k : Below w.heap.size w w') (m : Sh.Is w' wk F cf p []) (P : Pool w' p FF cf S N n) (A : Apart F (UF p FF)) (fF : From B F) (fU : From B (UF p FF)) (l : Lies w' g t cs) (hg : w.heap.size ≤ g) (hB : g < B) :
    ∃ R, PM w wk cf p p FF S N n [] none SK nK (fun _ => none) FR RR none RK [⟨g, t, cs⟩] R w' := by
  have hin : ∀ j b, (if j = 0 then F else if j = 1 then UF p FF else if j = 8 then (fun q => q = g) else none0) b → b < w'.heap.size := fun j b hb => by
    split at hb
    · exact m.in b hb
    · split at hb
      · exact P.in b hb
      · split at hb
        · subst hb; exact l.lt
        · exact hb.elim
  have hlo : ∀ j b, (if j = 0 then F else if j = 1 then UF p FF else if j = 8 then (fun q => q = g) else none0) b → w.heap.size ≤ b := fun j b hb => by
    split at hb
    · have := fF b hb; omega
    · split at hb
      · have := fU b hb; omega
      · split at hb
        · subst hb; exact hg
        · exact hb.elim
  refine ⟨fun j => if j = 0 then F else if j = 1 then UF p FF else if j = 8 then (fun q => q = g) else none0, ⟨hin, hlo, fun i j hij b h1 h2 => ?_, k⟩, m, P, rfl, fun a e => (by cases e), ⟨fun x a e => (by cases e), fun x y _ e => absurd rfl e⟩, ?_, fun a e => (by cases e), fun i b e => ?_, fun i hi => ?_⟩
  · split at h1
    · split at h2
      · omega
      · split at h2
        · exact A b h1 h2
        · split at h2
          · subst h2; have := fF b h1; omega
          · exact h2
    · split at h1
      · split at h2
        · exact A b h2 h1
        · split at h2
          · omega
          · split at h2
            · subst h2; have := fU b h1; omega
            · exact h2
      · split at h1
        · subst h1
          split at h2
          · have := fF b h2; omega
          · split at h2
            · have := fU b h2; omega
            · split at h2
              · omega
              · exact h2
        · exact h1
  · funext b
    exact propext ⟨fun q => q.elim, fun ⟨y, hy, _⟩ => hy rfl⟩
  · have hi : i = 0 := by
      have := (List.getElem?_eq_some_iff.1 e).1
      simpa using this
    subst hi
    simp at e
    subst e
    exact ⟨l, rfl⟩
  · simp at hi
    rw [if_neg (by omega), if_neg (by omega), if_neg (by omega)]
/-- a part's blocks, and a box's -/
theorem PM.not_in {b : Bb} (h : PM w0 wk cf pw p FF S N n L ko SK nK M FR RR kd RK E R w) (e : E[i]? = some b) {j : Nat} (hj : j ≠ 8 + i) : ¬ R j b.g := fun q => h.fam.ap j (8 + i) hj b.g q (by rw [(h.boxes i b e).2])
/-- a store in a box -/
theorem grown_set (w : World) (g j : Nat) (u : Value) : w.grownBy (w.setCell ⟨g, j, none⟩ u) (some g) :=
  ⟨rfl, rfl, rfl, by simp, fun k hk hn => Below.heap_setCell w ⟨g, j, none⟩ u k (fun e => hn (by rw [e]))⟩
theorem grown_trans {w1 w2 w3 : World} {g : Nat} (h : w1.grownBy w2 (some g)) (k : w2.grownBy w3 (some g)) : w1.grownBy w3 (some g) :=
  ⟨k.os.trans h.os, k.tape.trans h.tape, k.output.trans h.output, Nat.le_trans h.size k.size, fun i hi hn => (k.block i (Nat.lt_of_lt_of_le hi h.size) hn).trans (h.block i hi hn)⟩
theorem grown_below {w1 w2 : World} {g : Nat} (k : Below w1.heap.size w1 w2) : w1.grownBy w2 (some g) := ⟨k.os, k.tape, k.output, k.size, fun i hi _ => k.block i hi⟩
end
/-- a list of panes beside the worker and its groups -/
def VB (w0 : World) (R : Nat → Nat → Prop) (w : World) (v : Value) (X : List Pn) : Prop := Sl.Own Pn.k w0.heap.size w v X ∧ ∀ a, v.ownBlock = some a → ¬ R 0 a ∧ ¬ R 1 a ∧ ¬ R 2 a
section
variable {w0 w w' : World} {R R' : Nat → Nat → Prop} {v : Value} {X : List Pn}
theorem VB.next (h : VB w0 R w v X) (k : Below w.heap.size w w') : VB w0 R w' v X := ⟨h.1.next k, h.2⟩
theorem VB.nil (w0 : World) (R : Nat → Nat → Prop) (w : World) : VB w0 R w (.slice none 0 0) [] := ⟨Sl.Own.nil _ _ _, fun a h => (by cases h)⟩
theorem VB.on0 {F' : Nat → Prop} (h : VB w0 R w v X) (k : Moves (R 0) F' w w') (e : R' 0 = F') (e1 : R' 1 = R 1) (e2 : R' 2 = R 2) : VB w0 R' w' v X := by
  refine ⟨h.1.move fun a ha => k.block a (h.1.lt a ha).2 (h.2 a ha).1, fun a ha => ⟨fun q => ?_, by rw [e1]; exact (h.2 a ha).2.1, by rw [e2]; exact (h.2 a ha).2.2⟩⟩
  rw [e] at q
  rcases (k.new a q).1 with r | r
  · exact (h.2 a ha).1 r
  · have := (h.1.lt a ha).2; omega
theorem VB.two (h : VB w0 R w v X) (k : Moves (Or2 (R 0) (R 1)) (Or2 (R' 0) (R' 1)) w w') (e2 : R' 2 = R 2) : VB w0 R' w' v X := by
  have nn : ∀ a, v.ownBlock = some a → ¬ Or2 (R 0) (R 1) a := fun a ha q => q.elim (h.2 a ha).1 (h.2 a ha).2.1
  have n2 : ∀ a, v.ownBlock = some a → ¬ Or2 (R' 0) (R' 1) a := fun a ha q => by
    rcases (k.new a q).1 with r | r
    · exact nn a ha r
    · have := (h.1.lt a ha).2; omega
  exact ⟨h.1.move fun a ha => k.block a (h.1.lt a ha).2 (nn a ha), fun a ha => ⟨fun q => n2 a ha (.inl q), fun q => n2 a ha (.inr q), by rw [e2]; exact (h.2 a ha).2.2⟩⟩
theorem VB.base (h : VB w0 R w v X) (e : ∀ a, R' 0 a ∨ R' 1 a ∨ R' 2 a → R 0 a ∨ R 1 a ∨ R 2 a) : VB w0 R' w v X := by
  have no : ∀ a, v.ownBlock = some a → ¬ (R' 0 a ∨ R' 1 a ∨ R' 2 a) := fun a ha q => by
    obtain ⟨h0, h1, h2⟩ := h.2 a ha
    rcases e a q with r | r | r
    · exact h0 r
    · exact h1 r
    · exact h2 r
  exact ⟨h.1, fun a ha => ⟨fun q => no a ha (.inl q), fun q => no a ha (.inr (.inl q)), fun q => no a ha (.inr (.inr q))⟩⟩
end
end Sp
end Go.Proofs.YtmklkiklegkioaaGreat

namespace Go.Proofs.YtmklkiklegkioaaGreat
open Go.ChangeShapes Go.WideShapes Go.ChangeAt Go.RowKit
namespace Out
open Small
set_option linter.unusedVariables false
set_option maxRecDepth 100000 in
set_option maxHeartbeats 4000000 in
theorem same_big (l m : Value) (L M : List Pn) (w : World) (H : Hid (Rd w l L)) (G : Hid (Rd w m M)) (hn : L.length ≤ 200000) (hn2 : M.length ≤ 200000) :
    Calls Tryz.prog 17 #[l, m] w fun r w' => r = .returned (.bool (decide (L = M))) ∧ Below w.heap.size w w' := by
  obtain ⟨AD, cap, hl⟩ := H.out.len
  obtain ⟨AE, cap2, hm⟩ := G.out.len
  subst hl hm
  by_cases hlen : L.length = M.length
  · have HL := Lib.hid hlen
    have hlz : ((L.length : Int) != (M.length : Int)) = false := by simp [hlen]
    have hlz2 : (M.length : Int) = (L.length : Int) := by omega
    clear hlen
    go_enter Tryz.func17, Tryz.ntmps17
    go_wp2_with fail
    go_loopw [5] (fun si wr => ∃ (i : Nat), i ≤ L.length ∧ si = .int .i64 i ∧ Hid (L.take i = M.take i) ∧ Hid (Below w.heap.size w wr)) (fun si _ => L.length - (intOf si).toNat)
    case atStart => exact ⟨0, by omega, rfl, Lib.hid rfl, Lib.hid (Below.refl _ _)⟩
    case round =>
      obtain ⟨i, hi, rfl, E, K⟩ := hrel
      by_cases hlt : i < L.length
      · obtain ⟨b, off, cap', he, h2, h3, h4, hcell⟩ := H.out.some_ (by omega)
        obtain ⟨rfl, rfl⟩ : AD = some ⟨b, off, none⟩ ∧ cap = cap' := by simpa using he
        obtain ⟨c, off2, cap3, he2, h22, h23, h24, hcell2⟩ := G.out.some_ (by have := HL.out; omega)
        obtain ⟨rfl, rfl⟩ : AE = some ⟨c, off2, none⟩ ∧ cap2 = cap3 := by simpa using he2
        obtain ⟨p, hp⟩ := at_some hlt
        obtain ⟨q, hq⟩ := at_some (L := M) (i := i) (by have := HL.out; omega)
        obtain ⟨c0, c1, c2, c3, c4, c5, c6⟩ := pane_cells hp hcell
        obtain ⟨d0, d1, d2, d3, d4, d5, d6⟩ := pane_cells hq hcell2
        have i0 : (i : Int) < L.length := by omega
        have ne : ∀ w' : World, (binOp .neq 84 (.agg #[.string p.key, .int .i64 p.s, .int .i64 p.e, .int .i64 p.c, .int .i64 p.m, .int .i64 p.l, .int .i64 p.u]) (.agg #[.string q.key, .int .i64 q.s, .int .i64 q.e, .int .i64 q.c, .int .i64 q.m, .int .i64 q.l, .int .i64 q.u])).run Tryz.prog w' = .ok (.bool (!decide (p = q))) w' := fun w' => neq_ok p q w'
        have HP := Lib.hid hp
        have HQ := Lib.hid hq
        obtain ⟨d, hd⟩ : ∃ d, decide (p = q) = d := ⟨_, rfl⟩
        rw [hd] at ne
        have HD := Lib.hid hd
        clear hcell he h2 h3 h4 hp hcell2 he2 h22 h23 h24 hq hd
        go_wp2_with fail
        have f0 := Later.cell (cell_keep K.out c0)
        have f1 := Later.cell (cell_keep K.out c1)
        have f2 := Later.cell (cell_keep K.out c2)
        have f3 := Later.cell (cell_keep K.out c3)
        have f4 := Later.cell (cell_keep K.out c4)
        have f5 := Later.cell (cell_keep K.out c5)
        have f6 := Later.cell (cell_keep K.out c6)
        have g0 := Later.cell (cell_keep K.out d0)
        have g1 := Later.cell (cell_keep K.out d1)
        have g2 := Later.cell (cell_keep K.out d2)
        have g3 := Later.cell (cell_keep K.out d3)
        have g4 := Later.cell (cell_keep K.out d4)
        have g5 := Later.cell (cell_keep K.out d5)
        have g6 := Later.cell (cell_keep K.out d6)
        clear c0 c1 c2 c3 c4 c5 c6 d0 d1 d2 d3 d4 d5 d6
        refine wp_region_later (by kernel_rfl) (by kernel_rfl) ?_
        repeat (go_big_quiet_step (fail))
        refine wpQuiet_nil ?_
        rintro _ ⟨u, rfl⟩
        have K2 := Lib.hid (after K.out u.below)
        clear f0 f1 f2 f3 f4 f5 f6 g0 g1 g2 g3 g4 g5 g6
        generalize u.w = w2 at *
        cases d with
        | true =>
          go_wp2_with fail
          exact ⟨⟨i + 1, by omega, by go_num, Lib.hid (take_next E.out HP.out HQ.out (of_decide_eq_true HD.out)), K2⟩, by simp [intOf]; omega⟩
        | false =>
          go_wp2
          go_ret
          exact ⟨ret_bool (decide_eq_false (ne_at HP.out HQ.out (of_decide_eq_false HD.out))).symm, K2.out⟩
      · obtain rfl : i = L.length := by omega
        go_wp2
        go_ret
        exact ⟨ret_bool (decide_eq_true (by have := E.out; rwa [List.take_length, HL.out, List.take_length] at this)).symm, K.out⟩
  · have hlz : ((L.length : Int) != (M.length : Int)) = true := by simp; omega
    have HD : Hid (decide (L = M) = false) := Lib.hid (decide_eq_false fun h => hlen (by rw [h]))
    clear hlen
    go_enter Tryz.func17, Tryz.ntmps17
    go_wp2
    go_ret
    exact ⟨ret_bool HD.out.symm, Below.refl _ _⟩
end Out
set_option maxRecDepth 100000
set_option linter.unusedVariables false
namespace Sp
open Small Foot Pane Grp Ca Md Sh Rg Rm
/-! ### numbers of groups -/
/-- those below k that there are -/
def kt (M : Int → Option Nat) (k : Nat) : List Int := ((List.range k).map fun i : Nat => (i : Int)).filter fun x => (M x).isSome
section
variable {M p : Int → Option Nat} {k n : Nat} {x : Int} {ks : List Int}
theorem kt_yes {a : Nat} (h : M (k : Int) = some a) : kt M (k + 1) = kt M k ++ [(k : Int)] := by simp [kt, List.range_succ, List.filter_append, h]
theorem kt_no (h : M (k : Int) = none) : kt M (k + 1) = kt M k := by simp [kt, List.range_succ, List.filter_append, h]
theorem kt_mem : x ∈ kt M k ↔ 0 ≤ x ∧ x < k ∧ M x ≠ none := by
  simp only [kt, List.mem_filter, List.mem_map, List.mem_range, Option.isSome_iff_ne_none]
  constructor
  · rintro ⟨⟨i, hi, rfl⟩, h⟩
    exact ⟨by omega, by omega, h⟩
  · rintro ⟨h0, h1, h2⟩
    exact ⟨⟨x.toNat, by omega, by omega⟩, h2⟩
theorem kt_up : (kt M k).Pairwise (· < ·) := by
  unfold kt
  refine List.Pairwise.filter _ ?_
  rw [List.pairwise_map]
  exact List.Pairwise.imp (fun {a b} h => by omega) List.pairwise_lt_range
theorem kt_len : (kt M k).length ≤ k := by
  unfold kt
  have := List.length_filter_le (fun x => (M x).isSome) ((List.range k).map fun i : Nat => (i : Int))
  simpa using this
theorem keys_kt (h : KeysOf p ks) (hd : ∀ x, p x ≠ none → 0 ≤ x ∧ x < n) (e : ∀ x, p x = none ↔ M x = none) : ks = kt M n := by
  refine List.Perm.eq_of_pairwise (le := (· < ·)) (fun a b _ _ h1 h2 => absurd h1 (by omega)) h.up kt_up ((List.perm_ext_iff_of_nodup (h.up.imp fun {a b} q e => by omega) (kt_up.imp fun {a b} q e => by omega)).2 fun x => ?_)
  rw [h.mem x, kt_mem]
  exact ⟨fun q => ⟨(hd x q).1, (hd x q).2, fun r => q ((e x).2 r)⟩, fun q r => q.2.2 ((e x).1 r)⟩
theorem keys_of (hd : ∀ x, p x ≠ none → 0 ≤ x ∧ x < n) : KeysOf p (kt p n) := ⟨kt_up, fun x => by rw [kt_mem]; exact ⟨fun q => q.2.2, fun q => ⟨(hd x q).1, (hd x q).2, q⟩⟩⟩
theorem kt_same (e : ∀ x, p x = none ↔ M x = none) : kt p n = kt M n := by
  unfold kt
  congr 1
  funext x
  have := e x
  cases hp : p x <;> cases hm : M x <;> simp_all
end
/-! ### groups that are settled one behind the other -/
inductive MkR (z mark : Int) (RR : Int → List Pn) : List Int → List Pn → (Int → List Pn) → Prop
  | nil : MkR z mark RR [] [] RR
  | snoc {ks : List Int} {k : Int} {O Ok T : List Pn} {RR1 : Int → List Pn} (h : MkR z mark RR ks O RR1) (o : ROuts z mark (RR1 k) Ok T) (no : ∀ q, q ∈ T → ¬ q.e + z ≤ mark) : MkR z mark RR (ks ++ [k]) (O ++ Ok) (fun j => if j = k then T else RR1 j)
section
variable {z mark : Int} {S S1 : Int → Lists} {RR RR1 : Int → List Pn} {ks l : List Int} {k : Int} {O O2 : List Pn}
theorem MkR.inv0 (b : MkR z mark RR l O2 RR1) (e : l = []) : O2 = [] ∧ RR1 = RR := by
  cases b with
  | nil => exact ⟨rfl, rfl⟩
  | snoc h o no => exact absurd e (by simp)
theorem MkR.inv1 (b : MkR z mark RR l O2 RR1) (e : l = ks ++ [k]) : ∃ O Ok RR0 T, MkR z mark RR ks O RR0 ∧ ROuts z mark (RR0 k) Ok T ∧ (∀ q, q ∈ T → ¬ q.e + z ≤ mark) ∧ O2 = O ++ Ok ∧ RR1 = fun j => if j = k then T else RR0 j := by
  cases b with
  | nil => exact absurd e.symm (by simp)
  | snoc h o no =>
    obtain ⟨rfl, h2⟩ := List.append_inj' e rfl
    cases h2
    exact ⟨_, _, _, _, h, o, no, rfl, rfl⟩
theorem mk_both {Q : Int → Prop} (a : Mk z mark S ks O S1) (b : MkR z mark RR ks O2 RR1) (hq : ∀ x ∈ ks, Q x) (rp : ∀ x, Q x → Rep (S x) (RR x)) (fn : ∀ x, Q x → Fine (S x)) : O = O2 ∧ (∀ x, Q x → Rep (S1 x) (RR1 x)) ∧ ∀ x, Q x → Fine (S1 x) := by
  induction a generalizing O2 RR1 with
  | nil =>
    obtain ⟨rfl, rfl⟩ := b.inv0 rfl
    exact ⟨rfl, rp, fn⟩
  | @snoc ks k O Ok S1 T h o no ih =>
    obtain ⟨O3, Ok3, RR0, T3, h3, o3, no3, rfl, rfl⟩ := b.inv1 rfl
    obtain ⟨rfl, i2, i3⟩ := ih h3 (fun x hx => hq x (List.mem_append_left _ hx))
    have hk := hq k (by simp)
    obtain ⟨rfl, r⟩ := settled (i2 k hk) (i3 k hk) o o3 no no3
    refine ⟨rfl, fun x hx => ?_, fun x hx => ?_⟩
    · by_cases e : x = k
      · subst e; simpa using r
      · simpa [e] using i2 x hx
    · by_cases e : x = k
      · subst e; simpa using (i3 x hk).outs o
      · simpa [e] using i3 x hx
end
/-! ### what a message comes to -/
/-- what the document told of it: whether it moved, a code, panes, what goes out, the groups behind it -/
inductive Pend (cf : C8) (y : Cl) (fr g kx : Int) (ko : Option Nat) (mark : Int) (sh : Bool) (p : Int → Option Nat) (RR : Int → List Pn) (v : Int) : Ms.M → Bool → Int → List Pn → List Pn → (Int → List Pn) → Prop
  | nokey (hv : v < 3) (h : ¬ (mayC (cfOf cf) y ∧ kd y.op = true)) : Pend cf y fr g kx ko mark sh p RR v ⟨1, fr, y, g, none⟩ false 0 [] [] RR
  | moved (hv : v < 3) (hm : mayC (cfOf cf) y) (hk : kd y.op = true) (hp : p (grpOf cf.r y) = none) : Pend cf y fr g kx ko mark sh p RR v ⟨1, fr, y, g, none⟩ true 0 [] [] RR
  | closed (hv : v < 3) (hm : mayC (cfOf cf) y) (hk : kd y.op = true) {a : Nat} (hp : p (grpOf cf.r y) = some a) (hs : sh = true) : Pend cf y fr g kx ko mark sh p RR v ⟨1, fr, y, g, none⟩ false 3 [] [] RR
  | has (hv : v < 3) (hm : mayC (cfOf cf) y) (hk : kd y.op = true) {a : Nat} (hp : p (grpOf cf.r y) = some a) (hs : sh = false) {z : Option (Nat × Int × Int × Int)} (T : Asg.Told cf.k cf.s cf.l cf.g cf.z y.t z) {code : Int} {P O R' : List Pn} (r : RAsked cf (RR (grpOf cf.r y)) mark y z code P O R') : Pend cf y fr g kx ko mark sh p RR v ⟨1, fr, y, g, none⟩ false code P O (fun x => if x = grpOf cf.r y then R' else RR x)
  | mark (hv : v = 3) {O : List Pn} {RR' : Int → List Pn} {ks : List Int} (hks : KeysOf p ks) (r : MkR cf.z mark RR ks O RR') : Pend cf y fr g kx ko mark sh p RR v ⟨2, fr, y, g, none⟩ false 0 [] O RR'
  | give (hv : v = 4) : Pend cf y fr g kx ko mark sh p RR v ⟨3, fr, y, g, none⟩ false 0 [] [] RR
  | have_ (hv : v = 5) : Pend cf y fr g kx ko mark sh p RR v ⟨4, fr, y, kx, ko⟩ false 0 [] [] RR
/-- what the step leaves -/
def After (g kx : Int) (ko : Option Nat) (SK : Lists) (p : Int → Option Nat) (v : Int) (RR' : Int → List Pn) (st' : Option Nat) (p' : Int → Option Nat) (S' : Int → Lists) (ko' : Option Nat) (SK' : Lists) : Prop :=
  (v < 4 → p' = p ∧ ko' = ko ∧ SK' = SK ∧ st' = none ∧ ∀ x, p x ≠ none → Rep (S' x) (RR' x)) ∧
  (v = 4 → st' = p g ∧ p' = updOf p g none ∧ (∀ x, p x ≠ none → Rep (S' x) (RR' x)) ∧ (p g = none → ko' = ko ∧ SK' = SK) ∧ ∀ a, p g = some a → ko' = some a ∧ SK' = S' g) ∧
  (v = 5 → st' = none ∧ ko' = none ∧ p' = (if ko = none then p else updOf p kx ko) ∧ (∀ x, p x ≠ none → (ko = none ∨ x ≠ kx) → Rep (S' x) (RR' x)) ∧ (ko ≠ none → S' kx = SK))
/-- what Step tells, and leaves -/
def Stepped (w0 : World) (wk : Nat) (cf : C8) (g kx : Int) (p : Int → Option Nat) (N : Nat) (ko : Option Nat) (SK : Lists) (M : Int → Option Nat) (FR : Int → Nat → Prop) (RR' : Int → List Pn) (kd : Option Nat) (RK : List Pn) (E : List Bb) (R : Nat → Nat → Prop) (v : Int) (msg : Ms.M) (mv : Bool) (code : Int) (P O : List Pn) (w : World) (r : Ending) (w' : World) : Prop :=
  ∃ rv ov st' p' FF' S' n' ko' SK' nK' R', r = .returned (.tuple #[dval msg mv code rv ov st', .bool true]) ∧ PM w0 wk cf p' p' FF' S' (N + 16) n' [] ko' SK' nK' M FR RR' kd RK E R' w' ∧ Sl.Own Pn.k w0.heap.size w' rv P ∧ Sl.Own Pn.k w0.heap.size w' ov O ∧ P.length ≤ 9000 ∧ O.length ≤ 142080 ∧ After g kx ko SK p v RR' st' p' S' ko' SK' ∧ ∀ u X, VB w0 R w u X → VB w0 R' w' u X
theorem grp_fit {r : Int} {y : Cl} (hk : kd y.op = true) (hr : 1 ≤ r) : 0 ≤ grpOf r y ∧ grpOf r y < r := by
  unfold grpOf
  rw [if_pos hk]
  have := Fnv.grp_in (Fnv.num y.key.data.toList) r
  exact ⟨this.1, this.2 hr⟩
theorem asked16 {cf : C8} {S : Lists} {mark : Int} {x : Cl} {z : Option (Nat × Int × Int × Int)} {code : Int} {P O : List Pn} {c : Nat} {S' : Lists} (h : MAsked cf S mark x z code P O c S') (hz : ∀ nn a d l, z = some (nn, a, d, l) → nn ≤ 16 ∧ 1 ≤ l) : c ≤ 16 := by
  rcases h with ⟨-, -, S1, -, -, tk⟩ | ⟨-, -, rfl, -⟩
  · exact (Gr.taken16 tk hz).1
  · exact Nat.zero_le _
theorem routs_len {late mark : Int} {R R' O : List Pn} (h : ROuts late mark R O R') : O.length + R'.length = R.length := by
  induction h with
  | none => simp
  | @more O R1 p k h hp _ _ ih =>
    have hk := (List.getElem?_eq_some_iff.1 hp).1
    simp only [List.length_append, List.length_take, List.length_drop, List.length_singleton] at ih ⊢
    omega
section
variable {w0 w : World} {wk N nK : Nat} {cf : C8} {p M : Int → Option Nat} {FF FR : Int → Nat → Prop} {S : Int → Lists} {n : Int → Nat} {ko kdp : Option Nat} {SK : Lists} {RR RR' : Int → List Pn} {RK : List Pn} {E : List Bb} {R : Nat → Nat → Prop} {y : Cl} {fr g kx mark v code : Int} {sh mv : Bool} {msg : Ms.M} {P O : List Pn}
theorem own0 {w1 w' : World} {u : Value} {X : List Pn} (f : Fam w0 w1 R) (o : Sl.Own Pn.k w1.heap.size w' u X) : Sl.Own Pn.k w0.heap.size w' u X := Gr.own_base o f.below.size
set_option maxHeartbeats 4000000 in
theorem step_any (H : Hid (PM w0 wk cf p p FF S N n [msg] ko SK nK M FR RR' kdp RK E R w)) (pd : Hid (Pend cf y fr g kx ko mark sh p RR v msg mv code P O RR')) (rp : Hid (∀ x, p x ≠ none → Rep (S x) (RR x)))
    (hN : N + 16 ≤ 8880) (hg : 0 ≤ g ∧ g < 16) (hkx : 0 ≤ kx ∧ kx < 16) (hM : Hid (Asg.may cf.k cf.s cf.l cf.g cf.z cf.h cf.r cf.c)) (B : Hid (cf.s ≤ 9223372036854775807 ∧ cf.l ≤ 9223372036854775807 ∧ cf.g ≤ 9223372036854775807 ∧ cf.z ≤ 9223372036854775807))
    (hc : Hid (Md.cfOf cf).Fit) (hx : Hid y.Fit) (hkey : y.key.size ≤ maxLen) (fk : Hid ((Lit.int .i64 mark).wf = true)) :
    Calls Tryz.prog 15 #[Sh.gp wk, .int .i64 mark, .bool sh] w (Stepped w0 wk cf g kx p N ko SK M FR RR' kdp RK E R v msg mv code P O w) := by
  have PD := pd.out
  have h := H.out
  have r16 : 1 ≤ cf.r ∧ cf.r ≤ 16 := by have := hM.out; unfold Asg.may at this; omega
  have wg : kd y.op = true → Wf (grpOf cf.r y) := fun hk => by
    have := grp_fit hk r16.1
    exact wf_small (by omega)
  have fz : Hid ((Lit.int .i64 cf.z).wf = true) := Lib.hid (hc.out.2.2.2.2.1)
  -- the worker alone: the same groups
  have alone : ∀ (w' : World) (F' : Nat → Prop), Sh.Is w' wk F' cf p [] → Moves (R 0) F' w w' → v < 4 → (∀ x, p x ≠ none → Rep (S x) (RR' x)) → P = [] → O = [] →
      Stepped w0 wk cf g kx p N ko SK M FR RR' kdp RK E R v msg mv code P O w (.returned (.tuple #[dval msg mv code (.slice none 0 0) (.slice none 0 0) none, .bool true])) w' := fun w' F' m k hv hr hP hO => by
    subst hP hO
    have h' := (h.on0 m k).more (N' := N + 16) (by omega)
    exact ⟨_, _, _, p, FF, S, n, ko, SK, nK, _, rfl, h', Sl.Own.nil _ _ _, Sl.Own.nil _ _ _, by simp, by simp, ⟨fun _ => ⟨rfl, rfl, rfl, rfl, hr⟩, fun e => absurd e (by omega), fun e => absurd e (by omega)⟩, fun u X q => q.on0 k (rset_same _ _ _) (rset_ne _ _ (by decide)) (rset_ne _ _ (by decide))⟩
  cases PD with
  | nokey hv hn =>
    have W := Lib.hid h.work
    by_cases hk : kd y.op = true
    · refine (step_nomay fr y g none mark sh w W (by simp) hc hx (Lib.hid hk) (Lib.hid fun q => hn ⟨q, hk⟩)).mono ?_
      rintro r w' ⟨rfl, F', m, k⟩
      exact alone w' F' m k (by omega) rp.out rfl rfl
    · refine (step_nokey fr y g none mark sh w W (by simp) hc hx (Lib.hid (by simpa using hk))).mono ?_
      rintro r w' ⟨rfl, F', m, k⟩
      exact alone w' F' m k (by omega) rp.out rfl rfl
  | moved hv hm hk hp =>
    refine (step_moved fr y g none mark sh w (Lib.hid h.work) (by simp) hc hx (Lib.hid hk) (Lib.hid hm) (wg hk) (Lib.hid hp)).mono ?_
    rintro r w' ⟨rfl, F', m, k⟩
    exact alone w' F' m k (by omega) rp.out rfl rfl
  | closed hv hm hk hp hs =>
    refine (step_closed fr y g none mark sh w (Lib.hid h.work) (by simp) hc hx (Lib.hid hk) (Lib.hid hm) (wg hk) (Lib.hid hp) hs).mono ?_
    rintro r w' ⟨rfl, F', m, k⟩
    exact alone w' F' m k (by omega) rp.out rfl rfl
  | @has hv hm hk a hp hs z T code P O Rx ra =>
    have hz : ∀ nn a d l, z = some (nn, a, d, l) → nn ≤ 16 ∧ 1 ≤ l := fun nn a d l e => by
      subst e
      obtain ⟨h1, -, h2, -⟩ := told_fits hM.out (Small.fit hx.out.2.2.1).1 B.out.1 B.out.2.2.1 T
      exact ⟨h1, h2⟩
    have pn : p (grpOf cf.r y) ≠ none := by rw [hp]; simp
    have G := h.pool.is _ a hp
    refine (step_has fr y g none mark sh w (Lib.hid h.work) (by simp) hc hx (Lib.hid hk) (Lib.hid hm) (wg hk) (Lib.hid hp) hs z (Lib.hid G) (Lib.hid fun i hi q => h.ap01 i hi ⟨_, pn, q⟩) (by omega) hM B fk hkey (Lib.hid T)).mono ?_
    rintro r w' ⟨rv, ov, code2, P2, O2, c, S2, n2, F2, Fg2, rfl, ma, hn2, hP2, m, G2, A2, k2, o1, o2⟩
    have c16 := asked16 ma hz
    obtain ⟨rfl, rfl, rfl, rp2⟩ := both_asked (rp.out _ pn) G.ok (by omega) hz ma ra
    obtain ⟨R2, h2, -, e2, V2⟩ := h.onOne (pw' := p) (L' := []) hp m (G2.more (show N + c ≤ N + 16 by omega)) A2 k2 (by omega)
    have hO : O2.length ≤ 8880 := by
      have hl : O2.length ≤ (RR (grpOf cf.r y)).length := by
        rcases ra with ⟨-, -, R1, ro, -⟩ | ⟨-, -, ro, -⟩
        · have := routs_len ro; omega
        · have := routs_len ro; omega
      have := Rr.count (rp.out _ pn) G (by omega)
      have := G.few
      omega
    refine ⟨rv, ov, none, p, _, _, _, ko, SK, nK, R2, rfl, h2, own0 h.fam o1, own0 h.fam o2, hP2, by omega, ⟨fun _ => ⟨rfl, rfl, rfl, rfl, fun x hx => ?_⟩, fun e => absurd e (by omega), fun e => absurd e (by omega)⟩, fun u X q => q.two V2 e2⟩
    by_cases e : x = grpOf cf.r y
    · subst e; simpa using rp2
    · simpa [e] using rp.out x hx
  | @mark hv O RR2 ks hks r =>
    refine (step_mark fr y g none mark sh w (Lib.hid h.work) (by simp) (Lib.hid h.pool) (Lib.hid h.ap01) (by omega) fz fk).mono ?_
    rintro r' w' ⟨ov, ks2, O2, S2, n2, F2, FF2, rfl, hks2, mk, hO, m, P2, A2, k2, o2⟩
    obtain rfl : ks2 = ks := by
      refine List.Perm.eq_of_pairwise (le := (· < ·)) (fun a b _ _ h1 h2 => absurd h1 (by omega)) hks2.up hks.up ((List.perm_ext_iff_of_nodup (hks2.up.imp fun {a b} q e => by omega) (hks.up.imp fun {a b} q e => by omega)).2 fun x => ?_)
      rw [hks2.mem x, hks.mem x]
    obtain ⟨rfl, rp2, -⟩ := mk_both (Q := fun x => p x ≠ none) mk r (fun x hx => (hks.mem x).1 hx) rp.out (fun x hx => by
      obtain ⟨a, ha⟩ := Option.ne_none_iff_exists'.1 hx
      exact (h.pool.is x a ha).fine (by omega))
    have h2 := (h.onAll (pw' := p) (L' := []) m P2 A2 k2 (Nat.le_refl N)).more (N' := N + 16) (by omega)
    refine ⟨_, ov, none, p, _, _, _, ko, SK, nK, _, rfl, h2, Sl.Own.nil _ _ _, own0 h.fam o2, by simp, hO, ⟨fun _ => ⟨rfl, rfl, rfl, rfl, rp2⟩, fun e => absurd e (by omega), fun e => absurd e (by omega)⟩, fun u X q => q.two ?_ (by rw [rset_ne _ _ (by decide), rset_ne _ _ (by decide)])⟩
    rw [rset_same, rset_ne _ _ (by decide), rset_same, h.r1]
    exact k2
  | give hv =>
    refine (step_give fr y g none mark sh w (Lib.hid h.work) (by simp) hg).mono ?_
    rintro r w' ⟨rfl, F', m, k⟩
    have h1 := (h.on0 m k).more (N' := N + 16) (by omega)
    cases hp : p g with
    | none =>
      rw [upd_none hp] at h1
      refine ⟨_, _, none, p, FF, S, n, ko, SK, nK, _, rfl, h1, Sl.Own.nil _ _ _, Sl.Own.nil _ _ _, by simp, by simp, ⟨fun e => absurd e (by omega), fun _ => ⟨hp.symm, (upd_none hp).symm, rp.out, fun _ => ⟨rfl, rfl⟩, fun a e => ?_⟩, fun e => absurd e (by omega)⟩, fun u X q => q.on0 k (rset_same _ _ _) (rset_ne _ _ (by decide)) (rset_ne _ _ (by decide))⟩
      rw [hp] at e; cases e
    | some a =>
      have h2 := h1.gave hp
      refine ⟨_, _, some a, _, FF, S, n, some a, S g, n g, _, rfl, h2, Sl.Own.nil _ _ _, Sl.Own.nil _ _ _, by simp, by simp, ⟨fun e => absurd e (by omega), fun _ => ⟨hp.symm, rfl, rp.out, fun e => ?_, fun b e => ?_⟩, fun e => absurd e (by omega)⟩, fun u X q => ?_⟩
      · rw [hp] at e; cases e
      · rw [hp] at e; cases e; exact ⟨rfl, rfl⟩
      · refine (q.on0 (R' := rset R 0 F') k (rset_same _ _ _) (rset_ne _ _ (by decide)) (rset_ne _ _ (by decide))).base (fun b hb => ?_)
        rcases hb with hb | hb | hb
        · rw [rset_ne _ _ (by decide), rset_ne _ _ (by decide)] at hb; exact .inl hb
        · rw [rset_ne _ _ (by decide), rset_same] at hb
          exact .inr (.inl (by rw [rset_ne _ _ (by decide), h.r1]; exact uf_drop hb))
        · rw [rset_same] at hb
          exact .inr (.inl (by rw [rset_ne _ _ (by decide), h.r1]; exact ⟨g, by rw [hp]; simp, hb⟩))
  | have_ hv =>
    refine (step_have fr y kx ko mark sh w (Lib.hid h.work) (by simp) hkx (if ko = none then p else updOf p kx ko) (Lib.hid rfl)).mono ?_
    rintro r w' ⟨rfl, F', m, k⟩
    have h1 := (h.on0 m k).more (N' := N + 16) (by omega)
    cases ko with
    | none =>
      simp only [if_true] at h1
      refine ⟨_, _, none, p, FF, S, n, none, SK, nK, _, rfl, h1, Sl.Own.nil _ _ _, Sl.Own.nil _ _ _, by simp, by simp, ⟨fun e => absurd e (by omega), fun e => absurd e (by omega), fun _ => ⟨rfl, rfl, by simp, fun x hx _ => rp.out x hx, fun e => absurd rfl e⟩⟩, fun u X q => q.on0 k (rset_same _ _ _) (rset_ne _ _ (by decide)) (rset_ne _ _ (by decide))⟩
    | some a =>
      have e0 : (some a : Option Nat) ≠ none := by simp
      rw [if_neg e0] at h1
      obtain ⟨FF2, R2, h2, z0, z1, z2⟩ := h1.had (x := kx)
      refine ⟨_, _, none, _, _, _, _, none, SK, nK, R2, rfl, h2, Sl.Own.nil _ _ _, Sl.Own.nil _ _ _, by simp, by simp, ⟨fun e => absurd e (by omega), fun e => absurd e (by omega), fun _ => ⟨rfl, rfl, by rw [if_neg e0], fun x hx hne => ?_, fun _ => by simp⟩⟩, fun u X q => ?_⟩
      · have : x ≠ kx := hne.resolve_left e0
        simpa [this] using rp.out x hx
      · refine (q.on0 (R' := rset R 0 F') k (rset_same _ _ _) (rset_ne _ _ (by decide)) (rset_ne _ _ (by decide))).base fun b hb => ?_
        rcases hb with hb | hb | hb
        · rw [z0] at hb; exact .inl hb
        · exact .inr (z1 b hb)
        · rw [z2] at hb; exact hb.elim
end
end Sp
end Go.Proofs.YtmklkiklegkioaaGreat

namespace Go.Proofs.YtmklkiklegkioaaGreat
open Go.ChangeShapes Go.WideShapes Go.ChangeAt Go.RowKit
set_option maxRecDepth 100000
set_option linter.unusedVariables false
namespace Sp
open Small Foot Pane Grp Ca Md Sh Rg Rm
theorem below_drewN (w : World) (n : Nat) : Below w.heap.size w (w.drewN n) := by
  induction n with
  | zero => exact Below.refl _ _
  | succ n ih => exact ih.drew
set_option maxHeartbeats 1600000 in
/-- two lists of the same numbers -/
theorem ints_ok (v u : Value) (X : List Int) (w : World) (H : Hid (Ints w v X)) (G : Hid (Ints w u X)) (hn : X.length ≤ 16) :
    Calls Tryz.prog 18 #[v, u] w fun r w' => r = .returned (.bool true) ∧ Below w.heap.size w w' := by
  obtain ⟨A1, c1, rfl, h1⟩ := H.out
  obtain ⟨A2, c2, rfl, h2⟩ := G.out
  have H1 := Lib.hid h1
  have H2 := Lib.hid h2
  clear h1 h2 H G
  go_enter Tryz.func18, Tryz.ntmps18
  go_wp2_with fail
  go_loopw [5] (fun si wr => ∃ (i : Nat), i ≤ X.length ∧ si = .int .i64 i ∧ Hid (Below w.heap.size w wr)) (fun si _ => X.length - (intOf si).toNat)
  case atStart => exact ⟨0, by omega, rfl, Lib.hid (Below.refl _ _)⟩
  case round =>
    obtain ⟨i, hi, rfl, K⟩ := hrel
    by_cases hlt : i < X.length
    · obtain ⟨b1, o1, rfl, l1, q1⟩ := H1.out (by omega)
      obtain ⟨b2, o2, rfl, l2, q2⟩ := H2.out (by omega)
      obtain ⟨x, hx⟩ : ∃ x, X[i]? = some x := ⟨_, List.getElem?_eq_getElem hlt⟩
      have e1 := cell_keep K.out (q1 i x hx)
      have e2 := cell_keep K.out (q2 i x hx)
      have i1 : (i : Int) < (X.length : Int) := by omega
      have i2 : (i : Int) ≤ 16 := by omega
      clear q1 q2 hx l1 l2
      go_wp2_with fail
      go_quiet (fail)
      generalize hw7 : wr.drewN _ = w7
      have K7 : Hid (Below w.heap.size w w7) := Lib.hid (after K.out (by rw [← hw7]; exact below_drewN _ _))
      clear hw7 e1 e2 K
      go_wp2_with fail
      exact ⟨⟨i + 1, by omega, by go_num, K7⟩, by first | (simp [intOf]; done) | (simp [intOf]; omega)⟩
    · obtain rfl : i = X.length := by omega
      have i1 : ¬ ((X.length : Int) < (X.length : Int)) := by omega
      go_wp2
      go_ret
      exact ⟨rfl, K.out⟩
/-! ### what is made -/
theorem bm5 (w : World) (k g : Int) (y : Cl) : (Instr.build 45 #[(1, .int .i64 k), (2, y.val), (3, .int .i64 g)]).run Tryz.prog w = .ok (Ms.val ⟨0, k, y, g, none⟩) w := by kernel_rfl
theorem wp_bm5 {o : Oper} {a : Act} {w : World} {K : Act → World → Prop} {Q : Exit → Act → World → Prop} {k g : Int} (x z u : Operand) (y : Cl) (ho : o.op = .build 45 #[(1, x), (2, z), (3, u)]) (hx : a.eval x = .int .i64 k) (hz : a.eval z = y.val) (hu : a.eval u = .int .i64 g) (hK : K (a.put o.dst (Ms.val ⟨0, k, y, g, none⟩)) w) : o.wp Tryz.prog a w K Q := by
  unfold Oper.wp execOp
  simp only [ho, List.map_toArray, List.map_cons, List.map_nil, hx, hz, hu, Sem.run_bind, Sem.run_pure, Result.andThen_ok, bm5]
  exact hK
/-- a group of the document's, without panes -/
theorem rr_new {w : World} {cf : C8} {g : Nat} (l : Lies w g 40 (rcl cf (.slice none 0 0))) : Rr.Is w g (fun j => j = g) cf [] :=
  ⟨.slice none 0 0, g, ⟨l, Sl.Is.nil _ _ _, fun q => absurd rfl q⟩, l.lt, fun k => by simp⟩
/-! ### the document's list of groups -/
abbrev ml (M : Int → Option Nat) (n : Nat) : List Value := (List.range n).map fun k : Nat => Ms.stv (M (k : Int))
theorem ml_at {M : Int → Option Nat} {n k : Nat} (h : k < n) : (ml M n)[k]? = some (Ms.stv (M (k : Int))) := by simp [ml, h]
theorem ml_set {M : Int → Option Nat} {n k : Nat} (h : k < n) (v : Option Nat) : (ml M n).set k (Ms.stv v) = ml (updOf M (k : Int) v) n := by
  apply List.ext_getElem?
  intro j
  rw [List.getElem?_set]
  by_cases e : k = j
  · subst e
    rw [if_pos rfl, if_pos (by simpa using h), ml_at h, upd_same]
  · rw [if_neg e]
    by_cases hj : j < n
    · rw [ml_at hj, ml_at hj, upd_ne (by omega)]
    · rw [List.getElem?_eq_none (by simp; omega), List.getElem?_eq_none (by simp; omega)]
theorem infoPtr : (Tryz.prog.info? 37).map (fun i => (i.zero, i.size, i.bytes)) = some (some (.pointer none), 1, 8) := by kernel_rfl
theorem ml_zero (n : Nat) : (madeCells (Value.pointer none).cells (n * 1)).toList = ml (fun _ => none) n := by
  apply List.ext_getElem?
  intro j
  by_cases hj : j < n
  · rw [ml_at hj]
    simp [madeCells, hj, Value.cells, Nat.mod_one]
  · rw [List.getElem?_eq_none (by simp [madeCells]; omega), List.getElem?_eq_none (by simp; omega)]
/-- 'make([]T, n)': a block of its own, all of it known -/
theorem wpList_make_lies {P : Program} (w : World) {ops : Array Oper} {rest : List Oper} {o : Oper} {a : Act} {Q : Exit → Act → World → Prop}
    (hg : o.guard = none) (l c : Operand) (t : TypeId) (hop : o.op = Op.makeSlice t l c)
    (e : TypeId) (i : TypeInfo) (z : Value) (size bytes : Nat) (h1 : P.underlying t = some (.slice e)) (h2 : P.info? e = some i) (h3 : i.zero = some z) (h4 : i.size = size) (h5 : i.bytes = bytes)
    (n : Nat) (hl : a.eval l = .int .i64 n) (hc : a.eval c = .int .i64 n) (b2 : bytes * n ≤ 281474976710656) (b3 : n ≤ maxLen)
    (hK : ∀ w', Lies w' w.heap.size e (madeCells z.cells (n * size)).toList → Below w.heap.size w w' → w'.heap.size = w.heap.size + 1 → wpList P ops Q rest (a.put o.dst (.slice (some ⟨w.heap.size, 0, none⟩) n n)) w') :
    wpList P ops Q (o :: rest) a w := by
  refine wpList_plain hg fun K hK' => ?_
  subst h4 h5
  have hb' : (i.bytes : Int) * (n : Int) ≤ 281474976710656 := by
    have h : ((i.bytes * n : Nat) : Int) ≤ 281474976710656 := by omega
    rwa [Int.natCast_mul] at h
  have hrun := run_make (P := P) w t e i z h1 h2 h3 .i64 .i64 n n (by omega) (by omega) hb' (by simp [maxLen] at b3; omega)
  simp only [Int.toNat_natCast] at hrun
  unfold Oper.wp
  simp [execOp, hop, hl, hc, hrun, Result.andThen]
  exact hK' _ _ (hK _ (by have := Lies.new w e (madeCells z.cells (n * i.size)).toList; simpa using this) (below1 _ _) (by simp))
/-- but block b, that is a box, all stayed -/
def WL (w0 : World) (b : Nat) (T : TypeId) (w : World) : Prop := Out.Wr (fun i => i = b) w0 w ∧ ∃ cs, Lies w b T cs
section
variable {w0 w w' : World} {b j : Nat} {T : TypeId} {cs : List Value}
theorem WL.start (l : Lies w0 b T cs) : WL w0 b T w0 := ⟨Out.Wr.of_below (Below.refl _ _), _, l⟩
theorem WL.next (h : WL w0 b T w) (k : Below w.heap.size w w') : WL w0 b T w' := ⟨h.1.trans (Out.Wr.of_below k), h.2.elim fun cs l => ⟨cs, l.next k⟩⟩
theorem WL.drew (h : WL w0 b T w) : WL w0 b T w.drew := h.next (Below.refl _ _).drew
theorem WL.alloc (h : WL w0 b T w) (o : Obj) : WL w0 b T (w.alloc o) := h.next (below1 _ _)
theorem WL.set (h : WL w0 b T w) (u : Value) : WL w0 b T (w.setCell ⟨b, j, none⟩ u) := by
  obtain ⟨k, cs, l⟩ := h
  exact ⟨⟨k.os, k.tape, k.output, by simpa using k.size, fun i hi hn => (Below.heap_setCell w ⟨b, j, none⟩ u i hn).trans (k.block i hi hn)⟩, _, l.put j u⟩
theorem WL.cell (h : WL w0 b T w) {a : Addr} {v : Value} (e : w0.cell? a = some v) (hn : a.block ≠ b) : w.cell? a = some v := (World.cell?_of_block (h.1.block _ (World.block_lt_of_cell? _ _ e) hn)).trans e
theorem WL.open_ (h : WL w0 b T w) : w.frozen? ⟨b, j, none⟩ = false := h.2.elim fun cs l => l.open_ j
theorem WL.lies {g : Nat} {T' : TypeId} {cs' : List Value} (h : WL w0 b T w) (l : Lies w0 g T' cs') (hn : g ≠ b) : Lies w g T' cs' := (h.1.block g l.lt hn).trans l
end
/-! ### what came in -/
/-- a deed: what, which call, which group, at which mark, closed or not -/
structure Deed where
  c : Int
  y : Cl
  g : Int
  m : Int
  o : Bool
instance : Inhabited Deed := ⟨⟨0, default, 0, 0, false⟩⟩
abbrev dl (x : Deed) : List Value := [.int .i64 x.c, .int .i64 x.y.op, .string x.y.key, .int .i64 x.y.t, .int .i64 x.y.v, .int .i64 x.y.e, .int .i64 x.y.u, .int .i64 x.y.s, .int .i64 x.g, .int .i64 x.m, .bool x.o]
def DFits (x : Deed) : Prop := (Lit.int .i64 x.c).wf = true ∧ x.y.Fit ∧ (Lit.int .i64 x.g).wf = true ∧ (Lit.int .i64 x.m).wf = true
theorem cellsD : Tryz.prog.cellsOf 51 = 11 := by kernel_rfl
theorem cellsB : Tryz.prog.cellsOf 4 = 1 := by kernel_rfl
theorem deed_cells {H : Type} {enc : TypeId × Value → H} {w : World} {base : Nat} {held : Bool} {spare : Nat → Bool} (m : Nat) (cs : List Value) (y : DataW H × List MemPlace)
    (h : DataW.trod enc Tryz.prog w base spare held m 51 cs = some y) : ∃ x : Deed, cs = dl x ∧ DFits x := by
  obtain ⟨xs, n, _, _, hl, hlen, hat⟩ := DataW.trod_struct Tryz.underlying51 h
  match cs, hl.trans cellsD with
  | [c0, c1, c2, c3, c4, c5, c6, c7, c8, c9, c10], _ =>
    match xs, hlen with
    | [y0, y1, y2, y3, y4], _ =>
      have g0 := hat 0 _ rfl
      have g1 := hat 1 _ rfl
      have g2 := hat 2 _ rfl
      have g3 := hat 3 _ rfl
      have g4 := hat 4 _ rfl
      simp [Out.cellsN, Out.cellsI64, cellsB, Ca.cells_call] at g0 g1 g2 g3 g4
      obtain ⟨a0, e0, -, w0⟩ := DataW.trod_int Tryz.underlying3 g0
      obtain ⟨z, e1, w1⟩ := Ca.call_cells _ _ _ g1
      obtain ⟨a2, e2, -, w2⟩ := DataW.trod_int Tryz.underlying3 g2
      obtain ⟨a3, e3, -, w3⟩ := DataW.trod_int Tryz.underlying2 g3
      obtain ⟨a4, e4, -⟩ := DataW.trod_bool Tryz.underlying4 g4
      simp at e0 e1 e2 e3 e4
      obtain ⟨rfl, rfl, rfl, rfl, rfl, rfl, rfl⟩ := e1
      subst e0 e2 e3 e4
      exact ⟨⟨a0, z, a2, a3, a4⟩, rfl, w0, w1, w2, w3⟩
end Sp
namespace Opens
theorem open_deeds {H : Type} {enc : TypeId × Value → H} {w : World} {base : Nat} {held : Bool} {spare : Nat → Bool} {r : Reach} {b0 : Nat} {v : Value} {d : DataW H} {p : List MemPlace}
    (hv : Value.okWide Tryz.prog w r b0 25 v) (h : DataW.Trod enc Tryz.prog w base spare held 25 v d p) :
    ∃ x : Option Addr × Nat × Nat × (Nat → Sp.Deed), v = .slice x.1 x.2.1 x.2.2.1 ∧ Opens.IsRows Sp.dl 11 Sp.DFits w x :=
  Opens.open_rows Sp.dl Sp.DFits Tryz.underlying25 Sp.cellsD (by omega) Sp.deed_cells hv h
/-- numbers that came in -/
theorem open_nums {H : Type} {enc : TypeId × Value → H} {w : World} {base : Nat} {held : Bool} {spare : Nat → Bool} {r : Reach} {b0 : Nat} {v : Value} {d : DataW H} {p : List MemPlace}
    (hv : Value.okWide Tryz.prog w r b0 24 v) (h : DataW.Trod enc Tryz.prog w base spare held 24 v d p) :
    ∃ x : Value × List Int, v = x.1 ∧ Sh.Ints w x.1 x.2 ∧ x.2.length ≤ maxLen := by
  obtain ⟨A, len, cap, rfl⟩ := okWide_slice Tryz.underlying24 hv
  obtain ⟨fuel, hf⟩ := h
  rcases ChangeShapes.open_ints Tryz.underlying24 Tryz.underlying3 Out.cellsN hf with ⟨hcs, hx⟩ | ⟨a, len', cap', zs, hcs, _, hl, hm, hz, hx, hcell, hwz⟩
  · simp [Value.cells] at hcs
    obtain ⟨rfl, rfl, rfl⟩ := hcs
    exact ⟨(.slice none 0 0, []), rfl, ⟨none, 0, rfl, fun h => absurd h (by simp)⟩, by simp⟩
  · simp [Value.cells] at hcs
    obtain ⟨rfl, rfl, rfl⟩ := hcs
    have hlen : len ≤ zs.length := by rw [hz]; split <;> omega
    have hl2 : (zs.take len).length = len := by simp [hlen]
    refine ⟨(.slice (some a) len cap, zs.take len), rfl, ⟨some a, cap, by rw [hl2], fun h0 => ?_⟩, by simp only; omega⟩
    rw [hl2] at h0
    obtain ⟨b, off, spot⟩ := a
    have hspot : spot = none := by simpa [Addr.add] using World.cell?_spot (hcell 0 (by omega))
    subst hspot
    have h00 := hcell 0 (by omega)
    refine ⟨b, off, rfl, World.block_lt_of_cell? _ _ h00, fun j x hx => ?_⟩
    have hj := (List.getElem?_eq_some_iff.1 hx).1
    rw [hl2] at hj
    have := hcell j (by omega)
    rw [add_plain] at this
    rw [this]
    rw [List.getElem?_take_of_lt hj] at hx
    rw [List.getElem?_eq_getElem (by omega)] at hx
    have hx2 := Option.some.inj hx
    rw [← hx2]
    simp [List.getD, List.getElem?_eq_getElem (show j < zs.length by omega)]
end Opens
end Go.Proofs.YtmklkiklegkioaaGreat

namespace Go.Proofs.YtmklkiklegkioaaGreat
open Go.ChangeShapes Go.WideShapes Go.ChangeAt Go.RowKit
set_option maxRecDepth 100000
set_option linter.unusedVariables false
namespace Sp
open Small Foot Pane Grp Ca Md Sh Rg Rm
theorem pick_any (c n : Int) (w : World) (hc : (Lit.int .i64 c).wf = true) (hn : 0 < n) (hn2 : n ≤ 1000) : Calls Tryz.prog 8 #[.int .i64 c, .int .i64 n] w fun r w' => ∃ v, r = .returned (.int .i64 v) ∧ (0 ≤ v ∧ v < n) ∧ Below w.heap.size w w' :=
  (pick_det c n w hc hn hn2).mono fun r w' h => ⟨_, h.1, pk_in hn, h.2 ▸ Below.refl _ _⟩
/-- deeds, one behind the other -/
def Row (A : Option Addr) (n : Nat) (f : Nat → Deed) (w : World) : Prop := 0 < n → ∃ b off, A = some ⟨b, off, none⟩ ∧ ∀ i, i < n → ∀ j v, (dl (f i))[j]? = some v → w.cell? ⟨b, off + (i * 11 + j), none⟩ = some v
theorem Row.next {A : Option Addr} {n : Nat} {f : Nat → Deed} {w w' : World} (h : Row A n f w) (k : Below w.heap.size w w') : Row A n f w' := fun h0 => by
  obtain ⟨b, off, e, hc⟩ := h h0
  exact ⟨b, off, e, fun i hi j v hv => cell_keep k (hc i hi j v hv)⟩
/-- the worker's groups, and the document's; what was given away, and what was kept; 'last' -/
structure LS (nn : Nat) (p M : Int → Option Nat) (S : Int → Lists) (RR : Int → List Pn) (ko kd : Option Nat) (SK : Lists) (RK : List Pn) (lc : List Value) (kx : Int) : Prop where
  dom : ∀ x, p x ≠ none → 0 ≤ x ∧ x < nn
  same : ∀ x, p x = none ↔ M x = none
  rep : ∀ x, p x ≠ none → Rep (S x) (RR x)
  kept : ko = none ↔ kd = none
  krep : ko ≠ none → Rep SK RK
  len : lc.length = 16
  c9 : lc[9]? = some (.int .i64 kx)
  c15 : lc[15]? = some (Ms.stv ko)
  k0 : 0 ≤ kx
  k1 : kx < nn
  one : ∀ v ∈ lc, v.oneCell' = true
/-- from deed to deed: jx are done; 'kept' is s -/
def Rnd (w : World) (wk : Nat) (cf : C8) (nn gc bm gl jx : Nat) (s : Value) (wr : World) : Prop :=
  ∃ (p : Int → Option Nat) (FF : Int → Nat → Prop) (S : Int → Lists) (n : Int → Nat) (ko : Option Nat) (SK : Lists) (nK : Nat) (MM : Int → Option Nat) (FR : Int → Nat → Prop) (RR : Int → List Pn) (kd : Option Nat) (RK : List Pn) (lc : List Value) (kx : Int) (R : Nat → Nat → Prop), s = Ms.stv kd ∧ Hid (PM w wk cf p p FF S (16 * jx) n [] ko SK nK MM FR RR kd RK [⟨gc, 23, cf.cl⟩, ⟨bm, 37, ml MM nn⟩, ⟨gl, 49, lc⟩] R wr) ∧ Hid (LS nn p MM S RR ko kd SK RK lc kx)
theorem pend_fr {cf : C8} {y : Cl} {fr g kx mark v code : Int} {ko : Option Nat} {sh mv : Bool} {p : Int → Option Nat} {RR RR' : Int → List Pn} {msg : Ms.M} {P O : List Pn} (h : Pend cf y fr g kx ko mark sh p RR v msg mv code P O RR') : msg.fr = fr := by cases h <;> rfl
theorem pend_four {cf : C8} {y : Cl} {fr g kx mark v code : Int} {ko : Option Nat} {sh mv : Bool} {p : Int → Option Nat} {RR RR' : Int → List Pn} {msg : Ms.M} {P O : List Pn} (h : Pend cf y fr g kx ko mark sh p RR v msg mv code P O RR') (hv : v = 4) : msg.group = g := by
  cases h <;> first | rfl | omega
theorem pend_back {cf : C8} {y : Cl} {fr g kx mark v code : Int} {ko : Option Nat} {sh mv : Bool} {p : Int → Option Nat} {RR RR' : Int → List Pn} {msg : Ms.M} {P O : List Pn} (h : Pend cf y fr g kx ko mark sh p RR v msg mv code P O RR') (hv : 4 ≤ v) : RR' = RR := by
  cases h <;> first | rfl | omega
/-- what is sent, and what the document tells of it -/
def Sent (w : World) (wk : Nat) (cf : C8) (nn gc bm gl gd gm gw : Nat) (p : Int → Option Nat) (FF : Int → Nat → Prop) (S : Int → Lists) (N : Nat) (n : Int → Nat) (ko : Option Nat) (SK : Lists) (nK : Nat) (MM : Int → Option Nat) (kd : Option Nat) (RK : List Pn) (lc : List Value) (x : Deed) (fr g kx : Int) (RR : Int → List Pn) (v : Int) (s21 s22 : Value) (wx : World) : Prop :=
  ∃ (FR' : Int → Nat → Prop) (RR' : Int → List Pn) (R' : Nat → Nat → Prop) (msg : Ms.M) (mv : Bool) (code : Int) (P O : List Pn) (Ar Ao : Option Addr) (nr cr no co : Nat), s21 = .bool mv ∧ s22 = .slice Ao no co ∧
    Hid (PM w wk cf p p FF S N n [] ko SK nK MM FR' RR' kd RK [⟨gc, 23, cf.cl⟩, ⟨bm, 37, ml MM nn⟩, ⟨gl, 49, lc⟩, ⟨gd, 51, dl x⟩, ⟨gm, 45, Ms.cl msg⟩, ⟨gw, 47, [.int .i64 code, .slice Ar nr cr]⟩] R' wx) ∧
    Hid (Pend cf x.y fr g kx ko x.m x.o p RR v msg mv code P O RR') ∧ Hid (VB w R' wx (.slice Ar nr cr) P) ∧ Hid (VB w R' wx (.slice Ao no co) O)
/-! ### the blocks of the text -/
def blk (n : Nat) : Code → Option Code
  | .block m c => if m = n then some (.block m c) else blk n c
  | .seq a b => match blk n a with
    | some c => some c
    | none => blk n b
  | .loop c => blk n c
  | .scope c => blk n c
  | .cond _ a b => match blk n a with
    | some c => some c
    | none => blk n b
  | _ => none
noncomputable def b3 : Code := ((Tryz.f3.body.bind (blk 3)).getD .skip)
noncomputable def b4 : Code := ((Tryz.f3.body.bind (blk 4)).getD .skip)
/-- does it end in block n -/
def endsIn (n : Nat) : Code → Bool
  | .block m _ => m == n
  | .seq _ b => endsIn n b
  | _ => false
/-- what stands behind block n -/
def aft (n : Nat) : Code → Option Code
  | .seq a b => if endsIn n a then some b else match aft n a with
    | some c => some (.seq c b)
    | none => aft n b
  | .block _ c => aft n c
  | _ => none
/-- the round's text behind the switch -/
noncomputable def b3r : Code := (((Tryz.f3.body.bind (blk 3)).bind (aft 4)).getD .skip)
section
variable {w0 w w' : World} {wk N nK : Nat} {cf : C8} {pw p M : Int → Option Nat} {FF FR : Int → Nat → Prop} {S : Int → Lists} {n : Int → Nat} {L : List Ms.M} {ko kd : Option Nat} {SK : Lists} {RR : Int → List Pn} {RK Rx : List Pn} {E : List Bb} {R : Nat → Nat → Prop} {F' : Nat → Prop} {x : Int} {a c : Nat}
/-- something beside all of it went on -/
theorem PM.aside {r : Option Nat} (h : PM w0 wk cf pw p FF S N n L ko SK nK M FR RR kd RK E R w) (k : w.grownBy w' r) (hn : ∀ b, r = some b → w0.heap.size ≤ b ∧ ∀ i, ¬ R i b) : PM w0 wk cf pw p FF S N n L ko SK nK M FR RR kd RK E R w' := by
  have K : ∀ i, Kp R R w w' i := fun i => ⟨rfl, fun b hb => k.block b (h.fam.in_ i b hb) fun e => (hn b e.symm).2 i hb⟩
  have s := k.size
  exact ⟨⟨fun i b hb => Nat.lt_of_lt_of_le (h.fam.in_ i b hb) s, h.fam.lo, h.fam.ap, h.fam.below.grown k h.fam.below.size fun j hj => (hn j hj).1⟩, h.k0 (K 0), (h.k1 s (K 1)).1, h.r1, h.k2 s (K 2), (h.k4 s (K 4)).1, h.r4, h.k5 s (K 5), (h.k8 fun i => K _).1, h.rest⟩
/-- what lies beside all of it lies beside all of it, when one of the document's groups went on -/
theorem PM.dBeside (h : PM w0 wk cf pw p FF S N n L ko SK nK M FR RR kd RK E R w) (hx : M x = some a) (G : Rr.Is w' a F' cf Rx) (k : Moves (FR x) F' w w') (hn : ∀ i, ¬ R i c) (hc : c < w.heap.size) : ∀ i, ¬ rset R 4 (UF M fun y => if y = x then F' else FR y) i c := by
  obtain ⟨P, V⟩ := h.docs.one hx G k
  intro i
  by_cases e : i = 4
  · subst e
    rw [rset_same]
    intro q
    rcases (V.new c q).1 with r | r
    · exact hn 4 (by rw [h.r4]; exact r)
    · omega
  · rw [rset_ne _ _ e]; exact hn i
theorem MkR.other {z mark : Int} {RR RR1 : Int → List Pn} {ks : List Int} {O : List Pn} (h : MkR z mark RR ks O RR1) {x : Int} (hx : x ∉ ks) : RR1 x = RR x := by
  induction h with
  | nil => rfl
  | @snoc ks k O Ok T RR1 h o no ih =>
    have : x ≠ k := fun e => hx (by simp [e])
    simp only [this, if_false]
    exact ih fun q => hx (List.mem_append_left _ q)
end
/-! ### small words -/
theorem wr_set {F : Nat → Prop} {a b : World} {i j : Nat} (h : Out.Wr F a b) (hi : F i) (u : Value) : Out.Wr F a (b.setCell ⟨i, j, none⟩ u) :=
  ⟨h.os, h.tape, h.output, by simpa using h.size, fun k hk hn => (Below.heap_setCell b ⟨i, j, none⟩ u k (fun e => hn (by have e : k = i := e; rw [e]; exact hi))).trans (h.block k hk hn)⟩
theorem wr_cell {F : Nat → Prop} {a b : World} {d : Addr} {v : Value} (h : Out.Wr F a b) (hn : ¬ F d.block) (e : a.cell? d = some v) : b.cell? d = some v := (World.cell?_of_block (h.block _ (World.block_lt_of_cell? _ _ e) hn)).trans e
theorem wr_grown {F : Nat → Prop} {a b : World} {v : Value} (h : a.grownBy b v.ownBlock) : Out.Wr (fun i => F i ∨ v.ownBlock = some i) a b := ⟨h.os, h.tape, h.output, h.size, fun i hi hn => h.block i hi fun e => hn (.inr e.symm)⟩
/-- append in a statement that draws its order, what it yields as a slice -/
theorem step_append_pn {ops : Array Oper} {o : Oper} {a : Act} {w : World} {Kc : Act → World → Prop} {Q : Exit → Act → World → Prop} {E : Prop} {l l2 : List Pn} {base b2 : Nat} (hgd : o.guard = none) (s x : Operand) (hop : o.op = Op.call { callee := Callee.builtin Builtin.append, args := #[s, x], argTypes := #[Pn.k.t, Pn.k.t] })
    (vs vx : Value) (hs : a.eval s = vs) (hxx : a.eval x = vx) (h : Sl.Own Pn.k base w vs l) (hx : Sl.Is Pn.k w vx l2 b2) (hn : l.length + l2.length ≤ 1048576) (hb : base ≤ w.heap.size)
    (hK : ∀ A m c w', Hid (m = (l ++ l2).length) → Sl.Own Pn.k base w' (.slice A m c) (l ++ l2) → w.grownBy w' vs.ownBlock → ((Value.slice A m c).ownBlock = vs.ownBlock ∨ (Value.slice A m c).ownBlock = some w.heap.size) → Kc (a.put o.dst (.slice A m c)) w') :
    if Region.wanted o (yielded ops a.tmps) = true then Oper.wp Tryz.prog o a w Kc Q else E := by
  have hw : Region.wanted o (yielded ops a.tmps) = true := by simp [Region.wanted, hgd]
  rw [if_pos hw]
  subst hs hxx
  refine Sl.wp_append Pn.ok s x hop h hx hn hb fun v' w' q1 q2 q3 => ?_
  obtain ⟨A, c, rfl⟩ : ∃ A c, v' = .slice A (l ++ l2).length c := by obtain ⟨b, _, h⟩ := q1.is; exact h.len
  exact hK A _ c w' (Lib.hid rfl) q1 q2 q3
theorem lit_pn {base : Nat} {w : World} {v : Value} {L : List Pn} (h : Sl.Own Pn.k base w v L) : ∃ A n c, v = .slice A n c := by
  obtain ⟨b, _, h⟩ := h.is
  obtain ⟨A, c, e⟩ := h.len
  exact ⟨A, _, c, e⟩
end Sp
end Go.Proofs.YtmklkiklegkioaaGreat
