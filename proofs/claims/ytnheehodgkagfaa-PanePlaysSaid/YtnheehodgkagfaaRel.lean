/-
  A statement that draws its order and makes memory: each of its first n operations yields, in whatever world it comes up, a value of which its own Ψ holds, and leaves what was there as it was; what stands behind them comes in the order of the text. Walked once.
-/
import Derived.Test.YtnheehodgkagfaaLater
import Derived.StillTail
import Derived.Deep.Quiet
namespace Go.Proofs.Ytnheehodgkagfaa
open Go.RowKit

namespace Rel
section
variable {P : Program} {ops : Array Oper} {md : Region.Mode} {n : Nat}

def dstOf (ops : Array Oper) (k : Nat) : Option Tmp := (ops[k]?).bind (·.dst)
/-- the operations that have come ahead of k, whatever is drawn -/
def deps (ops : Array Oper) (k : Nat) : List Nat := ((ops[k]?).map (fun o => (o.after.toList.filter (Region.binds .any ·)).map (·.on))).getD []
def doneArr (N n : Nat) : Array Bool := Array.replicate n true ++ Array.replicate (N - n) false

/-- what a program reckons of such a statement -/
def fitB (ops : Array Oper) (n N : Nat) : Bool :=
  decide (n < ops.size) && Region.sinkB .any ops n && Region.chainB .any ops n && Region.seqB .any ops (ops.size - n) n (doneArr ops.size n) &&
    (List.range n).all (fun k => match ops[k]? with | none => false | some o => o.guard.isNone && (match o.dst with | none => false | some t => decide (t < N)) && (o.after.all fun e => !Region.binds .any e || decide (e.on < k))) &&
    (List.range n).all (fun k => (List.range n).all fun j => decide (k = j) || decide (dstOf ops k ≠ dstOf ops j))

structure Fit (ops : Array Oper) (n N : Nat) : Prop where
  lt : n < ops.size
  sink : Region.sinkB .any ops n = true
  chain : Region.chainB .any ops n = true
  seq : Region.seqB .any ops (ops.size - n) n (doneArr ops.size n) = true
  each : ∀ k, k < n → ∃ o t, ops[k]? = some o ∧ o.guard = none ∧ o.dst = some t ∧ t < N ∧ ∀ e ∈ o.after, Region.binds .any e = true → e.on < k
  apart : ∀ k j, k < n → j < n → k ≠ j → dstOf ops k ≠ dstOf ops j

theorem fit_of {N : Nat} (h : fitB ops n N = true) : Fit ops n N := by
  simp only [fitB, Bool.and_eq_true, decide_eq_true_eq, List.all_eq_true, List.mem_range] at h
  obtain ⟨⟨⟨⟨⟨h1, h2⟩, h3⟩, h4⟩, h5⟩, h6⟩ := h
  refine ⟨h1, h2, h3, h4, fun k hk => ?_, fun k j hk hj hne => ?_⟩
  · have := h5 k hk
    cases ho : ops[k]? with
    | none => rw [ho] at this; cases this
    | some o =>
      rw [ho] at this
      simp only [Bool.and_eq_true, Option.isNone_iff_eq_none] at this
      obtain ⟨⟨a, b⟩, c⟩ := this
      cases hd : o.dst with
      | none => rw [hd] at b; cases b
      | some t =>
        rw [hd] at b
        simp only [decide_eq_true_eq] at b
        refine ⟨o, t, rfl, a, hd, b, fun e he hb => ?_⟩
        have := Array.all_eq_true_iff_forall_mem.1 c e he
        simpa [hb] using this
  · have := h6 k hk j hj
    simp only [Bool.or_eq_true, decide_eq_true_eq] at this
    rcases this with q | q
    · exact absurd q hne
    · exact q

/-- the state in the midst of it -/
structure Inv (ops : Array Oper) (n : Nat) (a0 : Act) (w0 : World) (Ψ : Nat → Value → World → Prop) (s : Array Bool) (a : Act) (w : World) : Prop where
  head : HeadInv .any ops n s
  defers : a.defers = a0.defers
  size : a.tmps.size = a0.tmps.size
  others : ∀ t, (∀ k, k < n → s.getD k false = true → dstOf ops k ≠ some t) → a.tmps.getD t undef = a0.tmps.getD t undef
  vals : ∀ k, k < n → s.getD k false = true → ∀ t, dstOf ops k = some t → Ψ k (a.tmps.getD t undef) w
  below : Below w0.heap.size w0 w

/-- one operation does what is said of it -/
def Step (P : Program) (ops : Array Oper) (n : Nat) (a0 : Act) (w0 : World) (Q : Exit → Act → World → Prop) (Ψ : Nat → Value → World → Prop) (k : Nat) : Prop :=
  ∀ o, ops[k]? = some o → ∀ (a : Act) (w : World) (K : Act → World → Prop), a.defers = a0.defers →
    (∀ t, (∀ j, j < n → dstOf ops j ≠ some t) → a.tmps.getD t undef = a0.tmps.getD t undef) →
    (∀ j ∈ deps ops k, ∀ t, dstOf ops j = some t → Ψ j (a.tmps.getD t undef) w) → Below w0.heap.size w0 w →
    (∀ v w', Ψ k v w' → Below w.heap.size w w' → K (a.put o.dst v) w') → o.wp P a w K Q

def cnt (n : Nat) (s : Array Bool) : Nat := (List.range n).countP fun k => !s.getD k true
theorem count_one {p q : Nat → Bool} {i : Nat} (hp : p i = true) (hq : q i = false) (h : ∀ k, k ≠ i → q k = p k) : ∀ n, i < n → (List.range n).countP q + 1 = (List.range n).countP p := by
  have same : ∀ n, n ≤ i → (List.range n).countP q = (List.range n).countP p := fun n hn => by
    induction n with
    | zero => rfl
    | succ n ih => rw [List.range_succ, List.countP_append, List.countP_append, ih (by omega)]; simp [List.countP_cons, h n (by omega)]
  intro n
  induction n with
  | zero => intro h; omega
  | succ n ih =>
    intro hi
    rw [List.range_succ, List.countP_append, List.countP_append]
    by_cases e : i = n
    · subst e
      rw [same i (Nat.le_refl _)]
      simp [hp, hq]
    · have := ih (by omega)
      simp only [List.countP_cons, List.countP_nil, h n (by omega)]
      omega

theorem getD_true {s : Array Bool} {k : Nat} (hk : k < s.size) : s.getD k true = s.getD k false := by simp [hk]

def puts (ops : Array Oper) (a0 : Act) (f : Nat → Value) : Nat → Act
  | 0 => a0
  | k + 1 => (puts ops a0 f k).put (dstOf ops k) (f k)
theorem puts_zero (ops : Array Oper) (a0 : Act) (f : Nat → Value) : puts ops a0 f 0 = a0 := rfl
theorem put_get {a : Act} {d t : Tmp} {v : Value} : (a.put (some d) v).tmps.getD t undef = if d = t ∧ t < a.tmps.size then v else a.tmps.getD t undef := by
  simp only [Act.put]
  by_cases h : d = t
  · subst h
    by_cases h2 : d < a.tmps.size
    · simp [h2]
    · simp [h2, Array.setIfInBounds]
  · have hn : ¬ (d = t ∧ t < a.tmps.size) := fun x => h x.1
    rw [if_neg hn]
    simp [Array.getD_eq_getD_getElem?, h]
theorem puts_size (ops : Array Oper) (a0 : Act) (f : Nat → Value) (n : Nat) : (puts ops a0 f n).tmps.size = a0.tmps.size ∧ (puts ops a0 f n).defers = a0.defers := by
  induction n with
  | zero => exact ⟨rfl, rfl⟩
  | succ n ih =>
    simp only [puts, Act.put]
    split
    · simpa using ih
    · exact ih
theorem puts_other {a0 : Act} {f : Nat → Value} {t : Tmp} : ∀ n, (∀ k, k < n → dstOf ops k ≠ some t) → (puts ops a0 f n).tmps.getD t undef = a0.tmps.getD t undef
  | 0, _ => rfl
  | n + 1, h => by
    have ih := puts_other (a0 := a0) (f := f) n (fun k hk => h k (by omega))
    rw [puts]
    have := h n (by omega)
    cases hd : dstOf ops n with
    | none => exact ih
    | some d =>
      rw [put_get, if_neg, ih]
      rintro ⟨rfl, _⟩
      exact this hd
theorem puts_at {a0 : Act} {f : Nat → Value} {t : Tmp} {k : Nat} (hk : dstOf ops k = some t) (ht : t < a0.tmps.size) : ∀ n, k < n → (∀ j, j < n → j ≠ k → dstOf ops j ≠ some t) → (puts ops a0 f n).tmps.getD t undef = f k
  | 0, h, _ => by omega
  | n + 1, h, ho => by
    rw [puts]
    by_cases e : k = n
    · subst e; rw [hk, put_get, if_pos ⟨rfl, by rw [(puts_size ops a0 f k).1]; exact ht⟩]
    · have ih := puts_at (f := f) hk ht n (by omega) (fun j hj hne => ho j (by omega) hne)
      have := ho n (by omega) (fun x => e x.symm)
      cases hd : dstOf ops n with
      | none => exact ih
      | some d =>
        rw [put_get, if_neg, ih]
        rintro ⟨rfl, _⟩
        exact this hd

theorem act_ext {a b : Act} (h1 : a.defers = b.defers) (h2 : a.tmps.size = b.tmps.size) (h3 : ∀ t, a.tmps.getD t undef = b.tmps.getD t undef) : a = b := by
  obtain ⟨ta, da⟩ := a
  obtain ⟨tb, db⟩ := b
  simp only at h1 h2 h3
  subst h1
  congr 1
  refine Array.ext h2 fun i hi hi' => ?_
  have := h3 i
  simpa [hi, hi'] using this

theorem rel_any {a0 : Act} {w0 : World} {Q : Exit → Act → World → Prop} {Ψ : Nat → Value → World → Prop} {N : Nat} (F : Fit ops n N) (hN : a0.tmps.size = N)
    (mono : ∀ k v w w', Ψ k v w → Below w.heap.size w w' → Ψ k v w') (step : ∀ k, k < n → Step P ops n a0 w0 Q Ψ k)
    (tail : ∀ f w, (∀ k, k < n → Ψ k (f k) w) → Below w0.heap.size w0 w → wpAny P .any ops Q (ops.size - n) (doneArr ops.size n) (puts ops a0 f n) w) :
    ∀ (c : Nat) (s : Array Bool) (a : Act) (w : World), Inv ops n a0 w0 Ψ s a w → cnt n s = c → wpAny P .any ops Q (c + (ops.size - n)) s a w := by
  intro c
  induction c with
  | zero =>
    intro s a w I hc
    rw [Nat.zero_add]
    have all : ∀ k, k < n → s.getD k true = true := fun k hk => by
      simp only [cnt, List.countP_eq_zero, List.mem_range] at hc
      simpa using hc k hk
    have allf : ∀ k, k < n → s.getD k false = true := fun k hk => by rw [← getD_true (by rw [I.head.size]; have := F.lt; omega)]; exact all k hk
    have hs : s = doneArr ops.size n := by
      have hz : (doneArr ops.size n).size = ops.size := by simp [doneArr]; have := F.lt; omega
      refine Array.ext (I.head.size.trans hz.symm) fun i hi hi' => ?_
      by_cases h : i < n
      · have := all i h
        simp only [Array.getD_eq_getD_getElem?, Array.getElem?_eq_getElem hi, Option.getD_some] at this
        rw [this]
        simp [doneArr, h]
      · have := I.head.tail i (by omega) (by rw [← I.head.size]; exact hi)
        simp only [Array.getD_eq_getD_getElem?, Array.getElem?_eq_getElem hi, Option.getD_some] at this
        rw [this]
        simp [doneArr, Array.getElem_append, h]
    have ha : a = puts ops a0 (fun k => a.tmps.getD ((dstOf ops k).getD 0) undef) n := by
      refine act_ext (I.defers.trans (puts_size ops a0 _ n).2.symm) (I.size.trans (puts_size ops a0 _ n).1.symm) fun t => ?_
      by_cases h : ∃ k, k < n ∧ dstOf ops k = some t
      · obtain ⟨k, hk, hd⟩ := h
        obtain ⟨o, t', ho, _, ho2, ht, _⟩ := F.each k hk
        have : t' = t := by
          have : dstOf ops k = some t' := by simp [dstOf, ho, ho2]
          rw [hd] at this
          exact (Option.some.inj this).symm
        subst this
        rw [puts_at hd (by rw [hN]; exact ht) n hk (fun j hj hne e => F.apart j k hj hk hne (e.trans hd.symm)), hd]
        rfl
      · rw [puts_other n (fun k hk e => h ⟨k, hk, e⟩)]
        exact I.others t (fun k hk _ e => h ⟨k, hk, e⟩)
    rw [hs, ha]
    refine tail _ _ (fun k hk => ?_) I.below
    obtain ⟨o, t, ho, _, hd, _, _⟩ := F.each k hk
    have hd' : dstOf ops k = some t := by simp [dstOf, ho, hd]
    rw [hd']
    exact I.vals k hk (allf k hk) t hd'
  | succ c ih =>
    intro s a w I hc
    have some_ : ∃ i, i < n ∧ s.getD i true = false := by
      have : 0 < (List.range n).countP fun k => !s.getD k true := by unfold cnt at hc; omega
      obtain ⟨i, hi, hs⟩ := List.countP_pos_iff.1 this
      exact ⟨i, by simpa using hi, by simpa using hs⟩
    rw [show c + 1 + (ops.size - n) = (c + (ops.size - n)) + 1 by omega]
    have bound : ∀ j ∈ Region.ready .any ops s, j < n := fun j hj => by
      obtain ⟨i, hi, hs⟩ := some_
      rcases Nat.lt_or_ge j n with h | h
      · exact h
      · exact absurd hj (tail_waits F.sink F.chain F.lt I.head _ i rfl hi hs j h)
    refine ⟨fun he => ?_, fun i hi => ?_⟩
    · exfalso
      have key : ∀ m, m < n → s.getD m true = false → False := fun m => by
        induction m using Nat.strongRecOn with
        | _ m ih =>
          intro hm hs
          obtain ⟨o, t, ho, _, _, _, hb⟩ := F.each m hm
          have : m ∈ Region.ready .any ops s := mem_ready.2 ⟨hs, o, ho, fun e he hbe => by
            have hlt := hb e he hbe
            cases hx : s.getD e.on false with
            | true => rfl
            | false => exact absurd (getD_in (by rw [I.head.size]; have := F.lt; omega) hx) (fun q => ih e.on hlt (by omega) q)⟩
          rw [he] at this
          cases this
      obtain ⟨i, hi, hs⟩ := some_
      exact key i hi hs
    · have hin := bound i hi
      obtain ⟨hun, o', ho', hall⟩ := mem_ready.1 hi
      obtain ⟨o, t, ho, hg, hd, ht, hb⟩ := F.each i hin
      obtain rfl : o = o' := by rw [ho] at ho'; exact Option.some.inj ho'
      have hd' : dstOf ops i = some t := by simp [dstOf, ho, hd]
      have hlt := F.lt
      have hdep : ∀ j ∈ deps ops i, j < i ∧ s.getD j false = true := fun j hj => by
        simp only [deps, ho, Option.map_some, Option.getD_some, List.mem_map, List.mem_filter] at hj
        obtain ⟨e, ⟨he, hbe⟩, rfl⟩ := hj
        have he' : e ∈ o.after := by simpa using he
        exact ⟨hb e he' hbe, hall e he' hbe⟩
      unfold wpOp
      simp only [ho]
      rw [if_pos (by simp [Region.wanted, hg])]
      refine .inl (step i hin o ho a w _ I.defers (fun t ht => I.others t (fun k hk _ => ht k hk)) (fun j hj t ht => I.vals j (by have := (hdep j hj).1; omega) (hdep j hj).2 t ht) I.below ?_)
      intro v w' hv hw
      rw [hd]
      have hset : ∀ k d, k ≠ i → (s.setIfInBounds i true).getD k d = s.getD k d := fun k d hk => by
        simp [Array.getD_eq_getD_getElem?, Ne.symm hk]
      have hseti : ∀ d, (s.setIfInBounds i true).getD i d = true := fun d => by
        simp [Array.getD_eq_getD_getElem?, show i < s.size by rw [I.head.size]; omega]
      refine ih _ _ _ ⟨I.head.set hi hin, I.defers, by simpa [Act.put] using I.size, fun u hu => ?_, fun k hk hk2 u hu => ?_, Below.next I.below hw⟩ ?_
      · have hne : t ≠ u := fun e => hu i hin (hseti _) (by rw [hd', e])
        rw [put_get, if_neg (fun x => hne x.1)]
        exact I.others u (fun k hk hs => by
          by_cases e : k = i
          · subst e; exact hu k hk (hseti _)
          · exact hu k hk (by rw [hset k _ e]; exact hs))
      · by_cases e : k = i
        · subst e
          obtain rfl : t = u := Option.some.inj (hd'.symm.trans hu)
          rw [put_get, if_pos ⟨rfl, by rw [I.size, hN]; exact ht⟩]
          exact hv
        · have hne : t ≠ u := fun q => F.apart k i hk hin e (by rw [hu, hd', q])
          rw [put_get, if_neg (fun x => hne x.1)]
          exact mono _ _ _ _ (I.vals k hk (by rw [hset k _ e] at hk2; exact hk2) u hu) hw
      · have := count_one (p := fun k => !s.getD k true) (q := fun k => !(s.setIfInBounds i true).getD k true) (i := i) (by simp [hun]) (by simp [hseti]) (fun k hk => by simp [hset k _ hk]) n hin
        unfold cnt at hc ⊢
        omega
theorem puts_eval {a : Act} {N : Nat} (F : Fit ops n N) (hN : a.tmps.size = N) {k : Nat} (hk : k < n) {t : Tmp} (ht : dstOf ops k = some t) (f : Nat → Value) : (puts ops a f n).eval (.tmp t) = f k := by
  obtain ⟨o, t', ho, _, hd, hlt, _⟩ := F.each k hk
  have h : dstOf ops k = some t' := by simp [dstOf, ho, hd]
  rw [ht] at h
  obtain rfl := Option.some.inj h
  exact puts_at ht (by rw [hN]; exact hlt) n hk (fun j hj hne e => F.apart j k hj hk hne (e.trans ht.symm))
end
end Rel

/-- a statement that draws its order and makes memory -/
theorem wp_region_rel {id : Nat} {Q : Exit → Act → World → Prop} {a : Act} {w : World} {l : List Oper} (n N : Nat) (Ψ : Nat → Value → World → Prop) (hm : Try.prog.follows .mixedOrders = true) (hN : a.tmps.size = N) (hB : Rel.fitB l.toArray n N = true)
    (mono : ∀ k v w w', Ψ k v w → Below w.heap.size w w' → Ψ k v w') (step : ∀ k, k < n → Rel.Step Try.prog l.toArray n a w Q Ψ k)
    (tail : ∀ f w', (∀ k, k < n → Ψ k (f k) w') → Below w.heap.size w w' → (∀ k, k < n → ∀ t, Rel.dstOf l.toArray k = some t → (Rel.puts l.toArray a f n).eval (.tmp t) = f k) → wpList Try.prog l.toArray Q (l.drop n) (Rel.puts l.toArray a f n) w') :
    (Code.region id l.toArray true).wp Try.prog Q a w := by
  have F := Rel.fit_of hB
  refine wp_region_any hm ?_
  have hlt : n < l.length := by simpa using F.lt
  have key := Rel.rel_any (P := Try.prog) (Q := Q) (a0 := a) (w0 := w) F hN mono step (fun f w' hv hb => by
    have := wpAny_of_seq (P := Try.prog) (md := .any) (Q' := Q) (l.drop n) n (Rel.doneArr l.toArray.size n) (Rel.puts l.toArray a f n) w' (fun j => by simp [List.getElem?_drop]) (by
      rw [show (l.drop n).length = l.toArray.size - n by simp]; exact F.seq) (tail f w' hv hb (fun k hk t ht => Rel.puts_eval F hN hk ht f))
    rwa [show (l.drop n).length = l.toArray.size - n by simp] at this)
  have h0 : ∀ k d, (Array.replicate l.toArray.size false).getD k d = if k < l.length then false else d := fun k d => by
    simp only [Array.getD_eq_getD_getElem?, Array.getElem?_replicate, List.size_toArray]
    split <;> rfl
  have hc : Rel.cnt n (Array.replicate l.toArray.size false) = n := by
    unfold Rel.cnt
    rw [List.countP_eq_length.2]
    · simp
    · intro k hk
      rw [h0, if_pos (by have := List.mem_range.1 hk; omega)]
      rfl
  have := key n (Array.replicate l.toArray.size false) a (World.drew w) ⟨⟨by simp, fun j q _ hl => (by rw [getD_replicate_false] at hl; cases hl), fun t _ h => getD_in (by simpa using h) (getD_replicate_false _ _)⟩, rfl, rfl, fun t _ => rfl,
    (fun k hk hs => (by rw [h0] at hs; exfalso; split at hs; exact Bool.noConfusion hs; exact Bool.noConfusion hs)), (Below.refl _ _).drew⟩ hc
  rwa [show n + (l.toArray.size - n) = l.toArray.size by have := F.lt; omega] at this
end Go.Proofs.Ytnheehodgkagfaa
