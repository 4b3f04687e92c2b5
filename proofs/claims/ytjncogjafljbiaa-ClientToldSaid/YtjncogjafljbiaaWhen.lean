/-
  wp_region_goes for a statement with guards ('&&', '||'), all of whose operations are wanted: what an operation's guard asks is what the operation that it names yields.
-/
import Derived.Test.YtjncogjafljbiaaDrawn
namespace Go.Proofs.Ytjncogjafljbiaa
open Go.RowKit Rel
set_option linter.unusedVariables false

namespace RelW
section
variable {P : Program} {ops : Array Oper} {md : Region.Mode} {n : Nat} {R : World → World → Prop}

def guardOf (ops : Array Oper) (k : Nat) : Option (Nat × Bool) := (ops[k]?).bind (·.guard)
/-- what a program reckons of such a statement: a guard is one of those that came ahead -/
def fitB (ops : Array Oper) (n N : Nat) : Bool :=
  decide (n < ops.size) && Region.sinkB .any ops n && Region.chainB .any ops n && Region.seqB .any ops (ops.size - n) n (doneArr ops.size n) &&
    (List.range n).all (fun k => match ops[k]? with | none => false | some o => (match o.guard with | none => true | some (j, _) => (deps ops k).contains j && decide (j < n) && (match dstOf ops j with | none => false | some t => decide (t < N))) && (match o.dst with | none => false | some t => decide (t < N)) && (o.after.all fun e => !Region.binds .any e || decide (e.on < k))) &&
    (List.range n).all (fun k => (List.range n).all fun j => decide (k = j) || decide (dstOf ops k ≠ dstOf ops j))

structure Fit (ops : Array Oper) (n N : Nat) : Prop where
  lt : n < ops.size
  sink : Region.sinkB .any ops n = true
  chain : Region.chainB .any ops n = true
  seq : Region.seqB .any ops (ops.size - n) n (doneArr ops.size n) = true
  each : ∀ k, k < n → ∃ o t, ops[k]? = some o ∧ (∀ j b, o.guard = some (j, b) → j ∈ deps ops k ∧ j < n ∧ ∃ u, dstOf ops j = some u ∧ u < N) ∧ o.dst = some t ∧ t < N ∧ ∀ e ∈ o.after, Region.binds .any e = true → e.on < k
  apart : ∀ k j, k < n → j < n → k ≠ j → dstOf ops k ≠ dstOf ops j

theorem fit_of {N : Nat} (h : fitB ops n N = true) : Fit ops n N := by
  simp only [fitB, Bool.and_eq_true, decide_eq_true_eq, List.all_eq_true, List.mem_range] at h
  obtain ⟨⟨⟨⟨⟨h1, h2⟩, h3⟩, h4⟩, h5⟩, h6⟩ := h
  refine ⟨h1, h2, h3, h4, fun k hk => ?_, fun k j hk hj hne => ?_⟩
  · have := h5 k hk
    cases ho : ops[k]? with
    | none => rw [ho] at this; cases this
    | some o =>
      rw [ho] at this
      simp only [Bool.and_eq_true] at this
      obtain ⟨⟨a, b⟩, c⟩ := this
      cases hd : o.dst with
      | none => rw [hd] at b; cases b
      | some t =>
        rw [hd] at b
        simp only [decide_eq_true_eq] at b
        refine ⟨o, t, rfl, fun j b hg => ?_, hd, b, fun e he hb => ?_⟩
        · rw [hg] at a
          simp only [Bool.and_eq_true, decide_eq_true_eq, List.contains_iff_mem] at a
          obtain ⟨⟨a1, a2⟩, a3⟩ := a
          refine ⟨a1, a2, ?_⟩
          cases hj : dstOf ops j with
          | none => rw [hj] at a3; cases a3
          | some u => rw [hj] at a3; exact ⟨u, rfl, by simpa using a3⟩
        · have := Array.all_eq_true_iff_forall_mem.1 c e he
          simpa [hb] using this
  · have := h6 k hk j hj
    simp only [Bool.or_eq_true, decide_eq_true_eq] at this
    rcases this with q | q
    · exact absurd q hne
    · exact q
theorem wanted_of {o : Oper} {a : Act} {N : Nat} (hN : a.tmps.size = N) (h : ∀ j b, o.guard = some (j, b) → ∃ u, dstOf ops j = some u ∧ u < N ∧ a.tmps.getD u undef = .bool b) : Region.wanted o (yielded ops a.tmps) = true := by
  unfold Region.wanted
  cases hg : o.guard with
  | none => rfl
  | some jb =>
    obtain ⟨j, b⟩ := jb
    obtain ⟨u, h1, h2, h3⟩ := h j b hg
    have hu : u < a.tmps.size := by rw [hN]; exact h2
    have h4 : a.tmps[u]? = some (.bool b) := by
      rw [Array.getD_eq_getD_getElem?, Array.getElem?_eq_getElem hu] at h3
      rw [Array.getElem?_eq_getElem hu, ← h3]
      rfl
    have h5 : yielded ops a.tmps j = some b := by
      unfold yielded
      have : (ops[j]?).bind (·.dst) = some u := h1
      rw [this, Option.bind_some, h4]
    simp [h5]

/-- the state in the midst of it -/
structure Inv (R : World → World → Prop) (ops : Array Oper) (n : Nat) (a0 : Act) (w0 : World) (Ψ : Nat → Value → World → Prop) (s : Array Bool) (a : Act) (w : World) : Prop where
  head : HeadInv .any ops n s
  defers : a.defers = a0.defers
  size : a.tmps.size = a0.tmps.size
  others : ∀ t, (∀ k, k < n → s.getD k false = true → dstOf ops k ≠ some t) → a.tmps.getD t undef = a0.tmps.getD t undef
  vals : ∀ k, k < n → s.getD k false = true → ∀ t, dstOf ops k = some t → Ψ k (a.tmps.getD t undef) w
  below : R w0 w

/-- one operation does what is said of it -/
def Step (R : World → World → Prop) (P : Program) (ops : Array Oper) (n : Nat) (a0 : Act) (w0 : World) (Q : Exit → Act → World → Prop) (Ψ : Nat → Value → World → Prop) (k : Nat) : Prop :=
  ∀ o, ops[k]? = some o → ∀ (a : Act) (w : World) (K : Act → World → Prop), a.defers = a0.defers →
    (∀ t, (∀ j, j < n → dstOf ops j ≠ some t) → a.tmps.getD t undef = a0.tmps.getD t undef) →
    (∀ j ∈ deps ops k, ∀ t, dstOf ops j = some t → Ψ j (a.tmps.getD t undef) w) → R w0 w →
    (∀ v w', Ψ k v w' → R w w' → K (a.put o.dst v) w') → o.wp P a w K Q

theorem rel_any (HR : Goes R) {a0 : Act} {w0 : World} {Q : Exit → Act → World → Prop} {Ψ : Nat → Value → World → Prop} {N : Nat} (F : Fit ops n N) (hN : a0.tmps.size = N)
    (mono : ∀ k v w w', Ψ k v w → R w w' → Ψ k v w') (grd : ∀ k j b, k < n → guardOf ops k = some (j, b) → ∀ v w, Ψ j v w → v = .bool b) (step : ∀ k, k < n → Step R P ops n a0 w0 Q Ψ k)
    (tail : ∀ f w, (∀ k, k < n → Ψ k (f k) w) → R w0 w → wpAny P .any ops Q (ops.size - n) (doneArr ops.size n) (puts ops a0 f n) w) :
    ∀ (c : Nat) (s : Array Bool) (a : Act) (w : World), Inv R ops n a0 w0 Ψ s a w → cnt n s = c → wpAny P .any ops Q (c + (ops.size - n)) s a w := by
  intro c
  induction c with
  | zero =>
    intro s a w I hc
    rw [Nat.zero_add]
    have all : ∀ k, k < n → s.getD k true = true := fun k hk => by
      simp only [cnt, List.countP_eq_zero, List.mem_range] at hc
      simpa using hc k hk
    have allf : ∀ k, k < n → s.getD k false = true := fun k hk => by rw [← getD_true (by rw [I.head.size]; have := F.lt; omega)]; exact all k hk
    have hs : s = doneArr ops.size n := by
      have hz : (doneArr ops.size n).size = ops.size := by simp [doneArr]; have := F.lt; omega
      refine Array.ext (I.head.size.trans hz.symm) fun i hi hi' => ?_
      by_cases h : i < n
      · have := all i h
        simp only [Array.getD_eq_getD_getElem?, Array.getElem?_eq_getElem hi, Option.getD_some] at this
        rw [this]
        simp [doneArr, h]
      · have := I.head.tail i (by omega) (by rw [← I.head.size]; exact hi)
        simp only [Array.getD_eq_getD_getElem?, Array.getElem?_eq_getElem hi, Option.getD_some] at this
        rw [this]
        simp [doneArr, Array.getElem_append, h]
    have ha : a = puts ops a0 (fun k => a.tmps.getD ((dstOf ops k).getD 0) undef) n := by
      refine act_ext (I.defers.trans (puts_size ops a0 _ n).2.symm) (I.size.trans (puts_size ops a0 _ n).1.symm) fun t => ?_
      by_cases h : ∃ k, k < n ∧ dstOf ops k = some t
      · obtain ⟨k, hk, hd⟩ := h
        obtain ⟨o, t', ho, _, ho2, ht, _⟩ := F.each k hk
        have : t' = t := by
          have : dstOf ops k = some t' := by simp [dstOf, ho, ho2]
          rw [hd] at this
          exact (Option.some.inj this).symm
        subst this
        rw [puts_at hd (by rw [hN]; exact ht) n hk (fun j hj hne e => F.apart j k hj hk hne (e.trans hd.symm)), hd]
        rfl
      · rw [puts_other n (fun k hk e => h ⟨k, hk, e⟩)]
        exact I.others t (fun k hk _ e => h ⟨k, hk, e⟩)
    rw [hs, ha]
    refine tail _ _ (fun k hk => ?_) I.below
    obtain ⟨o, t, ho, _, hd, _, _⟩ := F.each k hk
    have hd' : dstOf ops k = some t := by simp [dstOf, ho, hd]
    rw [hd']
    exact I.vals k hk (allf k hk) t hd'
  | succ c ih =>
    intro s a w I hc
    have some_ : ∃ i, i < n ∧ s.getD i true = false := by
      have : 0 < (List.range n).countP fun k => !s.getD k true := by unfold cnt at hc; omega
      obtain ⟨i, hi, hs⟩ := List.countP_pos_iff.1 this
      exact ⟨i, by simpa using hi, by simpa using hs⟩
    rw [show c + 1 + (ops.size - n) = (c + (ops.size - n)) + 1 by omega]
    have bound : ∀ j ∈ Region.ready .any ops s, j < n := fun j hj => by
      obtain ⟨i, hi, hs⟩ := some_
      rcases Nat.lt_or_ge j n with h | h
      · exact h
      · exact absurd hj (tail_waits F.sink F.chain F.lt I.head _ i rfl hi hs j h)
    refine ⟨fun he => ?_, fun i hi => ?_⟩
    · exfalso
      have key : ∀ m, m < n → s.getD m true = false → False := fun m => by
        induction m using Nat.strongRecOn with
        | _ m ih =>
          intro hm hs
          obtain ⟨o, t, ho, _, _, _, hb⟩ := F.each m hm
          have : m ∈ Region.ready .any ops s := mem_ready.2 ⟨hs, o, ho, fun e he hbe => by
            have hlt := hb e he hbe
            cases hx : s.getD e.on false with
            | true => rfl
            | false => exact absurd (getD_in (by rw [I.head.size]; have := F.lt; omega) hx) (fun q => ih e.on hlt (by omega) q)⟩
          rw [he] at this
          cases this
      obtain ⟨i, hi, hs⟩ := some_
      exact key i hi hs
    · have hin := bound i hi
      obtain ⟨hun, o', ho', hall⟩ := mem_ready.1 hi
      obtain ⟨o, t, ho, hg, hd, ht, hb⟩ := F.each i hin
      obtain rfl : o = o' := by rw [ho] at ho'; exact Option.some.inj ho'
      have hd' : dstOf ops i = some t := by simp [dstOf, ho, hd]
      have hlt := F.lt
      have hdep : ∀ j ∈ deps ops i, j < i ∧ s.getD j false = true := fun j hj => by
        simp only [deps, ho, Option.map_some, Option.getD_some, List.mem_map, List.mem_filter] at hj
        obtain ⟨e, ⟨he, hbe⟩, rfl⟩ := hj
        have he' : e ∈ o.after := by simpa using he
        exact ⟨hb e he' hbe, hall e he' hbe⟩
      unfold wpOp
      simp only [ho]
      rw [if_pos (wanted_of (N := N) (I.size.trans hN) fun j b hgb => (by
        obtain ⟨q1, q2, u, q3, q4⟩ := hg j b hgb
        exact ⟨u, q3, q4, grd i j b hin (by simp [guardOf, ho, hgb]) _ _ (I.vals j q2 (hdep j q1).2 u q3)⟩))]
      refine .inl (step i hin o ho a w _ I.defers (fun t ht => I.others t (fun k hk _ => ht k hk)) (fun j hj t ht => I.vals j (by have := (hdep j hj).1; omega) (hdep j hj).2 t ht) I.below ?_)
      intro v w' hv hw
      rw [hd]
      have hset : ∀ k d, k ≠ i → (s.setIfInBounds i true).getD k d = s.getD k d := fun k d hk => by
        simp [Array.getD_eq_getD_getElem?, Ne.symm hk]
      have hseti : ∀ d, (s.setIfInBounds i true).getD i d = true := fun d => by
        simp [Array.getD_eq_getD_getElem?, show i < s.size by rw [I.head.size]; omega]
      refine ih _ _ _ ⟨I.head.set hi hin, I.defers, by simpa [Act.put] using I.size, fun u hu => ?_, fun k hk hk2 u hu => ?_, HR.trans I.below hw⟩ ?_
      · have hne : t ≠ u := fun e => hu i hin (hseti _) (by rw [hd', e])
        rw [put_get, if_neg (fun x => hne x.1)]
        exact I.others u (fun k hk hs => by
          by_cases e : k = i
          · subst e; exact hu k hk (hseti _)
          · exact hu k hk (by rw [hset k _ e]; exact hs))
      · by_cases e : k = i
        · subst e
          obtain rfl : t = u := Option.some.inj (hd'.symm.trans hu)
          rw [put_get, if_pos ⟨rfl, by rw [I.size, hN]; exact ht⟩]
          exact hv
        · have hne : t ≠ u := fun q => F.apart k i hk hin e (by rw [hu, hd', q])
          rw [put_get, if_neg (fun x => hne x.1)]
          exact mono _ _ _ _ (I.vals k hk (by rw [hset k _ e] at hk2; exact hk2) u hu) hw
      · have := count_one (p := fun k => !s.getD k true) (q := fun k => !(s.setIfInBounds i true).getD k true) (i := i) (by simp [hun]) (by simp [hseti]) (fun k hk => by simp [hset k _ hk]) n hin
        unfold cnt at hc ⊢
        omega
theorem puts_eval {a : Act} {N : Nat} (F : Fit ops n N) (hN : a.tmps.size = N) {k : Nat} (hk : k < n) {t : Tmp} (ht : dstOf ops k = some t) (f : Nat → Value) : (puts ops a f n).eval (.tmp t) = f k := by
  obtain ⟨o, t', ho, _, hd, hlt, _⟩ := F.each k hk
  have h : dstOf ops k = some t' := by simp [dstOf, ho, hd]
  rw [ht] at h
  obtain rfl := Option.some.inj h
  exact puts_at ht (by rw [hN]; exact hlt) n hk (fun j hj hne e => F.apart j k hj hk hne (e.trans ht.symm))
end
end RelW

/-- a statement that draws its order, makes memory, and has guards: each guard is true to what its operation yields -/
theorem wp_region_when {R : World → World → Prop} (HR : Goes R) {id : Nat} {Q : Exit → Act → World → Prop} {a : Act} {w : World} {l : List Oper} (n N : Nat) (Ψ : Nat → Value → World → Prop) (hm : Try.prog.follows .mixedOrders = true) (hN : a.tmps.size = N) (hB : RelW.fitB l.toArray n N = true)
    (mono : ∀ k v w w', Ψ k v w → R w w' → Ψ k v w') (grd : ∀ k j b, k < n → RelW.guardOf l.toArray k = some (j, b) → ∀ v w, Ψ j v w → v = .bool b) (step : ∀ k, k < n → RelW.Step R Try.prog l.toArray n a w Q Ψ k)
    (tail : ∀ f w', (∀ k, k < n → Ψ k (f k) w') → R w w' → (∀ k, k < n → ∀ t, Rel.dstOf l.toArray k = some t → (Rel.puts l.toArray a f n).eval (.tmp t) = f k) → wpList Try.prog l.toArray Q (l.drop n) (Rel.puts l.toArray a f n) w') :
    (Code.region id l.toArray true).wp Try.prog Q a w := by
  have F := RelW.fit_of hB
  refine wp_region_any hm ?_
  have hlt : n < l.length := by simpa using F.lt
  have key := RelW.rel_any HR (P := Try.prog) (Q := Q) (a0 := a) (w0 := w) F hN mono grd step (fun f w' hv hb => by
    have := wpAny_of_seq (P := Try.prog) (md := .any) (Q' := Q) (l.drop n) n (Rel.doneArr l.toArray.size n) (Rel.puts l.toArray a f n) w' (fun j => by simp [List.getElem?_drop]) (by
      rw [show (l.drop n).length = l.toArray.size - n by simp]; exact F.seq) (tail f w' hv hb (fun k hk t ht => RelW.puts_eval F hN hk ht f))
    rwa [show (l.drop n).length = l.toArray.size - n by simp] at this)
  have h0 : ∀ k d, (Array.replicate l.toArray.size false).getD k d = if k < l.length then false else d := fun k d => by
    simp only [Array.getD_eq_getD_getElem?, Array.getElem?_replicate, List.size_toArray]
    split <;> rfl
  have hc : Rel.cnt n (Array.replicate l.toArray.size false) = n := by
    unfold Rel.cnt
    rw [List.countP_eq_length.2]
    · simp
    · intro k hk
      rw [h0, if_pos (by have := List.mem_range.1 hk; omega)]
      rfl
  have := key n (Array.replicate l.toArray.size false) a (World.drew w) ⟨⟨by simp, fun j q _ hl => (by rw [getD_replicate_false] at hl; cases hl), fun t _ h => getD_in (by simpa using h) (getD_replicate_false _ _)⟩, rfl, rfl, fun t _ => rfl,
    (fun k hk hs => (by rw [h0] at hs; exfalso; split at hs; exact Bool.noConfusion hs; exact Bool.noConfusion hs)), HR.drew w⟩ hc
  rwa [show n + (l.toArray.size - n) = l.toArray.size by have := F.lt; omega] at this
/-- all guards ask the same of one of these -/
def RelW.guardsB (ops : Array Oper) (n : Nat) (js : List Nat) (b : Bool) : Bool := (List.range n).all fun k => match RelW.guardOf ops k with
  | none => true
  | some (j, b') => js.contains j && (b' == b)
theorem RelW.guards_of {ops : Array Oper} {n : Nat} {js : List Nat} {b : Bool} (h : RelW.guardsB ops n js b = true) {k j : Nat} {b' : Bool} (hk : k < n) (hg : RelW.guardOf ops k = some (j, b')) : j ∈ js ∧ b' = b := by
  have := List.all_eq_true.1 h k (List.mem_range.2 hk)
  rw [hg] at this
  simpa using this
end Go.Proofs.Ytjncogjafljbiaa
