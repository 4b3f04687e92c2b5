/-
  wp_region_goes where each operation of the head goes on in a way of its own: what one yields must stay under the others' ways alone.
-/
import Derived.Test.YtnheehodgkagfaaRelG
namespace Go.Proofs.Ytnheehodgkagfaa
open Go.RowKit Rel
set_option linter.unusedVariables false

namespace RelS
section
variable {P : Program} {ops : Array Oper} {md : Region.Mode} {n : Nat} {R : World → World → Prop}

/-- the state in the midst of it -/
structure Inv (R : World → World → Prop) (T : Nat → World → World → Prop) (ops : Array Oper) (n : Nat) (a0 : Act) (w0 : World) (Ψ : Nat → Value → World → Prop) (s : Array Bool) (a : Act) (w : World) : Prop where
  head : HeadInv .any ops n s
  defers : a.defers = a0.defers
  size : a.tmps.size = a0.tmps.size
  others : ∀ t, (∀ k, k < n → s.getD k false = true → dstOf ops k ≠ some t) → a.tmps.getD t undef = a0.tmps.getD t undef
  vals : ∀ k, k < n → s.getD k false = true → ∀ t, dstOf ops k = some t → Ψ k (a.tmps.getD t undef) w
  below : R w0 w
  mine : ∀ k, k < n → s.getD k true = false → T k w0 w

/-- one operation does what is said of it -/
def Step (T : Nat → World → World → Prop) (S : Nat → World → World → Prop) (P : Program) (ops : Array Oper) (n : Nat) (a0 : Act) (w0 : World) (Q : Exit → Act → World → Prop) (Ψ : Nat → Value → World → Prop) (k : Nat) : Prop :=
  ∀ o, ops[k]? = some o → ∀ (a : Act) (w : World) (K : Act → World → Prop), a.defers = a0.defers →
    (∀ t, (∀ j, j < n → dstOf ops j ≠ some t) → a.tmps.getD t undef = a0.tmps.getD t undef) →
    (∀ j ∈ deps ops k, ∀ t, dstOf ops j = some t → Ψ j (a.tmps.getD t undef) w) → T k w0 w →
    (∀ v w', Ψ k v w' → S k w w' → K (a.put o.dst v) w') → o.wp P a w K Q

theorem rel_any (HR : Goes R) {S T : Nat → World → World → Prop} (HT : ∀ k, Goes (T k)) (sub : ∀ j w w', S j w w' → R w w') (subT : ∀ k j w w', j ≠ k → S j w w' → T k w w') {a0 : Act} {w0 : World} {Q : Exit → Act → World → Prop} {Ψ : Nat → Value → World → Prop} {N : Nat} (F : Fit ops n N) (hN : a0.tmps.size = N)
    (mono : ∀ k j v w w', j ≠ k → j ∉ deps ops k → Ψ k v w → S j w w' → Ψ k v w') (step : ∀ k, k < n → Step T S P ops n a0 w0 Q Ψ k)
    (tail : ∀ f w, (∀ k, k < n → Ψ k (f k) w) → R w0 w → wpAny P .any ops Q (ops.size - n) (doneArr ops.size n) (puts ops a0 f n) w) :
    ∀ (c : Nat) (s : Array Bool) (a : Act) (w : World), Inv R T ops n a0 w0 Ψ s a w → cnt n s = c → wpAny P .any ops Q (c + (ops.size - n)) s a w := by
  intro c
  induction c with
  | zero =>
    intro s a w I hc
    rw [Nat.zero_add]
    have all : ∀ k, k < n → s.getD k true = true := fun k hk => by
      simp only [cnt, List.countP_eq_zero, List.mem_range] at hc
      simpa using hc k hk
    have allf : ∀ k, k < n → s.getD k false = true := fun k hk => by rw [← getD_true (by rw [I.head.size]; have := F.lt; omega)]; exact all k hk
    have hs : s = doneArr ops.size n := by
      have hz : (doneArr ops.size n).size = ops.size := by simp [doneArr]; have := F.lt; omega
      refine Array.ext (I.head.size.trans hz.symm) fun i hi hi' => ?_
      by_cases h : i < n
      · have := all i h
        simp only [Array.getD_eq_getD_getElem?, Array.getElem?_eq_getElem hi, Option.getD_some] at this
        rw [this]
        simp [doneArr, h]
      · have := I.head.tail i (by omega) (by rw [← I.head.size]; exact hi)
        simp only [Array.getD_eq_getD_getElem?, Array.getElem?_eq_getElem hi, Option.getD_some] at this
        rw [this]
        simp [doneArr, Array.getElem_append, h]
    have ha : a = puts ops a0 (fun k => a.tmps.getD ((dstOf ops k).getD 0) undef) n := by
      refine act_ext (I.defers.trans (puts_size ops a0 _ n).2.symm) (I.size.trans (puts_size ops a0 _ n).1.symm) fun t => ?_
      by_cases h : ∃ k, k < n ∧ dstOf ops k = some t
      · obtain ⟨k, hk, hd⟩ := h
        obtain ⟨o, t', ho, _, ho2, ht, _⟩ := F.each k hk
        have : t' = t := by
          have : dstOf ops k = some t' := by simp [dstOf, ho, ho2]
          rw [hd] at this
          exact (Option.some.inj this).symm
        subst this
        rw [puts_at hd (by rw [hN]; exact ht) n hk (fun j hj hne e => F.apart j k hj hk hne (e.trans hd.symm)), hd]
        rfl
      · rw [puts_other n (fun k hk e => h ⟨k, hk, e⟩)]
        exact I.others t (fun k hk _ e => h ⟨k, hk, e⟩)
    rw [hs, ha]
    refine tail _ _ (fun k hk => ?_) I.below
    obtain ⟨o, t, ho, _, hd, _, _⟩ := F.each k hk
    have hd' : dstOf ops k = some t := by simp [dstOf, ho, hd]
    rw [hd']
    exact I.vals k hk (allf k hk) t hd'
  | succ c ih =>
    intro s a w I hc
    have some_ : ∃ i, i < n ∧ s.getD i true = false := by
      have : 0 < (List.range n).countP fun k => !s.getD k true := by unfold cnt at hc; omega
      obtain ⟨i, hi, hs⟩ := List.countP_pos_iff.1 this
      exact ⟨i, by simpa using hi, by simpa using hs⟩
    rw [show c + 1 + (ops.size - n) = (c + (ops.size - n)) + 1 by omega]
    have bound : ∀ j ∈ Region.ready .any ops s, j < n := fun j hj => by
      obtain ⟨i, hi, hs⟩ := some_
      rcases Nat.lt_or_ge j n with h | h
      · exact h
      · exact absurd hj (tail_waits F.sink F.chain F.lt I.head _ i rfl hi hs j h)
    refine ⟨fun he => ?_, fun i hi => ?_⟩
    · exfalso
      have key : ∀ m, m < n → s.getD m true = false → False := fun m => by
        induction m using Nat.strongRecOn with
        | _ m ih =>
          intro hm hs
          obtain ⟨o, t, ho, _, _, _, hb⟩ := F.each m hm
          have : m ∈ Region.ready .any ops s := mem_ready.2 ⟨hs, o, ho, fun e he hbe => by
            have hlt := hb e he hbe
            cases hx : s.getD e.on false with
            | true => rfl
            | false => exact absurd (getD_in (by rw [I.head.size]; have := F.lt; omega) hx) (fun q => ih e.on hlt (by omega) q)⟩
          rw [he] at this
          cases this
      obtain ⟨i, hi, hs⟩ := some_
      exact key i hi hs
    · have hin := bound i hi
      obtain ⟨hun, o', ho', hall⟩ := mem_ready.1 hi
      obtain ⟨o, t, ho, hg, hd, ht, hb⟩ := F.each i hin
      obtain rfl : o = o' := by rw [ho] at ho'; exact Option.some.inj ho'
      have hd' : dstOf ops i = some t := by simp [dstOf, ho, hd]
      have hlt := F.lt
      have hdep : ∀ j ∈ deps ops i, j < i ∧ s.getD j false = true := fun j hj => by
        simp only [deps, ho, Option.map_some, Option.getD_some, List.mem_map, List.mem_filter] at hj
        obtain ⟨e, ⟨he, hbe⟩, rfl⟩ := hj
        have he' : e ∈ o.after := by simpa using he
        exact ⟨hb e he' hbe, hall e he' hbe⟩
      unfold wpOp
      simp only [ho]
      rw [if_pos (by simp [Region.wanted, hg])]
      refine .inl (step i hin o ho a w _ I.defers (fun t ht => I.others t (fun k hk _ => ht k hk)) (fun j hj t ht => I.vals j (by have := (hdep j hj).1; omega) (hdep j hj).2 t ht) (I.mine i hin hun) ?_)
      intro v w' hv hw
      rw [hd]
      have hset : ∀ k d, k ≠ i → (s.setIfInBounds i true).getD k d = s.getD k d := fun k d hk => by
        simp [Array.getD_eq_getD_getElem?, Ne.symm hk]
      have hseti : ∀ d, (s.setIfInBounds i true).getD i d = true := fun d => by
        simp [Array.getD_eq_getD_getElem?, show i < s.size by rw [I.head.size]; omega]
      refine ih _ _ _ ⟨I.head.set hi hin, I.defers, by simpa [Act.put] using I.size, fun u hu => ?_, fun k hk hk2 u hu => ?_, HR.trans I.below (sub _ _ _ hw), fun k hk hs => ?_⟩ ?_
      · have hne : t ≠ u := fun e => hu i hin (hseti _) (by rw [hd', e])
        rw [put_get, if_neg (fun x => hne x.1)]
        exact I.others u (fun k hk hs => by
          by_cases e : k = i
          · subst e; exact hu k hk (hseti _)
          · exact hu k hk (by rw [hset k _ e]; exact hs))
      · by_cases e : k = i
        · subst e
          obtain rfl : t = u := Option.some.inj (hd'.symm.trans hu)
          rw [put_get, if_pos ⟨rfl, by rw [I.size, hN]; exact ht⟩]
          exact hv
        · have hne : t ≠ u := fun q => F.apart k i hk hin e (by rw [hu, hd', q])
          rw [put_get, if_neg (fun x => hne x.1)]
          have hk3 : s.getD k false = true := by rw [hset k _ e] at hk2; exact hk2
          refine mono _ i _ _ _ (fun q => e q.symm) (fun hd => ?_) (I.vals k hk hk3 u hu) hw
          obtain ⟨ok, tk, hok, -⟩ := F.each k hk
          simp only [deps, hok, Option.map_some, Option.getD_some, List.mem_map, List.mem_filter] at hd
          obtain ⟨x, ⟨hx, hbx⟩, hon⟩ := hd
          have := I.head.closed k ok hok hk3 x (by simpa using hx) hbx
          rw [hon, ← getD_true (by rw [I.head.size]; omega), hun] at this
          cases this
      · have e : k ≠ i := fun e => by subst e; rw [hseti] at hs; cases hs
        rw [hset k _ e] at hs
        exact (HT k).trans (I.mine k hk hs) (subT k i _ _ (fun q => e q.symm) hw)
      · have := count_one (p := fun k => !s.getD k true) (q := fun k => !(s.setIfInBounds i true).getD k true) (i := i) (by simp [hun]) (by simp [hseti]) (fun k hk => by simp [hset k _ hk]) n hin
        unfold cnt at hc ⊢
        omega
end
end RelS

/-- a statement that draws its order and makes memory -/
theorem wp_region_each {R : World → World → Prop} (HR : Goes R) {S T : Nat → World → World → Prop} (HT : ∀ k, Goes (T k)) (sub : ∀ j w w', S j w w' → R w w') (subT : ∀ k j w w', j ≠ k → S j w w' → T k w w') {id : Nat} {Q : Exit → Act → World → Prop} {a : Act} {w : World} {l : List Oper} (n N : Nat) (Ψ : Nat → Value → World → Prop) (hm : Try.prog.follows .mixedOrders = true) (hN : a.tmps.size = N) (hB : Rel.fitB l.toArray n N = true)
    (mono : ∀ k j v w w', j ≠ k → j ∉ Rel.deps l.toArray k → Ψ k v w → S j w w' → Ψ k v w') (step : ∀ k, k < n → RelS.Step T S Try.prog l.toArray n a w Q Ψ k)
    (tail : ∀ f w', (∀ k, k < n → Ψ k (f k) w') → R w w' → (∀ k, k < n → ∀ t, Rel.dstOf l.toArray k = some t → (Rel.puts l.toArray a f n).eval (.tmp t) = f k) → wpList Try.prog l.toArray Q (l.drop n) (Rel.puts l.toArray a f n) w') :
    (Code.region id l.toArray true).wp Try.prog Q a w := by
  have F := Rel.fit_of hB
  refine wp_region_any hm ?_
  have hlt : n < l.length := by simpa using F.lt
  have key := RelS.rel_any HR HT sub subT (P := Try.prog) (Q := Q) (a0 := a) (w0 := w) F hN mono step (fun f w' hv hb => by
    have := wpAny_of_seq (P := Try.prog) (md := .any) (Q' := Q) (l.drop n) n (Rel.doneArr l.toArray.size n) (Rel.puts l.toArray a f n) w' (fun j => by simp [List.getElem?_drop]) (by
      rw [show (l.drop n).length = l.toArray.size - n by simp]; exact F.seq) (tail f w' hv hb (fun k hk t ht => Rel.puts_eval F hN hk ht f))
    rwa [show (l.drop n).length = l.toArray.size - n by simp] at this)
  have h0 : ∀ k d, (Array.replicate l.toArray.size false).getD k d = if k < l.length then false else d := fun k d => by
    simp only [Array.getD_eq_getD_getElem?, Array.getElem?_replicate, List.size_toArray]
    split <;> rfl
  have hc : Rel.cnt n (Array.replicate l.toArray.size false) = n := by
    unfold Rel.cnt
    rw [List.countP_eq_length.2]
    · simp
    · intro k hk
      rw [h0, if_pos (by have := List.mem_range.1 hk; omega)]
      rfl
  have := key n (Array.replicate l.toArray.size false) a (World.drew w) ⟨⟨by simp, fun j q _ hl => (by rw [getD_replicate_false] at hl; cases hl), fun t _ h => getD_in (by simpa using h) (getD_replicate_false _ _)⟩, rfl, rfl, fun t _ => rfl,
    (fun k hk hs => (by rw [h0] at hs; exfalso; split at hs; exact Bool.noConfusion hs; exact Bool.noConfusion hs)), HR.drew w, fun k _ _ => (HT k).drew w⟩ hc
  rwa [show n + (l.toArray.size - n) = l.toArray.size by have := F.lt; omega] at this

end Go.Proofs.Ytnheehodgkagfaa
