/-
  TimerPlays: what its round keeps; the arms of its switch are texts of their own.
-/
import Derived.Test.YtomoophjcgahlaaUp06
import Derived.Test.YtomoophjcgahlaaTmrOpen
import Derived.Test.YtomoophjcgahlaaTmrFirst
import Derived.Test.YtomoophjcgahlaaRefSpan
import Derived.Test.YtomoophjcgahlaaLaid
import Derived.Laws.StructEq
import Derived.Deep.DeepCutAuto
import Derived.Deep.CutBlock
namespace Go.Proofs.Ytomoophjcgahlaa.timerPlays
open Go.ChangeShapes Go.WideShapes Go.ChangeAt Go.RowKit Small Foot Tmr
set_option linter.unusedVariables false

/-- the timers, and the list that they are held against -/
structure St (B : World) (g : Nat) (L : List Tm) (v : Value) (b : Nat) (F : Nat → Prop) (w : World) : Prop where
  ts : Ts w g L.length (· ∈ L) F
  nodup : L.Nodup
  list : Sl.Is Pn.k w v (L.map Pn.of) b
  far : ¬ F b
  own : From B.heap.size F
  below : Below B.heap.size B w
section
variable {B w w' : World} {g b : Nat} {L : List Tm} {v : Value} {F F' : Nat → Prop}
theorem St.next (h : St B g L v b F w) (k : Below w.heap.size w w') : St B g L v b F w' := ⟨h.ts.next k, h.nodup, h.list.next k, h.far, h.own, after h.below k⟩
end

theorem is_moved {α : Type} {K : Kind α} {F F' : Nat → Prop} {w w' : World} {v : Value} {l : List α} {b : Nat} (h : Sl.Is K w v l b) (hf : ¬ F b) (V : Moves F F' w w') : ∃ b', Sl.Is K w' v l b' ∧ ¬ F' b' := by
  rcases h with ⟨rfl, rfl⟩ | ⟨off, cap, h1, h2, h3, h4, h5⟩
  · exact ⟨w'.heap.size, Sl.Is.nil _ _ _, fun q => by have := (V.new _ q).2; omega⟩
  · refine ⟨b, Sl.Is.keep (.inr ⟨off, cap, h1, h2, h3, h4, h5⟩) (V.block b h4 hf) V.size, fun q => ?_⟩
    rcases (V.new b q).1 with x | x
    · exact hf x
    · omega
section
variable {B w w' w6 : World} {g b n' : Nat} {L : List Tm} {v v' : Value} {F F' : Nat → Prop} {M' : Tm → Prop} {x : Tm}
/-- a deed that changed nothing of what is there -/
theorem St.same (h : St B g L v b F w) (hn : n' = L.length) (T : Ts w6 g n' M' F') (hM : ∀ y, M' y ↔ y ∈ L) (V : Moves F F' w w6) : ∃ b', St B g L v b' F' w6 := by
  obtain ⟨b', i, f⟩ := is_moved h.list h.far V
  subst hn
  exact ⟨b', T.congr hM, h.nodup, i, f, V.from h.own h.below.size, h.below.trans (V.below h.own h.below.size)⟩
/-- one more -/
theorem St.grow (h : St B g L v b F w) (hx : x ∉ L) (T : Ts w6 g (L.length + 1) (fun y => y = x ∨ y ∈ L) F') (V : Moves F F' w w6) (K : Below w6.heap.size w6 w') (O : Sl.Own Pn.k w6.heap.size w' v' (L.map Pn.of ++ [Pn.of x])) :
    ∃ b', St B g (L ++ [x]) v' b' F' w' := by
  obtain ⟨b', hb, i⟩ := O.is
  refine ⟨b', ?_, ?_, by simpa using i, fun q => by have := T.in _ q; omega, V.from h.own h.below.size, after (h.below.trans (V.below h.own h.below.size)) K |> fun z => z⟩
  · have := T.next K
    rw [List.length_append]
    exact this.congr (fun y => by simp [or_comm])
  · rw [List.nodup_append]
    exact ⟨h.nodup, by simp, fun a ha c hc => by simp at hc; subst hc; exact fun e => hx (e ▸ ha)⟩
/-- one less -/
theorem St.shrink {k : Nat} (h : St B g L v b F w) (hx : L[k]? = some x) (hn : L.length = n' + 1) (T : Ts w6 g n' (fun y => y ≠ x ∧ y ∈ L) F') (V : Moves F F' w w6) (K : Below w6.heap.size w6 w')
    (O : Sl.Own Pn.k w6.heap.size w' v' ((L.map Pn.of).take k ++ (L.map Pn.of).drop (k + 1))) : ∃ b', St B g (L.take k ++ L.drop (k + 1)) v' b' F' w' := by
  obtain ⟨b', hb, i⟩ := O.is
  have hk : k < L.length := (List.getElem?_eq_some_iff.1 hx).1
  have hs : L = L.take k ++ x :: L.drop (k + 1) := by
    have := List.getElem?_eq_some_iff.1 hx
    obtain ⟨h1, h2⟩ := this
    conv => lhs; rw [← List.take_append_drop k L, List.drop_eq_getElem_cons h1, h2]
  have nd := h.nodup
  rw [hs, List.nodup_append] at nd
  obtain ⟨n1, n2, n3⟩ := nd
  rw [List.nodup_cons] at n2
  have mem : ∀ y, y ∈ L.take k ++ L.drop (k + 1) ↔ (y ≠ x ∧ y ∈ L) := fun y => by
    conv => rhs; rw [hs]
    simp only [List.mem_append, List.mem_cons]
    constructor
    · rintro (q | q)
      · exact ⟨n3 y q x (by simp), .inl q⟩
      · exact ⟨fun e => n2.1 (e ▸ q), .inr (.inr q)⟩
    · rintro ⟨q, (r | r | r)⟩
      · exact .inl r
      · exact absurd r q
      · exact .inr r
  refine ⟨b', ?_, ?_, by simpa using i, fun q => by have := T.in _ q; omega, V.from h.own h.below.size, after (h.below.trans (V.below h.own h.below.size)) K |> fun z => z⟩
  · rw [show (L.take k ++ L.drop (k + 1)).length = n' by rw [List.length_append, List.length_take, List.length_drop]; omega]
    exact (T.next K).congr (fun y => (mem y).symm)
  · rw [List.nodup_append]
    exact ⟨n1, n2.2, fun a ha c hc => n3 a ha c (by simp [hc])⟩
end

/-- where x is among the first n; below 0: it isn't -/
def At (L : List Tm) (x : Tm) (n : Nat) (i : Int) : Prop := (i = -1 ∧ ∀ j, j < n → L[j]? ≠ some x) ∨ ∃ k, i = (k : Nat) ∧ k < n ∧ L[k]? = some x

theorem At.more {L : List Tm} {x y : Tm} {n : Nat} {i : Int} (h : At L x n i) (hy : L[n]? = some y) (hne : y ≠ x) : At L x (n + 1) i := by
  rcases h with ⟨rfl, h⟩ | ⟨k, rfl, hk, h⟩
  · refine .inl ⟨rfl, fun j hj e => ?_⟩
    by_cases q : j = n
    · subst q; rw [hy] at e; exact hne (Option.some.inj e)
    · exact h j (by omega) e
  · exact .inr ⟨k, rfl, by omega, h⟩

/-- the place of the least one -/
def First (L : List Tm) (i : Int) : Prop := (i = -1 ∧ L = []) ∨ ∃ k x, i = (k : Nat) ∧ L[k]? = some x ∧ IsLeast (· ∈ L) x
theorem first_of {L : List Tm} {i : Int} (h : IsFirst (L.map Pn.of) i) : First L i := by
  rcases h with ⟨rfl, h⟩ | ⟨k, x, rfl, hx, hl⟩
  · exact .inl ⟨rfl, by simpa using h⟩
  · rw [List.getElem?_map] at hx
    obtain ⟨y, hy, rfl⟩ := Option.map_eq_some_iff.1 hx
    exact .inr ⟨k, y, rfl, hy, List.mem_of_getElem? hy, fun z hz => hl (Pn.of z) (List.mem_map_of_mem hz)⟩

/-- block n of a text -/
def blk (n : Nat) : Code → Option Code
  | .block m c => if m = n then some (.block m c) else blk n c
  | .seq a b => match blk n a with
    | some c => some c
    | none => blk n b
  | .loop c => blk n c
  | .scope c => blk n c
  | .cond _ a b => match blk n a with
    | some c => some c
    | none => blk n b
  | _ => none
/-- the switch -/
noncomputable def b4 : Code := ((Try.f3.body.bind (blk 4)).getD .skip)

end Go.Proofs.Ytomoophjcgahlaa.timerPlays
