/-
  model's only: the pane of a window, of a key's panes, or none.
-/
import Derived.Test.YtemklcckhpchaaaPaneList
import Derived.Test.YtemklcckhpchaaaSmall
namespace Go.Proofs.Ytemklcckhpchaaa
open Go.ChangeShapes Go.WideShapes Go.ChangeAt Go.RowKit
namespace Md
open Small Pane
set_option linter.unusedVariables false

/-- those of a window -/
abbrev only (s e : Int) (L : List Pn) : List Pn := L.filter fun p => decide (p.s = s ∧ p.e = e)
theorem only_one {L : List Pn} {s e : Int} {k : Nat} {p : Pn} (up : Rises L) (hp : L[k]? = some p) (he : Eq2 p s e) : only s e L = [p] := by
  have e1 : L = L.take k ++ p :: L.drop (k + 1) := by
    obtain ⟨h1, h2⟩ := List.getElem?_eq_some_iff.1 hp
    conv => lhs; rw [← List.take_append_drop k L, List.drop_eq_getElem_cons h1, h2]
  have hr := up
  rw [Rises, e1] at hr
  obtain ⟨r1, r2, r3⟩ := List.pairwise_append.1 hr
  obtain ⟨r4, r5⟩ := List.pairwise_cons.1 r2
  have z1 : (L.take k).filter (fun p => decide (p.s = s ∧ p.e = e)) = [] := List.filter_eq_nil_iff.2 fun y hy => by
    have := r3 y hy p (List.mem_cons_self ..)
    simp only [Ah, Eq2] at this he
    simp only [decide_eq_true_eq]
    omega
  have z2 : (L.drop (k + 1)).filter (fun p => decide (p.s = s ∧ p.e = e)) = [] := List.filter_eq_nil_iff.2 fun y hy => by
    have := r4 y hy
    simp only [Ah, Eq2] at this he
    simp only [decide_eq_true_eq]
    omega
  have hq : decide (p.s = s ∧ p.e = e) = true := by
    simp only [Eq2] at he
    simp only [decide_eq_true_eq]
    exact he
  conv => lhs; rw [only, e1]
  rw [List.filter_append, List.filter_cons, z1, z2, hq]
  rfl
theorem only_none {L : List Pn} {s e : Int} (h : ∀ p ∈ L, ¬ Eq2 p s e) : only s e L = [] := List.filter_eq_nil_iff.2 fun y hy => by
  have := h y hy
  simpa [Eq2] using this

set_option maxRecDepth 100000 in
set_option maxHeartbeats 4000000 in
theorem only_ok (v : Value) (L : List Pn) (b : Nat) (s e : Int) (w : World) (H : Hid (Sl.Is Pn.k w v L b)) (hn : L.length ≤ 9000) (up : Hid (Rises L)) :
    Calls Try.prog 31 #[v, win s e] w fun r w' => ∃ u, r = .returned u ∧ Sl.Own Pn.k w.heap.size w' u (only s e L) ∧ Below w.heap.size w w' := by
  obtain ⟨k, A⟩ := At.ex up.out s e
  have K0 := Lib.hid (below1 w (Obj.cells #[.int .i64 s, .int .i64 e] 59))
  by_cases hx : ∃ p, L[k]? = some p ∧ Eq2 p s e
  · obtain ⟨p, hp, he⟩ := hx
    have E := Lib.hid (only_one up.out hp he)
    go_enter Try.func31, Try.ntmps31
    go_wp2_with fail
    refine (find_yes v L b k s e p _ (Lib.hid (H.out.next K0.out)) hn (Lib.hid A) (Lib.hid hp) (Lib.hid he)).mono ?_
    rintro r w1 ⟨rfl, k1⟩
    have K1 := Lib.hid (after K0.out k1)
    clear k1 K0
    go_wp2
    go_ret
    refine ⟨_, rfl, ?_, after K1.out (below2 _ _ _)⟩
    rw [E.out]
    obtain ⟨rfl, rfl⟩ := he
    have LN := Lies.new (w1.alloc (Obj.cells p.cl.toArray 63)) 63 p.cl
    simp only [World.size_alloc] at LN
    exact Sl.Own.one (K := Pn.k) Pn.ok (x := p) LN (by have := K1.out.size; omega)
  · have E := Lib.hid (only_none (L := L) (s := s) (e := e) fun p hp he => hx (by
      have hh := A.found up.out hp he
      exact ⟨p, hh, he⟩))
    go_enter Try.func31, Try.ntmps31
    go_wp2_with fail
    refine (find_no v L b k s e _ (Lib.hid (H.out.next K0.out)) hn (Lib.hid A) (Lib.hid fun x hx' he => hx ⟨x, hx', he⟩)).mono ?_
    rintro r w1 ⟨rfl, k1⟩
    have K1 := Lib.hid (after K0.out k1)
    clear k1 K0
    go_wp2
    go_ret
    exact ⟨_, rfl, by rw [E.out]; exact Sl.Own.nil _ _ _, after K1.out (below1 _ _)⟩
end Md
end Go.Proofs.Ytemklcckhpchaaa
