/-
  A struct in memory that is read, or written, whole, or a part of a greater one: laws at the operation.
-/
import Derived.Test.YtjncogjafljbiaaClMem
namespace Go.Proofs.Ytjncogjafljbiaa
open Go.ChangeShapes Go.WideShapes Go.ChangeAt Go.RowKit
set_option linter.unusedVariables false
set_option maxRecDepth 100000
namespace Wh
open Small Foot
section
variable {T T' : TypeId} {n g off : Nat} {w : World} {cs cs' : List Value}
theorem load_at (h1 : ∀ w, (isAgg T).run Try.prog w = .ok true w) (h2 : ∀ w, (sizeOf T).run Try.prog w = .ok n w) (h : Lies w g T' cs) (ho : off + n ≤ cs.length) :
    (loadVar T ⟨g, off, none⟩).run Try.prog w = .ok (.agg ((cs.drop off).take n).toArray) w := by
  have := run_loadCells_list (P := Try.prog) w ⟨g, off, none⟩ ((cs.drop off).take n) fun j v hj => by
    rw [Addr.add_lit]
    rw [List.getElem?_take] at hj
    split at hj
    · rw [List.getElem?_drop] at hj
      exact h.cell hj
    · cases hj
  have hl : ((cs.drop off).take n).length = n := by simp; omega
  rw [hl] at this
  unfold loadVar
  simp only [Sem.run_bind, h1, h2, Result.andThen_ok, if_true, this, Sem.run_pure]
theorem wp_load {o : Oper} {a : Act} {K : Act → World → Prop} {Q : Exit → Act → World → Prop} (h1 : ∀ w, (isAgg T).run Try.prog w = .ok true w) (h2 : ∀ w, (sizeOf T).run Try.prog w = .ok n w) (x : Operand) (ho : o.op = .load T x) (hx : a.eval x = .pointer (some ⟨g, off, none⟩)) (h : Lies w g T' cs) (hn : off + n ≤ cs.length) (ds : List Value) (hd : ((cs.drop off).take n) = ds)
    (hK : K (a.put o.dst (.agg ds.toArray)) w) : o.wp Try.prog a w K Q := by
  have := load_at h1 h2 h hn
  rw [hd] at this
  unfold Oper.wp execOp
  simp only [ho, hx, Instr.loadAt, Instr.sureAddr, Sem.run_bind, Sem.run_pure, Result.andThen_ok, this]
  exact hK
theorem setRow_grown (w : World) (g : Nat) (cur : Array Value) : w.grownBy (w.setRow g cur) (some g) :=
  ⟨rfl, rfl, rfl, by simp [World.setRow], fun i hi hn => by
    have hg : g ≠ i := fun e => hn (by rw [e])
    simp [World.setRow, Array.getElem?_modify, hg]⟩
theorem store_at (h2 : ∀ w, (sizeOf T).run Try.prog w = .ok n w) (h : Lies w g T' cs) (ho : off + n ≤ cs.length) (hl' : cs'.length = n) (h1 : ∀ v ∈ cs', v.oneCell' = true) :
    ∃ w', (storeVar T ⟨g, off, none⟩ (.agg cs'.toArray)).run Try.prog w = .ok () w' ∧ Lies w' g T' (cs.take off ++ cs' ++ cs.drop (off + n)) ∧ w.grownBy w' (some g) := by
  have hst := run_storeCells_at Try.prog g off T' cs' 0 cs.toArray w h (by simp; omega) h1
  refine ⟨w.setRow g (cs.take off ++ cs' ++ cs.drop (off + n)).toArray, ?_, setRow_heap _ _ _ _ _ _ h, setRow_grown _ _ _⟩
  unfold storeVar
  have hc : (Value.agg cs'.toArray).cells = cs'.toArray := rfl
  simp only [Sem.run_bind, h2, Result.andThen_ok, hc, List.size_toArray, hl', ne_eq, not_true_eq_false, if_false]
  simpa [hl', List.take_append, List.drop_append] using hst
theorem wp_store {o : Oper} {a : Act} {K : Act → World → Prop} {Q : Exit → Act → World → Prop} (h2 : ∀ w, (sizeOf T).run Try.prog w = .ok n w) (x y : Operand) (ho : o.op = .store T x y) (hx : a.eval x = .pointer (some ⟨g, off, none⟩)) (hy : a.eval y = .agg cs'.toArray) (h : Lies w g T' cs) (hn : off + n ≤ cs.length) (hl' : cs'.length = n) (h1 : ∀ v ∈ cs', v.oneCell' = true) (ds : List Value) (hd : cs.take off ++ cs' ++ cs.drop (off + n) = ds)
    (hK : ∀ w', Lies w' g T' ds → w.grownBy w' (some g) → K (a.put o.dst undef) w') : o.wp Try.prog a w K Q := by
  obtain ⟨w', hr, q1, q2⟩ := store_at h2 h hn hl' h1
  rw [hd] at q1
  unfold Oper.wp execOp
  simp only [ho, hx, hy, Instr.storeAt, Instr.sureAddr, Sem.run_bind, Sem.run_pure, Result.andThen_ok, hr]
  exact hK w' q1 q2
end
end Wh
end Go.Proofs.Ytjncogjafljbiaa
