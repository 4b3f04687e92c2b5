/-
  Two statements that draw their order, whatever their elements are: 'm = append(append([]T{}, m...), x)' and 'm = append(append([]T{}, m[:i]...), m[i+1:]...)'.
-/
import Derived.Test.YtnheehodgkagfaaSl
import Derived.Test.YtnheehodgkagfaaRel
namespace Go.Proofs.Ytnheehodgkagfaa
open Go.RowKit Go.ChangeShapes
set_option linter.unusedVariables false

/-- an element's value, loaded, and laid into a slice of its own -/
structure Kind.Val {α : Type} (K : Kind α) (v : α → Value) : Prop where
  load : ∀ (x : α) (w : World) (o : Oper) (a : Act) (Kc : Act → World → Prop) (Q : Exit → Act → World → Prop) (p : Operand) (b off : Nat), o.op = Op.load K.e p → a.eval p = .pointer (some ⟨b, off, none⟩) →
    (∀ j u, (K.cl x)[j]? = some u → w.cell? ⟨b, off + j, none⟩ = some u) → Kc (a.put o.dst (v x)) w → o.wp Try.prog a w Kc Q
  lit1 : ∀ (x : α) (w : World), (Instr.buildSlice K.t 1 #[(0, v x)]).run Try.prog w = .ok (.slice (some ⟨w.heap.size, 0, none⟩) 1 1) (w.alloc (.cells (K.cl x).toArray K.e))

namespace Reg
open Small
variable {α : Type} {K : Kind α} {v : α → Value}

abbrev app (K : Kind α) (x y : Tmp) : Op := Op.call { callee := Callee.builtin Builtin.append, args := #[.tmp x, .tmp y], argTypes := #[K.t, K.t] }
/-- operation k is p, and goes to t -/
abbrev Has (l : List Oper) (k : Nat) (p : Op) (t : Tmp) : Prop := (l[k]?).map (fun o => (o.op, o.dst)) = some (p, some t)
theorem Has.op {l : List Oper} {k : Nat} {p : Op} {t : Tmp} (h : Has l k p t) {o : Oper} (ho : l.toArray[k]? = some o) : o.op = p ∧ o.dst = some t := by
  have ho' : l[k]? = some o := by simpa using ho
  unfold Has at h
  rw [ho'] at h
  simpa using h
theorem Has.dst {l : List Oper} {k : Nat} {p : Op} {t : Tmp} (h : Has l k p t) : Rel.dstOf l.toArray k = some t := by
  unfold Has at h
  cases ho : l[k]? with
  | none => rw [ho] at h; cases h
  | some o =>
    rw [ho] at h
    simp at h
    simp [Rel.dstOf, ho, h.2]
/-- the operations ahead of the k-th are among others those of ds -/
abbrev After (l : List Oper) (k : Nat) (ds : List Nat) : Prop := ds.all (fun d => (Rel.deps l.toArray k).contains d) = true
theorem After.mem {l : List Oper} {k : Nat} {ds : List Nat} (h : After l k ds) {d : Nat} (hd : d ∈ ds) : d ∈ Rel.deps l.toArray k := by
  have := List.all_eq_true.1 h d hd
  simpa using this
/-- none of the first n goes to t -/
abbrev Free (l : List Oper) (n : Nat) (t : Tmp) : Prop := (List.range n).all (fun j => decide (Rel.dstOf l.toArray j ≠ some t)) = true
theorem Free.out {l : List Oper} {n : Nat} {t : Tmp} (h : Free l n t) : ∀ j, j < n → Rel.dstOf l.toArray j ≠ some t := fun j hj => by
  have := List.all_eq_true.1 h j (List.mem_range.2 hj)
  simpa using this
theorem drop_at {l : List Oper} {k : Nat} {p : Op} {t : Tmp} (h : Has l k p t) : ∃ o, l[k]? = some o ∧ o.op = p ∧ o.dst = some t ∧ l.drop k = o :: l.drop (k + 1) := by
  unfold Has at h
  cases ho : l[k]? with
  | none => rw [ho] at h; cases h
  | some o =>
    rw [ho] at h
    simp at h
    obtain ⟨h1, h2⟩ := List.getElem?_eq_some_iff.1 ho
    exact ⟨o, rfl, h.1, h.2, by rw [List.drop_eq_getElem_cons h1, h2]⟩
theorem block_lt {w : World} {b : Nat} {o : Obj} (h : w.heap[b]? = some o) : b < w.heap.size := Nat.lt_of_not_le fun q => by rw [Array.getElem?_eq_none q] at h; cases h

/-- what the parts of 'append(append([]T{}, m..), x)' yield -/
def Ap (K : Kind α) (v : α → Value) (base : Nat) (v0 : Value) (l : List α) (x : α) (k : Nat) (u : Value) (w : World) : Prop := match k with
  | 0 => ∃ b, u = .slice (some ⟨b, 0, none⟩) 0 0 ∧ w.heap[b]? = some (.cells #[] K.e (0, 0)) ∧ base ≤ b
  | 1 => u = v0
  | 2 => Sl.Own K base w u l
  | 3 => u = v x
  | 4 => ∃ b, u = .slice (some ⟨b, 0, none⟩) 1 1 ∧ Lies w b K.e (K.cl x)
  | _ => True
theorem Ap.mono {base : Nat} {v0 : Value} {l : List α} {x : α} : ∀ k u w w', Ap K v base v0 l x k u w → Below w.heap.size w w' → Ap K v base v0 l x k u w'
  | 0, u, w, w', ⟨b, h1, h2, h3⟩, k => ⟨b, h1, (k.block b (block_lt h2)).trans h2, h3⟩
  | 1, u, w, w', h, k => h
  | 2, u, w, w', h, k => Sl.Own.next (K := K) h k
  | 3, u, w, w', h, k => h
  | 4, u, w, w', ⟨b, h1, h2⟩, k => ⟨b, h1, h2.next k⟩
  | k + 5, u, w, w', h, _ => trivial

/-- m = append(append([]T{}, m...), x), up to the last append -/
theorem wp_ap (O : K.Ok) (V : K.Val v) {id : Nat} {Q : Exit → Act → World → Prop} {a : Act} {w : World} {l : List Oper} (sm sp s0 s1 s2 s3 s4 s5 N : Nat) (hm : Try.prog.follows .mixedOrders = true) (hN : a.tmps.size = N) (hB : Rel.fitB l.toArray 5 N = true)
    (h0 : Has l 0 (Op.buildSlice K.t 0 #[]) s0) (h1 : Has l 1 (Op.move (.tmp sm)) s1) (h2 : Has l 2 (app K s0 s1) s2) (h3 : Has l 3 (Op.load K.e (.tmp sp)) s3) (h4 : Has l 4 (Op.buildSlice K.t 1 #[(0, .tmp s3)]) s4)
    (h5 : Has l 5 (app K s2 s4) s5) (hg : (l[5]?).map (·.guard) = some none) (d2 : After l 2 [0, 1]) (d4 : After l 4 [3]) (fm : Free l 5 sm) (fp : Free l 5 sp)
    {L : List α} {x : α} {b pb po : Nat} (hL : Sl.Is K w (a.eval (.tmp sm)) L b) (hp : a.eval (.tmp sp) = .pointer (some ⟨pb, po, none⟩)) (hx : ∀ j u, (K.cl x)[j]? = some u → w.cell? ⟨pb, po + j, none⟩ = some u) (hn : L.length ≤ 100000)
    (tail : ∀ (f : Nat → Value) (u : Value) (w' : World), Sl.Own K w.heap.size w' u (L ++ [x]) → Below w.heap.size w w' →
      wpList Try.prog l.toArray Q (l.drop 6) ((((((a.put (some s0) (f 0)).put (some s1) (f 1)).put (some s2) (f 2)).put (some s3) (f 3)).put (some s4) (f 4)).put (some s5) u) w') : (Code.region id l.toArray true).wp Try.prog Q a w := by
  refine wp_region_rel 5 N (Ap K v w.heap.size (a.eval (.tmp sm)) L x) hm hN hB Ap.mono ?_ ?_
  · intro k hk o ho a' w' Kc hd hout hdep hB hK
    match k, hk, ho with
    | 0, _, ho => exact Sl.wp_lit0 O (h0.op ho).1 (hK _ _ ⟨_, rfl, heap_alloc_new _ _, hB.size⟩ (below1 _ _))
    | 1, _, ho => exact Sl.wp_move _ (h1.op ho).1 (hK _ _ (hout sm fm.out) (Below.refl _ _))
    | 2, _, ho =>
      obtain ⟨b9, q1, q2, q3⟩ := hdep 0 (d2.mem (by simp)) s0 h0.dst
      have q4 := hdep 1 (d2.mem (by simp)) s1 h1.dst
      exact Sl.wp_append_empty O (.tmp s0) (.tmp s1) (h2.op ho).1 q1 q2 q3 (l2 := L) (b2 := b) (by rw [show a'.eval (.tmp s1) = _ from q4]; exact hL.next hB) (by omega) hB.size (fun u w' q1 q2 => hK u w' q1 q2)
    | 3, _, ho => exact V.load x _ _ _ _ _ _ pb po (h3.op ho).1 ((hout sp fp.out).trans hp) (fun j u hj => cell_keep hB (hx j u hj)) (hK _ _ rfl (Below.refl _ _))
    | 4, _, ho => exact Sl.wp_lit1 (.tmp s3) x (h4.op ho).1 (hdep 3 (d4.mem (by simp)) s3 h3.dst) (V.lit1 _ _) (hK _ _ ⟨_, rfl, Lies.new _ _ _⟩ (below1 _ _))
  · intro f w' hv hB hev
    have e2 : Sl.Own K w.heap.size w' (f 2) L := hv 2 (by omega)
    obtain ⟨b9, e4, e5⟩ := hv 4 (by omega)
    have v2 := hev 2 (by omega) s2 h2.dst
    have v4 := hev 4 (by omega) s4 h4.dst
    obtain ⟨o, ho, ho1, ho2, hdr⟩ := drop_at h5
    have hgd : o.guard = none := by rw [ho] at hg; simpa using hg
    rw [hdr]
    refine wpList_plain hgd fun K' hK' => Sl.wp_append O (.tmp s2) (.tmp s4) ho1 (l := L) (l2 := [x]) (base := w.heap.size) (by rw [v2]; exact e2) (by rw [v4, e4]; exact Sl.Is.one O e5) (by simp; omega) hB.size (fun u w8 q1 q2 q3 => hK' _ _ ?_)
    have := tail f u w8 q1 (hB.grown q2 hB.size (fun k hk => by rw [v2] at hk; exact (e2.lt k hk).1))
    rw [ho2]
    simp only [Rel.puts, h0.dst, h1.dst, h2.dst, h3.dst, h4.dst]
    exact this

/-- what the parts of 'append(append([]T{}, m[:i]..), m[i+1:]..)' yield -/
def Cu (K : Kind α) (base : Nat) (v0 : Value) (l : List α) (m b : Nat) (k : Nat) (u : Value) (w : World) : Prop := match k with
  | 0 => ∃ b, u = .slice (some ⟨b, 0, none⟩) 0 0 ∧ w.heap[b]? = some (.cells #[] K.e (0, 0)) ∧ base ≤ b
  | 1 => u = v0
  | 2 => u = .int .i64 m
  | 3 => Sl.Is K w u (l.take m) b
  | 4 => Sl.Own K base w u (l.take m)
  | 5 => u = v0
  | 6 => u = .int .i64 m
  | 7 => u = .int .i64 ((m + 1 : Nat) : Int)
  | 8 => Sl.Is K w u (l.drop (m + 1)) b
  | _ => True
theorem Cu.mono {base : Nat} {v0 : Value} {l : List α} {m b : Nat} : ∀ k u w w', Cu K base v0 l m b k u w → Below w.heap.size w w' → Cu K base v0 l m b k u w'
  | 0, u, w, w', ⟨b, h1, h2, h3⟩, k => ⟨b, h1, (k.block b (block_lt h2)).trans h2, h3⟩
  | 1, u, w, w', h, k => h
  | 2, u, w, w', h, k => h
  | 3, u, w, w', h, k => Sl.Is.next (K := K) h k
  | 4, u, w, w', h, k => Sl.Own.next (K := K) h k
  | 5, u, w, w', h, k => h
  | 6, u, w, w', h, k => h
  | 7, u, w, w', h, k => h
  | 8, u, w, w', h, k => Sl.Is.next (K := K) h k
  | k + 9, u, w, w', h, _ => trivial

/-- m = append(append([]T{}, m[:i]...), m[i+1:]...), up to the last append -/
theorem wp_cut (O : K.Ok) {id : Nat} {Q : Exit → Act → World → Prop} {a : Act} {w : World} {l : List Oper} (sm si s0 s1 s2 s3 s4 s5 s6 s7 s8 s9 N : Nat) (hm : Try.prog.follows .mixedOrders = true) (hN : a.tmps.size = N) (hB : Rel.fitB l.toArray 9 N = true)
    (h0 : Has l 0 (Op.buildSlice K.t 0 #[]) s0) (h1 : Has l 1 (Op.move (.tmp sm)) s1) (h2 : Has l 2 (Op.move (.tmp si)) s2) (h3 : Has l 3 (Op.slice K.t (.tmp s1) none (some (.tmp s2)) none) s3) (h4 : Has l 4 (app K s0 s3) s4)
    (h5 : Has l 5 (Op.move (.tmp sm)) s5) (h6 : Has l 6 (Op.move (.tmp si)) s6) (h7 : Has l 7 (Op.binOp BinOp.add 3 (.tmp s6) (.const (.int .i64 1)) 3) s7) (h8 : Has l 8 (Op.slice K.t (.tmp s5) (some (.tmp s7)) none none) s8)
    (h9 : Has l 9 (app K s4 s8) s9) (hg : (l[9]?).map (·.guard) = some none) (d3 : After l 3 [1, 2]) (d4 : After l 4 [0, 3]) (d7 : After l 7 [6]) (d8 : After l 8 [5, 7]) (fm : Free l 9 sm) (fi : Free l 9 si)
    {L : List α} {m b : Nat} (hL : Sl.Is K w (a.eval (.tmp sm)) L b) (hi : a.eval (.tmp si) = .int .i64 m) (hml : m < L.length) (hn : L.length ≤ 100000)
    (tail : ∀ (f : Nat → Value) (u : Value) (w' : World), Sl.Own K w.heap.size w' u (L.take m ++ L.drop (m + 1)) → Below w.heap.size w w' →
      wpList Try.prog l.toArray Q (l.drop 10) ((((((((((a.put (some s0) (f 0)).put (some s1) (f 1)).put (some s2) (f 2)).put (some s3) (f 3)).put (some s4) (f 4)).put (some s5) (f 5)).put (some s6) (f 6)).put (some s7) (f 7)).put (some s8) (f 8)).put (some s9) u) w') :
    (Code.region id l.toArray true).wp Try.prog Q a w := by
  refine wp_region_rel 9 N (Cu K w.heap.size (a.eval (.tmp sm)) L m b) hm hN hB Cu.mono ?_ ?_
  · intro k hk o ho a' w' Kc hd hout hdep hB hK
    match k, hk, ho with
    | 0, _, ho => exact Sl.wp_lit0 O (h0.op ho).1 (hK _ _ ⟨_, rfl, heap_alloc_new _ _, hB.size⟩ (below1 _ _))
    | 1, _, ho => exact Sl.wp_move _ (h1.op ho).1 (hK _ _ (hout sm fm.out) (Below.refl _ _))
    | 2, _, ho => exact Sl.wp_move _ (h2.op ho).1 (hK _ _ ((hout si fi.out).trans hi) (Below.refl _ _))
    | 3, _, ho =>
      have q4 := hdep 1 (d3.mem (by simp)) s1 h1.dst
      have q5 := hdep 2 (d3.mem (by simp)) s2 h2.dst
      exact Sl.wp_take O (.tmp s1) (.tmp s2) (h3.op ho).1 (l := L) (b := b) (m := m) (by rw [show a'.eval (.tmp s1) = _ from q4]; exact hL.next hB) q5 (by omega) (fun u q => hK u _ q (Below.refl _ _))
    | 4, _, ho =>
      obtain ⟨b9, q1, q2, q3⟩ := hdep 0 (d4.mem (by simp)) s0 h0.dst
      have q4 := hdep 3 (d4.mem (by simp)) s3 h3.dst
      exact Sl.wp_append_empty O (.tmp s0) (.tmp s3) (h4.op ho).1 q1 q2 q3 (l2 := L.take m) (b2 := b) q4 (by rw [List.length_take]; omega) hB.size (fun u w' q1 q2 => hK u w' q1 q2)
    | 5, _, ho => exact Sl.wp_move _ (h5.op ho).1 (hK _ _ (hout sm fm.out) (Below.refl _ _))
    | 6, _, ho => exact Sl.wp_move _ (h6.op ho).1 (hK _ _ ((hout si fi.out).trans hi) (Below.refl _ _))
    | 7, _, ho => exact Sl.wp_succ (.tmp s6) (h7.op ho).1 (hdep 6 (d7.mem (by simp)) s6 h6.dst) (by omega) (hK _ _ rfl (Below.refl _ _))
    | 8, _, ho =>
      have q4 := hdep 5 (d8.mem (by simp)) s5 h5.dst
      have q5 := hdep 7 (d8.mem (by simp)) s7 h7.dst
      exact Sl.wp_drop O (.tmp s5) (.tmp s7) (h8.op ho).1 (l := L) (b := b) (m := m + 1) (by rw [show a'.eval (.tmp s5) = _ from q4]; exact hL.next hB) q5 (by omega) (fun u q => hK u _ q (Below.refl _ _))
  · intro f w' hv hB hev
    have e4 : Sl.Own K w.heap.size w' (f 4) (L.take m) := hv 4 (by omega)
    have e8 : Sl.Is K w' (f 8) (L.drop (m + 1)) b := hv 8 (by omega)
    have v4 := hev 4 (by omega) s4 h4.dst
    have v8 := hev 8 (by omega) s8 h8.dst
    obtain ⟨o, ho, ho1, ho2, hdr⟩ := drop_at h9
    have hgd : o.guard = none := by rw [ho] at hg; simpa using hg
    rw [hdr]
    refine wpList_plain hgd fun K' hK' => Sl.wp_append O (.tmp s4) (.tmp s8) ho1 (l := L.take m) (l2 := L.drop (m + 1)) (base := w.heap.size) (by rw [v4]; exact e4) (by rw [v8]; exact e8) (by rw [List.length_take, List.length_drop]; omega) hB.size (fun u w8 q1 q2 q3 => hK' _ _ ?_)
    have := tail f u w8 q1 (hB.grown q2 hB.size (fun k hk => by rw [v4] at hk; exact (e4.lt k hk).1))
    rw [ho2]
    simp only [Rel.puts, h0.dst, h1.dst, h2.dst, h3.dst, h4.dst, h5.dst, h6.dst, h7.dst, h8.dst]
    exact this
/-- the address of an element -/
theorem wp_at (O : K.Ok) {w : World} {o : Oper} {a : Act} {Kc : Act → World → Prop} {Q : Exit → Act → World → Prop} {l : List α} {b m off cap : Nat} (s i : Operand) (hop : o.op = Op.indexAddr K.t s i)
    (hs : a.eval s = .slice (some ⟨b, off, none⟩) l.length cap) (hi : a.eval i = .int .i64 m) (hm : m < l.length) (hK : Kc (a.put o.dst (.pointer (some ⟨b, off + m * K.k, none⟩))) w) : o.wp Try.prog a w Kc Q := by
  obtain ⟨i0, hi0, hz0, hz1, hz2⟩ := info_parts O.info
  have hu : Try.prog.underlying K.t = some (.slice (Try.prog.elem K.t)) := by rw [O.elem]; exact O.under
  have hr : (execOp a.eval o).run Try.prog w = .ok (.value (.pointer (some ⟨b, off + m * K.k, none⟩))) w := by
    have h1 : (m : Int) < l.length := by omega
    generalize a.eval = ev at hs hi
    simp only [execOp, hop, hs, hi]
    simp [run_indexAt_slice w K.t ⟨b, off, none⟩ l.length cap .i64 (m : Int) hu, O.elem, sizeOf, typeInfo, hi0, hz1, h1, Addr.add_lit, Result.andThen]
  unfold Oper.wp
  rw [hr]
  exact hK

/-- what the parts of 'append([]T{}, m[:i]..)' yield -/
def He (K : Kind α) (base : Nat) (v0 : Value) (l : List α) (m b : Nat) (k : Nat) (u : Value) (w : World) : Prop := match k with
  | 0 => ∃ b, u = .slice (some ⟨b, 0, none⟩) 0 0 ∧ w.heap[b]? = some (.cells #[] K.e (0, 0)) ∧ base ≤ b
  | 1 => u = v0
  | 2 => u = .int .i64 m
  | 3 => Sl.Is K w u (l.take m) b
  | _ => True
theorem He.mono {base : Nat} {v0 : Value} {l : List α} {m b : Nat} : ∀ k u w w', He K base v0 l m b k u w → Below w.heap.size w w' → He K base v0 l m b k u w'
  | 0, u, w, w', ⟨b, h1, h2, h3⟩, k => ⟨b, h1, (k.block b (block_lt h2)).trans h2, h3⟩
  | 1, u, w, w', h, k => h
  | 2, u, w, w', h, k => h
  | 3, u, w, w', h, k => Sl.Is.next (K := K) h k
  | k + 4, u, w, w', h, _ => trivial

/-- x = append([]T{}, m[:i]...), up to the append -/
theorem wp_head (O : K.Ok) {id : Nat} {Q : Exit → Act → World → Prop} {a : Act} {w : World} {l : List Oper} (sm si s0 s1 s2 s3 s4 N : Nat) (hm : Try.prog.follows .mixedOrders = true) (hN : a.tmps.size = N) (hB : Rel.fitB l.toArray 4 N = true)
    (h0 : Has l 0 (Op.buildSlice K.t 0 #[]) s0) (h1 : Has l 1 (Op.move (.tmp sm)) s1) (h2 : Has l 2 (Op.move (.tmp si)) s2) (h3 : Has l 3 (Op.slice K.t (.tmp s1) none (some (.tmp s2)) none) s3) (h4 : Has l 4 (app K s0 s3) s4)
    (hg : (l[4]?).map (·.guard) = some none) (d3 : After l 3 [1, 2]) (fm : Free l 4 sm) (fi : Free l 4 si)
    {L : List α} {m b : Nat} (hL : Sl.Is K w (a.eval (.tmp sm)) L b) (hi : a.eval (.tmp si) = .int .i64 m) (hml : m ≤ L.length) (hn : L.length ≤ 100000)
    (tail : ∀ (f : Nat → Value) (u : Value) (w' : World), Sl.Own K w.heap.size w' u (L.take m) → Below w.heap.size w w' →
      wpList Try.prog l.toArray Q (l.drop 5) (((((a.put (some s0) (f 0)).put (some s1) (f 1)).put (some s2) (f 2)).put (some s3) (f 3)).put (some s4) u) w') :
    (Code.region id l.toArray true).wp Try.prog Q a w := by
  refine wp_region_rel 4 N (He K w.heap.size (a.eval (.tmp sm)) L m b) hm hN hB He.mono ?_ ?_
  · intro k hk o ho a' w' Kc hd hout hdep hB hK
    match k, hk, ho with
    | 0, _, ho => exact Sl.wp_lit0 O (h0.op ho).1 (hK _ _ ⟨_, rfl, heap_alloc_new _ _, hB.size⟩ (below1 _ _))
    | 1, _, ho => exact Sl.wp_move _ (h1.op ho).1 (hK _ _ (hout sm fm.out) (Below.refl _ _))
    | 2, _, ho => exact Sl.wp_move _ (h2.op ho).1 (hK _ _ ((hout si fi.out).trans hi) (Below.refl _ _))
    | 3, _, ho =>
      have q4 := hdep 1 (d3.mem (by simp)) s1 h1.dst
      have q5 := hdep 2 (d3.mem (by simp)) s2 h2.dst
      exact Sl.wp_take O (.tmp s1) (.tmp s2) (h3.op ho).1 (l := L) (b := b) (m := m) (by rw [show a'.eval (.tmp s1) = _ from q4]; exact hL.next hB) q5 (by omega) (fun u q => hK u _ q (Below.refl _ _))
  · intro f w' hv hB hev
    obtain ⟨b9, q1, q2, q3⟩ := hv 0 (by omega)
    have e3 : Sl.Is K w' (f 3) (L.take m) b := hv 3 (by omega)
    have v0 := hev 0 (by omega) s0 h0.dst
    have v3 := hev 3 (by omega) s3 h3.dst
    obtain ⟨o, ho, ho1, ho2, hdr⟩ := drop_at h4
    have hgd : o.guard = none := by rw [ho] at hg; simpa using hg
    rw [hdr]
    refine wpList_plain hgd fun K' hK' => Sl.wp_append_empty O (.tmp s0) (.tmp s3) ho1 (l2 := L.take m) (b2 := b) (base := w.heap.size) (by rw [v0]; exact q1) q2 q3 (by rw [v3]; exact e3) (by rw [List.length_take]; omega) hB.size (fun u w8 x1 x2 => hK' _ _ ?_)
    have := tail f u w8 x1 (after hB x2)
    rw [ho2]
    simp only [Rel.puts, h0.dst, h1.dst, h2.dst, h3.dst]
    exact this

/-- what the parts of 'append([]T{}, m..)' yield -/
def Co (K : Kind α) (base : Nat) (v0 : Value) (k : Nat) (u : Value) (w : World) : Prop := match k with
  | 0 => ∃ b, u = .slice (some ⟨b, 0, none⟩) 0 0 ∧ w.heap[b]? = some (.cells #[] K.e (0, 0)) ∧ base ≤ b
  | 1 => u = v0
  | _ => True
theorem Co.mono {base : Nat} {v0 : Value} : ∀ k u w w', Co K base v0 k u w → Below w.heap.size w w' → Co K base v0 k u w'
  | 0, u, w, w', ⟨b, h1, h2, h3⟩, k => ⟨b, h1, (k.block b (block_lt h2)).trans h2, h3⟩
  | 1, u, w, w', h, k => h
  | k + 2, u, w, w', h, _ => trivial
/-- x = append([]T{}, m...), up to the append -/
theorem wp_copy (O : K.Ok) {id : Nat} {Q : Exit → Act → World → Prop} {a : Act} {w : World} {l : List Oper} (sm s0 s1 s2 N : Nat) (hm : Try.prog.follows .mixedOrders = true) (hN : a.tmps.size = N) (hB : Rel.fitB l.toArray 2 N = true)
    (h0 : Has l 0 (Op.buildSlice K.t 0 #[]) s0) (h1 : Has l 1 (Op.move (.tmp sm)) s1) (h2 : Has l 2 (app K s0 s1) s2) (hg : (l[2]?).map (·.guard) = some none) (fm : Free l 2 sm)
    {L : List α} {b : Nat} (hL : Sl.Is K w (a.eval (.tmp sm)) L b) (hn : L.length ≤ 100000)
    (tail : ∀ (f : Nat → Value) (u : Value) (w' : World), Sl.Own K w.heap.size w' u L → Below w.heap.size w w' →
      wpList Try.prog l.toArray Q (l.drop 3) (((a.put (some s0) (f 0)).put (some s1) (f 1)).put (some s2) u) w') :
    (Code.region id l.toArray true).wp Try.prog Q a w := by
  refine wp_region_rel 2 N (Co K w.heap.size (a.eval (.tmp sm))) hm hN hB Co.mono ?_ ?_
  · intro k hk o ho a' w' Kc hd hout hdep hB hK
    match k, hk, ho with
    | 0, _, ho => exact Sl.wp_lit0 O (h0.op ho).1 (hK _ _ ⟨_, rfl, heap_alloc_new _ _, hB.size⟩ (below1 _ _))
    | 1, _, ho => exact Sl.wp_move _ (h1.op ho).1 (hK _ _ (hout sm fm.out) (Below.refl _ _))
  · intro f w' hv hB hev
    obtain ⟨b9, q1, q2, q3⟩ := hv 0 (by omega)
    have e1 : f 1 = a.eval (.tmp sm) := hv 1 (by omega)
    have v0 := hev 0 (by omega) s0 h0.dst
    have v1 := hev 1 (by omega) s1 h1.dst
    obtain ⟨o, ho, ho1, ho2, hdr⟩ := drop_at h2
    have hgd : o.guard = none := by rw [ho] at hg; simpa using hg
    rw [hdr]
    refine wpList_plain hgd fun K' hK' => Sl.wp_append_empty O (.tmp s0) (.tmp s1) ho1 (l2 := L) (b2 := b) (base := w.heap.size) (by rw [v0]; exact q1) q2 q3 (by rw [v1, e1]; exact hL.next hB) (by omega) hB.size (fun u w8 x1 x2 => hK' _ _ ?_)
    have := tail f u w8 x1 (after hB x2)
    rw [ho2]
    simp only [Rel.puts, h0.dst, h1.dst]
    exact this

/-- what the parts of 'append(r, m[i])' yield -/
def Pu (K : Kind α) (v : α → Value) (base : Nat) (vr v0 : Value) (x : α) (m : Nat) (p : Value) (k : Nat) (u : Value) (w : World) : Prop := match k with
  | 0 => u = vr
  | 1 => u = v0
  | 2 => u = .int .i64 m
  | 3 => u = p
  | 4 => u = v x
  | 5 => ∃ b, u = .slice (some ⟨b, 0, none⟩) 1 1 ∧ Lies w b K.e (K.cl x)
  | _ => True
theorem Pu.mono {base : Nat} {vr v0 p : Value} {x : α} {m : Nat} : ∀ k u w w', Pu K v base vr v0 x m p k u w → Below w.heap.size w w' → Pu K v base vr v0 x m p k u w'
  | 0, u, w, w', h, k => h
  | 1, u, w, w', h, k => h
  | 2, u, w, w', h, k => h
  | 3, u, w, w', h, k => h
  | 4, u, w, w', h, k => h
  | 5, u, w, w', ⟨b, h1, h2⟩, k => ⟨b, h1, h2.next k⟩
  | k + 6, u, w, w', h, _ => trivial
/-- r = append(r, m[i]), up to the append: r is the call's own, from base on, and m lies elsewhere, or not -/
theorem wp_push (O : K.Ok) (V : K.Val v) {id : Nat} {Q : Exit → Act → World → Prop} {a : Act} {w : World} {l : List Oper} (sr sm si s0 s1 s2 s3 s4 s5 s6 N : Nat) (hm : Try.prog.follows .mixedOrders = true) (hN : a.tmps.size = N) (hB : Rel.fitB l.toArray 6 N = true)
    (h0 : Has l 0 (Op.move (.tmp sr)) s0) (h1 : Has l 1 (Op.move (.tmp sm)) s1) (h2 : Has l 2 (Op.move (.tmp si)) s2) (h3 : Has l 3 (Op.indexAddr K.t (.tmp s1) (.tmp s2)) s3) (h4 : Has l 4 (Op.load K.e (.tmp s3)) s4) (h5 : Has l 5 (Op.buildSlice K.t 1 #[(0, .tmp s4)]) s5)
    (h6 : Has l 6 (app K s0 s5) s6) (hg : (l[6]?).map (·.guard) = some none) (d3 : After l 3 [1, 2]) (d4 : After l 4 [3]) (d5 : After l 5 [4]) (fr : Free l 6 sr) (fm : Free l 6 sm) (fi : Free l 6 si)
    {base : Nat} {R L : List α} {x : α} {m b : Nat} (hR : Sl.Own K base w (a.eval (.tmp sr)) R) (hL : Sl.Is K w (a.eval (.tmp sm)) L b) (hi : a.eval (.tmp si) = .int .i64 m) (hx : L[m]? = some x) (hn : R.length ≤ 100000) (hb : base ≤ w.heap.size)
    (tail : ∀ (f : Nat → Value) (u : Value) (w' : World), Sl.Own K base w' u (R ++ [x]) → w.grownBy w' (a.eval (.tmp sr)).ownBlock → (u.ownBlock = (a.eval (.tmp sr)).ownBlock ∨ ∃ g, u.ownBlock = some g ∧ w.heap.size ≤ g) →
      wpList Try.prog l.toArray Q (l.drop 7) (((((((a.put (some s0) (f 0)).put (some s1) (f 1)).put (some s2) (f 2)).put (some s3) (f 3)).put (some s4) (f 4)).put (some s5) (f 5)).put (some s6) u) w') :
    (Code.region id l.toArray true).wp Try.prog Q a w := by
  have hml : m < L.length := (List.getElem?_eq_some_iff.1 hx).1
  obtain ⟨off, cap, hv0, g2, g3, g4, hcell⟩ := hL.some_ O (by omega)
  refine wp_region_rel 6 N (Pu K v base (a.eval (.tmp sr)) (a.eval (.tmp sm)) x m (.pointer (some ⟨b, off + m * K.k, none⟩))) hm hN hB Pu.mono ?_ ?_
  · intro k hk o ho a' w' Kc hd hout hdep hB hK
    match k, hk, ho with
    | 0, _, ho => exact Sl.wp_move _ (h0.op ho).1 (hK _ _ (hout sr fr.out) (Below.refl _ _))
    | 1, _, ho => exact Sl.wp_move _ (h1.op ho).1 (hK _ _ (hout sm fm.out) (Below.refl _ _))
    | 2, _, ho => exact Sl.wp_move _ (h2.op ho).1 (hK _ _ ((hout si fi.out).trans hi) (Below.refl _ _))
    | 3, _, ho =>
      have q4 := hdep 1 (d3.mem (by simp)) s1 h1.dst
      have q5 := hdep 2 (d3.mem (by simp)) s2 h2.dst
      exact wp_at O (l := L) (m := m) (.tmp s1) (.tmp s2) (h3.op ho).1 ((show a'.eval (.tmp s1) = _ from q4).trans hv0) q5 hml (hK _ _ rfl (Below.refl _ _))
    | 4, _, ho => exact V.load x _ _ _ _ _ _ b (off + m * K.k) (h4.op ho).1 (hdep 3 (d4.mem (by simp)) s3 h3.dst) (fun j u hj => by rw [Nat.add_assoc]; exact cell_keep hB (hcell m x hx j u hj)) (hK _ _ rfl (Below.refl _ _))
    | 5, _, ho => exact Sl.wp_lit1 (.tmp s4) x (h5.op ho).1 (hdep 4 (d5.mem (by simp)) s4 h4.dst) (V.lit1 _ _) (hK _ _ ⟨_, rfl, Lies.new _ _ _⟩ (below1 _ _))
  · intro f w' hv hB hev
    have e0 : f 0 = a.eval (.tmp sr) := hv 0 (by omega)
    obtain ⟨b9, e4, e5⟩ := hv 5 (by omega)
    have v0 := hev 0 (by omega) s0 h0.dst
    have v5 := hev 5 (by omega) s5 h5.dst
    obtain ⟨o, ho, ho1, ho2, hdr⟩ := drop_at h6
    have hgd : o.guard = none := by rw [ho] at hg; simpa using hg
    rw [hdr]
    refine wpList_plain hgd fun K' hK' => Sl.wp_append O (.tmp s0) (.tmp s5) ho1 (l := R) (l2 := [x]) (base := base) (by rw [v0, e0]; exact hR.next hB) (by rw [v5, e4]; exact Sl.Is.one O e5) (by simp; omega) (Nat.le_trans hb hB.size) (fun u w8 q1 q2 q3 => hK' _ _ ?_)
    rw [v0, e0] at q2 q3
    have := tail f u w8 q1 ⟨q2.os.trans hB.os, q2.tape.trans hB.tape, q2.output.trans hB.output, Nat.le_trans hB.size q2.size, fun k hk hne => (q2.block k (Nat.lt_of_lt_of_le hk hB.size) hne).trans (hB.block k hk)⟩
      (by rcases q3 with q3 | q3; exact .inl q3; exact .inr ⟨_, q3, hB.size⟩)
    rw [ho2]
    simp only [Rel.puts, h0.dst, h1.dst, h2.dst, h3.dst, h4.dst, h5.dst]
    exact this
/-- what the parts of 'append(r, m[i:]..)' yield -/
def En (K : Kind α) (vr v0 : Value) (l : List α) (m b : Nat) (k : Nat) (u : Value) (w : World) : Prop := match k with
  | 0 => u = vr
  | 1 => u = v0
  | 2 => u = .int .i64 m
  | 3 => Sl.Is K w u (l.drop m) b
  | _ => True
theorem En.mono {vr v0 : Value} {l : List α} {m b : Nat} : ∀ k u w w', En K vr v0 l m b k u w → Below w.heap.size w w' → En K vr v0 l m b k u w'
  | 0, u, w, w', h, k => h
  | 1, u, w, w', h, k => h
  | 2, u, w, w', h, k => h
  | 3, u, w, w', h, k => Sl.Is.next (K := K) h k
  | k + 4, u, w, w', h, _ => trivial
/-- r = append(r, m[i:]...), up to the append -/
theorem wp_end (O : K.Ok) {id : Nat} {Q : Exit → Act → World → Prop} {a : Act} {w : World} {l : List Oper} (sr sm si s0 s1 s2 s3 s4 N : Nat) (hm : Try.prog.follows .mixedOrders = true) (hN : a.tmps.size = N) (hB : Rel.fitB l.toArray 4 N = true)
    (h0 : Has l 0 (Op.move (.tmp sr)) s0) (h1 : Has l 1 (Op.move (.tmp sm)) s1) (h2 : Has l 2 (Op.move (.tmp si)) s2) (h3 : Has l 3 (Op.slice K.t (.tmp s1) (some (.tmp s2)) none none) s3) (h4 : Has l 4 (app K s0 s3) s4)
    (hg : (l[4]?).map (·.guard) = some none) (d3 : After l 3 [1, 2]) (fr : Free l 4 sr) (fm : Free l 4 sm) (fi : Free l 4 si)
    {base : Nat} {R L : List α} {m b : Nat} (hR : Sl.Own K base w (a.eval (.tmp sr)) R) (hL : Sl.Is K w (a.eval (.tmp sm)) L b) (hi : a.eval (.tmp si) = .int .i64 m) (hml : m ≤ L.length) (hn : R.length + L.length ≤ 100000) (hb : base ≤ w.heap.size)
    (tail : ∀ (f : Nat → Value) (u : Value) (w' : World), Sl.Own K base w' u (R ++ L.drop m) → w.grownBy w' (a.eval (.tmp sr)).ownBlock → (u.ownBlock = (a.eval (.tmp sr)).ownBlock ∨ ∃ g, u.ownBlock = some g ∧ w.heap.size ≤ g) →
      wpList Try.prog l.toArray Q (l.drop 5) (((((a.put (some s0) (f 0)).put (some s1) (f 1)).put (some s2) (f 2)).put (some s3) (f 3)).put (some s4) u) w') :
    (Code.region id l.toArray true).wp Try.prog Q a w := by
  refine wp_region_rel 4 N (En K (a.eval (.tmp sr)) (a.eval (.tmp sm)) L m b) hm hN hB En.mono ?_ ?_
  · intro k hk o ho a' w' Kc hd hout hdep hB hK
    match k, hk, ho with
    | 0, _, ho => exact Sl.wp_move _ (h0.op ho).1 (hK _ _ (hout sr fr.out) (Below.refl _ _))
    | 1, _, ho => exact Sl.wp_move _ (h1.op ho).1 (hK _ _ (hout sm fm.out) (Below.refl _ _))
    | 2, _, ho => exact Sl.wp_move _ (h2.op ho).1 (hK _ _ ((hout si fi.out).trans hi) (Below.refl _ _))
    | 3, _, ho =>
      have q4 := hdep 1 (d3.mem (by simp)) s1 h1.dst
      have q5 := hdep 2 (d3.mem (by simp)) s2 h2.dst
      exact Sl.wp_drop O (.tmp s1) (.tmp s2) (h3.op ho).1 (l := L) (b := b) (m := m) (by rw [show a'.eval (.tmp s1) = _ from q4]; exact hL.next hB) q5 hml (fun u q => hK u _ q (Below.refl _ _))
  · intro f w' hv hB hev
    have e0 : f 0 = a.eval (.tmp sr) := hv 0 (by omega)
    have e3 : Sl.Is K w' (f 3) (L.drop m) b := hv 3 (by omega)
    have v0 := hev 0 (by omega) s0 h0.dst
    have v3 := hev 3 (by omega) s3 h3.dst
    obtain ⟨o, ho, ho1, ho2, hdr⟩ := drop_at h4
    have hgd : o.guard = none := by rw [ho] at hg; simpa using hg
    rw [hdr]
    refine wpList_plain hgd fun K' hK' => Sl.wp_append O (.tmp s0) (.tmp s3) ho1 (l := R) (l2 := L.drop m) (base := base) (by rw [v0, e0]; exact hR.next hB) (by rw [v3]; exact e3) (by rw [List.length_drop]; omega) (Nat.le_trans hb hB.size) (fun u w8 q1 q2 q3 => hK' _ _ ?_)
    rw [v0, e0] at q2 q3
    have := tail f u w8 q1 ⟨q2.os.trans hB.os, q2.tape.trans hB.tape, q2.output.trans hB.output, Nat.le_trans hB.size q2.size, fun k hk hne => (q2.block k (Nat.lt_of_lt_of_le hk hB.size) hne).trans (hB.block k hk)⟩
      (by rcases q3 with q3 | q3; exact .inl q3; exact .inr ⟨_, q3, hB.size⟩)
    rw [ho2]
    simp only [Rel.puts, h0.dst, h1.dst, h2.dst, h3.dst]
    exact this

/-- what the parts of 'append(r, p)' yield, p a variable -/
def Ad (K : Kind α) (v : α → Value) (vr : Value) (x : α) (k : Nat) (u : Value) (w : World) : Prop := match k with
  | 0 => u = vr
  | 1 => u = v x
  | 2 => ∃ b, u = .slice (some ⟨b, 0, none⟩) 1 1 ∧ Lies w b K.e (K.cl x)
  | _ => True
theorem Ad.mono {vr : Value} {x : α} : ∀ k u w w', Ad K v vr x k u w → Below w.heap.size w w' → Ad K v vr x k u w'
  | 0, u, w, w', h, k => h
  | 1, u, w, w', h, k => h
  | 2, u, w, w', ⟨b, h1, h2⟩, k => ⟨b, h1, h2.next k⟩
  | k + 3, u, w, w', h, _ => trivial
/-- r = append(r, p), up to the append -/
theorem wp_add (O : K.Ok) (V : K.Val v) {id : Nat} {Q : Exit → Act → World → Prop} {a : Act} {w : World} {l : List Oper} (sr sp s0 s1 s2 s3 N : Nat) (hm : Try.prog.follows .mixedOrders = true) (hN : a.tmps.size = N) (hB : Rel.fitB l.toArray 3 N = true)
    (h0 : Has l 0 (Op.move (.tmp sr)) s0) (h1 : Has l 1 (Op.load K.e (.tmp sp)) s1) (h2 : Has l 2 (Op.buildSlice K.t 1 #[(0, .tmp s1)]) s2) (h3 : Has l 3 (app K s0 s2) s3) (hg : (l[3]?).map (·.guard) = some none) (d2 : After l 2 [1]) (fr : Free l 3 sr) (fp : Free l 3 sp)
    {base pb po : Nat} {R : List α} {x : α} (hR : Sl.Own K base w (a.eval (.tmp sr)) R) (hp : a.eval (.tmp sp) = .pointer (some ⟨pb, po, none⟩)) (hx : ∀ j u, (K.cl x)[j]? = some u → w.cell? ⟨pb, po + j, none⟩ = some u) (hn : R.length ≤ 100000) (hb : base ≤ w.heap.size)
    (tail : ∀ (f : Nat → Value) (u : Value) (w' : World), Sl.Own K base w' u (R ++ [x]) → w.grownBy w' (a.eval (.tmp sr)).ownBlock → (u.ownBlock = (a.eval (.tmp sr)).ownBlock ∨ ∃ g, u.ownBlock = some g ∧ w.heap.size ≤ g) →
      wpList Try.prog l.toArray Q (l.drop 4) ((((a.put (some s0) (f 0)).put (some s1) (f 1)).put (some s2) (f 2)).put (some s3) u) w') :
    (Code.region id l.toArray true).wp Try.prog Q a w := by
  refine wp_region_rel 3 N (Ad K v (a.eval (.tmp sr)) x) hm hN hB Ad.mono ?_ ?_
  · intro k hk o ho a' w' Kc hd hout hdep hB hK
    match k, hk, ho with
    | 0, _, ho => exact Sl.wp_move _ (h0.op ho).1 (hK _ _ (hout sr fr.out) (Below.refl _ _))
    | 1, _, ho => exact V.load x _ _ _ _ _ _ pb po (h1.op ho).1 ((hout sp fp.out).trans hp) (fun j u hj => cell_keep hB (hx j u hj)) (hK _ _ rfl (Below.refl _ _))
    | 2, _, ho => exact Sl.wp_lit1 (.tmp s1) x (h2.op ho).1 (hdep 1 (d2.mem (by simp)) s1 h1.dst) (V.lit1 _ _) (hK _ _ ⟨_, rfl, Lies.new _ _ _⟩ (below1 _ _))
  · intro f w' hv hB hev
    have e0 : f 0 = a.eval (.tmp sr) := hv 0 (by omega)
    obtain ⟨b9, e4, e5⟩ := hv 2 (by omega)
    have v0 := hev 0 (by omega) s0 h0.dst
    have v2 := hev 2 (by omega) s2 h2.dst
    obtain ⟨o, ho, ho1, ho2, hdr⟩ := drop_at h3
    have hgd : o.guard = none := by rw [ho] at hg; simpa using hg
    rw [hdr]
    refine wpList_plain hgd fun K' hK' => Sl.wp_append O (.tmp s0) (.tmp s2) ho1 (l := R) (l2 := [x]) (base := base) (by rw [v0, e0]; exact hR.next hB) (by rw [v2, e4]; exact Sl.Is.one O e5) (by simp; omega) (Nat.le_trans hb hB.size) (fun u w8 q1 q2 q3 => hK' _ _ ?_)
    rw [v0, e0] at q2 q3
    have := tail f u w8 q1 ⟨q2.os.trans hB.os, q2.tape.trans hB.tape, q2.output.trans hB.output, Nat.le_trans hB.size q2.size, fun k hk hne => (q2.block k (Nat.lt_of_lt_of_le hk hB.size) hne).trans (hB.block k hk)⟩
      (by rcases q3 with q3 | q3; exact .inl q3; exact .inr ⟨_, q3, hB.size⟩)
    rw [ho2]
    simp only [Rel.puts, h0.dst, h1.dst, h2.dst]
    exact this
end Reg
end Go.Proofs.Ytnheehodgkagfaa
