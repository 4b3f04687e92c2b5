/-
  Contract of the heap's own method Push: one more behind all, in the list and in the map.
-/
import Derived.Test.YtomoophjcgahlaaTmrSwap
import Derived.Deep.RegionLaw
namespace Go.Proofs.Ytomoophjcgahlaa
open Go.ChangeShapes Go.WideShapes Go.ChangeAt Go.RowKit
namespace Tmr
open Small
set_option linter.unusedVariables false

theorem assert_ok (v : Value) (w : World) : (Instr.typeAssert (.iface 30 v) 20 30 true).run Try.prog w = .ok (.tuple #[v, .bool true]) w := by kernel_rfl
theorem infoT : (Try.prog.info? 30).map (fun i => (i.zero, i.size, i.bytes)) = some (some (.agg #[.string ⟨#[]⟩, .int .i64 0, .int .i64 0]), 3, 32) := by kernel_rfl

/-- append of one, as a step of a statement that draws its order -/
theorem step_append_one {ops : Array Oper} {o : Oper} {a : Act} {w : World} {K : Act → World → Prop} {Q : Exit → Act → World → Prop} {E : Prop}
    (hg : o.guard = none) (s x : Operand) (hop : o.op = Op.call { callee := Callee.builtin Builtin.append, args := #[s, x], argTypes := #[46, 46] })
    (v : Value) (n : Nat) (xs : List Value) (hs : a.eval s = v) (hown : w.ownsRow 0 30 3 v n xs) (b : Nat) (y : Tm) (hx : a.eval x = .slice (some ⟨b, 0, none⟩) 1 1)
    (hb : Lies w b 30 [.string y.key, .int .i64 y.s, .int .i64 y.e]) (hn : n ≤ 1048576)
    (hK : ∀ r' cap' w', w'.ownsRow 0 30 3 (.slice (some ⟨r', 0, none⟩) (n + 1 : Nat) cap') (n + 1) (xs ++ [.string y.key, .int .i64 y.s, .int .i64 y.e]) → w.grownBy w' v.ownBlock → (some r' = v.ownBlock ∨ r' = w.heap.size) → K (a.put o.dst (.slice (some ⟨r', 0, none⟩) (n + 1 : Nat) cap')) w') :
    if Region.wanted o (yielded ops a.tmps) = true then Oper.wp Try.prog o a w K Q else E := by
  have hw : Region.wanted o (yielded ops a.tmps) = true := by simp [Region.wanted, hg]
  rw [if_pos hw]
  obtain ⟨i0, hi, hz0, hz1, hz2⟩ := info_parts infoT
  obtain ⟨v', w', hr, h2, h3, _, h5⟩ := run_append_own_at (P := Try.prog) w 0 46 o.type 30 i0 _ 3 32 Try.underlying46 hi hz0 hz1 hz2 rfl (by decide) v n xs hown ⟨b, 0, none⟩ 1 1
    [.string y.key, .int .i64 y.s, .int .i64 y.e] rfl (fun j u hj => by rw [Addr.add_lit, Nat.zero_add]; exact hb.cell hj) (by simp [Value.oneCell']) (by unfold maxLen; omega) (by omega) (Nat.zero_le _)
  unfold Oper.wp
  simp [execOp, hop, resolve, invoke, builtin, hs, hx, hr, Result.andThen]
  rcases h2.2 with ⟨_, h6⟩ | ⟨r', cap', cur, h6, _⟩
  · omega
  · subst h6
    exact hK r' cap' w' h2 h3 (by simpa [Value.ownBlock] using h5)

def Pushed (g m r n : Nat) (f : Nat → Tm) (w : World) (e : Ending) (w' : World) : Prop := e = .returned (.tuple #[]) ∧ ∃ r' v p, Qu w' g m r' f n v p ∧ Mv g m r w w' ∧ (r' = r ∨ w.heap.size ≤ r')

theorem place_push {f : Nat → Tm} {n : Nat} {p : Tm → Option Nat} {x : Tm} (hp : ∀ y k, p y = some k ↔ k < n ∧ f k = y) (hx : p x = none) : ∀ y k, place1 p x n y = some k ↔ k < n + 1 ∧ put f n x k = y := by
  intro y k
  unfold place1 put
  by_cases h : y = x
  · subst h
    simp only [if_true]
    constructor
    · intro e; obtain rfl := Option.some.inj e; exact ⟨by omega, by simp⟩
    · rintro ⟨hk, e⟩
      by_cases hk' : k = n
      · rw [hk']
      · rw [if_neg hk'] at e
        have := (hp y k).2 ⟨by omega, e⟩
        rw [hx] at this; cases this
  · simp only [h, if_false]
    rw [hp]
    constructor
    · rintro ⟨hk, rfl⟩; exact ⟨by omega, by rw [if_neg (by omega)]⟩
    · rintro ⟨hk, e⟩
      by_cases hk' : k = n
      · rw [if_pos hk'] at e; exact absurd e.symm h
      · rw [if_neg hk'] at e; exact ⟨by omega, e⟩
theorem rows_push (f : Nat → Tm) (n : Nat) (x : Tm) : rows f n ++ [.string x.key, .int .i64 x.s, .int .i64 x.e] = rows (put f n x) (n + 1) := by
  rw [rows, rows_eq (f' := put f n x) (f := f) (fun k hk => by simp [put, show ¬ k = n by omega])]
  simp [put]

theorem set_mv (w : World) (g m r o : Nat) (u : Value) : Mv g m r w (w.setCell ⟨g, o, none⟩ u) :=
  ⟨rfl, rfl, rfl, by simp [World.setCell], fun k _ hk _ _ => Below.heap_setCell w ⟨g, o, none⟩ u k hk⟩

theorem push_tail {g m r n cap r2 cap2 : Nat} {ad : Option Addr} {f : Nat → Tm} {p : Tm → Option Nat} {x : Tm} {w W w1 Wa w2 : World} (H : Qu w g m r f n (.slice ad n cap) p) (hx : p x = none) (fx : Fits x) (hn : n < 1048576)
    (B0 : Below w.heap.size w W) (G1 : W.grownBy w1 (some m)) (M1 : Mp w1 m (place1 p x n) (n + 1)) (gl : g < w1.heap.size) (NG : some g ≠ (Value.slice ad n cap).ownBlock) (ba : Below w1.heap.size w1 Wa)
    (O2 : w2.ownsRow 0 30 3 (.slice (some ⟨r2, 0, none⟩) (n + 1 : Nat) cap2) (n + 1) (rows f n ++ [.string x.key, .int .i64 x.s, .int .i64 x.e])) (G2 : Wa.grownBy w2 (Value.slice ad n cap).ownBlock)
    (A2 : some r2 = (Value.slice ad n cap).ownBlock ∨ r2 = Wa.heap.size) (L2 : Lies w2 g 52 [.slice ad n cap, .map (some m)]) :
    Pushed g m r (n + 1) (put f n x) w (.returned (.tuple #[])) (w2.setCell ⟨g, 0, none⟩ (.slice (some ⟨r2, 0, none⟩) (n + 1 : Nat) cap2)) := by
  have s1 := B0.size
  have s2 := G1.size
  have s3 := ba.size
  have nm : m ≠ g := fun e => H.ne_gm e.symm
  have own : ∀ k, (Value.slice ad n cap).ownBlock = some k → k = r := fun k hk => by
    rcases H.at_ with e | e
    · rw [e] at hk; cases hk
    · rw [e] at hk; cases hk; rfl
  have mo : some m ≠ (Value.slice ad n cap).ownBlock := fun e => by
    obtain ⟨es, clock, h2⟩ := H.map.map
    rcases H.row.2 with ⟨h3, _⟩ | ⟨g', cap', cur, h3, _, h4, _⟩
    · rw [h3] at e; cases e
    · rw [h3] at e; simp [Value.ownBlock] at e; subst e; rw [h2] at h4; cases h4
  have rg : r2 ≠ g := fun e => by
    rcases A2 with h | h
    · exact NG (by rw [← e]; exact h)
    · omega
  have V : Mv g m r w w2 := by
    refine ((((Mv.of_below B0).trans (.inl rfl) (Mv.of_grown G1 (fun k hk => .inr (.inl (by cases hk; rfl))))).then ba).trans (.inl rfl) (Mv.of_grown G2 (fun k hk => .inr (.inr (own k hk)))))
  refine ⟨rfl, r2, _, _, ⟨L2.put 0 _, ?_, .inr rfl, ?_, place_push H.place hx, ?_, by omega⟩, V.trans (.inl rfl) (set_mv _ _ _ _ _ _), ?_⟩
  · rw [← rows_push]
    exact own_keep O2 (fun b hb => by
      simp [Value.ownBlock] at hb
      subst hb
      exact Below.heap_setCell w2 _ _ _ rg)
  · refine M1.kept ((Below.heap_setCell w2 _ _ _ nm).trans ((G2.block m (by have := M1.lt; omega) mo).trans (ba.block m M1.lt)))
  · intro k hk
    unfold put
    split
    · exact fx
    · exact H.fits k (by omega)
  · rcases A2 with h | h
    · exact .inl (own r2 h.symm)
    · right; omega

set_option maxHeartbeats 3200000 in
theorem push_ok {g m r n : Nat} {f : Nat → Tm} {v : Value} {p : Tm → Option Nat} (w : World) (x : Tm) (H : Hid (Qu w g m r f n v p)) (hx : Hid (p x = none)) (fx : Hid (Fits x)) (hn : n < 1048576) :
    Calls Try.prog 45 #[.pointer (some ⟨g, 0, none⟩), .iface 30 (tv x)] w (Pushed g m r (n + 1) (put f n x) w) := by
  obtain ⟨ad, cap, rfl⟩ := H.out.len
  have c0 := H.out.lies.cell (i := 0) rfl
  have c1 := H.out.lies.cell (i := 1) rfl
  have gl := H.out.lies.lt
  have ha := assert_ok (tv x) w
  go_enter Try.func45, Try.ntmps45
  go_wp2_with fail
  obtain ⟨W, hW⟩ : ∃ W, W = w.alloc (Obj.cells #[.string x.key, .int .i64 x.s, .int .i64 x.e] 30) := ⟨_, rfl⟩
  rw [← hW]
  have B0 : Below w.heap.size w W := by rw [hW]; exact below1 _ _
  have X : Lies W w.heap.size 30 [.string x.key, .int .i64 x.s, .int .i64 x.e] := by rw [hW]; exact Lies.new _ _ _
  have gr : Hid (¬ g = w.heap.size) := Lib.hid (by omega)
  clear hW c0 c1 ha
  have Q0 := Lib.hid (H.out.next B0)
  have c0 := Q0.out.lies.cell (i := 0) rfl
  have c1 := Q0.out.lies.cell (i := 1) rfl
  have x0 := X.cell (i := 0) rfl
  have x1 := X.cell (i := 1) rfl
  have x2 := X.cell (i := 2) rfl
  have X := Lib.hid X
  have B0 := Lib.hid B0
  go_still_tail 10, (by kernel_rfl)
  refine wpList_store rfl _ _ _ rfl (x := x) (i := n) (m := m) rfl rfl rfl (Q0.out.map.kept rfl) fx.out (by omega) (by omega) (place1_upd _ _ _) ?_
  intro w1 M1 g1
  rw [if_pos hx.out] at M1
  have G1 : Hid (W.grownBy w1 (some m)) := Lib.hid ⟨g1.os, g1.tape, g1.output, g1.size, g1.block⟩
  have M1 := Lib.hid M1
  clear g1 c0 c1 x0 x1 x2
  have nm : m ≠ g := fun e => Q0.out.ne_gm e.symm
  have NM := Lib.hid nm
  have nx : m ≠ w.heap.size := by have := H.out.map.lt; omega
  have NX := Lib.hid nx
  clear nm nx
  have L1 : Hid (Lies w1 g 52 [.slice ad n cap, .map (some m)]) := Lib.hid ((G1.out.block _ Q0.out.lies.lt (by simpa using NM.out.symm)).trans Q0.out.lies)
  have X1 : Hid (Lies w1 w.heap.size 30 [.string x.key, .int .i64 x.s, .int .i64 x.e]) := Lib.hid ((G1.out.block _ X.out.lt (by simpa using NX.out.symm)).trans X.out)
  have R1 : Hid (w1.ownsRow 0 30 3 (.slice ad n cap) n (rows f n)) := Lib.hid (own_keep Q0.out.row (fun b hb => G1.out.block _ (Q0.out.row.lt b hb).2 (fun e => by
    cases e
    rcases Q0.out.at_ with e | e
    · rw [e] at hb; cases hb
    · rw [e] at hb; cases hb
      have h1 := Q0.out.row
      obtain ⟨es, clock, h2⟩ := Q0.out.map.map
      rcases h1.2 with ⟨h3, _⟩ | ⟨g', cap', cur, h3, _, h4, _⟩
      · rw [h3] at e; cases e
      · rw [h3] at e; simp [Value.ownBlock] at e; subst e; rw [h2] at h4; cases h4)))
  have c0 := L1.out.cell (i := 0) rfl
  have f0 := L1.out.open_ 0
  have x0 := X1.out.cell (i := 0) rfl
  have x1 := X1.out.cell (i := 1) rfl
  have x2 := X1.out.cell (i := 2) rfl
  have s1 : w.heap.size < w1.heap.size := X1.out.lt
  have s2 : g < w1.heap.size := L1.out.lt
  have ng : some g ≠ (Value.slice ad n cap).ownBlock := fun e => by
    rcases R1.out.2 with ⟨h3, _⟩ | ⟨g', cap', cur, h3, _, h4, _⟩
    · rw [h3] at e; cases e
    · rw [h3] at e
      simp [Value.ownBlock] at e
      subst e
      have := L1.out
      unfold Lies at this
      rw [h4] at this
      simp at this
  have NG := Lib.hid ng
  clear ng
  go_wp2_with fail
  go_region_law (refine step_append_one rfl _ _ rfl (.slice ad n cap) n (rows f n) (by simp [Act.eval]) (R1.out.drew.alloc _) w1.heap.size x (by simp [Act.eval]) (Lies.new _ _ _) (by omega) ?_; intro r2 cap2 w2 o2 g2 a2; have L2 : Hid (Lies w2 g 52 [.slice ad n cap, .map (some m)]) := Lib.hid ((g2.block g (by simp; omega) NG.out).trans (L1.out.drew.alloc _)); have d0 := L2.out.cell (i := 0) rfl; have d1 := L2.out.open_ 0; have O2 := Lib.hid o2; have G2 := Lib.hid g2; have A2 := Lib.hid a2; clear o2 g2 a2)
  all_goals
    go_wp2
    exact bodyPost_end (v := .tuple #[]) (by simp [results, Try.results45, go_sem]) rfl (push_tail H.out hx.out fx.out hn B0.out G1.out M1.out s2 NG.out (by first | exact (below1 _ _).drew | exact (below1 _ _)) O2.out G2.out A2.out L2.out)
end Tmr
end Go.Proofs.Ytomoophjcgahlaa
