/-
  group's put: a value is merged into a key's windows.
-/
import Derived.Test.YtemklcckhpchaaaGreatGrpPut
import Derived.Test.YtemklcckhpchaaaGreatPaneMerge
import Derived.StillTailTactics
import Derived.Deep.DeepCutAuto
namespace Go.Proofs.YtemklcckhpchaaaGreat
open Go.ChangeShapes Go.WideShapes Go.ChangeAt Go.RowKit
namespace Grp
open Small Foot Pane
set_option linter.unusedVariables false

/-- the timers that are left once i of those that went out were dropped -/
def Left (M : Tmr.Tm → Prop) (key : ByteArray) (N : List (Int × Int)) (i : Nat) : Tmr.Tm → Prop := fun y => M y ∧ ∀ j q, j < i → N[j]? = some q → y ≠ ⟨key, q.1, q.2⟩
theorem left_next {M : Tmr.Tm → Prop} {key : ByteArray} {N : List (Int × Int)} {i : Nat} {q : Int × Int} (h : N[i]? = some q) (y : Tmr.Tm) : (y ≠ ⟨key, q.1, q.2⟩ ∧ Left M key N i y) ↔ Left M key N (i + 1) y := by
  constructor
  · rintro ⟨h1, h2, h3⟩
    refine ⟨h2, fun j r hj hr => ?_⟩
    by_cases e : j = i
    · subst e; rw [h] at hr; obtain rfl := Option.some.inj hr; exact h1
    · exact h3 j r (by omega) hr
  · rintro ⟨h2, h3⟩
    exact ⟨h3 i q (by omega) h, h2, fun j r hj hr => h3 j r (by omega) hr⟩
theorem cell_block {w w' : World} {a : Addr} (h : w'.heap[a.block]? = w.heap[a.block]?) : w'.cell? a = w.cell? a := by simp [World.cell?, h]
/-- what is kept in the midst of it -/
structure MSt (w2 wr : World) (g m tg : Nat) (cf : C8) (S : Lists) (M : Tmr.Tm → Prop) (n cnt : Nat) (fm : ByteArray → Option Value) (FT Bk : Nat → Prop) (n' : Nat) (FT' : Nat → Prop) : Prop where
  q : Gq wr g m tg cf S M n' cnt fm FT' Bk
  le : n' ≤ n
  v : Moves FT FT' w2 wr
set_option maxRecDepth 100000 in
set_option maxHeartbeats 4000000 in
theorem put_merge {g m tg n cnt : Nat} {cf : C8} {S : Lists} {M : Tmr.Tm → Prop} {fm : ByteArray → Option Value} {FT Bk : Nat → Prop} (key : ByteArray) (s e v a z : Int) (L' : List Pn) (N : List (Int × Int)) (w : World) (H : Hid (Gq w g m tg cf S M n cnt fm FT Bk)) (hk2 : cf.k = 2)
    (hk : key.size ≤ maxLen) (hc : cnt < 1048576) (hn : n < 1048576) (fs : (Lit.int .i64 a).wf = true) (fe : (Lit.int .i64 z).wf = true) (hL : L' ≠ []) (hN : N.length ≤ 9000) (fN : Hid (∀ (i : Nat) (q : Int × Int), N[i]? = some q → (Lit.int .i64 q.1).wf = true ∧ (Lit.int .i64 q.2).wf = true))
    (MRG : Hid (∀ (l : Value) (b : Nat) (w : World), Hid (Sl.Is Pn.k w l (S key) b) → Calls Tryz.prog 62 #[l, .string key, win s e, .int .i64 v] w fun r w' => ∃ v' vg, r = .returned (.tuple #[v', vg, win a z]) ∧ Sl.Own Pn.k w.heap.size w' v' L' ∧ Sl.Own Wn.k w.heap.size w' vg N ∧ Below w.heap.size w w')) :
    Calls Tryz.prog 40 #[gp g, .string key, win s e, .int .i64 v] w fun r w' => r = .returned (.tuple #[]) ∧ Grp.Goes w w' g m tg cf (S.set key L') (fun y => y = ⟨key, a, z⟩ ∨ Left M key N N.length y) (n + 1) (cnt + 1) FT Bk := by
  have K0 := Lib.hid (below1 w (Obj.cells #[.int .i64 s, .int .i64 e] 72))
  have X0 := Lies.new w 72 [.int .i64 s, .int .i64 e]
  have s0 := X0.cell (i := 0) rfl
  have s1 := X0.cell (i := 1) rfl
  obtain ⟨vl, b, hv, iv⟩ := H.out.list key
  have I0 := Lib.hid (iv.next K0.out)
  have H0 := Lib.hid (H.out.next K0.out)
  have hl := H0.out.map.look hk
  rw [hv] at hl
  have c0 := H0.out.lies.cell (i := 0) rfl
  have c8 := H0.out.lies.cell (i := 8) rfl
  have q1 : (cf.k == 2) = true := by simpa using hk2
  have q2 : (cf.k != 2) = false := by simpa using hk2
  have IN : Hid (∀ i, Fp g m FT i → i < w.heap.size) := Lib.hid H.out.in
  clear iv hv X0
  go_enter Tryz.func40, Tryz.ntmps40
  go_wp2_with fail
  refine (MRG.out vl b _ I0).mono ?_
  rintro r w1 ⟨v', vg, rfl, o1, o2, k1⟩
  have K2 := Lib.hid (after K0.out (after k1 (below1 w1 (Obj.cells #[.int .i64 a, .int .i64 z] 72))))
  have H2 := Lib.hid (H0.out.next (after k1 (below1 w1 (Obj.cells #[.int .i64 a, .int .i64 z] 72))))
  obtain ⟨b5, hb5, i5⟩ := (o1.next (below1 w1 (Obj.cells #[.int .i64 a, .int .i64 z] 72))).is
  have I5 := Lib.hid i5
  obtain ⟨bg, hbg, ig⟩ := (o2.next (below1 w1 (Obj.cells #[.int .i64 a, .int .i64 z] 72))).is
  obtain ⟨GV, gc, rfl⟩ := ig.len
  have IG := Lib.hid ig
  have N2 : Hid (Lies (w1.alloc (Obj.cells #[.int .i64 a, .int .i64 z] 72)) w1.heap.size 72 [.int .i64 a, .int .i64 z]) := Lib.hid (Lies.new w1 72 [.int .i64 a, .int .i64 z])
  have hs : Hid (w.heap.size ≤ w1.heap.size ∧ w.heap.size ≤ b5 ∧ w.heap.size ≤ bg) := Lib.hid (by have := k1.size; have := K0.out.size; omega)
  clear i5 ig o1 o2 k1 hb5 hbg hl c0 c8 s0 s1
  go_wp2_with fail
  obtain ⟨gn, hgn⟩ : ∃ gn, gn = w1.heap.size := ⟨_, rfl⟩
  rw [← hgn] at N2 hs ⊢
  clear hgn
  generalize w1.alloc (Obj.cells #[.int .i64 a, .int .i64 z] 72) = w2 at *
  go_loopw [54] (fun si wr => ∃ (i n' : Nat) (FT' : Nat → Prop), i ≤ N.length ∧ si = .int .i64 i ∧ Hid (MSt w2 wr g m tg cf S (Left M key N i) n cnt fm FT Bk n' FT')) (fun si _ => N.length - (intOf si).toNat)
  case atStart => exact ⟨0, n, FT, by omega, rfl, Lib.hid ⟨⟨H2.out.lies, H2.out.map, H2.out.ts.congr (fun y => ⟨fun h => ⟨h, fun j q hj => absurd hj (by omega)⟩, fun h => h.1⟩), H2.out.ne, H2.out.ng, H2.out.nm, H2.out.lists⟩, Nat.le_refl _, Moves.refl H2.out.ts.in⟩⟩
  case round =>
    obtain ⟨i, n', FT', hi, rfl, Q⟩ := hrel
    have nbg : ∀ j, w.heap.size ≤ j → ¬ FT j := fun j hj q => by have := IN.out j (.inr (.inr q)); omega
    by_cases hlt : i < N.length
    · obtain ⟨off, cap', he, h2, h3, h4, hcell⟩ := IG.out.some_ Wn.ok (by omega)
      obtain ⟨rfl, rfl⟩ : GV = some ⟨bg, off, none⟩ ∧ gc = cap' := by simpa using he
      obtain ⟨y, hy⟩ := Wn.at_some hlt
      obtain ⟨c1, c2⟩ := Wn.cells hy hcell
      have sb : wr.heap[bg]? = w2.heap[bg]? := Q.out.v.block bg h4 (nbg bg hs.out.2.2)
      have c1 := (cell_block (a := ⟨bg, _, none⟩) sb).trans c1
      have c2 := (cell_block (a := ⟨bg, _, none⟩) sb).trans c2
      have i0 : (i : Int) < N.length := by omega
      have Q1 := Lib.hid (Q.out.q.next (below1 wr (Obj.cells #[.int .i64 y.1, .int .i64 y.2] 72)))
      have Y1 : Hid (Lies (wr.alloc (Obj.cells #[.int .i64 y.1, .int .i64 y.2] 72)) wr.heap.size 72 [.int .i64 y.1, .int .i64 y.2]) := Lib.hid (Lies.new wr 72 [.int .i64 y.1, .int .i64 y.2])
      have V1 := Lib.hid (Q.out.v.trans (Moves.of_below (below1 wr (Obj.cells #[.int .i64 y.1, .int .i64 y.2] 72)) Q.out.q.ts.in))
      have le1 := Q.out.le
      have HY := Lib.hid hy
      clear hcell he h2 h3 h4 sb hy Q
      go_upto_region 9 with fail
      obtain ⟨gy, hgy⟩ : ∃ gy, gy = wr.heap.size := ⟨_, rfl⟩
      rw [← hgy] at Y1 ⊢
      clear hgy c1 c2
      generalize wr.alloc (Obj.cells #[.int .i64 y.1, .int .i64 y.2] 72) = w3 at *
      have c9 := Q1.out.lies.cell (i := 9) rfl
      have s0 := Y1.out.cell (i := 0) rfl
      have s1 := Y1.out.cell (i := 1) rfl
      go_still_tail 7, (by kernel_rfl)
      change wpList _ _ _ _ _ w3.drew
      have Q2 := Lib.hid (Q1.out.next (w' := w3.drew) (Below.refl _ _).drew)
      have V2 := Lib.hid (V1.out.trans (Moves.of_below (w' := w3.drew) (Below.refl _ _).drew Q1.out.ts.in))
      clear Q1 V1 Y1 c9 s0 s1
      generalize w3.drew = w4 at *
      go_wp2_with fail
      refine (Tmr.drop_foot w4 ⟨key, y.1, y.2⟩ (Lib.hid Q2.out.ts) (Lib.hid ⟨hk, (fN.out i y HY.out).1, (fN.out i y HY.out).2⟩)).mono ?_
      rintro r w5 ⟨b', n2, F2, rfl, -, hn2, T2, U2⟩
      have Q3 := Lib.hid (Q2.out.timed (T2.congr (left_next HY.out)) U2)
      have V3 := Lib.hid (V2.out.trans U2)
      have le2 : n2 ≤ n := by
        have : n2 ≤ n' := by rw [hn2]; split <;> omega
        omega
      clear T2 U2 hn2 Q2 V2
      dsimp only
      go_wp2_with fail
      exact ⟨⟨i + 1, n2, F2, by omega, by go_num, Lib.hid ⟨Q3.out, le2, V3.out⟩⟩, by simp [intOf]; omega⟩
    · obtain rfl : i = N.length := by omega
      have Q1 := Lib.hid Q.out.q
      have V1 := Lib.hid Q.out.v
      have le1 := Q.out.le
      clear Q
      obtain ⟨w5, hrun, M1, G1⟩ := Q1.out.map.store hk v' (by omega) (updOf_ok fm key (some v'))
      have hcn : (if fm key = none then cnt + 1 else cnt) ≤ cnt + 1 := by split <;> omega
      generalize (if fm key = none then cnt + 1 else cnt) = cc at *
      have G1 := Lib.hid G1
      have nf : ∀ j, Fp g m FT j → b5 ≠ j := fun j hj e => by have := IN.out j hj; have := hs.out; omega
      have h5 := is_lt I5.out hL
      have b5T : ¬ FT' b5 := fun q => by
        rcases (V1.out.new b5 q).1 with r | r
        · exact nbg b5 hs.out.2.1 r
        · omega
      have I6 := (I5.out.keep (V1.out.block b5 h5 (nbg b5 hs.out.2.1)) V1.out.size).keep (G1.out.block _ (Nat.lt_of_lt_of_le h5 V1.out.size) (fun e => nf m (.inr (.inl rfl)) (Option.some.inj e))) G1.out.size
      have Q2 := Lib.hid (Q1.out.mapped (Bk' := fun b => Bk b ∨ b = b5) M1 G1.out (updOf_ok _ _ _) (fun b hb => .inl hb) (.inr ⟨hL, _, b5, rfl, I6, nf _ (.inl rfl), nf _ (.inr (.inl rfl)), b5T, .inr rfl⟩))
      have B6 : Hid (b5 < w5.heap.size) := Lib.hid (is_lt I6 hL)
      have gnl : gn < w2.heap.size := N2.out.lt
      have N3 := Lib.hid (((G1.out.block _ (Nat.lt_of_lt_of_le gnl V1.out.size) (fun e => by have := IN.out m (.inr (.inl rfl)); have := hs.out; have := Option.some.inj e; omega)).trans (V1.out.block gn gnl (nbg gn hs.out.1))).trans N2.out)
      have N3 : Hid (Lies w5 gn 72 [.int .i64 a, .int .i64 z]) := N3
      have V2 := Lib.hid (((Moves.of_below K2.out H.out.in).trans (H2.out.moves_ts V1.out)).trans (Q1.out.moves_map G1.out))
      have c8 := Q1.out.lies.cell (i := 8) rfl
      clear I6 b5T h5 nf M1 G1 Q1 V1 gnl
      go_upto_region 12 with fail
      have c9 := Q2.out.lies.cell (i := 9) rfl
      have s0 := N3.out.cell (i := 0) rfl
      have s1 := N3.out.cell (i := 1) rfl
      clear hrun c8
      go_still_tail 7, (by kernel_rfl)
      change wpList _ _ _ _ _ w5.drew
      have Q3 := Lib.hid (Q2.out.next (w' := w5.drew) (Below.refl _ _).drew)
      have V3 := Lib.hid (V2.out.trans (Moves.of_below (w' := w5.drew) (Below.refl _ _).drew Q2.out.in))
      clear Q2 V2 N3 c9 s0 s1
      have hW1 : w5.heap.size ≤ w5.drew.heap.size := Nat.le_refl _
      generalize w5.drew = w6 at *
      go_wp2_with fail
      refine (Tmr.put_foot w6 ⟨key, a, z⟩ (Lib.hid Q3.out.ts) (Lib.hid ⟨hk, fs, fe⟩) (by omega)).mono ?_
      rintro r w7 ⟨b', n2, F2, rfl, -, hn2, T2, U2⟩
      have Q4 := Lib.hid (Q3.out.timed T2 U2)
      have V4 := Lib.hid (V3.out.trans (Q3.out.moves_ts U2))
      have hn6 : n2 ≤ n + 1 := by
        have : n2 ≤ n' + 1 := by rw [hn2]; split <;> omega
        omega
      have hW2 := U2.size
      clear T2 U2 hn2 Q3 V3
      dsimp only
      go_wp2
      exact bodyPost_end (v := .tuple #[]) (by simp [results, Tryz.results40, go_sem]) rfl ⟨rfl, n2, _, _, F2, _, Q4.out, hn6, hcn, V4.out, fun b hb => hb.imp id (fun e => by rw [e]; exact ⟨hs.out.2.1, Nat.lt_of_lt_of_le B6.out (Nat.le_trans hW1 hW2)⟩)⟩
end Grp
end Go.Proofs.YtemklcckhpchaaaGreat
