/-
  Lists of panes held against one another (easelref06.Same, slices.Equal, outlog.Same: whether they are one list), and those of a key (easelref06.Of, and a Log's Of); a Log in memory; New, Put, All.
-/
import Derived.Test.YtjncogjafljbiaaPns
import Derived.LoopTactic
namespace Go.Proofs.Ytjncogjafljbiaa
open Go.ChangeShapes Go.WideShapes Go.ChangeAt Go.RowKit
namespace Out
open Small
set_option linter.unusedVariables false

/-- a slice that reads as the list L; where there is none in it, it may be whatever slice of no elements -/
def Rd (w : World) (v : Value) (L : List Pn) : Prop := (∃ b, Sl.Is Pn.k w v L b) ∨ (L = [] ∧ ∃ a cap, v = .slice (some a) 0 cap)
theorem Rd.len {w : World} {v : Value} {L : List Pn} (h : Rd w v L) : ∃ A cap, v = .slice A L.length cap := by
  rcases h with ⟨b, h⟩ | ⟨rfl, a, cap, rfl⟩
  · exact h.len
  · exact ⟨some a, cap, rfl⟩
theorem Rd.some_ {w : World} {v : Value} {L : List Pn} (h : Rd w v L) (h0 : 0 < L.length) : ∃ b off cap, v = .slice (some ⟨b, off, none⟩) L.length cap ∧ L.length ≤ cap ∧ cap ≤ maxLen ∧ b < w.heap.size ∧ ∀ i x, L[i]? = some x → ∀ j u, (Pn.cl x)[j]? = some u → w.cell? ⟨b, off + (i * 7 + j), none⟩ = some u := by
  rcases h with ⟨b, h⟩ | ⟨rfl, _⟩
  · exact ⟨b, h.some_ Pn.ok h0⟩
  · simp at h0
theorem Rd.next {w w' : World} {v : Value} {L : List Pn} (h : Rd w v L) (k : Below w.heap.size w w') : Rd w' v L := by
  rcases h with ⟨b, h⟩ | h
  · exact .inl ⟨b, h.next k⟩
  · exact .inr h
theorem Rd.below {w w' : World} {v : Value} {L : List Pn} (h : Rd w v L) (k : Below w.heap.size w w') : Rd w' v L := h.next k
theorem Rd.own {w : World} {v : Value} {L : List Pn} {base : Nat} (h : Sl.Own Pn.k base w v L) : Rd w v L := by
  obtain ⟨b, _, h⟩ := h.is
  exact .inl ⟨b, h⟩

theorem flat_get : ∀ (l : List Pn) (t : Nat), t < l.length * 7 → (Sl.flat Pn.k l)[t]? = some ((Pn.cl l[t / 7]!)[t % 7]!)
  | [], t, h => by simp at h
  | x :: l, t, h => by
    have e : Sl.flat Pn.k (x :: l) = x.cl ++ Sl.flat Pn.k l := rfl
    rw [e]
    by_cases ht : t < 7
    · rw [List.getElem?_append_left (by simpa using ht), Nat.div_eq_of_lt ht, Nat.mod_eq_of_lt ht]
      have : t < (Pn.cl x).length := by simpa using ht
      simp only [List.getElem!_cons_zero]
      rw [List.getElem!_eq_getElem?_getD, List.getElem?_eq_getElem this]
      rfl
    · rw [List.getElem?_append_right (by simp; omega)]
      have h1 : t / 7 = (t - 7) / 7 + 1 := by omega
      have h2 : t % 7 = (t - 7) % 7 := by omega
      have := flat_get l (t - 7) (by simp at h; omega)
      rw [h1, h2, List.getElem!_cons_succ]
      exact this
/-- a pane such as there are -/
def Fits (p : Pn) : Prop := p.key.size ≤ maxLen ∧ (Lit.int .i64 p.s).wf = true ∧ (Lit.int .i64 p.e).wf = true

theorem at_some {L : List Pn} {i : Nat} (h : i < L.length) : ∃ x, L[i]? = some x := ⟨L[i], by simp [h]⟩
theorem pane_cells {w : World} {b off : Nat} {L : List Pn} {i : Nat} {x : Pn} (hx : L[i]? = some x) (hc : ∀ i x, L[i]? = some x → ∀ j u, (Pn.cl x)[j]? = some u → w.cell? ⟨b, off + (i * 7 + j), none⟩ = some u) :
    w.cell? ⟨b, off + i * 7, none⟩ = some (.string x.key) ∧ w.cell? ⟨b, off + i * 7 + 1, none⟩ = some (.int .i64 x.s) ∧ w.cell? ⟨b, off + i * 7 + 2, none⟩ = some (.int .i64 x.e) ∧ w.cell? ⟨b, off + i * 7 + 3, none⟩ = some (.int .i64 x.c) ∧
      w.cell? ⟨b, off + i * 7 + 4, none⟩ = some (.int .i64 x.m) ∧ w.cell? ⟨b, off + i * 7 + 5, none⟩ = some (.int .i64 x.l) ∧ w.cell? ⟨b, off + i * 7 + 6, none⟩ = some (.int .i64 x.u) := by
  have h := hc i x hx
  simp only [← Nat.add_assoc] at h
  exact ⟨h 0 _ rfl, h 1 _ rfl, h 2 _ rfl, h 3 _ rfl, h 4 _ rfl, h 5 _ rfl, h 6 _ rfl⟩

set_option maxHeartbeats 1600000 in
theorem neq_ok (a b : Pn) (w : World) : (binOp .neq 108 a.v b.v).run Try.prog w = .ok (.bool (!decide (a = b))) w := by
  have h : decide (a = b) = (a.key.toList == b.key.toList && (a.s == b.s && (a.e == b.e && (a.c == b.c && (a.m == b.m && (a.l == b.l && a.u == b.u)))))) := by
    obtain ⟨a0, a1, a2, a3, a4, a5, a6⟩ := a
    obtain ⟨b0, b1, b2, b3, b4, b5, b6⟩ := b
    rw [Bool.eq_iff_iff]
    simp [Pn.bytes_ext]
  rw [h]
  cases h0 : (a.key.toList == b.key.toList)
  · simp [go_sem, h0]
  cases h1 : (a.s == b.s)
  · simp [go_sem, h0, h1]
  cases h2 : (a.e == b.e)
  · simp [go_sem, h0, h1, h2]
  cases h3 : (a.c == b.c)
  · simp [go_sem, h0, h1, h2, h3]
  cases h4 : (a.m == b.m)
  · simp [go_sem, h0, h1, h2, h3, h4]
  cases h5 : (a.l == b.l)
  · simp [go_sem, h0, h1, h2, h3, h4, h5]
  cases h6 : (a.u == b.u)
  · simp [go_sem, h0, h1, h2, h3, h4, h5, h6]
  simp [go_sem, h0, h1, h2, h3, h4, h5, h6]

theorem take_next {L M : List Pn} {i : Nat} {p q : Pn} (h : L.take i = M.take i) (hp : L[i]? = some p) (hq : M[i]? = some q) (e : p = q) : L.take (i + 1) = M.take (i + 1) := by
  rw [List.take_add_one, List.take_add_one, h, hp, hq, e]
theorem ne_at {L M : List Pn} {i : Nat} {p q : Pn} (hp : L[i]? = some p) (hq : M[i]? = some q) (e : p ≠ q) : L ≠ M := by
  rintro rfl
  rw [hp] at hq
  exact e (Option.some.inj hq)


set_option maxRecDepth 100000 in
set_option maxHeartbeats 4000000 in
theorem equal_ok (l m : Value) (L M : List Pn) (w : World) (H : Hid (Rd w l L)) (G : Hid (Rd w m M)) (hn : L.length ≤ 9000) (hn2 : M.length ≤ 9000) :
    Calls Try.prog 41 #[l, m] w fun r w' => r = .returned (.bool (decide (L = M))) ∧ Below w.heap.size w w' := by
  obtain ⟨AD, cap, hl⟩ := H.out.len
  obtain ⟨AE, cap2, hm⟩ := G.out.len
  subst hl hm
  by_cases hlen : L.length = M.length
  · have HL := Lib.hid hlen
    have hlz : ((L.length : Int) != (M.length : Int)) = false := by simp [hlen]
    have hlz2 : (M.length : Int) = (L.length : Int) := by omega
    clear hlen
    go_enter Try.func41, Try.ntmps41
    go_wp2_with fail
    go_loopw [13] (fun si wr => ∃ (i : Nat), i ≤ L.length ∧ si = .int .i64 i ∧ Hid (L.take i = M.take i) ∧ Hid (Below w.heap.size w wr)) (fun si _ => L.length - (intOf si).toNat)
    case atStart => exact ⟨0, by omega, rfl, Lib.hid rfl, Lib.hid (Below.refl _ _)⟩
    case round =>
      obtain ⟨i, hi, rfl, E, K⟩ := hrel
      by_cases hlt : i < L.length
      · obtain ⟨b, off, cap', he, h2, h3, h4, hcell⟩ := H.out.some_ (by omega)
        obtain ⟨rfl, rfl⟩ : AD = some ⟨b, off, none⟩ ∧ cap = cap' := by simpa using he
        obtain ⟨c, off2, cap3, he2, h22, h23, h24, hcell2⟩ := G.out.some_ (by have := HL.out; omega)
        obtain ⟨rfl, rfl⟩ : AE = some ⟨c, off2, none⟩ ∧ cap2 = cap3 := by simpa using he2
        obtain ⟨p, hp⟩ := at_some hlt
        obtain ⟨q, hq⟩ := at_some (L := M) (i := i) (by have := HL.out; omega)
        obtain ⟨c0, c1, c2, c3, c4, c5, c6⟩ := pane_cells hp hcell
        obtain ⟨d0, d1, d2, d3, d4, d5, d6⟩ := pane_cells hq hcell2
        have i0 : (i : Int) < L.length := by omega
        have ne : ∀ w' : World, (binOp .neq 108 (.agg #[.string p.key, .int .i64 p.s, .int .i64 p.e, .int .i64 p.c, .int .i64 p.m, .int .i64 p.l, .int .i64 p.u]) (.agg #[.string q.key, .int .i64 q.s, .int .i64 q.e, .int .i64 q.c, .int .i64 q.m, .int .i64 q.l, .int .i64 q.u])).run Try.prog w' = .ok (.bool (!decide (p = q))) w' := fun w' => neq_ok p q w'
        have HP := Lib.hid hp
        have HQ := Lib.hid hq
        obtain ⟨d, hd⟩ : ∃ d, decide (p = q) = d := ⟨_, rfl⟩
        rw [hd] at ne
        have HD := Lib.hid hd
        clear hcell he h2 h3 h4 hp hcell2 he2 h22 h23 h24 hq hd
        go_wp2_with fail
        have f0 := Later.cell (cell_keep K.out c0)
        have f1 := Later.cell (cell_keep K.out c1)
        have f2 := Later.cell (cell_keep K.out c2)
        have f3 := Later.cell (cell_keep K.out c3)
        have f4 := Later.cell (cell_keep K.out c4)
        have f5 := Later.cell (cell_keep K.out c5)
        have f6 := Later.cell (cell_keep K.out c6)
        have g0 := Later.cell (cell_keep K.out d0)
        have g1 := Later.cell (cell_keep K.out d1)
        have g2 := Later.cell (cell_keep K.out d2)
        have g3 := Later.cell (cell_keep K.out d3)
        have g4 := Later.cell (cell_keep K.out d4)
        have g5 := Later.cell (cell_keep K.out d5)
        have g6 := Later.cell (cell_keep K.out d6)
        clear c0 c1 c2 c3 c4 c5 c6 d0 d1 d2 d3 d4 d5 d6
        refine wp_region_later (by kernel_rfl) (by kernel_rfl) ?_
        repeat (go_big_quiet_step (fail))
        refine wpQuiet_nil ?_
        rintro _ ⟨u, rfl⟩
        have K2 := Lib.hid (after K.out u.below)
        clear f0 f1 f2 f3 f4 f5 f6 g0 g1 g2 g3 g4 g5 g6
        generalize u.w = w2 at *
        cases d with
        | true =>
          go_wp2_with fail
          exact ⟨⟨i + 1, by omega, by go_num, Lib.hid (take_next E.out HP.out HQ.out (of_decide_eq_true HD.out)), K2⟩, by simp [intOf]; omega⟩
        | false =>
          go_wp2
          go_ret
          exact ⟨ret_bool (decide_eq_false (ne_at HP.out HQ.out (of_decide_eq_false HD.out))).symm, K2.out⟩
      · obtain rfl : i = L.length := by omega
        go_wp2
        go_ret
        exact ⟨ret_bool (decide_eq_true (by have := E.out; rwa [List.take_length, HL.out, List.take_length] at this)).symm, K.out⟩
  · have hlz : ((L.length : Int) != (M.length : Int)) = true := by simp; omega
    have HD : Hid (decide (L = M) = false) := Lib.hid (decide_eq_false fun h => hlen (by rw [h]))
    clear hlen
    go_enter Try.func41, Try.ntmps41
    go_wp2
    go_ret
    exact ⟨ret_bool HD.out.symm, Below.refl _ _⟩


end Out
end Go.Proofs.Ytjncogjafljbiaa
