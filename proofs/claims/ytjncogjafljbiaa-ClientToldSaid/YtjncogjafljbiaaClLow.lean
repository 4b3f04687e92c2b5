/-
  Contracts of a client's small functions: Over, Next, whether the control is closed, hold, home, put, drop, apart, end, refuse; errors.Is over codes.
-/
import Derived.Test.YtjncogjafljbiaaWhole
import Derived.Deep.RegionHeld3
import Derived.Deep.DeepCutAuto
namespace Go.Proofs.Ytjncogjafljbiaa
open Go.ChangeShapes Go.WideShapes Go.ChangeAt Go.RowKit
set_option linter.unusedVariables false
set_option maxRecDepth 100000
namespace Cn
open Small Foot Fm Ca
/-- what a step tells -/
structure Td where
  mv : Bool
  bg : Bool
  pt : Bool
  dn : Bool
  r : Rp
abbrev Td.cl (t : Td) : List Value := [.bool t.mv, .bool t.bg, .bool t.pt, .bool t.dn, .int .i64 t.r.code, .slice t.r.a t.r.n t.r.c]
abbrev Td.v (t : Td) : Value := .agg #[.bool t.mv, .bool t.bg, .bool t.pt, .bool t.dn, .int .i64 t.r.code, .slice t.r.a t.r.n t.r.c]
theorem lit_pn {base : Nat} {w : World} {v : Value} {L : List Pn} (h : Sl.Own Pn.k base w v L) : ∃ A n c, v = .slice A n c := by
  obtain ⟨b, _, hi⟩ := h.is
  obtain ⟨A, c, e⟩ := hi.len
  exact ⟨A, _, c, e⟩
theorem own_base {α : Type} {K : Kind α} {base base' : Nat} {w : World} {v : Value} {L : List α} (h : Sl.Own K base w v L) (hb : base' ≤ base) : Sl.Own K base' w v L :=
  ⟨h.1, by
    rcases h.2 with q | ⟨g, cap, cur, h1, h2, q⟩
    · exact .inl q
    · exact .inr ⟨g, cap, cur, h1, Nat.le_trans hb h2, q⟩⟩
theorem Td.one (t : Td) : ∀ v ∈ t.cl, v.oneCell' = true := by
  intro v hv
  simp only [List.mem_cons, List.not_mem_nil, or_false] at hv
  rcases hv with rfl | rfl | rfl | rfl | rfl | rfl <;> rfl
section
variable {o : Oper} {a : Act} {K : Act → World → Prop} {Qq : Exit → Act → World → Prop} {w : World} {g : Nat}
theorem ld_told {t : Td} (x : Operand) (ho : o.op = .load 45 x) (hx : a.eval x = gp g) (h : Lies w g 45 t.cl) (hK : K (a.put o.dst t.v) w) : o.wp Try.prog a w K Qq :=
  Wh.wp_load Try.isAgg45 Try.sizeOf45 x ho hx h (Nat.le_refl _) t.cl rfl hK
theorem st_told {t' : Td} {cs : List Value} (x y : Operand) (ho : o.op = .store 45 x y) (hx : a.eval x = gp g) (hy : a.eval y = t'.v) (h : Lies w g 45 cs) (hl : cs.length = 6) (hK : ∀ w', Lies w' g 45 t'.cl → w.grownBy w' (some g) → K (a.put o.dst undef) w') : o.wp Try.prog a w K Qq :=
  Wh.wp_store Try.sizeOf45 x y ho hx hy h (by rw [hl]; exact Nat.le_refl _) rfl t'.one t'.cl (by rw [List.drop_eq_nil_of_le (by rw [hl]; exact Nat.le_refl _)]; simp) hK
theorem ld_env {E : Ev} (x : Operand) (ho : o.op = .load 32 x) (hx : a.eval x = gp g) (h : Lies w g 32 E.cl) (hK : K (a.put o.dst E.v) w) : o.wp Try.prog a w K Qq :=
  Wh.wp_load Try.isAgg32 Try.sizeOf32 x ho hx h (Nat.le_refl _) E.cl rfl hK
theorem ld_cfg {E : Ev} (x : Operand) (ho : o.op = .load 23 x) (hx : a.eval x = gp g) (h : Lies w g 32 E.cl) (hK : K (a.put o.dst E.cf.val) w) : o.wp Try.prog a w K Qq :=
  Wh.wp_load Try.isAgg23 Try.sizeOf23 x ho hx h (by simp) [.int .i64 E.cf.k, .int .i64 E.cf.s, .int .i64 E.cf.l, .int .i64 E.cf.g, .int .i64 E.cf.z, .int .i64 E.cf.h, .int .i64 E.cf.r, .int .i64 E.cf.c] rfl hK
theorem ld_call {y : Cl} (x : Operand) (ho : o.op = .load 25 x) (hx : a.eval x = gp g) (h : Lies w g 25 y.cl) (hK : K (a.put o.dst y.val) w) : o.wp Try.prog a w K Qq :=
  Wh.wp_load Try.isAgg25 Try.sizeOf25 x ho hx h (Nat.le_refl _) y.cl rfl hK
theorem st_call {y' : Cl} {cs : List Value} (x y : Operand) (ho : o.op = .store 25 x y) (hx : a.eval x = gp g) (hy : a.eval y = y'.val) (h : Lies w g 25 cs) (hl : cs.length = 7) (hK : ∀ w', Lies w' g 25 y'.cl → w.grownBy w' (some g) → K (a.put o.dst undef) w') : o.wp Try.prog a w K Qq :=
  Wh.wp_store Try.sizeOf25 x y ho hx hy h (by rw [hl]; exact Nat.le_refl _) rfl (cok.one y') y'.cl (by rw [List.drop_eq_nil_of_le (by rw [hl]; exact Nat.le_refl _)]; simp) hK
theorem told_next {y : Cl} {b : Bool} (h2 : a.tmps[2]?.getD undef = gp g) (h3 : a.tmps[3]?.getD undef = .bool b) (h : Lies w g 25 y.cl) :
    (results Try.f34 a.tmps).run Try.prog w = .ok (.tuple #[y.val, .bool b]) w := by
  have := Wh.load_at (off := 0) Try.isAgg25 Try.sizeOf25 h (Nat.le_refl _)
  rw [show (List.take 7 (List.drop 0 y.cl)) = y.cl from rfl] at this
  simp [results, Try.results34, h2, h3, asAddr, this, Result.andThen]
theorem told_at {f : Func} {k : Nat} {T : TypeId} {v : Value} {tm : Array Value} (hr : f.results = #[.cell k T]) (hk : tm[k]?.getD undef = gp g) (hl : (loadVar T ⟨g, 0, none⟩).run Try.prog w = .ok v w) : (results f tm).run Try.prog w = .ok v w := by
  simp [results, hr, hk, asAddr, hl]
theorem told_told {f : Func} {k : Nat} {t : Td} {tm : Array Value} (hr : f.results = #[.cell k 45]) (hk : tm[k]?.getD undef = gp g) (h : Lies w g 45 t.cl) : (results f tm).run Try.prog w = .ok t.v w :=
  told_at hr hk (Wh.load_at (off := 0) Try.isAgg45 Try.sizeOf45 h (Nat.le_refl _))
theorem told_rep {f : Func} {k : Nat} {y : Rp} {tm : Array Value} (hr : f.results = #[.cell k 43]) (hk : tm[k]?.getD undef = gp g) (h : Lies w g 43 y.cl) : (results f tm).run Try.prog w = .ok y.v w :=
  told_at hr hk (Wh.load_at (off := 0) Try.isAgg43 Try.sizeOf43 h (Nat.le_refl _))
theorem st_rep {y' : Rp} {cs : List Value} (x y : Operand) (ho : o.op = .store 43 x y) (hx : a.eval x = gp g) (hy : a.eval y = y'.v) (h : Lies w g 43 cs) (hl : cs.length = 2) (hK : ∀ w', Lies w' g 43 y'.cl → w.grownBy w' (some g) → K (a.put o.dst undef) w') : o.wp Try.prog a w K Qq :=
  Wh.wp_store Try.sizeOf43 x y ho hx hy h (by rw [hl]; exact Nat.le_refl _) rfl (rok.one y') y'.cl (by rw [List.drop_eq_nil_of_le (by rw [hl]; exact Nat.le_refl _)]; simp) hK
theorem ld_rep {y : Rp} (x : Operand) (ho : o.op = .load 43 x) (hx : a.eval x = gp g) (h : Lies w g 43 y.cl) (hK : K (a.put o.dst y.v) w) : o.wp Try.prog a w K Qq :=
  Wh.wp_load Try.isAgg43 Try.sizeOf43 x ho hx h (Nat.le_refl _) y.cl rfl hK
end
section
variable {w w' : World} {E : Ev} {x : Nat} {num : Int} {cv rv : Value} {cs : List Cl} {rs : List Rp} {g : Pg}
set_option maxHeartbeats 1600000

theorem over_ok (H : Hid (Q w x num cv cs rv rs g)) : Calls Try.prog 18 #[gp x] w fun r w' => r = .returned (.bool (decide (cs.length ≤ rs.length))) ∧ Below w.heap.size w w' := by
  obtain ⟨A, c, B, d, rfl, rfl⟩ := H.out.lits
  have c1 := H.out.lies.cell (i := 1) rfl
  have c2 := H.out.lies.cell (i := 2) rfl
  obtain ⟨n, hn⟩ : ∃ n, n = cs.length := ⟨_, rfl⟩
  obtain ⟨m, hm⟩ : ∃ m, m = rs.length := ⟨_, rfl⟩
  rw [← hn] at c1 ⊢
  rw [← hm] at c2 ⊢
  clear hn hm
  go_enter Try.func18, Try.ntmps18
  go_wp2_with fail
  go_quiet (fail)
  go_wp2
  go_ret
  exact ⟨by simp, Ct.below_drewN _ _⟩
theorem next_none (H : Hid (Q w x num cv cs rv rs g)) (hk : cs.length ≤ rs.length) : Calls Try.prog 34 #[gp x] w fun r w' => r = .returned (.tuple #[.agg #[.int .i64 0, .string ⟨#[]⟩, .int .i64 0, .int .i64 0, .int .i64 0, .int .i64 0, .int .i64 0], .bool false]) ∧ Below w.heap.size w w' := by
  have hd : decide (cs.length ≤ rs.length) = true := by simpa using hk
  have B0 := below1 w (Obj.cells #[.int .i64 0, .string ⟨#[]⟩, .int .i64 0, .int .i64 0, .int .i64 0, .int .i64 0, .int .i64 0] 25)
  have L0 := Lib.hid (Lies.new w 25 [.int .i64 0, .string ⟨#[]⟩, .int .i64 0, .int .i64 0, .int .i64 0, .int .i64 0, .int .i64 0])
  have H0 := Lib.hid (H.out.next B0)
  have B0 := Lib.hid B0
  go_enter Try.func34, Try.ntmps34
  go_wp2_with fail
  refine (over_ok H0).mono ?_
  rintro r w1 ⟨rfl, k1⟩
  rw [hd]
  have L1 := Lib.hid (L0.out.next k1)
  have K1 := Lib.hid (after B0.out k1)
  clear k1
  go_wp2_with (first
    | (refine wpList_plain rfl fun K' hK' => st_call (y' := ⟨0, ⟨#[]⟩, 0, 0, 0, 0, 0⟩) _ _ rfl rfl rfl L1.out rfl (fun w2 z1 z2 => hK' _ _ ?_))
    | fail)
  exact bodyPost_ret (told_next rfl rfl z1) rfl ⟨rfl, K1.out.grown z2 K1.out.size fun j hj => by cases hj; exact Nat.le_refl _⟩
theorem next_some {y : Cl} (H : Hid (Q w x num cv cs rv rs g)) (hk : cs[rs.length]? = some y) : Calls Try.prog 34 #[gp x] w fun r w' => r = .returned (.tuple #[y.val, .bool true]) ∧ Below w.heap.size w w' := by
  have hlt : rs.length < cs.length := (List.getElem?_eq_some_iff.1 hk).1
  have hd : decide (cs.length ≤ rs.length) = false := by simpa using hlt
  obtain ⟨A, c, B, d, rfl, rfl⟩ := H.out.lits
  have B0 := below1 w (Obj.cells #[.int .i64 0, .string ⟨#[]⟩, .int .i64 0, .int .i64 0, .int .i64 0, .int .i64 0, .int .i64 0] 25)
  have L0 := Lib.hid (Lies.new w 25 [.int .i64 0, .string ⟨#[]⟩, .int .i64 0, .int .i64 0, .int .i64 0, .int .i64 0, .int .i64 0])
  have H0 := Lib.hid (H.out.next B0)
  have B0 := Lib.hid B0
  have HK := Lib.hid hk
  clear hk
  go_enter Try.func34, Try.ntmps34
  go_wp2_with fail
  refine (over_ok H0).mono ?_
  rintro r w1 ⟨rfl, k1⟩
  rw [hd]
  have L1 := Lib.hid (L0.out.next k1)
  have K1 := Lib.hid (after B0.out k1)
  have H1 := Lib.hid (H0.out.next k1)
  clear k1 hd
  go_upto_region 3 with fail
  have c1 := H1.out.lies.cell (i := 1) rfl
  have c2 := H1.out.lies.cell (i := 2) rfl
  obtain ⟨b, hb, hi⟩ := H1.out.calls.is
  obtain ⟨off, cap, e, -, -, hbl, hc⟩ := hi.some_ cok (by omega)
  simp only [Value.slice.injEq] at e
  obtain ⟨rfl, -, -⟩ := e
  have hy := hc rs.length y HK.out
  simp only [← Nat.add_assoc] at hy
  have y0 : ∀ u : Later w1, u.w.cell? ⟨b, off + rs.length * 7, none⟩ = some (.int .i64 y.op) := Later.cell (hy 0 _ rfl)
  have y1 : ∀ u : Later w1, u.w.cell? ⟨b, off + rs.length * 7 + 1, none⟩ = some (.string y.key) := Later.cell (hy 1 _ rfl)
  have y2 : ∀ u : Later w1, u.w.cell? ⟨b, off + rs.length * 7 + 2, none⟩ = some (.int .i64 y.t) := Later.cell (hy 2 _ rfl)
  have y3 : ∀ u : Later w1, u.w.cell? ⟨b, off + rs.length * 7 + 3, none⟩ = some (.int .i64 y.v) := Later.cell (hy 3 _ rfl)
  have y4 : ∀ u : Later w1, u.w.cell? ⟨b, off + rs.length * 7 + 4, none⟩ = some (.int .i64 y.e) := Later.cell (hy 4 _ rfl)
  have y5 : ∀ u : Later w1, u.w.cell? ⟨b, off + rs.length * 7 + 5, none⟩ = some (.int .i64 y.u) := Later.cell (hy 5 _ rfl)
  have y6 : ∀ u : Later w1, u.w.cell? ⟨b, off + rs.length * 7 + 6, none⟩ = some (.int .i64 y.s) := Later.cell (hy 6 _ rfl)
  have d1 := Later.cell c1
  have d2 := Later.cell c2
  clear hy hc c1 c2
  have i1 : (rs.length : Int) < (cs.length : Int) := by omega
  have i0 : (0 : Int) ≤ (rs.length : Int) := by omega
  refine wp_region_later_tail 11 (by kernel_rfl) (by kernel_rfl) ?_
  simp only [List.take_succ_cons, List.take_zero, List.drop_succ_cons, List.drop_zero]
  repeat (go_big_quiet_step (fail))
  refine wpQuiet_nil ?_
  rintro _ ⟨u, rfl⟩
  have L2 := Lib.hid (L1.out.next u.below)
  have K2 := Lib.hid (after K1.out u.below)
  clear y0 y1 y2 y3 y4 y5 y6 d1 d2
  generalize u.w = w2 at L2 K2 ⊢
  go_wp2_with (first
    | (refine wpList_plain rfl fun K' hK' => st_call (y' := y) _ _ rfl rfl rfl L2.out rfl (fun w2 z1 z2 => hK' _ _ ?_))
    | fail)
  exact bodyPost_ret (told_next rfl rfl z1) rfl ⟨rfl, K2.out.grown z2 K2.out.size fun j hj => by cases hj; exact Nat.le_refl _⟩

theorem closed_ok {m k : Int} {h c : Bool} (H : Hid (Ct.Is w E.gc m k h c)) : Calls Try.prog 58 #[E.v] w fun r w' => r = .returned (.bool c) ∧ Below w.heap.size w w' := by
  have B0 := below1 w (Obj.cells #[.int .i64 E.cf.k, .int .i64 E.cf.s, .int .i64 E.cf.l, .int .i64 E.cf.g, .int .i64 E.cf.z, .int .i64 E.cf.h, .int .i64 E.cf.r, .int .i64 E.cf.c, gp E.gc, gp (E.b + 1), .slice E.ba E.bn E.bc] 32)
  have L0 := Lib.hid (Lies.new w 32 E.cl)
  have H0 := Lib.hid (Lies.next H.out B0)
  have B0 := Lib.hid B0
  go_enter Try.func58, Try.ntmps58
  go_upto_region 1 with fail
  generalize w.heap.size = g1 at L0 ⊢
  generalize w.alloc (Obj.cells #[.int .i64 E.cf.k, .int .i64 E.cf.s, .int .i64 E.cf.l, .int .i64 E.cf.g, .int .i64 E.cf.z, .int .i64 E.cf.h, .int .i64 E.cf.r, .int .i64 E.cf.c, gp E.gc, gp (E.b + 1), .slice E.ba E.bn E.bc] 32) = w1 at L0 H0 B0 ⊢
  have c8 := L0.out.cell (i := 8) rfl
  go_wp2_with fail
  refine (Ct.closed_ok H0).mono ?_
  rintro r w2 ⟨rfl, rfl⟩
  go_wp2
  go_ret
  exact ⟨rfl, B0.out⟩
theorem hold_free {m k : Int} {c : Bool} (n : Int) (H : Hid (Ct.Is w E.gc m k false c)) : Calls Try.prog 57 #[E.v, .int .i64 n] w fun r w' => r = .returned (.bool true) ∧ Ct.Is w' E.gc m n true c ∧ Moves (Ct.Fp E.gc) (Ct.Fp E.gc) w w' := by
  have B0 := below1 w (Obj.cells #[.int .i64 E.cf.k, .int .i64 E.cf.s, .int .i64 E.cf.l, .int .i64 E.cf.g, .int .i64 E.cf.z, .int .i64 E.cf.h, .int .i64 E.cf.r, .int .i64 E.cf.c, gp E.gc, gp (E.b + 1), .slice E.ba E.bn E.bc] 32)
  have L0 := Lib.hid (Lies.new w 32 E.cl)
  have H0 := Lib.hid (Lies.next H.out B0)
  have V0 := Lib.hid (Moves.of_below B0 (Ct.Is.in H.out))
  clear B0
  go_enter Try.func57, Try.ntmps57
  go_upto_region 1 with fail
  generalize w.heap.size = g1 at L0 ⊢
  generalize w.alloc (Obj.cells #[.int .i64 E.cf.k, .int .i64 E.cf.s, .int .i64 E.cf.l, .int .i64 E.cf.g, .int .i64 E.cf.z, .int .i64 E.cf.h, .int .i64 E.cf.r, .int .i64 E.cf.c, gp E.gc, gp (E.b + 1), .slice E.ba E.bn E.bc] 32) = w1 at L0 H0 V0 ⊢
  have c8 := L0.out.cell (i := 8) rfl
  go_wp2_with fail
  refine (Ct.hold_free H0 n).mono ?_
  rintro r w2 ⟨rfl, k1, k2⟩
  go_wp2
  go_ret
  exact ⟨rfl, k1, V0.out.trans k2⟩
theorem hold_held {m k : Int} {c : Bool} (n : Int) (H : Hid (Ct.Is w E.gc m k true c)) : Calls Try.prog 57 #[E.v, .int .i64 n] w fun r w' => r = .returned (.bool (k == n)) ∧ Below w.heap.size w w' := by
  have B0 := below1 w (Obj.cells #[.int .i64 E.cf.k, .int .i64 E.cf.s, .int .i64 E.cf.l, .int .i64 E.cf.g, .int .i64 E.cf.z, .int .i64 E.cf.h, .int .i64 E.cf.r, .int .i64 E.cf.c, gp E.gc, gp (E.b + 1), .slice E.ba E.bn E.bc] 32)
  have L0 := Lib.hid (Lies.new w 32 E.cl)
  have H0 := Lib.hid (Lies.next H.out B0)
  have B0 := Lib.hid B0
  go_enter Try.func57, Try.ntmps57
  go_upto_region 1 with fail
  generalize w.heap.size = g1 at L0 ⊢
  generalize w.alloc (Obj.cells #[.int .i64 E.cf.k, .int .i64 E.cf.s, .int .i64 E.cf.l, .int .i64 E.cf.g, .int .i64 E.cf.z, .int .i64 E.cf.h, .int .i64 E.cf.r, .int .i64 E.cf.c, gp E.gc, gp (E.b + 1), .slice E.ba E.bn E.bc] 32) = w1 at L0 H0 B0 ⊢
  have c8 := L0.out.cell (i := 8) rfl
  go_wp2_with fail
  refine (Ct.hold_held H0 n).mono ?_
  rintro r w2 ⟨rfl, rfl⟩
  go_wp2
  go_ret
  exact ⟨rfl, B0.out⟩
/-- the shard that owns a group, unless that is moving -/
theorem home_ok {i : Nat} {M : List Ow.O} {o : Ow.O} (H : Hid (Ow.Is w E.b E.cf.h M)) (hx : M[i]? = some o) : Calls Try.prog 75 #[E.v, .int .i64 i] w fun r w' => r = .returned (.tuple #[.int .i64 o.s, .bool (!o.m)]) ∧ Below w.heap.size w w' := by
  have B0 := below1 w (Obj.cells #[.int .i64 E.cf.k, .int .i64 E.cf.s, .int .i64 E.cf.l, .int .i64 E.cf.g, .int .i64 E.cf.z, .int .i64 E.cf.h, .int .i64 E.cf.r, .int .i64 E.cf.c, gp E.gc, gp (E.b + 1), .slice E.ba E.bn E.bc] 32)
  have L0 := Lib.hid (Lies.new w 32 E.cl)
  have H0 := Lib.hid (Ow.Is.next H.out B0)
  have B0 := Lib.hid B0
  go_enter Try.func75, Try.ntmps75
  go_upto_region 1 with fail
  generalize w.heap.size = g1 at L0 ⊢
  generalize w.alloc (Obj.cells #[.int .i64 E.cf.k, .int .i64 E.cf.s, .int .i64 E.cf.l, .int .i64 E.cf.g, .int .i64 E.cf.z, .int .i64 E.cf.h, .int .i64 E.cf.r, .int .i64 E.cf.c, gp E.gc, gp (E.b + 1), .slice E.ba E.bn E.bc] 32) = w1 at L0 H0 B0 ⊢
  have c9 := L0.out.cell (i := 9) rfl
  obtain ⟨os, ov, om⟩ := o
  go_wp2_with fail
  refine (Ow.of_yes H0 hx).mono ?_
  rintro r w2 ⟨rfl, k1⟩
  have B2 : Hid (Below w.heap.size w w2) := Lib.hid (after B0.out k1)
  clear k1
  go_upto_region 4 with fail
  have B3 := Lib.hid (after B2.out (below1 w2 (Obj.cells #[.int .i64 os, .int .i64 ov, .bool om] 64)))
  have L3 := Lib.hid (Lies.new w2 64 [.int .i64 os, .int .i64 ov, .bool om])
  generalize w2.heap.size = g2 at L3 ⊢
  generalize w2.alloc (Obj.cells #[.int .i64 os, .int .i64 ov, .bool om] 64) = w3 at L3 B3 ⊢
  have c0 := L3.out.cell (i := 0) rfl
  have c2 := L3.out.cell (i := 2) rfl
  go_quiet (fail)
  go_wp2
  go_ret2
  exact ⟨rfl, after B3.out (Ct.below_drewN _ _)⟩
/-- a reply that shares nothing with the one that is handed in -/
theorem apart_ok (y : Rp) (w : World) (H : Hid (Out.Rd w y.pv y.P)) (hn : y.P.length ≤ 9000) : Calls Try.prog 42 #[y.v] w fun r w' => ∃ z : Rp, r = .returned z.v ∧ z.code = y.code ∧ z.P = y.P ∧ Sl.Own Pn.k w.heap.size w' z.pv z.P ∧ Below w.heap.size w w' := by
  obtain ⟨code, ya, yn, yc, P⟩ := y
  dsimp only at *
  have B0 := below2 w (Obj.cells #[.int .i64 code, .slice ya yn yc] 43) (Obj.cells #[.int .i64 0, .slice none 0 0] 43)
  have L0 := Lib.hid ((Lies.new w 43 [.int .i64 code, .slice ya yn yc]).next (below1 _ (Obj.cells #[.int .i64 0, .slice none 0 0] 43)))
  have M0 := Lies.new (w.alloc (Obj.cells #[.int .i64 code, .slice ya yn yc] 43)) 43 [.int .i64 0, .slice none 0 0]
  simp only [World.size_alloc] at M0
  have M0 := Lib.hid M0
  have H0 := Lib.hid (H.out.next B0)
  have B0 := Lib.hid B0
  go_enter Try.func42, Try.ntmps42
  go_upto_region 1 with fail
  generalize hg : w.heap.size = g1 at L0 M0 ⊢
  generalize (w.alloc (Obj.cells #[.int .i64 code, .slice ya yn yc] 43)).alloc (Obj.cells #[.int .i64 0, .slice none 0 0] 43) = w1 at L0 M0 H0 B0 ⊢
  have c0 := L0.out.cell (i := 0) rfl
  have c1 := L0.out.cell (i := 1) rfl
  go_wp2_with fail
  refine (Out.clone_ok _ _ w1 H0 hn).mono ?_
  rintro r w2 ⟨v', rfl, o2, k2⟩
  obtain ⟨A, n, c, rfl⟩ := lit_pn o2
  have s1 : Hid (w.heap.size ≤ w1.heap.size) := Lib.hid B0.out.size
  have L2 := Lib.hid (L0.out.next k2)
  have M2 := Lib.hid (M0.out.next k2)
  have O2 := Lib.hid o2
  have B2 := Lib.hid (after B0.out k2)
  have NX : Hid (∀ a, (Value.slice A n c).ownBlock = some a → w1.heap.size ≤ a) := Lib.hid fun a ha => (o2.lt a ha).1
  have gl : Hid (g1 < w1.heap.size ∧ g1 + 1 < w1.heap.size) := Lib.hid ⟨L0.out.lt, M0.out.lt⟩
  have HG := Lib.hid hg
  clear o2 k2 c0 c1 hg
  have c0 := L2.out.cell (i := 0) rfl
  have c1 := L2.out.cell (i := 1) rfl
  have f1 := L2.out.open_ 1
  dsimp only
  go_upto_region 2 with fail
  have l3 := Lib.hid (L2.out.put 1 (.slice A n c))
  have k3 : w2.grownBy (w2.setCell ⟨g1, 1, none⟩ (.slice A n c)) (some g1) := ⟨rfl, rfl, rfl, by simp, fun i hi hn => Below.heap_setCell w2 ⟨g1, 1, none⟩ _ i fun e => hn (by rw [e])⟩
  have m3 := Lib.hid ((k3.block (g1 + 1) M2.out.lt (by simp)).trans M2.out : Lies _ (g1 + 1) _ _)
  have K3 := Lib.hid k3
  have O3 := Lib.hid (O2.out.move fun i hi => k3.block i (O2.out.lt i hi).2 (by have := NX.out i hi; have := gl.out; simp; omega))
  have B3 := Lib.hid (B2.out.grown k3 B2.out.size fun j hj => by cases hj; have := HG.out; omega)
  clear c0 c1 f1 k3 L2 M2 O2 B2
  generalize w2.setCell ⟨g1, 1, none⟩ (.slice A n c) = w3 at l3 m3 K3 O3 B3 ⊢
  go_wp2_with (first
    | (refine wpList_plain rfl fun K' hK' => ld_rep (y := ⟨code, A, n, c, P⟩) _ rfl rfl l3.out (hK' _ _ ?_))
    | (refine wpList_plain rfl fun K' hK' => st_rep (y' := ⟨code, A, n, c, P⟩) _ _ rfl rfl rfl m3.out rfl (fun w4 z1 z2 => hK' _ _ ?_))
    | fail)
  refine bodyPost_ret (told_rep (y := ⟨code, A, n, c, P⟩) rfl rfl z1) rfl ⟨⟨code, A, n, c, P⟩, rfl, rfl, rfl, ?_, B3.out.grown z2 B3.out.size fun j hj => by cases hj; have := HG.out; omega⟩
  have o4 : Sl.Own Pn.k w1.heap.size w4 (.slice A n c) P := O3.out.move fun i hi => z2.block i (O3.out.lt i hi).2 (by have := NX.out i hi; have := gl.out; simp; omega)
  exact own_base o4 s1.out
end
end Cn
end Go.Proofs.Ytjncogjafljbiaa
