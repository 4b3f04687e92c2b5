/-
  HandPlays: what any steps of a handoff come to, in any order: each answer, the owner, and what is asked: for all numbers of groups and shards, any group, any shard, any deeds.
-/
import Derived.Test.YtdnigpkdnkbfbaaUp15
import Derived.Test.YtdnigpkdnkbfbaaOpens
import Derived.Test.YtdnigpkdnkbfbaaLaid
import Derived.Deep.DeepCutAuto
namespace Go.Proofs.Ytdnigpkdnkbfbaa
open Go.ChangeShapes Go.WideShapes Go.ChangeAt Go.RowKit Small Foot
set_option maxRecDepth 100000
set_option linter.unusedVariables false
namespace Hd
theorem eql_ptr (w : World) (d : Nat) (s : Option Nat) : (Op.equalIn (d + 1) 37 (stv s) (stv s)).run Try.prog w = .ok true w := by
  cases s <;> simp [stv, Op.equalIn, sameAddr, run_underlying Try.underlying37]
theorem neq_same (w : World) (k g : Int) (s : Option Nat) : (binOp .neq 45 (mval k g s) (mval k g s)).run Try.prog w = .ok (.bool false) w := by
  have := eql_ptr w 9998 s
  simp [go_sem, this]
/-- what Pick tells -/
def pk (c n : Int) : Int := (if c < 0 then -(c + 1) else c) % n
theorem pk_in {c n : Int} (h : 0 < n) : 0 ≤ pk c n ∧ pk c n < n := ⟨Int.emod_nonneg _ (by omega), Int.emod_lt_of_pos _ h⟩
set_option maxHeartbeats 800000 in
theorem pick_det (c n : Int) (w : World) (hc : (Lit.int .i64 c).wf = true) (hn : 0 < n) (hn2 : n ≤ 1000) : Calls Try.prog 12 #[.int .i64 c, .int .i64 n] w fun r w' => r = .returned (.int .i64 (pk c n)) ∧ w = w' := by
  obtain ⟨c0, c1⟩ := fit hc
  by_cases h : c < 0
  · have t1 : IntKind.i64.wrap (c + 1) = c + 1 := IntWalk.i64_in _ (by omega)
    have t2 : IntKind.i64.wrap (-(c + 1)) = -(c + 1) := IntWalk.i64_in _ (by omega)
    have n0 : ¬ n = 0 := by omega
    have n1 : (n == 0) = false := by simpa using n0
    have e : (-(c + 1)).tmod n = (-(c + 1)) % n := Int.tmod_eq_emod_of_nonneg (by omega)
    have e2 : -(c + 1).tmod n = (-(c + 1)) % n := by rw [← e, Int.neg_tmod]
    have hp : pk c n = (-(c + 1)) % n := by unfold pk; rw [if_pos h]
    have E := Lib.hid e2
    have HP := Lib.hid hp
    clear e e2 hp
    go_enter Try.func12, Try.ntmps12
    go_wp2
    go_ret
    exact ⟨ret_int (by first | (rw [HP.out]; done) | rw [E.out, HP.out]), rfl⟩
  · have n0 : ¬ n = 0 := by omega
    have n1 : (n == 0) = false := by simpa using n0
    have e : c.tmod n = c % n := Int.tmod_eq_emod_of_nonneg (by omega)
    have hp : pk c n = c % n := by unfold pk; rw [if_neg h]
    have E := Lib.hid e
    have HP := Lib.hid hp
    clear e hp
    go_enter Try.func12, Try.ntmps12
    go_wp2
    go_ret
    exact ⟨ret_int (by first | (rw [HP.out]; done) | rw [E.out, HP.out]), rfl⟩

/-! ### the state that is handed on: any group -/
theorem windows_ok (w : World) : Calls Try.prog 21 #[.agg #[.int .i64 0, .int .i64 10, .int .i64 0, .int .i64 0, .int .i64 0, .int .i64 1, .int .i64 1, .int .i64 1]] w fun r w' => r = .returned (.bool true) ∧ Below w.heap.size w w' := by
  go_enter Try.func21, Try.ntmps21
  go_wp2
  go_ret
  exact ⟨rfl, below1 _ _⟩
theorem within_ok (m : Int) (hm : 1 ≤ m) (w : World) : Calls Try.prog 22 #[.int .i64 1, .int .i64 m] w fun r w' => r = .returned (.bool true) ∧ w = w' := by
  go_enter Try.func22, Try.ntmps22
  go_wp2
  go_ret
  exact ⟨rfl, rfl⟩
abbrev CC : Obj := Obj.cells #[.int .i64 0, .int .i64 10, .int .i64 0, .int .i64 0, .int .i64 0, .int .i64 1, .int .i64 1, .int .i64 1] 41
abbrev CL : List Value := [.int .i64 0, .int .i64 10, .int .i64 0, .int .i64 0, .int .i64 0, .int .i64 1, .int .i64 1, .int .i64 1]
theorem may_ok (w : World) : Calls Try.prog 18 #[.agg #[.int .i64 0, .int .i64 10, .int .i64 0, .int .i64 0, .int .i64 0, .int .i64 1, .int .i64 1, .int .i64 1]] w fun r w' => r = .returned (.bool true) ∧ Below w.heap.size w w' := by
  have K0 := Lib.hid (below1 w CC)
  have L0 : Hid (Lies (w.alloc CC) w.heap.size 41 CL) := Lib.hid (Lies.new _ _ CL)
  go_enter Try.func18, Try.ntmps18
  go_wp2_with fail
  refine (windows_ok _).mono ?_
  rintro r w1 ⟨rfl, k1⟩
  have K1 := Lib.hid (after K0.out k1)
  have L1 := Lib.hid (L0.out.next k1)
  clear k1 K0 L0
  have c4 := L1.out.cell (i := 4) rfl
  have c5 := L1.out.cell (i := 5) rfl
  have c6 := L1.out.cell (i := 6) rfl
  have c7 := L1.out.cell (i := 7) rfl
  go_wp2_with fail
  refine (within_ok 8 (by decide) w1).mono ?_
  rintro r w2 ⟨rfl, rfl⟩
  go_wp2_with fail
  refine (within_ok 16 (by decide) w1).mono ?_
  rintro r w2 ⟨rfl, rfl⟩
  go_wp2_with fail
  refine (within_ok 16 (by decide) w1).mono ?_
  rintro r w2 ⟨rfl, rfl⟩
  go_wp2
  go_ret
  exact ⟨rfl, K1.out⟩
theorem timers_ok (w : World) : Calls Try.prog 19 #[] w fun r w' => ∃ g, r = .returned (gp g) ∧ Below w.heap.size w w' := by
  have hm := fun w' : World => run_makeMap (P := Try.prog) 75 w'
  go_enter Try.func19, Try.ntmps19
  go_wp2
  go_ret
  exact ⟨_, rfl, below2 _ _ _⟩
set_option maxHeartbeats 1600000 in
theorem group_ok (w : World) : Calls Try.prog 9 #[.agg #[.int .i64 0, .int .i64 10, .int .i64 0, .int .i64 0, .int .i64 0, .int .i64 1, .int .i64 1, .int .i64 1]] w fun r w' => ∃ g, r = .returned (.tuple #[gp g, .nilIface]) ∧ Below w.heap.size w w' := by
  have K0 := Lib.hid (below1 w CC)
  have L0 : Hid (Lies (w.alloc CC) w.heap.size 41 CL) := Lib.hid (Lies.new _ _ CL)
  go_enter Try.func9, Try.ntmps9
  go_wp2_with fail
  refine (may_ok _).mono ?_
  rintro r w1 ⟨rfl, k1⟩
  have K1 := Lib.hid (after K0.out k1)
  have L1 := Lib.hid (L0.out.next k1)
  clear k1 K0 L0
  go_upto_region 3 with fail
  have hm := fun w' : World => run_makeMap (P := Try.prog) 68 w'
  have CS : Hid (∀ w', Below w1.heap.size w1 w' → w'.cell? ⟨w.heap.size, 0, none⟩ = some (.int .i64 0) ∧ w'.cell? ⟨w.heap.size, 1, none⟩ = some (.int .i64 10) ∧ w'.cell? ⟨w.heap.size, 2, none⟩ = some (.int .i64 0) ∧ w'.cell? ⟨w.heap.size, 3, none⟩ = some (.int .i64 0) ∧ w'.cell? ⟨w.heap.size, 4, none⟩ = some (.int .i64 0) ∧ w'.cell? ⟨w.heap.size, 5, none⟩ = some (.int .i64 1) ∧ w'.cell? ⟨w.heap.size, 6, none⟩ = some (.int .i64 1) ∧ w'.cell? ⟨w.heap.size, 7, none⟩ = some (.int .i64 1) ∧ Below w1.heap.size w1 w') := Lib.hid fun w' hB => ⟨(L1.out.next hB).cell (i := 0) rfl, (L1.out.next hB).cell (i := 1) rfl, (L1.out.next hB).cell (i := 2) rfl, (L1.out.next hB).cell (i := 3) rfl, (L1.out.next hB).cell (i := 4) rfl, (L1.out.next hB).cell (i := 5) rfl, (L1.out.next hB).cell (i := 6) rfl, (L1.out.next hB).cell (i := 7) rfl, hB⟩
  have CB : Hid (∀ w', w'.cell? ⟨w.heap.size, 0, none⟩ = some (.int .i64 0) ∧ w'.cell? ⟨w.heap.size, 1, none⟩ = some (.int .i64 10) ∧ w'.cell? ⟨w.heap.size, 2, none⟩ = some (.int .i64 0) ∧ w'.cell? ⟨w.heap.size, 3, none⟩ = some (.int .i64 0) ∧ w'.cell? ⟨w.heap.size, 4, none⟩ = some (.int .i64 0) ∧ w'.cell? ⟨w.heap.size, 5, none⟩ = some (.int .i64 1) ∧ w'.cell? ⟨w.heap.size, 6, none⟩ = some (.int .i64 1) ∧ w'.cell? ⟨w.heap.size, 7, none⟩ = some (.int .i64 1) ∧ Below w1.heap.size w1 w' → Below w1.heap.size w1 w') := Lib.hid fun w' h => h.2.2.2.2.2.2.2.2
  go_region_held3 (fun w' => w'.cell? ⟨w.heap.size, 0, none⟩ = some (.int .i64 0) ∧ w'.cell? ⟨w.heap.size, 1, none⟩ = some (.int .i64 10) ∧ w'.cell? ⟨w.heap.size, 2, none⟩ = some (.int .i64 0) ∧ w'.cell? ⟨w.heap.size, 3, none⟩ = some (.int .i64 0) ∧ w'.cell? ⟨w.heap.size, 4, none⟩ = some (.int .i64 0) ∧ w'.cell? ⟨w.heap.size, 5, none⟩ = some (.int .i64 1) ∧ w'.cell? ⟨w.heap.size, 6, none⟩ = some (.int .i64 1) ∧ w'.cell? ⟨w.heap.size, 7, none⟩ = some (.int .i64 1) ∧ Below w1.heap.size w1 w')
    (first | exact CS.out _ (Below.refl _ _).drew | exact CS.out _ (after (CB.out _ (by assumption)) k9) | exact CS.out _ (after (CB.out _ (by assumption)) (below1 _ _)))
    (first | (go_at_call 19; refine (timers_ok _).mono ?_; rintro e w9 ⟨tg, rfl, k9⟩))
  all_goals
    rename_i hh
    have K2 := Lib.hid (after K1.out (CB.out _ hh))
    clear hh CS CB
    go_wp2
    go_ret2
    exact ⟨_, rfl, K2.out⟩

/-! ### what a worker did, whole: read, written, made -/
section
variable {w : World} {g : Nat} {cs cs' : List Value}
theorem load_did (h : Lies w g 55 cs) (hl : cs.length = 16) : (loadVar 55 ⟨g, 0, none⟩).run Try.prog w = .ok (.agg cs.toArray) w := by
  have := run_loadCells_list (P := Try.prog) w ⟨g, 0, none⟩ cs fun j v hj => by rw [Addr.add_lit, Nat.zero_add]; exact h.cell hj
  rw [hl] at this
  unfold loadVar
  simp only [Sem.run_bind, Try.isAgg55, Try.sizeOf55, Result.andThen_ok, if_true, this, Sem.run_pure]
theorem wp_load_did {o : Oper} {a : Act} {K : Act → World → Prop} {Q : Exit → Act → World → Prop} (x : Operand) (ho : o.op = .load 55 x) (hx : a.eval x = .pointer (some ⟨g, 0, none⟩)) (h : Lies w g 55 cs) (hl : cs.length = 16)
    (hK : K (a.put o.dst (.agg cs.toArray)) w) : o.wp Try.prog a w K Q := by
  unfold Oper.wp execOp
  simp only [ho, hx, Instr.loadAt, Instr.sureAddr, Sem.run_bind, Sem.run_pure, Result.andThen_ok, load_did h hl]
  exact hK
theorem store_did (h : Lies w g 55 cs) (hl : cs.length = 16) (hl' : cs'.length = 16) (h1 : ∀ v ∈ cs', v.oneCell' = true) :
    ∃ w', (storeVar 55 ⟨g, 0, none⟩ (.agg cs'.toArray)).run Try.prog w = .ok () w' ∧ Lies w' g 55 cs' ∧ w.grownBy w' (some g) := by
  have hst := run_storeCells_at Try.prog g 0 55 cs' 0 cs.toArray w h (by simp; omega) h1
  have hd : cs.drop (0 + 0 + cs'.length) = [] := List.drop_eq_nil_of_le (by omega)
  rw [show (cs.toArray.toList.take (0 + 0) ++ cs' ++ cs.toArray.toList.drop (0 + 0 + cs'.length)).toArray = cs'.toArray by rw [show cs.toArray.toList = cs from rfl, hd]; simp] at hst
  refine ⟨w.setRow g cs'.toArray, ?_, setRow_heap _ _ _ _ _ _ h, setRow_grown _ _ _⟩
  unfold storeVar
  have hc : (Value.agg cs'.toArray).cells = cs'.toArray := rfl
  simp only [Sem.run_bind, Try.sizeOf55, Result.andThen_ok, hc, List.size_toArray, hl', ne_eq, not_true_eq_false, if_false]
  exact hst
theorem wp_store_did {o : Oper} {a : Act} {K : Act → World → Prop} {Q : Exit → Act → World → Prop} (x y : Operand) (ho : o.op = .store 55 x y) (hx : a.eval x = .pointer (some ⟨g, 0, none⟩)) (hy : a.eval y = .agg cs'.toArray) (h : Lies w g 55 cs) (hl : cs.length = 16) (hl' : cs'.length = 16) (h1 : ∀ v ∈ cs', v.oneCell' = true)
    (hK : ∀ w', Lies w' g 55 cs' → w.grownBy w' (some g) → K (a.put o.dst undef) w') : o.wp Try.prog a w K Q := by
  obtain ⟨w', hr, q1, q2⟩ := store_did h hl hl' h1
  unfold Oper.wp execOp
  simp only [ho, hx, hy, Instr.storeAt, Instr.sureAddr, Sem.run_bind, Sem.run_pure, Result.andThen_ok, hr]
  exact hK w' q1 q2
theorem one_did (k x : Int) (s t : Option Nat) : ∀ v ∈ dcl k x s t, v.oneCell' = true := by
  intro v hv
  simp only [List.mem_cons, List.not_mem_nil, or_false] at hv
  rcases hv with rfl | rfl | rfl | rfl | rfl | rfl | rfl | rfl | rfl | rfl | rfl | rfl | rfl | rfl | rfl | rfl <;> rfl
theorem build_msg2 (w : World) (k x : Int) : (Instr.build 45 #[(0, .int .i64 k), (3, .int .i64 x)]).run Try.prog w = .ok (mval k x none) w := by kernel_rfl
theorem build_did1 (w : World) (k x : Int) : (Instr.build 55 #[(0, mval k x none)]).run Try.prog w = .ok (dval k x none none) w := by kernel_rfl
theorem build_did2 (w : World) (k x : Int) (g : Nat) : (Instr.build 55 #[(0, mval k x none), (4, .pointer (some ⟨g, 0, none⟩))]).run Try.prog w = .ok (dval k x none (some g)) w := by kernel_rfl
section
variable {w : World} {o : Oper} {a : Act} {K : Act → World → Prop} {Q : Exit → Act → World → Prop}
theorem wp_bmsg {k x : Int} (y : Operand) (ho : o.op = .build 45 #[(0, .const (.int .i64 k)), (3, y)]) (hy : a.eval y = .int .i64 x) (hK : K (a.put o.dst (mval k x none)) w) : o.wp Try.prog a w K Q := by
  unfold Oper.wp execOp
  simp only [ho, List.map_toArray, List.map_cons, List.map_nil, show a.eval (.const (.int .i64 k)) = .int .i64 k from rfl, hy, Sem.run_bind, Sem.run_pure, Result.andThen_ok, build_msg2]
  exact hK
theorem wp_bdid1 {k x : Int} (y : Operand) (ho : o.op = .build 55 #[(0, y)]) (hy : a.eval y = mval k x none) (hK : K (a.put o.dst (dval k x none none)) w) : o.wp Try.prog a w K Q := by
  unfold Oper.wp execOp
  simp only [ho, List.map_toArray, List.map_cons, List.map_nil, hy, Sem.run_bind, Sem.run_pure, Result.andThen_ok, build_did1]
  exact hK
theorem wp_bdid2 {k x : Int} {g : Nat} (y z : Operand) (ho : o.op = .build 55 #[(0, y), (4, z)]) (hy : a.eval y = mval k x none) (hz : a.eval z = .pointer (some ⟨g, 0, none⟩)) (hK : K (a.put o.dst (dval k x none (some g))) w) : o.wp Try.prog a w K Q := by
  unfold Oper.wp execOp
  simp only [ho, List.map_toArray, List.map_cons, List.map_nil, hy, hz, Sem.run_bind, Sem.run_pure, Result.andThen_ok, build_did2]
  exact hK
end
abbrev zdl : List Value := [.int .i64 0, .int .i64 0, .int .i64 0, .string ⟨#[]⟩, .int .i64 0, .int .i64 0, .int .i64 0, .int .i64 0, .int .i64 0, .int .i64 0, .pointer none, .bool false, .int .i64 0, .slice none 0 0, .slice none 0 0, .pointer none]
theorem grown_below {w0 w1 w2 : World} {g : Nat} (k : Below w0.heap.size w0 w1) (z : w1.grownBy w2 (some g)) (hg : w0.heap.size ≤ g) : Below w0.heap.size w0 w2 := k.grown z k.size fun j hj => by cases hj; exact hg
end
/-! ### deeds that came in -/
structure Deed where
  c : Int
  o : Bool
instance : Inhabited Deed := ⟨⟨0, false⟩⟩
abbrev dl (x : Deed) : List Value := [.int .i64 x.c, .bool x.o]
def DFits (x : Deed) : Prop := (Lit.int .i64 x.c).wf = true
theorem cellsD : Try.prog.cellsOf 50 = 2 := by kernel_rfl
theorem cellsN : Try.prog.cellsOf 3 = 1 := by kernel_rfl
theorem cellsB : Try.prog.cellsOf 4 = 1 := by kernel_rfl
theorem deed_cells {H : Type} {enc : TypeId × Value → H} {w : World} {base : Nat} {held : Bool} {spare : Nat → Bool} (m : Nat) (cs : List Value) (y : DataW H × List MemPlace)
    (h : DataW.trod enc Try.prog w base spare held m 50 cs = some y) : ∃ x : Deed, cs = dl x ∧ DFits x := by
  obtain ⟨xs, n, _, _, hl, hlen, hat⟩ := DataW.trod_struct Try.underlying50 h
  match cs, hl.trans cellsD with
  | [c0, c1], _ =>
    match xs, hlen with
    | [y0, y1], _ =>
      have g0 := hat 0 _ rfl
      have g1 := hat 1 _ rfl
      simp [cellsN, cellsB] at g0 g1
      obtain ⟨a0, e0, -, w0⟩ := DataW.trod_int Try.underlying3 g0
      obtain ⟨a1, e1, -⟩ := DataW.trod_bool Try.underlying4 g1
      simp at e0 e1
      subst e0 e1
      exact ⟨⟨a0, a1⟩, rfl, w0⟩
def Row (A : Option Addr) (n : Nat) (f : Nat → Deed) (w : World) : Prop := 0 < n → ∃ b off, A = some ⟨b, off, none⟩ ∧ ∀ i, i < n → ∀ j v, (dl (f i))[j]? = some v → w.cell? ⟨b, off + (i * 2 + j), none⟩ = some v
theorem Row.next {A : Option Addr} {n : Nat} {f : Nat → Deed} {w w' : World} (h : Row A n f w) (k : Below w.heap.size w w') : Row A n f w' := fun h0 => by
  obtain ⟨b, off, e, hc⟩ := h h0
  exact ⟨b, off, e, fun i hi j v hv => cell_keep k (hc i hi j v hv)⟩
/-! ### what a handoff stands at -/
def kd : Nat → Int
  | 0 => 3
  | 1 => 3
  | 2 => 4
  | 3 => 4
  | _ => 0
def sn : Nat → Bool
  | 1 => true
  | 3 => true
  | _ => false
def sp (g : Nat) : Nat → Option Nat
  | 2 => some g
  | _ => none
/-- the group's owner -/
def ow (s tt : Int) (i : Nat) : Nat → Ow.O
  | 4 => ⟨tt, 1, false⟩
  | _ => ⟨(i : Int) % s, 0, true⟩
structure St (w : World) (h b i : Nat) (s tt : Int) (n g p : Nat) : Prop where
  hand : Is w h b i tt (kd p) (sn p) (sp g p)
  table : Ow.Is w b s ((Ow.ini s n n).set i (ow s tt i p))
theorem St.next {w w' : World} {h b i : Nat} {s tt : Int} {n g p : Nat} (x : St w h b i s tt n g p) (k : Below w.heap.size w w') : St w' h b i s tt n g p := ⟨x.hand.next k, x.table.next k⟩
end Hd
namespace Opens
theorem open_deeds {H : Type} {enc : TypeId × Value → H} {w : World} {base : Nat} {held : Bool} {spare : Nat → Bool} {r : Reach} {b0 : Nat} {v : Value} {d : DataW H} {p : List MemPlace}
    (hv : Value.okWide Try.prog w r b0 22 v) (h : DataW.Trod enc Try.prog w base spare held 22 v d p) :
    ∃ x : Option Addr × Nat × Nat × (Nat → Hd.Deed), v = .slice x.1 x.2.1 x.2.2.1 ∧ Opens.IsRows Hd.dl 2 Hd.DFits w x :=
  Opens.open_rows Hd.dl Hd.DFits Try.underlying22 Hd.cellsD (by omega) Hd.deed_cells hv h
end Opens
namespace handPlays
open Small Foot Hd
set_option maxHeartbeats 16000000 in
theorem walk_on (n : Nat) (s : Int) (i : Nat) (tt : Int) (A : Option Addr) (m cp : Nat) (f : Nat → Deed) (w : World) (n1 : 1 ≤ n) (n2 : n ≤ 16) (s1 : 1 ≤ s) (s2 : s ≤ 8) (hi : i < n) (t1 : 0 ≤ tt) (t2 : tt < s) (hm : m ≤ 60) (hf : Hid (∀ i, i < m → DFits (f i))) (hc : Hid (Row A m f w)) :
    Calls Try.prog 3 #[.int .i64 n, .int .i64 s, .int .i64 i, .int .i64 tt, .slice A m cp] w fun r w' => r = .returned (.bool true) ∧ Below w.heap.size w w' := by
  have q60 : ¬ (60 : Int) < m := by omega
  have q1 : ¬ tt < 0 := by omega
  have q2 : ¬ s ≤ tt := by omega
  have q3 : ¬ (i : Int) < 0 := by omega
  have q4 : ¬ (n : Int) ≤ i := by omega
  go_enter Try.func3, Try.ntmps3
  go_wp2_with fail
  refine (up_ok w).mono ?_
  rintro r w1 ⟨rfl, k1⟩
  have K1 := Lib.hid k1
  clear k1
  go_wp2_with fail
  refine (Ow.new_ok n s w1 n1 n2 s1 s2).mono ?_
  rintro r w2 ⟨rfl, b2, k2⟩
  have B2 := Lib.hid b2
  have K2 := Lib.hid (after K1.out k2)
  have F2 := Lib.hid (fun j hj => Nat.le_trans K1.out.size (Ow.Is.from w1.heap.size j hj) : From w.heap.size (Ow.Fp w1.heap.size))
  clear b2 k2 K1
  generalize w1.heap.size = b at B2 F2 ⊢
  go_wp2_with fail
  refine (new_ok (o := ⟨(i : Int) % s, 0, false⟩) B2 (by rw [Ow.ini_at s n hi, if_pos hi]) rfl t1 t2).mono ?_
  rintro r w3 ⟨h, rfl, hlt, h3, b3, v3⟩
  have X3 : Hid (∀ g, St w3 h b i s tt n g 0) := Lib.hid fun g => ⟨h3, b3⟩
  have K3 := Lib.hid (K2.out.trans (v3.below F2.out K2.out.size))
  have NE : Hid (¬ Ow.Fp b h) := Lib.hid fun q => by have := B2.out.in h q; omega
  have HB : Hid (w.heap.size ≤ h) := Lib.hid (Nat.le_trans K2.out.size hlt)
  clear h3 b3 v3 B2 K2 hlt
  go_wp2_with fail
  refine (Errs.code_nil w3).mono ?_
  rintro r w4 ⟨rfl, rfl⟩
  go_wp2_with fail
  have T3 : Hid (Ow.Is w3 b s ((Ow.ini s n n).set i ⟨(i : Int) % s, 0, true⟩)) := Lib.hid (X3.out 0).table
  refine (Ow.of_yes (i := i) (o := ⟨(i : Int) % s, 0, true⟩) T3 (by rw [List.getElem?_set_self (by rw [Ow.ini_len]; exact hi)])).mono ?_
  rintro r w5 ⟨rfl, k5⟩
  clear T3
  go_upto_region 14 with fail
  have k6 := k5.alloc k5.size (Obj.cells #[.int .i64 ((i : Int) % s), .int .i64 0, .bool true] 34)
  have O6 : Hid (Lies (w5.alloc (Obj.cells #[.int .i64 ((i : Int) % s), .int .i64 0, .bool true] 34)) w5.heap.size 34 [.int .i64 ((i : Int) % s), .int .i64 0, .bool true]) := Lib.hid (Lies.new _ _ [.int .i64 ((i : Int) % s), .int .i64 0, .bool true])
  have X6 := Lib.hid (fun g => (X3.out g).next k6)
  have K6 := Lib.hid (after K3.out k6)
  clear k5 k6 X3 K3
  generalize w5.heap.size = g6 at O6 ⊢
  generalize w5.alloc (Obj.cells #[.int .i64 ((i : Int) % s), .int .i64 0, .bool true] 34) = w6 at O6 X6 K6 ⊢
  go_wp2_with fail
  refine (group_ok w6).mono ?_
  rintro r w7 ⟨gs, rfl, k7⟩
  have X7 : Hid (St w7 h b i s tt n gs 0) := Lib.hid ((X6.out gs).next k7)
  have K7 := Lib.hid (after K6.out k7)
  have O7 := Lib.hid (O6.out.next k7)
  have o2 := O7.out.cell (i := 2) rfl
  clear k7 X6 K6 O6
  go_wp2_with fail
  go_loopw [21, 22] (fun sv si wr => ∃ (p j : Nat), p ≤ 4 ∧ j ≤ m ∧ sv = .int .i64 p ∧ si = .int .i64 j ∧ Hid (St wr h b i s tt n gs p) ∧ Hid (Below w.heap.size w wr)) (fun _ si _ => m - (intOf si).toNat)
  case atStart => exact ⟨0, 0, by omega, by omega, rfl, rfl, X7, K7⟩
  case round =>
    obtain ⟨p, j, hp, hj, rfl, rfl, X, K⟩ := hrel
    by_cases hlt : j < m
    · obtain ⟨ab, off, rfl, hcell⟩ := (hc.out.next K.out) (by omega)
      have j0 : (j : Int) < m := by omega
      obtain ⟨x, hx0⟩ : ∃ x, x = f j := ⟨_, rfl⟩
      have fx : DFits x := hx0 ▸ hf.out j hlt
      have D : Hid (∀ w', Below w.heap.size w w' → w'.cell? ⟨ab, off + j * 2, none⟩ = some (.int .i64 x.c) ∧ w'.cell? ⟨ab, off + j * 2 + 1, none⟩ = some (.bool x.o)) := Lib.hid fun w' k => by
        obtain ⟨ab', off', e, hcell'⟩ := (hc.out.next k) (by omega)
        obtain ⟨rfl, rfl⟩ : ab = ab' ∧ off = off' := by simpa using e
        have e0 := hcell' j hlt 0 _ rfl
        have e1 := hcell' j hlt 1 _ rfl
        rw [← Nat.add_assoc] at e0 e1
        rw [hx0]
        exact ⟨e0, e1⟩
      clear hcell hx0
      obtain rfl | rfl | rfl | rfl | rfl : p = 0 ∨ p = 1 ∨ p = 2 ∨ p = 3 ∨ p = 4 := by omega
      · as_aux_lemma =>
          have HI : Hid (Is wr h b i tt 3 false none) := Lib.hid X.out.hand
          have TI : Hid (Ow.Is wr b s ((Ow.ini s n n).set i ⟨(i : Int) % s, 0, true⟩)) := Lib.hid X.out.table
          have hx : ((Ow.ini s n n).set i ⟨(i : Int) % s, 0, true⟩)[i]? = some ⟨(i : Int) % s, 0, true⟩ := by rw [List.getElem?_set_self (by rw [Ow.ini_len]; exact hi)]
          clear X
          go_wp2_with fail
          refine (ask_give HI TI hx).mono ?_
          rintro r w8 ⟨rfl, k8⟩
          go_upto_region 24 with fail
          have k9 := k8.alloc k8.size (Obj.cells #[.int .i64 3, .int .i64 0, .int .i64 0, .string ⟨#[]⟩, .int .i64 0, .int .i64 0, .int .i64 0, .int .i64 0, .int .i64 0, .int .i64 i, .pointer none] 45)
          have L9 : Hid (Lies (w8.alloc (Obj.cells #[.int .i64 3, .int .i64 0, .int .i64 0, .string ⟨#[]⟩, .int .i64 0, .int .i64 0, .int .i64 0, .int .i64 0, .int .i64 0, .int .i64 i, .pointer none] 45)) w8.heap.size 45 (mcl 3 i none)) := Lib.hid (Lies.new _ _ (mcl 3 i none))
          have H9 := Lib.hid (HI.out.next k9)
          have T9 := Lib.hid (TI.out.next k9)
          have K9 := Lib.hid (after K.out k9)
          clear k8 k9 HI TI K
          generalize w8.heap.size = g9 at L9 ⊢
          generalize w8.alloc (Obj.cells #[.int .i64 3, .int .i64 0, .int .i64 0, .string ⟨#[]⟩, .int .i64 0, .int .i64 0, .int .i64 0, .int .i64 0, .int .i64 0, .int .i64 i, .pointer none] 45) = w9 at L9 H9 T9 K9 ⊢
          have m0 := L9.out.cell (i := 0) rfl
          have m1 := L9.out.cell (i := 1) rfl
          have m2 := L9.out.cell (i := 2) rfl
          have m3 := L9.out.cell (i := 3) rfl
          have m4 := L9.out.cell (i := 4) rfl
          have m5 := L9.out.cell (i := 5) rfl
          have m6 := L9.out.cell (i := 6) rfl
          have m7 := L9.out.cell (i := 7) rfl
          have m8 := L9.out.cell (i := 8) rfl
          have m9 := L9.out.cell (i := 9) rfl
          have m10 : w9.cell? ⟨g9, 10, none⟩ = some (.pointer none) := L9.out.cell (i := 10) rfl
          have qn : ∀ w, (Op.equalIn 9999 37 (.pointer none) (.pointer none)).run Try.prog w = .ok true w := fun w => eql_ptr w 9998 none
          have qm : (i : Int).tmod s = (i : Int) % s := Int.tmod_eq_emod_of_nonneg (by omega)
          have qs : ¬ s = 0 := by omega
          go_wp2_with fail
          refine (over_ok H9).mono ?_
          rintro r w10 ⟨rfl, rfl⟩
          go_upto_region 32 with fail
          clear m0 m1 m2 m3 m4 m5 m6 m7 m8 m9 m10 qn qm qs L9
          obtain ⟨d0, d1⟩ := D.out w9 K9.out
          go_wp2_with fail
          refine (pick_det x.c 3 w9 fx (by decide) (by decide)).mono ?_
          rintro r _ ⟨rfl, rfl⟩
          obtain ⟨wh, hwh⟩ : ∃ v, v = pk x.c 3 := ⟨_, rfl⟩
          have hw3 := pk_in (c := x.c) (n := 3) (by decide)
          rw [← hwh] at hw3 ⊢
          clear hwh d0
          obtain ⟨o, ho⟩ : ∃ o, o = x.o := ⟨_, rfl⟩
          rw [← ho] at d1
          rw [← ho] at D
          clear ho fx
          have hw1 : IntKind.i64.wrap ((i : Int) + 1) = (i : Int) + 1 := IntWalk.i64_in _ (by omega)
          obtain rfl | rfl | rfl : wh = 0 ∨ wh = 1 ∨ wh = 2 := by omega
          · cases o with
            | false =>
              clear hw3
              go_wp2_with fail
              refine (sent_yes H9 (by decide)).mono ?_
              rintro r w11 ⟨rfl, h11, v11⟩
              have T11 := Lib.hid (T9.out.keep v11 (fun j hj q => NE.out (by obtain rfl : j = h := hj; exact q)))
              have H11 := Lib.hid h11
              have K11 := Lib.hid (K9.out.trans (v11.below (fun j hj => by obtain rfl : j = h := hj; exact HB.out) K9.out.size))
              clear h11 v11 H9 T9 K9 d1
              go_wp2_with fail
              exact ⟨⟨1, j + 1, by omega, by omega, rfl, by go_num, Lib.hid ⟨H11.out, T11.out⟩, Lib.hid K11.out⟩, by simp [intOf]; omega⟩
            | true =>
              clear hw3
              go_wp2_with fail
              refine (sent_yes H9 (by decide)).mono ?_
              rintro r w11 ⟨rfl, h11, v11⟩
              have T11 := Lib.hid (T9.out.keep v11 (fun j hj q => NE.out (by obtain rfl : j = h := hj; exact q)))
              have H11 := Lib.hid h11
              have K11 := Lib.hid (K9.out.trans (v11.below (fun j hj => by obtain rfl : j = h := hj; exact HB.out) K9.out.size))
              clear h11 v11 H9 T9 K9 d1
              go_wp2_with fail
              exact ⟨⟨1, j + 1, by omega, by omega, rfl, by go_num, Lib.hid ⟨H11.out, T11.out⟩, Lib.hid K11.out⟩, by simp [intOf]; omega⟩
          · cases o with
            | false =>
              clear hw3
              go_upto_region 41 with fail
              go_upto_region 42 with (first
                | (refine wpList_plain rfl fun K' hK' => wp_bmsg _ rfl rfl (hK' _ _ ?_); simp only [Act.put, List.setIfInBounds_toArray, List.set_cons_zero, List.set_cons_succ])
                | (refine wpList_plain rfl fun K' hK' => wp_bdid2 (g := gs) _ _ rfl rfl rfl (hK' _ _ ?_); simp only [Act.put, List.setIfInBounds_toArray, List.set_cons_zero, List.set_cons_succ])
                | (refine wpList_plain rfl fun K' hK' => wp_bdid1 _ rfl rfl (hK' _ _ ?_); simp only [Act.put, List.setIfInBounds_toArray, List.set_cons_zero, List.set_cons_succ])
                | (refine wpList_plain rfl fun K' hK' => wp_store_did (cs' := dcl 3 i none (some gs)) _ _ rfl rfl rfl (Lies.new _ _ zdl) rfl rfl (one_did _ _ _ _) (fun w11 z1 z2 => hK' _ _ ?_))
                | fail)
              have K11 := Lib.hid (grown_below (K9.out.alloc K9.out.size _) z2 K9.out.size)
              have k11 : Below w9.heap.size w9 w11 := (below1 w9 _).grown z2 (below1 w9 _).size (fun j hj => by cases hj; exact Nat.le_refl _)
              have L11 := Lib.hid z1
              have H11 := Lib.hid (H9.out.next k11)
              have T11 := Lib.hid (T9.out.next k11)
              have G11 := Lib.hid K9.out.size
              have G12 : Hid (h < w9.heap.size ∧ ¬ Ow.Fp b w9.heap.size) := Lib.hid ⟨H9.out.lt, fun q => by have := T9.out.in _ q; omega⟩
              clear z1 z2 k11 H9 T9 K9 d1
              generalize w9.heap.size = g11 at L11 G11 G12 ⊢
              go_upto_region 46 with fail
              have K12 := K11
              have L12 := L11
              have H12 := H11
              have T12 := T11
              clear K11 L11 H11 T11
              generalize w11 = w12 at K12 L12 H12 T12 ⊢
              obtain ⟨-, d1⟩ := D.out w12 K12.out
              go_wp2_with (first
                | (refine wpList_plain rfl fun K' hK' => wp_load_did _ rfl rfl L12.out rfl (hK' _ _ ?_); simp only [Act.put, List.setIfInBounds_toArray, List.set_cons_zero, List.set_cons_succ])
                | fail)
              refine (did_no H12 (.inl rfl)).mono ?_
              rintro r w13 ⟨rfl, k13⟩
              have H13 := Lib.hid (H12.out.next k13)
              have T13 := Lib.hid (T12.out.next k13)
              have K13 := Lib.hid (after K12.out k13)
              clear k13 H12 T12 K12 L12 d1
              go_wp2_with fail
              refine (Ow.of_yes (i := i) (o := ⟨(i : Int) % s, 0, true⟩) T13 (by rw [List.getElem?_set_self (by rw [Ow.ini_len]; exact hi)])).mono ?_
              rintro r w14 ⟨rfl, k14⟩
              go_upto_region 52 with fail
              have k15 := k14.alloc k14.size (Obj.cells #[.int .i64 ((i : Int) % s), .int .i64 0, .bool true] 34)
              have L15 : Hid (Lies (w14.alloc (Obj.cells #[.int .i64 ((i : Int) % s), .int .i64 0, .bool true] 34)) w14.heap.size 34 [.int .i64 ((i : Int) % s), .int .i64 0, .bool true]) := Lib.hid (Lies.new _ _ [.int .i64 ((i : Int) % s), .int .i64 0, .bool true])
              have H15 := Lib.hid (H13.out.next k15)
              have T15 := Lib.hid (T13.out.next k15)
              have K15 := Lib.hid (after K13.out k15)
              clear k14 k15 H13 T13 K13
              generalize w14.heap.size = g15 at L15 ⊢
              generalize w14.alloc (Obj.cells #[.int .i64 ((i : Int) % s), .int .i64 0, .bool true] 34) = w15 at L15 H15 T15 K15 ⊢
              have o0 := L15.out.cell (i := 0) rfl
              have o1 := L15.out.cell (i := 1) rfl
              have o2 := L15.out.cell (i := 2) rfl
              have ts : ¬ (tt : Int) ≠ tt := fun e => e rfl
              go_wp2_with fail
              exact ⟨⟨0, j + 1, by omega, by omega, rfl, by go_num, Lib.hid ⟨H15.out, T15.out⟩, Lib.hid K15.out⟩, by simp [intOf]; omega⟩
            | true =>
              clear hw3
              go_upto_region 41 with fail
              go_upto_region 42 with (first
                | (refine wpList_plain rfl fun K' hK' => wp_bmsg _ rfl rfl (hK' _ _ ?_); simp only [Act.put, List.setIfInBounds_toArray, List.set_cons_zero, List.set_cons_succ])
                | (refine wpList_plain rfl fun K' hK' => wp_bdid2 (g := gs) _ _ rfl rfl rfl (hK' _ _ ?_); simp only [Act.put, List.setIfInBounds_toArray, List.set_cons_zero, List.set_cons_succ])
                | (refine wpList_plain rfl fun K' hK' => wp_bdid1 _ rfl rfl (hK' _ _ ?_); simp only [Act.put, List.setIfInBounds_toArray, List.set_cons_zero, List.set_cons_succ])
                | (refine wpList_plain rfl fun K' hK' => wp_store_did (cs' := dcl 3 (i + 1) none (some gs)) _ _ rfl rfl rfl (Lies.new _ _ zdl) rfl rfl (one_did _ _ _ _) (fun w11 z1 z2 => hK' _ _ ?_))
                | fail)
              have K11 := Lib.hid (grown_below (K9.out.alloc K9.out.size _) z2 K9.out.size)
              have k11 : Below w9.heap.size w9 w11 := (below1 w9 _).grown z2 (below1 w9 _).size (fun j hj => by cases hj; exact Nat.le_refl _)
              have L11 := Lib.hid z1
              have H11 := Lib.hid (H9.out.next k11)
              have T11 := Lib.hid (T9.out.next k11)
              have G11 := Lib.hid K9.out.size
              have G12 : Hid (h < w9.heap.size ∧ ¬ Ow.Fp b w9.heap.size) := Lib.hid ⟨H9.out.lt, fun q => by have := T9.out.in _ q; omega⟩
              clear z1 z2 k11 H9 T9 K9 d1
              generalize w9.heap.size = g11 at L11 G11 G12 ⊢
              go_upto_region 46 with fail
              have K12 := K11
              have L12 := L11
              have H12 := H11
              have T12 := T11
              clear K11 L11 H11 T11
              generalize w11 = w12 at K12 L12 H12 T12 ⊢
              obtain ⟨-, d1⟩ := D.out w12 K12.out
              go_wp2_with (first
                | (refine wpList_plain rfl fun K' hK' => wp_load_did _ rfl rfl L12.out rfl (hK' _ _ ?_); simp only [Act.put, List.setIfInBounds_toArray, List.set_cons_zero, List.set_cons_succ])
                | fail)
              refine (did_no H12 (.inl rfl)).mono ?_
              rintro r w13 ⟨rfl, k13⟩
              have H13 := Lib.hid (H12.out.next k13)
              have T13 := Lib.hid (T12.out.next k13)
              have K13 := Lib.hid (after K12.out k13)
              clear k13 H12 T12 K12 L12 d1
              go_wp2_with fail
              refine (Ow.of_yes (i := i) (o := ⟨(i : Int) % s, 0, true⟩) T13 (by rw [List.getElem?_set_self (by rw [Ow.ini_len]; exact hi)])).mono ?_
              rintro r w14 ⟨rfl, k14⟩
              go_upto_region 52 with fail
              have k15 := k14.alloc k14.size (Obj.cells #[.int .i64 ((i : Int) % s), .int .i64 0, .bool true] 34)
              have L15 : Hid (Lies (w14.alloc (Obj.cells #[.int .i64 ((i : Int) % s), .int .i64 0, .bool true] 34)) w14.heap.size 34 [.int .i64 ((i : Int) % s), .int .i64 0, .bool true]) := Lib.hid (Lies.new _ _ [.int .i64 ((i : Int) % s), .int .i64 0, .bool true])
              have H15 := Lib.hid (H13.out.next k15)
              have T15 := Lib.hid (T13.out.next k15)
              have K15 := Lib.hid (after K13.out k15)
              clear k14 k15 H13 T13 K13
              generalize w14.heap.size = g15 at L15 ⊢
              generalize w14.alloc (Obj.cells #[.int .i64 ((i : Int) % s), .int .i64 0, .bool true] 34) = w15 at L15 H15 T15 K15 ⊢
              have o0 := L15.out.cell (i := 0) rfl
              have o1 := L15.out.cell (i := 1) rfl
              have o2 := L15.out.cell (i := 2) rfl
              have ts : ¬ (tt : Int) ≠ tt := fun e => e rfl
              go_wp2_with fail
              exact ⟨⟨0, j + 1, by omega, by omega, rfl, by go_num, Lib.hid ⟨H15.out, T15.out⟩, Lib.hid K15.out⟩, by simp [intOf]; omega⟩
          · cases o with
            | false =>
              clear hw3
              go_upto_region 41 with fail
              go_upto_region 42 with (first
                | (refine wpList_plain rfl fun K' hK' => wp_bmsg _ rfl rfl (hK' _ _ ?_); simp only [Act.put, List.setIfInBounds_toArray, List.set_cons_zero, List.set_cons_succ])
                | (refine wpList_plain rfl fun K' hK' => wp_bdid2 (g := gs) _ _ rfl rfl rfl (hK' _ _ ?_); simp only [Act.put, List.setIfInBounds_toArray, List.set_cons_zero, List.set_cons_succ])
                | (refine wpList_plain rfl fun K' hK' => wp_bdid1 _ rfl rfl (hK' _ _ ?_); simp only [Act.put, List.setIfInBounds_toArray, List.set_cons_zero, List.set_cons_succ])
                | (refine wpList_plain rfl fun K' hK' => wp_store_did (cs' := dcl 3 i none (some gs)) _ _ rfl rfl rfl (Lies.new _ _ zdl) rfl rfl (one_did _ _ _ _) (fun w11 z1 z2 => hK' _ _ ?_))
                | fail)
              have K11 := Lib.hid (grown_below (K9.out.alloc K9.out.size _) z2 K9.out.size)
              have k11 : Below w9.heap.size w9 w11 := (below1 w9 _).grown z2 (below1 w9 _).size (fun j hj => by cases hj; exact Nat.le_refl _)
              have L11 := Lib.hid z1
              have H11 := Lib.hid (H9.out.next k11)
              have T11 := Lib.hid (T9.out.next k11)
              have G11 := Lib.hid K9.out.size
              have G12 : Hid (h < w9.heap.size ∧ ¬ Ow.Fp b w9.heap.size) := Lib.hid ⟨H9.out.lt, fun q => by have := T9.out.in _ q; omega⟩
              clear z1 z2 k11 H9 T9 K9 d1
              generalize w9.heap.size = g11 at L11 G11 G12 ⊢
              go_upto_region 43 with fail
              go_upto_region 44 with fail
              go_upto_region 46 with (first
                | (refine wpList_plain rfl fun K' hK' => wp_bmsg _ rfl rfl (hK' _ _ ?_); simp only [Act.put, List.setIfInBounds_toArray, List.set_cons_zero, List.set_cons_succ])
                | (refine wpList_plain rfl fun K' hK' => wp_bdid2 (g := gs) _ _ rfl rfl rfl (hK' _ _ ?_); simp only [Act.put, List.setIfInBounds_toArray, List.set_cons_zero, List.set_cons_succ])
                | (refine wpList_plain rfl fun K' hK' => wp_bdid1 _ rfl rfl (hK' _ _ ?_); simp only [Act.put, List.setIfInBounds_toArray, List.set_cons_zero, List.set_cons_succ])
                | (refine wpList_plain rfl fun K' hK' => wp_store_did (cs' := dcl 4 i none none) _ _ rfl rfl rfl L11.out rfl rfl (one_did _ _ _ _) (fun w12 z1 z2 => hK' _ _ ?_))
                | fail)
              have K12 := Lib.hid (grown_below K11.out z2 G11.out)
              have L12 := Lib.hid z1
              have H12 : Hid (Is w12 h b i tt 3 false none) := Lib.hid ((z2.block h H11.out.lt (fun e => by have := Option.some.inj e; have := G12.out.1; omega)).trans H11.out)
              have T12 : Hid (Ow.Is w12 b s _) := Lib.hid ⟨(z2.block _ T11.out.lies.lt (fun e => G12.out.2 (.inr (Option.some.inj e).symm))).trans T11.out.lies, (z2.block _ T11.out.rows.lt (fun e => G12.out.2 (.inl (Option.some.inj e).symm))).trans T11.out.rows⟩
              clear z1 z2 K11 L11 H11 T11 G11 G12
              obtain ⟨-, d1⟩ := D.out w12 K12.out
              go_wp2_with (first
                | (refine wpList_plain rfl fun K' hK' => wp_load_did _ rfl rfl L12.out rfl (hK' _ _ ?_); simp only [Act.put, List.setIfInBounds_toArray, List.set_cons_zero, List.set_cons_succ])
                | fail)
              refine (did_no H12 (.inl rfl)).mono ?_
              rintro r w13 ⟨rfl, k13⟩
              have H13 := Lib.hid (H12.out.next k13)
              have T13 := Lib.hid (T12.out.next k13)
              have K13 := Lib.hid (after K12.out k13)
              clear k13 H12 T12 K12 L12 d1
              go_wp2_with fail
              refine (Ow.of_yes (i := i) (o := ⟨(i : Int) % s, 0, true⟩) T13 (by rw [List.getElem?_set_self (by rw [Ow.ini_len]; exact hi)])).mono ?_
              rintro r w14 ⟨rfl, k14⟩
              go_upto_region 52 with fail
              have k15 := k14.alloc k14.size (Obj.cells #[.int .i64 ((i : Int) % s), .int .i64 0, .bool true] 34)
              have L15 : Hid (Lies (w14.alloc (Obj.cells #[.int .i64 ((i : Int) % s), .int .i64 0, .bool true] 34)) w14.heap.size 34 [.int .i64 ((i : Int) % s), .int .i64 0, .bool true]) := Lib.hid (Lies.new _ _ [.int .i64 ((i : Int) % s), .int .i64 0, .bool true])
              have H15 := Lib.hid (H13.out.next k15)
              have T15 := Lib.hid (T13.out.next k15)
              have K15 := Lib.hid (after K13.out k15)
              clear k14 k15 H13 T13 K13
              generalize w14.heap.size = g15 at L15 ⊢
              generalize w14.alloc (Obj.cells #[.int .i64 ((i : Int) % s), .int .i64 0, .bool true] 34) = w15 at L15 H15 T15 K15 ⊢
              have o0 := L15.out.cell (i := 0) rfl
              have o1 := L15.out.cell (i := 1) rfl
              have o2 := L15.out.cell (i := 2) rfl
              have ts : ¬ (tt : Int) ≠ tt := fun e => e rfl
              go_wp2_with fail
              exact ⟨⟨0, j + 1, by omega, by omega, rfl, by go_num, Lib.hid ⟨H15.out, T15.out⟩, Lib.hid K15.out⟩, by simp [intOf]; omega⟩
            | true =>
              clear hw3
              go_upto_region 41 with fail
              go_upto_region 42 with (first
                | (refine wpList_plain rfl fun K' hK' => wp_bmsg _ rfl rfl (hK' _ _ ?_); simp only [Act.put, List.setIfInBounds_toArray, List.set_cons_zero, List.set_cons_succ])
                | (refine wpList_plain rfl fun K' hK' => wp_bdid2 (g := gs) _ _ rfl rfl rfl (hK' _ _ ?_); simp only [Act.put, List.setIfInBounds_toArray, List.set_cons_zero, List.set_cons_succ])
                | (refine wpList_plain rfl fun K' hK' => wp_bdid1 _ rfl rfl (hK' _ _ ?_); simp only [Act.put, List.setIfInBounds_toArray, List.set_cons_zero, List.set_cons_succ])
                | (refine wpList_plain rfl fun K' hK' => wp_store_did (cs' := dcl 3 (i + 1) none (some gs)) _ _ rfl rfl rfl (Lies.new _ _ zdl) rfl rfl (one_did _ _ _ _) (fun w11 z1 z2 => hK' _ _ ?_))
                | fail)
              have K11 := Lib.hid (grown_below (K9.out.alloc K9.out.size _) z2 K9.out.size)
              have k11 : Below w9.heap.size w9 w11 := (below1 w9 _).grown z2 (below1 w9 _).size (fun j hj => by cases hj; exact Nat.le_refl _)
              have L11 := Lib.hid z1
              have H11 := Lib.hid (H9.out.next k11)
              have T11 := Lib.hid (T9.out.next k11)
              have G11 := Lib.hid K9.out.size
              have G12 : Hid (h < w9.heap.size ∧ ¬ Ow.Fp b w9.heap.size) := Lib.hid ⟨H9.out.lt, fun q => by have := T9.out.in _ q; omega⟩
              clear z1 z2 k11 H9 T9 K9 d1
              generalize w9.heap.size = g11 at L11 G11 G12 ⊢
              go_upto_region 43 with fail
              go_upto_region 44 with fail
              go_upto_region 46 with (first
                | (refine wpList_plain rfl fun K' hK' => wp_bmsg _ rfl rfl (hK' _ _ ?_); simp only [Act.put, List.setIfInBounds_toArray, List.set_cons_zero, List.set_cons_succ])
                | (refine wpList_plain rfl fun K' hK' => wp_bdid2 (g := gs) _ _ rfl rfl rfl (hK' _ _ ?_); simp only [Act.put, List.setIfInBounds_toArray, List.set_cons_zero, List.set_cons_succ])
                | (refine wpList_plain rfl fun K' hK' => wp_bdid1 _ rfl rfl (hK' _ _ ?_); simp only [Act.put, List.setIfInBounds_toArray, List.set_cons_zero, List.set_cons_succ])
                | (refine wpList_plain rfl fun K' hK' => wp_store_did (cs' := dcl 4 (i + 1) none none) _ _ rfl rfl rfl L11.out rfl rfl (one_did _ _ _ _) (fun w12 z1 z2 => hK' _ _ ?_))
                | fail)
              have K12 := Lib.hid (grown_below K11.out z2 G11.out)
              have L12 := Lib.hid z1
              have H12 : Hid (Is w12 h b i tt 3 false none) := Lib.hid ((z2.block h H11.out.lt (fun e => by have := Option.some.inj e; have := G12.out.1; omega)).trans H11.out)
              have T12 : Hid (Ow.Is w12 b s _) := Lib.hid ⟨(z2.block _ T11.out.lies.lt (fun e => G12.out.2 (.inr (Option.some.inj e).symm))).trans T11.out.lies, (z2.block _ T11.out.rows.lt (fun e => G12.out.2 (.inl (Option.some.inj e).symm))).trans T11.out.rows⟩
              clear z1 z2 K11 L11 H11 T11 G11 G12
              obtain ⟨-, d1⟩ := D.out w12 K12.out
              go_wp2_with (first
                | (refine wpList_plain rfl fun K' hK' => wp_load_did _ rfl rfl L12.out rfl (hK' _ _ ?_); simp only [Act.put, List.setIfInBounds_toArray, List.set_cons_zero, List.set_cons_succ])
                | fail)
              refine (did_no H12 (.inl rfl)).mono ?_
              rintro r w13 ⟨rfl, k13⟩
              have H13 := Lib.hid (H12.out.next k13)
              have T13 := Lib.hid (T12.out.next k13)
              have K13 := Lib.hid (after K12.out k13)
              clear k13 H12 T12 K12 L12 d1
              go_wp2_with fail
              refine (Ow.of_yes (i := i) (o := ⟨(i : Int) % s, 0, true⟩) T13 (by rw [List.getElem?_set_self (by rw [Ow.ini_len]; exact hi)])).mono ?_
              rintro r w14 ⟨rfl, k14⟩
              go_upto_region 52 with fail
              have k15 := k14.alloc k14.size (Obj.cells #[.int .i64 ((i : Int) % s), .int .i64 0, .bool true] 34)
              have L15 : Hid (Lies (w14.alloc (Obj.cells #[.int .i64 ((i : Int) % s), .int .i64 0, .bool true] 34)) w14.heap.size 34 [.int .i64 ((i : Int) % s), .int .i64 0, .bool true]) := Lib.hid (Lies.new _ _ [.int .i64 ((i : Int) % s), .int .i64 0, .bool true])
              have H15 := Lib.hid (H13.out.next k15)
              have T15 := Lib.hid (T13.out.next k15)
              have K15 := Lib.hid (after K13.out k15)
              clear k14 k15 H13 T13 K13
              generalize w14.heap.size = g15 at L15 ⊢
              generalize w14.alloc (Obj.cells #[.int .i64 ((i : Int) % s), .int .i64 0, .bool true] 34) = w15 at L15 H15 T15 K15 ⊢
              have o0 := L15.out.cell (i := 0) rfl
              have o1 := L15.out.cell (i := 1) rfl
              have o2 := L15.out.cell (i := 2) rfl
              have ts : ¬ (tt : Int) ≠ tt := fun e => e rfl
              go_wp2_with fail
              exact ⟨⟨0, j + 1, by omega, by omega, rfl, by go_num, Lib.hid ⟨H15.out, T15.out⟩, Lib.hid K15.out⟩, by simp [intOf]; omega⟩
      · as_aux_lemma =>
          have HI : Hid (Is wr h b i tt 3 true none) := Lib.hid X.out.hand
          have TI : Hid (Ow.Is wr b s ((Ow.ini s n n).set i ⟨(i : Int) % s, 0, true⟩)) := Lib.hid X.out.table
          have hx : ((Ow.ini s n n).set i ⟨(i : Int) % s, 0, true⟩)[i]? = some ⟨(i : Int) % s, 0, true⟩ := by rw [List.getElem?_set_self (by rw [Ow.ini_len]; exact hi)]
          clear X
          go_wp2_with fail
          refine (ask_none HI (.inl rfl)).mono ?_
          rintro r w8 ⟨rfl, k8⟩
          go_upto_region 24 with fail
          have k9 := k8.alloc k8.size (Obj.cells #[.int .i64 0, .int .i64 0, .int .i64 0, .string ⟨#[]⟩, .int .i64 0, .int .i64 0, .int .i64 0, .int .i64 0, .int .i64 0, .int .i64 0, .pointer none] 45)
          have L9 : Hid (Lies (w8.alloc (Obj.cells #[.int .i64 0, .int .i64 0, .int .i64 0, .string ⟨#[]⟩, .int .i64 0, .int .i64 0, .int .i64 0, .int .i64 0, .int .i64 0, .int .i64 0, .pointer none] 45)) w8.heap.size 45 (mcl 0 0 none)) := Lib.hid (Lies.new _ _ (mcl 0 0 none))
          have H9 := Lib.hid (HI.out.next k9)
          have T9 := Lib.hid (TI.out.next k9)
          have K9 := Lib.hid (after K.out k9)
          clear k8 k9 HI TI K
          generalize w8.heap.size = g9 at L9 ⊢
          generalize w8.alloc (Obj.cells #[.int .i64 0, .int .i64 0, .int .i64 0, .string ⟨#[]⟩, .int .i64 0, .int .i64 0, .int .i64 0, .int .i64 0, .int .i64 0, .int .i64 0, .pointer none] 45) = w9 at L9 H9 T9 K9 ⊢
          have m0 := L9.out.cell (i := 0) rfl
          have m1 := L9.out.cell (i := 1) rfl
          have m2 := L9.out.cell (i := 2) rfl
          have m3 := L9.out.cell (i := 3) rfl
          have m4 := L9.out.cell (i := 4) rfl
          have m5 := L9.out.cell (i := 5) rfl
          have m6 := L9.out.cell (i := 6) rfl
          have m7 := L9.out.cell (i := 7) rfl
          have m8 := L9.out.cell (i := 8) rfl
          have m9 := L9.out.cell (i := 9) rfl
          have m10 : w9.cell? ⟨g9, 10, none⟩ = some (.pointer none) := L9.out.cell (i := 10) rfl
          have qn : ∀ w, (Op.equalIn 9999 37 (.pointer none) (.pointer none)).run Try.prog w = .ok true w := fun w => eql_ptr w 9998 none
          have qm : (i : Int).tmod s = (i : Int) % s := Int.tmod_eq_emod_of_nonneg (by omega)
          have qs : ¬ s = 0 := by omega
          go_wp2_with fail
          refine (over_ok H9).mono ?_
          rintro r w10 ⟨rfl, rfl⟩
          go_upto_region 32 with fail
          clear m0 m1 m2 m3 m4 m5 m6 m7 m8 m9 m10 qn qm qs L9
          obtain ⟨d0, d1⟩ := D.out w9 K9.out
          go_wp2_with fail
          refine (pick_det x.c 3 w9 fx (by decide) (by decide)).mono ?_
          rintro r _ ⟨rfl, rfl⟩
          obtain ⟨wh, hwh⟩ : ∃ v, v = pk x.c 3 := ⟨_, rfl⟩
          have hw3 := pk_in (c := x.c) (n := 3) (by decide)
          rw [← hwh] at hw3 ⊢
          clear hwh d0
          obtain ⟨o, ho⟩ : ∃ o, o = x.o := ⟨_, rfl⟩
          rw [← ho] at d1
          rw [← ho] at D
          clear ho fx
          have hw1 : IntKind.i64.wrap ((i : Int) + 1) = (i : Int) + 1 := IntWalk.i64_in _ (by omega)
          obtain rfl | rfl | rfl : wh = 0 ∨ wh = 1 ∨ wh = 2 := by omega
          · cases o with
            | false =>
              clear hw3
              go_wp2_with fail
              refine (sent_no H9 (.inl rfl)).mono ?_
              rintro r w11 ⟨rfl, rfl⟩
              clear d1
              go_wp2_with fail
              exact ⟨⟨1, j + 1, by omega, by omega, rfl, by go_num, Lib.hid ⟨H9.out, T9.out⟩, Lib.hid K9.out⟩, by simp [intOf]; omega⟩
            | true =>
              clear hw3
              go_wp2_with fail
              refine (sent_no H9 (.inl rfl)).mono ?_
              rintro r w11 ⟨rfl, rfl⟩
              clear d1
              go_wp2_with fail
              exact ⟨⟨1, j + 1, by omega, by omega, rfl, by go_num, Lib.hid ⟨H9.out, T9.out⟩, Lib.hid K9.out⟩, by simp [intOf]; omega⟩
          · cases o with
            | false =>
              clear hw3
              go_upto_region 41 with fail
              go_upto_region 42 with (first
                | (refine wpList_plain rfl fun K' hK' => wp_bmsg _ rfl rfl (hK' _ _ ?_); simp only [Act.put, List.setIfInBounds_toArray, List.set_cons_zero, List.set_cons_succ])
                | (refine wpList_plain rfl fun K' hK' => wp_bdid2 (g := gs) _ _ rfl rfl rfl (hK' _ _ ?_); simp only [Act.put, List.setIfInBounds_toArray, List.set_cons_zero, List.set_cons_succ])
                | (refine wpList_plain rfl fun K' hK' => wp_bdid1 _ rfl rfl (hK' _ _ ?_); simp only [Act.put, List.setIfInBounds_toArray, List.set_cons_zero, List.set_cons_succ])
                | (refine wpList_plain rfl fun K' hK' => wp_store_did (cs' := dcl 3 i none (some gs)) _ _ rfl rfl rfl (Lies.new _ _ zdl) rfl rfl (one_did _ _ _ _) (fun w11 z1 z2 => hK' _ _ ?_))
                | fail)
              have K11 := Lib.hid (grown_below (K9.out.alloc K9.out.size _) z2 K9.out.size)
              have k11 : Below w9.heap.size w9 w11 := (below1 w9 _).grown z2 (below1 w9 _).size (fun j hj => by cases hj; exact Nat.le_refl _)
              have L11 := Lib.hid z1
              have H11 := Lib.hid (H9.out.next k11)
              have T11 := Lib.hid (T9.out.next k11)
              have G11 := Lib.hid K9.out.size
              have G12 : Hid (h < w9.heap.size ∧ ¬ Ow.Fp b w9.heap.size) := Lib.hid ⟨H9.out.lt, fun q => by have := T9.out.in _ q; omega⟩
              clear z1 z2 k11 H9 T9 K9 d1
              generalize w9.heap.size = g11 at L11 G11 G12 ⊢
              go_upto_region 46 with fail
              have K12 := K11
              have L12 := L11
              have H12 := H11
              have T12 := T11
              clear K11 L11 H11 T11
              generalize w11 = w12 at K12 L12 H12 T12 ⊢
              obtain ⟨-, d1⟩ := D.out w12 K12.out
              go_wp2_with (first
                | (refine wpList_plain rfl fun K' hK' => wp_load_did _ rfl rfl L12.out rfl (hK' _ _ ?_); simp only [Act.put, List.setIfInBounds_toArray, List.set_cons_zero, List.set_cons_succ])
                | fail)
              refine (did_give H12).mono ?_
              rintro r w13 ⟨rfl, h13, v13⟩
              have T13 := Lib.hid (T12.out.keep v13 (fun j hj q => NE.out (by obtain rfl : j = h := hj; exact q)))
              have H13 := Lib.hid h13
              have K13 := Lib.hid (K12.out.trans (v13.below (fun j hj => by obtain rfl : j = h := hj; exact HB.out) K12.out.size))
              clear h13 v13 H12 T12 K12 L12 d1
              go_wp2_with fail
              refine (Ow.of_yes (i := i) (o := ⟨(i : Int) % s, 0, true⟩) T13 (by rw [List.getElem?_set_self (by rw [Ow.ini_len]; exact hi)])).mono ?_
              rintro r w14 ⟨rfl, k14⟩
              go_upto_region 52 with fail
              have k15 := k14.alloc k14.size (Obj.cells #[.int .i64 ((i : Int) % s), .int .i64 0, .bool true] 34)
              have L15 : Hid (Lies (w14.alloc (Obj.cells #[.int .i64 ((i : Int) % s), .int .i64 0, .bool true] 34)) w14.heap.size 34 [.int .i64 ((i : Int) % s), .int .i64 0, .bool true]) := Lib.hid (Lies.new _ _ [.int .i64 ((i : Int) % s), .int .i64 0, .bool true])
              have H15 := Lib.hid (H13.out.next k15)
              have T15 := Lib.hid (T13.out.next k15)
              have K15 := Lib.hid (after K13.out k15)
              clear k14 k15 H13 T13 K13
              generalize w14.heap.size = g15 at L15 ⊢
              generalize w14.alloc (Obj.cells #[.int .i64 ((i : Int) % s), .int .i64 0, .bool true] 34) = w15 at L15 H15 T15 K15 ⊢
              have o0 := L15.out.cell (i := 0) rfl
              have o1 := L15.out.cell (i := 1) rfl
              have o2 := L15.out.cell (i := 2) rfl
              have ts : ¬ (tt : Int) ≠ tt := fun e => e rfl
              go_wp2_with fail
              exact ⟨⟨2, j + 1, by omega, by omega, rfl, by go_num, Lib.hid ⟨H15.out, T15.out⟩, Lib.hid K15.out⟩, by simp [intOf]; omega⟩
            | true =>
              clear hw3
              go_upto_region 41 with fail
              go_upto_region 42 with (first
                | (refine wpList_plain rfl fun K' hK' => wp_bmsg _ rfl rfl (hK' _ _ ?_); simp only [Act.put, List.setIfInBounds_toArray, List.set_cons_zero, List.set_cons_succ])
                | (refine wpList_plain rfl fun K' hK' => wp_bdid2 (g := gs) _ _ rfl rfl rfl (hK' _ _ ?_); simp only [Act.put, List.setIfInBounds_toArray, List.set_cons_zero, List.set_cons_succ])
                | (refine wpList_plain rfl fun K' hK' => wp_bdid1 _ rfl rfl (hK' _ _ ?_); simp only [Act.put, List.setIfInBounds_toArray, List.set_cons_zero, List.set_cons_succ])
                | (refine wpList_plain rfl fun K' hK' => wp_store_did (cs' := dcl 3 (i + 1) none (some gs)) _ _ rfl rfl rfl (Lies.new _ _ zdl) rfl rfl (one_did _ _ _ _) (fun w11 z1 z2 => hK' _ _ ?_))
                | fail)
              have K11 := Lib.hid (grown_below (K9.out.alloc K9.out.size _) z2 K9.out.size)
              have k11 : Below w9.heap.size w9 w11 := (below1 w9 _).grown z2 (below1 w9 _).size (fun j hj => by cases hj; exact Nat.le_refl _)
              have L11 := Lib.hid z1
              have H11 := Lib.hid (H9.out.next k11)
              have T11 := Lib.hid (T9.out.next k11)
              have G11 := Lib.hid K9.out.size
              have G12 : Hid (h < w9.heap.size ∧ ¬ Ow.Fp b w9.heap.size) := Lib.hid ⟨H9.out.lt, fun q => by have := T9.out.in _ q; omega⟩
              clear z1 z2 k11 H9 T9 K9 d1
              generalize w9.heap.size = g11 at L11 G11 G12 ⊢
              go_upto_region 46 with fail
              have K12 := K11
              have L12 := L11
              have H12 := H11
              have T12 := T11
              clear K11 L11 H11 T11
              generalize w11 = w12 at K12 L12 H12 T12 ⊢
              obtain ⟨-, d1⟩ := D.out w12 K12.out
              go_wp2_with (first
                | (refine wpList_plain rfl fun K' hK' => wp_load_did _ rfl rfl L12.out rfl (hK' _ _ ?_); simp only [Act.put, List.setIfInBounds_toArray, List.set_cons_zero, List.set_cons_succ])
                | fail)
              refine (did_no H12 (.inr (.inr (by omega)))).mono ?_
              rintro r w13 ⟨rfl, k13⟩
              have H13 := Lib.hid (H12.out.next k13)
              have T13 := Lib.hid (T12.out.next k13)
              have K13 := Lib.hid (after K12.out k13)
              clear k13 H12 T12 K12 L12 d1
              go_wp2_with fail
              refine (Ow.of_yes (i := i) (o := ⟨(i : Int) % s, 0, true⟩) T13 (by rw [List.getElem?_set_self (by rw [Ow.ini_len]; exact hi)])).mono ?_
              rintro r w14 ⟨rfl, k14⟩
              go_upto_region 52 with fail
              have k15 := k14.alloc k14.size (Obj.cells #[.int .i64 ((i : Int) % s), .int .i64 0, .bool true] 34)
              have L15 : Hid (Lies (w14.alloc (Obj.cells #[.int .i64 ((i : Int) % s), .int .i64 0, .bool true] 34)) w14.heap.size 34 [.int .i64 ((i : Int) % s), .int .i64 0, .bool true]) := Lib.hid (Lies.new _ _ [.int .i64 ((i : Int) % s), .int .i64 0, .bool true])
              have H15 := Lib.hid (H13.out.next k15)
              have T15 := Lib.hid (T13.out.next k15)
              have K15 := Lib.hid (after K13.out k15)
              clear k14 k15 H13 T13 K13
              generalize w14.heap.size = g15 at L15 ⊢
              generalize w14.alloc (Obj.cells #[.int .i64 ((i : Int) % s), .int .i64 0, .bool true] 34) = w15 at L15 H15 T15 K15 ⊢
              have o0 := L15.out.cell (i := 0) rfl
              have o1 := L15.out.cell (i := 1) rfl
              have o2 := L15.out.cell (i := 2) rfl
              have ts : ¬ (tt : Int) ≠ tt := fun e => e rfl
              go_wp2_with fail
              exact ⟨⟨1, j + 1, by omega, by omega, rfl, by go_num, Lib.hid ⟨H15.out, T15.out⟩, Lib.hid K15.out⟩, by simp [intOf]; omega⟩
          · cases o with
            | false =>
              clear hw3
              go_upto_region 41 with fail
              go_upto_region 42 with (first
                | (refine wpList_plain rfl fun K' hK' => wp_bmsg _ rfl rfl (hK' _ _ ?_); simp only [Act.put, List.setIfInBounds_toArray, List.set_cons_zero, List.set_cons_succ])
                | (refine wpList_plain rfl fun K' hK' => wp_bdid2 (g := gs) _ _ rfl rfl rfl (hK' _ _ ?_); simp only [Act.put, List.setIfInBounds_toArray, List.set_cons_zero, List.set_cons_succ])
                | (refine wpList_plain rfl fun K' hK' => wp_bdid1 _ rfl rfl (hK' _ _ ?_); simp only [Act.put, List.setIfInBounds_toArray, List.set_cons_zero, List.set_cons_succ])
                | (refine wpList_plain rfl fun K' hK' => wp_store_did (cs' := dcl 3 i none (some gs)) _ _ rfl rfl rfl (Lies.new _ _ zdl) rfl rfl (one_did _ _ _ _) (fun w11 z1 z2 => hK' _ _ ?_))
                | fail)
              have K11 := Lib.hid (grown_below (K9.out.alloc K9.out.size _) z2 K9.out.size)
              have k11 : Below w9.heap.size w9 w11 := (below1 w9 _).grown z2 (below1 w9 _).size (fun j hj => by cases hj; exact Nat.le_refl _)
              have L11 := Lib.hid z1
              have H11 := Lib.hid (H9.out.next k11)
              have T11 := Lib.hid (T9.out.next k11)
              have G11 := Lib.hid K9.out.size
              have G12 : Hid (h < w9.heap.size ∧ ¬ Ow.Fp b w9.heap.size) := Lib.hid ⟨H9.out.lt, fun q => by have := T9.out.in _ q; omega⟩
              clear z1 z2 k11 H9 T9 K9 d1
              generalize w9.heap.size = g11 at L11 G11 G12 ⊢
              go_upto_region 43 with fail
              go_upto_region 44 with fail
              go_upto_region 46 with (first
                | (refine wpList_plain rfl fun K' hK' => wp_bmsg _ rfl rfl (hK' _ _ ?_); simp only [Act.put, List.setIfInBounds_toArray, List.set_cons_zero, List.set_cons_succ])
                | (refine wpList_plain rfl fun K' hK' => wp_bdid2 (g := gs) _ _ rfl rfl rfl (hK' _ _ ?_); simp only [Act.put, List.setIfInBounds_toArray, List.set_cons_zero, List.set_cons_succ])
                | (refine wpList_plain rfl fun K' hK' => wp_bdid1 _ rfl rfl (hK' _ _ ?_); simp only [Act.put, List.setIfInBounds_toArray, List.set_cons_zero, List.set_cons_succ])
                | (refine wpList_plain rfl fun K' hK' => wp_store_did (cs' := dcl 4 i none none) _ _ rfl rfl rfl L11.out rfl rfl (one_did _ _ _ _) (fun w12 z1 z2 => hK' _ _ ?_))
                | fail)
              have K12 := Lib.hid (grown_below K11.out z2 G11.out)
              have L12 := Lib.hid z1
              have H12 : Hid (Is w12 h b i tt 3 true none) := Lib.hid ((z2.block h H11.out.lt (fun e => by have := Option.some.inj e; have := G12.out.1; omega)).trans H11.out)
              have T12 : Hid (Ow.Is w12 b s _) := Lib.hid ⟨(z2.block _ T11.out.lies.lt (fun e => G12.out.2 (.inr (Option.some.inj e).symm))).trans T11.out.lies, (z2.block _ T11.out.rows.lt (fun e => G12.out.2 (.inl (Option.some.inj e).symm))).trans T11.out.rows⟩
              clear z1 z2 K11 L11 H11 T11 G11 G12
              obtain ⟨-, d1⟩ := D.out w12 K12.out
              go_wp2_with (first
                | (refine wpList_plain rfl fun K' hK' => wp_load_did _ rfl rfl L12.out rfl (hK' _ _ ?_); simp only [Act.put, List.setIfInBounds_toArray, List.set_cons_zero, List.set_cons_succ])
                | fail)
              refine (did_no H12 (.inr (.inl (by decide)))).mono ?_
              rintro r w13 ⟨rfl, k13⟩
              have H13 := Lib.hid (H12.out.next k13)
              have T13 := Lib.hid (T12.out.next k13)
              have K13 := Lib.hid (after K12.out k13)
              clear k13 H12 T12 K12 L12 d1
              go_wp2_with fail
              refine (Ow.of_yes (i := i) (o := ⟨(i : Int) % s, 0, true⟩) T13 (by rw [List.getElem?_set_self (by rw [Ow.ini_len]; exact hi)])).mono ?_
              rintro r w14 ⟨rfl, k14⟩
              go_upto_region 52 with fail
              have k15 := k14.alloc k14.size (Obj.cells #[.int .i64 ((i : Int) % s), .int .i64 0, .bool true] 34)
              have L15 : Hid (Lies (w14.alloc (Obj.cells #[.int .i64 ((i : Int) % s), .int .i64 0, .bool true] 34)) w14.heap.size 34 [.int .i64 ((i : Int) % s), .int .i64 0, .bool true]) := Lib.hid (Lies.new _ _ [.int .i64 ((i : Int) % s), .int .i64 0, .bool true])
              have H15 := Lib.hid (H13.out.next k15)
              have T15 := Lib.hid (T13.out.next k15)
              have K15 := Lib.hid (after K13.out k15)
              clear k14 k15 H13 T13 K13
              generalize w14.heap.size = g15 at L15 ⊢
              generalize w14.alloc (Obj.cells #[.int .i64 ((i : Int) % s), .int .i64 0, .bool true] 34) = w15 at L15 H15 T15 K15 ⊢
              have o0 := L15.out.cell (i := 0) rfl
              have o1 := L15.out.cell (i := 1) rfl
              have o2 := L15.out.cell (i := 2) rfl
              have ts : ¬ (tt : Int) ≠ tt := fun e => e rfl
              go_wp2_with fail
              exact ⟨⟨1, j + 1, by omega, by omega, rfl, by go_num, Lib.hid ⟨H15.out, T15.out⟩, Lib.hid K15.out⟩, by simp [intOf]; omega⟩
            | true =>
              clear hw3
              go_upto_region 41 with fail
              go_upto_region 42 with (first
                | (refine wpList_plain rfl fun K' hK' => wp_bmsg _ rfl rfl (hK' _ _ ?_); simp only [Act.put, List.setIfInBounds_toArray, List.set_cons_zero, List.set_cons_succ])
                | (refine wpList_plain rfl fun K' hK' => wp_bdid2 (g := gs) _ _ rfl rfl rfl (hK' _ _ ?_); simp only [Act.put, List.setIfInBounds_toArray, List.set_cons_zero, List.set_cons_succ])
                | (refine wpList_plain rfl fun K' hK' => wp_bdid1 _ rfl rfl (hK' _ _ ?_); simp only [Act.put, List.setIfInBounds_toArray, List.set_cons_zero, List.set_cons_succ])
                | (refine wpList_plain rfl fun K' hK' => wp_store_did (cs' := dcl 3 (i + 1) none (some gs)) _ _ rfl rfl rfl (Lies.new _ _ zdl) rfl rfl (one_did _ _ _ _) (fun w11 z1 z2 => hK' _ _ ?_))
                | fail)
              have K11 := Lib.hid (grown_below (K9.out.alloc K9.out.size _) z2 K9.out.size)
              have k11 : Below w9.heap.size w9 w11 := (below1 w9 _).grown z2 (below1 w9 _).size (fun j hj => by cases hj; exact Nat.le_refl _)
              have L11 := Lib.hid z1
              have H11 := Lib.hid (H9.out.next k11)
              have T11 := Lib.hid (T9.out.next k11)
              have G11 := Lib.hid K9.out.size
              have G12 : Hid (h < w9.heap.size ∧ ¬ Ow.Fp b w9.heap.size) := Lib.hid ⟨H9.out.lt, fun q => by have := T9.out.in _ q; omega⟩
              clear z1 z2 k11 H9 T9 K9 d1
              generalize w9.heap.size = g11 at L11 G11 G12 ⊢
              go_upto_region 43 with fail
              go_upto_region 44 with fail
              go_upto_region 46 with (first
                | (refine wpList_plain rfl fun K' hK' => wp_bmsg _ rfl rfl (hK' _ _ ?_); simp only [Act.put, List.setIfInBounds_toArray, List.set_cons_zero, List.set_cons_succ])
                | (refine wpList_plain rfl fun K' hK' => wp_bdid2 (g := gs) _ _ rfl rfl rfl (hK' _ _ ?_); simp only [Act.put, List.setIfInBounds_toArray, List.set_cons_zero, List.set_cons_succ])
                | (refine wpList_plain rfl fun K' hK' => wp_bdid1 _ rfl rfl (hK' _ _ ?_); simp only [Act.put, List.setIfInBounds_toArray, List.set_cons_zero, List.set_cons_succ])
                | (refine wpList_plain rfl fun K' hK' => wp_store_did (cs' := dcl 4 (i + 1) none none) _ _ rfl rfl rfl L11.out rfl rfl (one_did _ _ _ _) (fun w12 z1 z2 => hK' _ _ ?_))
                | fail)
              have K12 := Lib.hid (grown_below K11.out z2 G11.out)
              have L12 := Lib.hid z1
              have H12 : Hid (Is w12 h b i tt 3 true none) := Lib.hid ((z2.block h H11.out.lt (fun e => by have := Option.some.inj e; have := G12.out.1; omega)).trans H11.out)
              have T12 : Hid (Ow.Is w12 b s _) := Lib.hid ⟨(z2.block _ T11.out.lies.lt (fun e => G12.out.2 (.inr (Option.some.inj e).symm))).trans T11.out.lies, (z2.block _ T11.out.rows.lt (fun e => G12.out.2 (.inl (Option.some.inj e).symm))).trans T11.out.rows⟩
              clear z1 z2 K11 L11 H11 T11 G11 G12
              obtain ⟨-, d1⟩ := D.out w12 K12.out
              go_wp2_with (first
                | (refine wpList_plain rfl fun K' hK' => wp_load_did _ rfl rfl L12.out rfl (hK' _ _ ?_); simp only [Act.put, List.setIfInBounds_toArray, List.set_cons_zero, List.set_cons_succ])
                | fail)
              refine (did_no H12 (.inr (.inl (by decide)))).mono ?_
              rintro r w13 ⟨rfl, k13⟩
              have H13 := Lib.hid (H12.out.next k13)
              have T13 := Lib.hid (T12.out.next k13)
              have K13 := Lib.hid (after K12.out k13)
              clear k13 H12 T12 K12 L12 d1
              go_wp2_with fail
              refine (Ow.of_yes (i := i) (o := ⟨(i : Int) % s, 0, true⟩) T13 (by rw [List.getElem?_set_self (by rw [Ow.ini_len]; exact hi)])).mono ?_
              rintro r w14 ⟨rfl, k14⟩
              go_upto_region 52 with fail
              have k15 := k14.alloc k14.size (Obj.cells #[.int .i64 ((i : Int) % s), .int .i64 0, .bool true] 34)
              have L15 : Hid (Lies (w14.alloc (Obj.cells #[.int .i64 ((i : Int) % s), .int .i64 0, .bool true] 34)) w14.heap.size 34 [.int .i64 ((i : Int) % s), .int .i64 0, .bool true]) := Lib.hid (Lies.new _ _ [.int .i64 ((i : Int) % s), .int .i64 0, .bool true])
              have H15 := Lib.hid (H13.out.next k15)
              have T15 := Lib.hid (T13.out.next k15)
              have K15 := Lib.hid (after K13.out k15)
              clear k14 k15 H13 T13 K13
              generalize w14.heap.size = g15 at L15 ⊢
              generalize w14.alloc (Obj.cells #[.int .i64 ((i : Int) % s), .int .i64 0, .bool true] 34) = w15 at L15 H15 T15 K15 ⊢
              have o0 := L15.out.cell (i := 0) rfl
              have o1 := L15.out.cell (i := 1) rfl
              have o2 := L15.out.cell (i := 2) rfl
              have ts : ¬ (tt : Int) ≠ tt := fun e => e rfl
              go_wp2_with fail
              exact ⟨⟨1, j + 1, by omega, by omega, rfl, by go_num, Lib.hid ⟨H15.out, T15.out⟩, Lib.hid K15.out⟩, by simp [intOf]; omega⟩
      · as_aux_lemma =>
          have HI : Hid (Is wr h b i tt 4 false (some gs)) := Lib.hid X.out.hand
          have TI : Hid (Ow.Is wr b s ((Ow.ini s n n).set i ⟨(i : Int) % s, 0, true⟩)) := Lib.hid X.out.table
          have hx : ((Ow.ini s n n).set i ⟨(i : Int) % s, 0, true⟩)[i]? = some ⟨(i : Int) % s, 0, true⟩ := by rw [List.getElem?_set_self (by rw [Ow.ini_len]; exact hi)]
          clear X
          go_wp2_with fail
          refine (ask_have HI).mono ?_
          rintro r w8 ⟨rfl, k8⟩
          go_upto_region 24 with fail
          have k9 := k8.alloc k8.size (Obj.cells #[.int .i64 4, .int .i64 0, .int .i64 0, .string ⟨#[]⟩, .int .i64 0, .int .i64 0, .int .i64 0, .int .i64 0, .int .i64 0, .int .i64 i, .pointer (some ⟨gs, 0, none⟩)] 45)
          have L9 : Hid (Lies (w8.alloc (Obj.cells #[.int .i64 4, .int .i64 0, .int .i64 0, .string ⟨#[]⟩, .int .i64 0, .int .i64 0, .int .i64 0, .int .i64 0, .int .i64 0, .int .i64 i, .pointer (some ⟨gs, 0, none⟩)] 45)) w8.heap.size 45 (mcl 4 i (some gs))) := Lib.hid (Lies.new _ _ (mcl 4 i (some gs)))
          have H9 := Lib.hid (HI.out.next k9)
          have T9 := Lib.hid (TI.out.next k9)
          have K9 := Lib.hid (after K.out k9)
          clear k8 k9 HI TI K
          generalize w8.heap.size = g9 at L9 ⊢
          generalize w8.alloc (Obj.cells #[.int .i64 4, .int .i64 0, .int .i64 0, .string ⟨#[]⟩, .int .i64 0, .int .i64 0, .int .i64 0, .int .i64 0, .int .i64 0, .int .i64 i, .pointer (some ⟨gs, 0, none⟩)] 45) = w9 at L9 H9 T9 K9 ⊢
          have m0 := L9.out.cell (i := 0) rfl
          have m1 := L9.out.cell (i := 1) rfl
          have m2 := L9.out.cell (i := 2) rfl
          have m3 := L9.out.cell (i := 3) rfl
          have m4 := L9.out.cell (i := 4) rfl
          have m5 := L9.out.cell (i := 5) rfl
          have m6 := L9.out.cell (i := 6) rfl
          have m7 := L9.out.cell (i := 7) rfl
          have m8 := L9.out.cell (i := 8) rfl
          have m9 := L9.out.cell (i := 9) rfl
          have m10 : w9.cell? ⟨g9, 10, none⟩ = some (.pointer (some ⟨gs, 0, none⟩)) := L9.out.cell (i := 10) rfl
          have qn : ∀ w, (Op.equalIn 9999 37 (.pointer (some ⟨gs, 0, none⟩)) (.pointer (some ⟨gs, 0, none⟩))).run Try.prog w = .ok true w := fun w => eql_ptr w 9998 (some gs)
          have qm : (i : Int).tmod s = (i : Int) % s := Int.tmod_eq_emod_of_nonneg (by omega)
          have qs : ¬ s = 0 := by omega
          go_wp2_with fail
          refine (over_ok H9).mono ?_
          rintro r w10 ⟨rfl, rfl⟩
          go_upto_region 32 with fail
          clear m0 m1 m2 m3 m4 m5 m6 m7 m8 m9 m10 qn qm qs L9
          obtain ⟨d0, d1⟩ := D.out w9 K9.out
          go_wp2_with fail
          refine (pick_det x.c 3 w9 fx (by decide) (by decide)).mono ?_
          rintro r _ ⟨rfl, rfl⟩
          obtain ⟨wh, hwh⟩ : ∃ v, v = pk x.c 3 := ⟨_, rfl⟩
          have hw3 := pk_in (c := x.c) (n := 3) (by decide)
          rw [← hwh] at hw3 ⊢
          clear hwh d0
          obtain ⟨o, ho⟩ : ∃ o, o = x.o := ⟨_, rfl⟩
          rw [← ho] at d1
          rw [← ho] at D
          clear ho fx
          have hw1 : IntKind.i64.wrap ((i : Int) + 1) = (i : Int) + 1 := IntWalk.i64_in _ (by omega)
          obtain rfl | rfl | rfl : wh = 0 ∨ wh = 1 ∨ wh = 2 := by omega
          · cases o with
            | false =>
              clear hw3
              go_wp2_with fail
              refine (sent_yes H9 (by decide)).mono ?_
              rintro r w11 ⟨rfl, h11, v11⟩
              have T11 := Lib.hid (T9.out.keep v11 (fun j hj q => NE.out (by obtain rfl : j = h := hj; exact q)))
              have H11 := Lib.hid h11
              have K11 := Lib.hid (K9.out.trans (v11.below (fun j hj => by obtain rfl : j = h := hj; exact HB.out) K9.out.size))
              clear h11 v11 H9 T9 K9 d1
              go_wp2_with fail
              exact ⟨⟨3, j + 1, by omega, by omega, rfl, by go_num, Lib.hid ⟨H11.out, T11.out⟩, Lib.hid K11.out⟩, by simp [intOf]; omega⟩
            | true =>
              clear hw3
              go_wp2_with fail
              refine (sent_yes H9 (by decide)).mono ?_
              rintro r w11 ⟨rfl, h11, v11⟩
              have T11 := Lib.hid (T9.out.keep v11 (fun j hj q => NE.out (by obtain rfl : j = h := hj; exact q)))
              have H11 := Lib.hid h11
              have K11 := Lib.hid (K9.out.trans (v11.below (fun j hj => by obtain rfl : j = h := hj; exact HB.out) K9.out.size))
              clear h11 v11 H9 T9 K9 d1
              go_wp2_with fail
              exact ⟨⟨3, j + 1, by omega, by omega, rfl, by go_num, Lib.hid ⟨H11.out, T11.out⟩, Lib.hid K11.out⟩, by simp [intOf]; omega⟩
          · cases o with
            | false =>
              clear hw3
              go_upto_region 41 with fail
              go_upto_region 42 with (first
                | (refine wpList_plain rfl fun K' hK' => wp_bmsg _ rfl rfl (hK' _ _ ?_); simp only [Act.put, List.setIfInBounds_toArray, List.set_cons_zero, List.set_cons_succ])
                | (refine wpList_plain rfl fun K' hK' => wp_bdid2 (g := gs) _ _ rfl rfl rfl (hK' _ _ ?_); simp only [Act.put, List.setIfInBounds_toArray, List.set_cons_zero, List.set_cons_succ])
                | (refine wpList_plain rfl fun K' hK' => wp_bdid1 _ rfl rfl (hK' _ _ ?_); simp only [Act.put, List.setIfInBounds_toArray, List.set_cons_zero, List.set_cons_succ])
                | (refine wpList_plain rfl fun K' hK' => wp_store_did (cs' := dcl 3 i none (some gs)) _ _ rfl rfl rfl (Lies.new _ _ zdl) rfl rfl (one_did _ _ _ _) (fun w11 z1 z2 => hK' _ _ ?_))
                | fail)
              have K11 := Lib.hid (grown_below (K9.out.alloc K9.out.size _) z2 K9.out.size)
              have k11 : Below w9.heap.size w9 w11 := (below1 w9 _).grown z2 (below1 w9 _).size (fun j hj => by cases hj; exact Nat.le_refl _)
              have L11 := Lib.hid z1
              have H11 := Lib.hid (H9.out.next k11)
              have T11 := Lib.hid (T9.out.next k11)
              have G11 := Lib.hid K9.out.size
              have G12 : Hid (h < w9.heap.size ∧ ¬ Ow.Fp b w9.heap.size) := Lib.hid ⟨H9.out.lt, fun q => by have := T9.out.in _ q; omega⟩
              clear z1 z2 k11 H9 T9 K9 d1
              generalize w9.heap.size = g11 at L11 G11 G12 ⊢
              go_upto_region 46 with fail
              have K12 := K11
              have L12 := L11
              have H12 := H11
              have T12 := T11
              clear K11 L11 H11 T11
              generalize w11 = w12 at K12 L12 H12 T12 ⊢
              obtain ⟨-, d1⟩ := D.out w12 K12.out
              go_wp2_with (first
                | (refine wpList_plain rfl fun K' hK' => wp_load_did _ rfl rfl L12.out rfl (hK' _ _ ?_); simp only [Act.put, List.setIfInBounds_toArray, List.set_cons_zero, List.set_cons_succ])
                | fail)
              refine (did_no H12 (.inl rfl)).mono ?_
              rintro r w13 ⟨rfl, k13⟩
              have H13 := Lib.hid (H12.out.next k13)
              have T13 := Lib.hid (T12.out.next k13)
              have K13 := Lib.hid (after K12.out k13)
              clear k13 H12 T12 K12 L12 d1
              go_wp2_with fail
              refine (Ow.of_yes (i := i) (o := ⟨(i : Int) % s, 0, true⟩) T13 (by rw [List.getElem?_set_self (by rw [Ow.ini_len]; exact hi)])).mono ?_
              rintro r w14 ⟨rfl, k14⟩
              go_upto_region 52 with fail
              have k15 := k14.alloc k14.size (Obj.cells #[.int .i64 ((i : Int) % s), .int .i64 0, .bool true] 34)
              have L15 : Hid (Lies (w14.alloc (Obj.cells #[.int .i64 ((i : Int) % s), .int .i64 0, .bool true] 34)) w14.heap.size 34 [.int .i64 ((i : Int) % s), .int .i64 0, .bool true]) := Lib.hid (Lies.new _ _ [.int .i64 ((i : Int) % s), .int .i64 0, .bool true])
              have H15 := Lib.hid (H13.out.next k15)
              have T15 := Lib.hid (T13.out.next k15)
              have K15 := Lib.hid (after K13.out k15)
              clear k14 k15 H13 T13 K13
              generalize w14.heap.size = g15 at L15 ⊢
              generalize w14.alloc (Obj.cells #[.int .i64 ((i : Int) % s), .int .i64 0, .bool true] 34) = w15 at L15 H15 T15 K15 ⊢
              have o0 := L15.out.cell (i := 0) rfl
              have o1 := L15.out.cell (i := 1) rfl
              have o2 := L15.out.cell (i := 2) rfl
              have ts : ¬ (tt : Int) ≠ tt := fun e => e rfl
              go_wp2_with fail
              exact ⟨⟨2, j + 1, by omega, by omega, rfl, by go_num, Lib.hid ⟨H15.out, T15.out⟩, Lib.hid K15.out⟩, by simp [intOf]; omega⟩
            | true =>
              clear hw3
              go_upto_region 41 with fail
              go_upto_region 42 with (first
                | (refine wpList_plain rfl fun K' hK' => wp_bmsg _ rfl rfl (hK' _ _ ?_); simp only [Act.put, List.setIfInBounds_toArray, List.set_cons_zero, List.set_cons_succ])
                | (refine wpList_plain rfl fun K' hK' => wp_bdid2 (g := gs) _ _ rfl rfl rfl (hK' _ _ ?_); simp only [Act.put, List.setIfInBounds_toArray, List.set_cons_zero, List.set_cons_succ])
                | (refine wpList_plain rfl fun K' hK' => wp_bdid1 _ rfl rfl (hK' _ _ ?_); simp only [Act.put, List.setIfInBounds_toArray, List.set_cons_zero, List.set_cons_succ])
                | (refine wpList_plain rfl fun K' hK' => wp_store_did (cs' := dcl 3 (i + 1) none (some gs)) _ _ rfl rfl rfl (Lies.new _ _ zdl) rfl rfl (one_did _ _ _ _) (fun w11 z1 z2 => hK' _ _ ?_))
                | fail)
              have K11 := Lib.hid (grown_below (K9.out.alloc K9.out.size _) z2 K9.out.size)
              have k11 : Below w9.heap.size w9 w11 := (below1 w9 _).grown z2 (below1 w9 _).size (fun j hj => by cases hj; exact Nat.le_refl _)
              have L11 := Lib.hid z1
              have H11 := Lib.hid (H9.out.next k11)
              have T11 := Lib.hid (T9.out.next k11)
              have G11 := Lib.hid K9.out.size
              have G12 : Hid (h < w9.heap.size ∧ ¬ Ow.Fp b w9.heap.size) := Lib.hid ⟨H9.out.lt, fun q => by have := T9.out.in _ q; omega⟩
              clear z1 z2 k11 H9 T9 K9 d1
              generalize w9.heap.size = g11 at L11 G11 G12 ⊢
              go_upto_region 46 with fail
              have K12 := K11
              have L12 := L11
              have H12 := H11
              have T12 := T11
              clear K11 L11 H11 T11
              generalize w11 = w12 at K12 L12 H12 T12 ⊢
              obtain ⟨-, d1⟩ := D.out w12 K12.out
              go_wp2_with (first
                | (refine wpList_plain rfl fun K' hK' => wp_load_did _ rfl rfl L12.out rfl (hK' _ _ ?_); simp only [Act.put, List.setIfInBounds_toArray, List.set_cons_zero, List.set_cons_succ])
                | fail)
              refine (did_no H12 (.inl rfl)).mono ?_
              rintro r w13 ⟨rfl, k13⟩
              have H13 := Lib.hid (H12.out.next k13)
              have T13 := Lib.hid (T12.out.next k13)
              have K13 := Lib.hid (after K12.out k13)
              clear k13 H12 T12 K12 L12 d1
              go_wp2_with fail
              refine (Ow.of_yes (i := i) (o := ⟨(i : Int) % s, 0, true⟩) T13 (by rw [List.getElem?_set_self (by rw [Ow.ini_len]; exact hi)])).mono ?_
              rintro r w14 ⟨rfl, k14⟩
              go_upto_region 52 with fail
              have k15 := k14.alloc k14.size (Obj.cells #[.int .i64 ((i : Int) % s), .int .i64 0, .bool true] 34)
              have L15 : Hid (Lies (w14.alloc (Obj.cells #[.int .i64 ((i : Int) % s), .int .i64 0, .bool true] 34)) w14.heap.size 34 [.int .i64 ((i : Int) % s), .int .i64 0, .bool true]) := Lib.hid (Lies.new _ _ [.int .i64 ((i : Int) % s), .int .i64 0, .bool true])
              have H15 := Lib.hid (H13.out.next k15)
              have T15 := Lib.hid (T13.out.next k15)
              have K15 := Lib.hid (after K13.out k15)
              clear k14 k15 H13 T13 K13
              generalize w14.heap.size = g15 at L15 ⊢
              generalize w14.alloc (Obj.cells #[.int .i64 ((i : Int) % s), .int .i64 0, .bool true] 34) = w15 at L15 H15 T15 K15 ⊢
              have o0 := L15.out.cell (i := 0) rfl
              have o1 := L15.out.cell (i := 1) rfl
              have o2 := L15.out.cell (i := 2) rfl
              have ts : ¬ (tt : Int) ≠ tt := fun e => e rfl
              go_wp2_with fail
              exact ⟨⟨2, j + 1, by omega, by omega, rfl, by go_num, Lib.hid ⟨H15.out, T15.out⟩, Lib.hid K15.out⟩, by simp [intOf]; omega⟩
          · cases o with
            | false =>
              clear hw3
              go_upto_region 41 with fail
              go_upto_region 42 with (first
                | (refine wpList_plain rfl fun K' hK' => wp_bmsg _ rfl rfl (hK' _ _ ?_); simp only [Act.put, List.setIfInBounds_toArray, List.set_cons_zero, List.set_cons_succ])
                | (refine wpList_plain rfl fun K' hK' => wp_bdid2 (g := gs) _ _ rfl rfl rfl (hK' _ _ ?_); simp only [Act.put, List.setIfInBounds_toArray, List.set_cons_zero, List.set_cons_succ])
                | (refine wpList_plain rfl fun K' hK' => wp_bdid1 _ rfl rfl (hK' _ _ ?_); simp only [Act.put, List.setIfInBounds_toArray, List.set_cons_zero, List.set_cons_succ])
                | (refine wpList_plain rfl fun K' hK' => wp_store_did (cs' := dcl 3 i none (some gs)) _ _ rfl rfl rfl (Lies.new _ _ zdl) rfl rfl (one_did _ _ _ _) (fun w11 z1 z2 => hK' _ _ ?_))
                | fail)
              have K11 := Lib.hid (grown_below (K9.out.alloc K9.out.size _) z2 K9.out.size)
              have k11 : Below w9.heap.size w9 w11 := (below1 w9 _).grown z2 (below1 w9 _).size (fun j hj => by cases hj; exact Nat.le_refl _)
              have L11 := Lib.hid z1
              have H11 := Lib.hid (H9.out.next k11)
              have T11 := Lib.hid (T9.out.next k11)
              have G11 := Lib.hid K9.out.size
              have G12 : Hid (h < w9.heap.size ∧ ¬ Ow.Fp b w9.heap.size) := Lib.hid ⟨H9.out.lt, fun q => by have := T9.out.in _ q; omega⟩
              clear z1 z2 k11 H9 T9 K9 d1
              generalize w9.heap.size = g11 at L11 G11 G12 ⊢
              go_upto_region 43 with fail
              go_upto_region 44 with fail
              go_upto_region 46 with (first
                | (refine wpList_plain rfl fun K' hK' => wp_bmsg _ rfl rfl (hK' _ _ ?_); simp only [Act.put, List.setIfInBounds_toArray, List.set_cons_zero, List.set_cons_succ])
                | (refine wpList_plain rfl fun K' hK' => wp_bdid2 (g := gs) _ _ rfl rfl rfl (hK' _ _ ?_); simp only [Act.put, List.setIfInBounds_toArray, List.set_cons_zero, List.set_cons_succ])
                | (refine wpList_plain rfl fun K' hK' => wp_bdid1 _ rfl rfl (hK' _ _ ?_); simp only [Act.put, List.setIfInBounds_toArray, List.set_cons_zero, List.set_cons_succ])
                | (refine wpList_plain rfl fun K' hK' => wp_store_did (cs' := dcl 4 i none none) _ _ rfl rfl rfl L11.out rfl rfl (one_did _ _ _ _) (fun w12 z1 z2 => hK' _ _ ?_))
                | fail)
              have K12 := Lib.hid (grown_below K11.out z2 G11.out)
              have L12 := Lib.hid z1
              have H12 : Hid (Is w12 h b i tt 4 false (some gs)) := Lib.hid ((z2.block h H11.out.lt (fun e => by have := Option.some.inj e; have := G12.out.1; omega)).trans H11.out)
              have T12 : Hid (Ow.Is w12 b s _) := Lib.hid ⟨(z2.block _ T11.out.lies.lt (fun e => G12.out.2 (.inr (Option.some.inj e).symm))).trans T11.out.lies, (z2.block _ T11.out.rows.lt (fun e => G12.out.2 (.inl (Option.some.inj e).symm))).trans T11.out.rows⟩
              clear z1 z2 K11 L11 H11 T11 G11 G12
              obtain ⟨-, d1⟩ := D.out w12 K12.out
              go_wp2_with (first
                | (refine wpList_plain rfl fun K' hK' => wp_load_did _ rfl rfl L12.out rfl (hK' _ _ ?_); simp only [Act.put, List.setIfInBounds_toArray, List.set_cons_zero, List.set_cons_succ])
                | fail)
              refine (did_no H12 (.inl rfl)).mono ?_
              rintro r w13 ⟨rfl, k13⟩
              have H13 := Lib.hid (H12.out.next k13)
              have T13 := Lib.hid (T12.out.next k13)
              have K13 := Lib.hid (after K12.out k13)
              clear k13 H12 T12 K12 L12 d1
              go_wp2_with fail
              refine (Ow.of_yes (i := i) (o := ⟨(i : Int) % s, 0, true⟩) T13 (by rw [List.getElem?_set_self (by rw [Ow.ini_len]; exact hi)])).mono ?_
              rintro r w14 ⟨rfl, k14⟩
              go_upto_region 52 with fail
              have k15 := k14.alloc k14.size (Obj.cells #[.int .i64 ((i : Int) % s), .int .i64 0, .bool true] 34)
              have L15 : Hid (Lies (w14.alloc (Obj.cells #[.int .i64 ((i : Int) % s), .int .i64 0, .bool true] 34)) w14.heap.size 34 [.int .i64 ((i : Int) % s), .int .i64 0, .bool true]) := Lib.hid (Lies.new _ _ [.int .i64 ((i : Int) % s), .int .i64 0, .bool true])
              have H15 := Lib.hid (H13.out.next k15)
              have T15 := Lib.hid (T13.out.next k15)
              have K15 := Lib.hid (after K13.out k15)
              clear k14 k15 H13 T13 K13
              generalize w14.heap.size = g15 at L15 ⊢
              generalize w14.alloc (Obj.cells #[.int .i64 ((i : Int) % s), .int .i64 0, .bool true] 34) = w15 at L15 H15 T15 K15 ⊢
              have o0 := L15.out.cell (i := 0) rfl
              have o1 := L15.out.cell (i := 1) rfl
              have o2 := L15.out.cell (i := 2) rfl
              have ts : ¬ (tt : Int) ≠ tt := fun e => e rfl
              go_wp2_with fail
              exact ⟨⟨2, j + 1, by omega, by omega, rfl, by go_num, Lib.hid ⟨H15.out, T15.out⟩, Lib.hid K15.out⟩, by simp [intOf]; omega⟩
            | true =>
              clear hw3
              go_upto_region 41 with fail
              go_upto_region 42 with (first
                | (refine wpList_plain rfl fun K' hK' => wp_bmsg _ rfl rfl (hK' _ _ ?_); simp only [Act.put, List.setIfInBounds_toArray, List.set_cons_zero, List.set_cons_succ])
                | (refine wpList_plain rfl fun K' hK' => wp_bdid2 (g := gs) _ _ rfl rfl rfl (hK' _ _ ?_); simp only [Act.put, List.setIfInBounds_toArray, List.set_cons_zero, List.set_cons_succ])
                | (refine wpList_plain rfl fun K' hK' => wp_bdid1 _ rfl rfl (hK' _ _ ?_); simp only [Act.put, List.setIfInBounds_toArray, List.set_cons_zero, List.set_cons_succ])
                | (refine wpList_plain rfl fun K' hK' => wp_store_did (cs' := dcl 3 (i + 1) none (some gs)) _ _ rfl rfl rfl (Lies.new _ _ zdl) rfl rfl (one_did _ _ _ _) (fun w11 z1 z2 => hK' _ _ ?_))
                | fail)
              have K11 := Lib.hid (grown_below (K9.out.alloc K9.out.size _) z2 K9.out.size)
              have k11 : Below w9.heap.size w9 w11 := (below1 w9 _).grown z2 (below1 w9 _).size (fun j hj => by cases hj; exact Nat.le_refl _)
              have L11 := Lib.hid z1
              have H11 := Lib.hid (H9.out.next k11)
              have T11 := Lib.hid (T9.out.next k11)
              have G11 := Lib.hid K9.out.size
              have G12 : Hid (h < w9.heap.size ∧ ¬ Ow.Fp b w9.heap.size) := Lib.hid ⟨H9.out.lt, fun q => by have := T9.out.in _ q; omega⟩
              clear z1 z2 k11 H9 T9 K9 d1
              generalize w9.heap.size = g11 at L11 G11 G12 ⊢
              go_upto_region 43 with fail
              go_upto_region 44 with fail
              go_upto_region 46 with (first
                | (refine wpList_plain rfl fun K' hK' => wp_bmsg _ rfl rfl (hK' _ _ ?_); simp only [Act.put, List.setIfInBounds_toArray, List.set_cons_zero, List.set_cons_succ])
                | (refine wpList_plain rfl fun K' hK' => wp_bdid2 (g := gs) _ _ rfl rfl rfl (hK' _ _ ?_); simp only [Act.put, List.setIfInBounds_toArray, List.set_cons_zero, List.set_cons_succ])
                | (refine wpList_plain rfl fun K' hK' => wp_bdid1 _ rfl rfl (hK' _ _ ?_); simp only [Act.put, List.setIfInBounds_toArray, List.set_cons_zero, List.set_cons_succ])
                | (refine wpList_plain rfl fun K' hK' => wp_store_did (cs' := dcl 4 (i + 1) none none) _ _ rfl rfl rfl L11.out rfl rfl (one_did _ _ _ _) (fun w12 z1 z2 => hK' _ _ ?_))
                | fail)
              have K12 := Lib.hid (grown_below K11.out z2 G11.out)
              have L12 := Lib.hid z1
              have H12 : Hid (Is w12 h b i tt 4 false (some gs)) := Lib.hid ((z2.block h H11.out.lt (fun e => by have := Option.some.inj e; have := G12.out.1; omega)).trans H11.out)
              have T12 : Hid (Ow.Is w12 b s _) := Lib.hid ⟨(z2.block _ T11.out.lies.lt (fun e => G12.out.2 (.inr (Option.some.inj e).symm))).trans T11.out.lies, (z2.block _ T11.out.rows.lt (fun e => G12.out.2 (.inl (Option.some.inj e).symm))).trans T11.out.rows⟩
              clear z1 z2 K11 L11 H11 T11 G11 G12
              obtain ⟨-, d1⟩ := D.out w12 K12.out
              go_wp2_with (first
                | (refine wpList_plain rfl fun K' hK' => wp_load_did _ rfl rfl L12.out rfl (hK' _ _ ?_); simp only [Act.put, List.setIfInBounds_toArray, List.set_cons_zero, List.set_cons_succ])
                | fail)
              refine (did_no H12 (.inl rfl)).mono ?_
              rintro r w13 ⟨rfl, k13⟩
              have H13 := Lib.hid (H12.out.next k13)
              have T13 := Lib.hid (T12.out.next k13)
              have K13 := Lib.hid (after K12.out k13)
              clear k13 H12 T12 K12 L12 d1
              go_wp2_with fail
              refine (Ow.of_yes (i := i) (o := ⟨(i : Int) % s, 0, true⟩) T13 (by rw [List.getElem?_set_self (by rw [Ow.ini_len]; exact hi)])).mono ?_
              rintro r w14 ⟨rfl, k14⟩
              go_upto_region 52 with fail
              have k15 := k14.alloc k14.size (Obj.cells #[.int .i64 ((i : Int) % s), .int .i64 0, .bool true] 34)
              have L15 : Hid (Lies (w14.alloc (Obj.cells #[.int .i64 ((i : Int) % s), .int .i64 0, .bool true] 34)) w14.heap.size 34 [.int .i64 ((i : Int) % s), .int .i64 0, .bool true]) := Lib.hid (Lies.new _ _ [.int .i64 ((i : Int) % s), .int .i64 0, .bool true])
              have H15 := Lib.hid (H13.out.next k15)
              have T15 := Lib.hid (T13.out.next k15)
              have K15 := Lib.hid (after K13.out k15)
              clear k14 k15 H13 T13 K13
              generalize w14.heap.size = g15 at L15 ⊢
              generalize w14.alloc (Obj.cells #[.int .i64 ((i : Int) % s), .int .i64 0, .bool true] 34) = w15 at L15 H15 T15 K15 ⊢
              have o0 := L15.out.cell (i := 0) rfl
              have o1 := L15.out.cell (i := 1) rfl
              have o2 := L15.out.cell (i := 2) rfl
              have ts : ¬ (tt : Int) ≠ tt := fun e => e rfl
              go_wp2_with fail
              exact ⟨⟨2, j + 1, by omega, by omega, rfl, by go_num, Lib.hid ⟨H15.out, T15.out⟩, Lib.hid K15.out⟩, by simp [intOf]; omega⟩
      · as_aux_lemma =>
          have HI : Hid (Is wr h b i tt 4 true none) := Lib.hid X.out.hand
          have TI : Hid (Ow.Is wr b s ((Ow.ini s n n).set i ⟨(i : Int) % s, 0, true⟩)) := Lib.hid X.out.table
          have hx : ((Ow.ini s n n).set i ⟨(i : Int) % s, 0, true⟩)[i]? = some ⟨(i : Int) % s, 0, true⟩ := by rw [List.getElem?_set_self (by rw [Ow.ini_len]; exact hi)]
          clear X
          go_wp2_with fail
          refine (ask_none HI (.inl rfl)).mono ?_
          rintro r w8 ⟨rfl, k8⟩
          go_upto_region 24 with fail
          have k9 := k8.alloc k8.size (Obj.cells #[.int .i64 0, .int .i64 0, .int .i64 0, .string ⟨#[]⟩, .int .i64 0, .int .i64 0, .int .i64 0, .int .i64 0, .int .i64 0, .int .i64 0, .pointer none] 45)
          have L9 : Hid (Lies (w8.alloc (Obj.cells #[.int .i64 0, .int .i64 0, .int .i64 0, .string ⟨#[]⟩, .int .i64 0, .int .i64 0, .int .i64 0, .int .i64 0, .int .i64 0, .int .i64 0, .pointer none] 45)) w8.heap.size 45 (mcl 0 0 none)) := Lib.hid (Lies.new _ _ (mcl 0 0 none))
          have H9 := Lib.hid (HI.out.next k9)
          have T9 := Lib.hid (TI.out.next k9)
          have K9 := Lib.hid (after K.out k9)
          clear k8 k9 HI TI K
          generalize w8.heap.size = g9 at L9 ⊢
          generalize w8.alloc (Obj.cells #[.int .i64 0, .int .i64 0, .int .i64 0, .string ⟨#[]⟩, .int .i64 0, .int .i64 0, .int .i64 0, .int .i64 0, .int .i64 0, .int .i64 0, .pointer none] 45) = w9 at L9 H9 T9 K9 ⊢
          have m0 := L9.out.cell (i := 0) rfl
          have m1 := L9.out.cell (i := 1) rfl
          have m2 := L9.out.cell (i := 2) rfl
          have m3 := L9.out.cell (i := 3) rfl
          have m4 := L9.out.cell (i := 4) rfl
          have m5 := L9.out.cell (i := 5) rfl
          have m6 := L9.out.cell (i := 6) rfl
          have m7 := L9.out.cell (i := 7) rfl
          have m8 := L9.out.cell (i := 8) rfl
          have m9 := L9.out.cell (i := 9) rfl
          have m10 : w9.cell? ⟨g9, 10, none⟩ = some (.pointer none) := L9.out.cell (i := 10) rfl
          have qn : ∀ w, (Op.equalIn 9999 37 (.pointer none) (.pointer none)).run Try.prog w = .ok true w := fun w => eql_ptr w 9998 none
          have qm : (i : Int).tmod s = (i : Int) % s := Int.tmod_eq_emod_of_nonneg (by omega)
          have qs : ¬ s = 0 := by omega
          go_wp2_with fail
          refine (over_ok H9).mono ?_
          rintro r w10 ⟨rfl, rfl⟩
          go_upto_region 32 with fail
          clear m0 m1 m2 m3 m4 m5 m6 m7 m8 m9 m10 qn qm qs L9
          obtain ⟨d0, d1⟩ := D.out w9 K9.out
          go_wp2_with fail
          refine (pick_det x.c 3 w9 fx (by decide) (by decide)).mono ?_
          rintro r _ ⟨rfl, rfl⟩
          obtain ⟨wh, hwh⟩ : ∃ v, v = pk x.c 3 := ⟨_, rfl⟩
          have hw3 := pk_in (c := x.c) (n := 3) (by decide)
          rw [← hwh] at hw3 ⊢
          clear hwh d0
          obtain ⟨o, ho⟩ : ∃ o, o = x.o := ⟨_, rfl⟩
          rw [← ho] at d1
          rw [← ho] at D
          clear ho fx
          have hw1 : IntKind.i64.wrap ((i : Int) + 1) = (i : Int) + 1 := IntWalk.i64_in _ (by omega)
          obtain rfl | rfl | rfl : wh = 0 ∨ wh = 1 ∨ wh = 2 := by omega
          · cases o with
            | false =>
              clear hw3
              go_wp2_with fail
              refine (sent_no H9 (.inl rfl)).mono ?_
              rintro r w11 ⟨rfl, rfl⟩
              clear d1
              go_wp2_with fail
              exact ⟨⟨3, j + 1, by omega, by omega, rfl, by go_num, Lib.hid ⟨H9.out, T9.out⟩, Lib.hid K9.out⟩, by simp [intOf]; omega⟩
            | true =>
              clear hw3
              go_wp2_with fail
              refine (sent_no H9 (.inl rfl)).mono ?_
              rintro r w11 ⟨rfl, rfl⟩
              clear d1
              go_wp2_with fail
              exact ⟨⟨3, j + 1, by omega, by omega, rfl, by go_num, Lib.hid ⟨H9.out, T9.out⟩, Lib.hid K9.out⟩, by simp [intOf]; omega⟩
          · cases o with
            | false =>
              clear hw3
              go_upto_region 41 with fail
              go_upto_region 42 with (first
                | (refine wpList_plain rfl fun K' hK' => wp_bmsg _ rfl rfl (hK' _ _ ?_); simp only [Act.put, List.setIfInBounds_toArray, List.set_cons_zero, List.set_cons_succ])
                | (refine wpList_plain rfl fun K' hK' => wp_bdid2 (g := gs) _ _ rfl rfl rfl (hK' _ _ ?_); simp only [Act.put, List.setIfInBounds_toArray, List.set_cons_zero, List.set_cons_succ])
                | (refine wpList_plain rfl fun K' hK' => wp_bdid1 _ rfl rfl (hK' _ _ ?_); simp only [Act.put, List.setIfInBounds_toArray, List.set_cons_zero, List.set_cons_succ])
                | (refine wpList_plain rfl fun K' hK' => wp_store_did (cs' := dcl 3 i none (some gs)) _ _ rfl rfl rfl (Lies.new _ _ zdl) rfl rfl (one_did _ _ _ _) (fun w11 z1 z2 => hK' _ _ ?_))
                | fail)
              have K11 := Lib.hid (grown_below (K9.out.alloc K9.out.size _) z2 K9.out.size)
              have k11 : Below w9.heap.size w9 w11 := (below1 w9 _).grown z2 (below1 w9 _).size (fun j hj => by cases hj; exact Nat.le_refl _)
              have L11 := Lib.hid z1
              have H11 := Lib.hid (H9.out.next k11)
              have T11 := Lib.hid (T9.out.next k11)
              have G11 := Lib.hid K9.out.size
              have G12 : Hid (h < w9.heap.size ∧ ¬ Ow.Fp b w9.heap.size) := Lib.hid ⟨H9.out.lt, fun q => by have := T9.out.in _ q; omega⟩
              clear z1 z2 k11 H9 T9 K9 d1
              generalize w9.heap.size = g11 at L11 G11 G12 ⊢
              go_upto_region 46 with fail
              have K12 := K11
              have L12 := L11
              have H12 := H11
              have T12 := T11
              clear K11 L11 H11 T11
              generalize w11 = w12 at K12 L12 H12 T12 ⊢
              obtain ⟨-, d1⟩ := D.out w12 K12.out
              go_wp2_with (first
                | (refine wpList_plain rfl fun K' hK' => wp_load_did _ rfl rfl L12.out rfl (hK' _ _ ?_); simp only [Act.put, List.setIfInBounds_toArray, List.set_cons_zero, List.set_cons_succ])
                | fail)
              refine (did_no H12 (.inr (.inl (by decide)))).mono ?_
              rintro r w13 ⟨rfl, k13⟩
              have H13 := Lib.hid (H12.out.next k13)
              have T13 := Lib.hid (T12.out.next k13)
              have K13 := Lib.hid (after K12.out k13)
              clear k13 H12 T12 K12 L12 d1
              go_wp2_with fail
              refine (Ow.of_yes (i := i) (o := ⟨(i : Int) % s, 0, true⟩) T13 (by rw [List.getElem?_set_self (by rw [Ow.ini_len]; exact hi)])).mono ?_
              rintro r w14 ⟨rfl, k14⟩
              go_upto_region 52 with fail
              have k15 := k14.alloc k14.size (Obj.cells #[.int .i64 ((i : Int) % s), .int .i64 0, .bool true] 34)
              have L15 : Hid (Lies (w14.alloc (Obj.cells #[.int .i64 ((i : Int) % s), .int .i64 0, .bool true] 34)) w14.heap.size 34 [.int .i64 ((i : Int) % s), .int .i64 0, .bool true]) := Lib.hid (Lies.new _ _ [.int .i64 ((i : Int) % s), .int .i64 0, .bool true])
              have H15 := Lib.hid (H13.out.next k15)
              have T15 := Lib.hid (T13.out.next k15)
              have K15 := Lib.hid (after K13.out k15)
              clear k14 k15 H13 T13 K13
              generalize w14.heap.size = g15 at L15 ⊢
              generalize w14.alloc (Obj.cells #[.int .i64 ((i : Int) % s), .int .i64 0, .bool true] 34) = w15 at L15 H15 T15 K15 ⊢
              have o0 := L15.out.cell (i := 0) rfl
              have o1 := L15.out.cell (i := 1) rfl
              have o2 := L15.out.cell (i := 2) rfl
              have ts : ¬ (tt : Int) ≠ tt := fun e => e rfl
              go_wp2_with fail
              exact ⟨⟨3, j + 1, by omega, by omega, rfl, by go_num, Lib.hid ⟨H15.out, T15.out⟩, Lib.hid K15.out⟩, by simp [intOf]; omega⟩
            | true =>
              clear hw3
              go_upto_region 41 with fail
              go_upto_region 42 with (first
                | (refine wpList_plain rfl fun K' hK' => wp_bmsg _ rfl rfl (hK' _ _ ?_); simp only [Act.put, List.setIfInBounds_toArray, List.set_cons_zero, List.set_cons_succ])
                | (refine wpList_plain rfl fun K' hK' => wp_bdid2 (g := gs) _ _ rfl rfl rfl (hK' _ _ ?_); simp only [Act.put, List.setIfInBounds_toArray, List.set_cons_zero, List.set_cons_succ])
                | (refine wpList_plain rfl fun K' hK' => wp_bdid1 _ rfl rfl (hK' _ _ ?_); simp only [Act.put, List.setIfInBounds_toArray, List.set_cons_zero, List.set_cons_succ])
                | (refine wpList_plain rfl fun K' hK' => wp_store_did (cs' := dcl 3 (i + 1) none (some gs)) _ _ rfl rfl rfl (Lies.new _ _ zdl) rfl rfl (one_did _ _ _ _) (fun w11 z1 z2 => hK' _ _ ?_))
                | fail)
              have K11 := Lib.hid (grown_below (K9.out.alloc K9.out.size _) z2 K9.out.size)
              have k11 : Below w9.heap.size w9 w11 := (below1 w9 _).grown z2 (below1 w9 _).size (fun j hj => by cases hj; exact Nat.le_refl _)
              have L11 := Lib.hid z1
              have H11 := Lib.hid (H9.out.next k11)
              have T11 := Lib.hid (T9.out.next k11)
              have G11 := Lib.hid K9.out.size
              have G12 : Hid (h < w9.heap.size ∧ ¬ Ow.Fp b w9.heap.size) := Lib.hid ⟨H9.out.lt, fun q => by have := T9.out.in _ q; omega⟩
              clear z1 z2 k11 H9 T9 K9 d1
              generalize w9.heap.size = g11 at L11 G11 G12 ⊢
              go_upto_region 46 with fail
              have K12 := K11
              have L12 := L11
              have H12 := H11
              have T12 := T11
              clear K11 L11 H11 T11
              generalize w11 = w12 at K12 L12 H12 T12 ⊢
              obtain ⟨-, d1⟩ := D.out w12 K12.out
              go_wp2_with (first
                | (refine wpList_plain rfl fun K' hK' => wp_load_did _ rfl rfl L12.out rfl (hK' _ _ ?_); simp only [Act.put, List.setIfInBounds_toArray, List.set_cons_zero, List.set_cons_succ])
                | fail)
              refine (did_no H12 (.inr (.inl (by decide)))).mono ?_
              rintro r w13 ⟨rfl, k13⟩
              have H13 := Lib.hid (H12.out.next k13)
              have T13 := Lib.hid (T12.out.next k13)
              have K13 := Lib.hid (after K12.out k13)
              clear k13 H12 T12 K12 L12 d1
              go_wp2_with fail
              refine (Ow.of_yes (i := i) (o := ⟨(i : Int) % s, 0, true⟩) T13 (by rw [List.getElem?_set_self (by rw [Ow.ini_len]; exact hi)])).mono ?_
              rintro r w14 ⟨rfl, k14⟩
              go_upto_region 52 with fail
              have k15 := k14.alloc k14.size (Obj.cells #[.int .i64 ((i : Int) % s), .int .i64 0, .bool true] 34)
              have L15 : Hid (Lies (w14.alloc (Obj.cells #[.int .i64 ((i : Int) % s), .int .i64 0, .bool true] 34)) w14.heap.size 34 [.int .i64 ((i : Int) % s), .int .i64 0, .bool true]) := Lib.hid (Lies.new _ _ [.int .i64 ((i : Int) % s), .int .i64 0, .bool true])
              have H15 := Lib.hid (H13.out.next k15)
              have T15 := Lib.hid (T13.out.next k15)
              have K15 := Lib.hid (after K13.out k15)
              clear k14 k15 H13 T13 K13
              generalize w14.heap.size = g15 at L15 ⊢
              generalize w14.alloc (Obj.cells #[.int .i64 ((i : Int) % s), .int .i64 0, .bool true] 34) = w15 at L15 H15 T15 K15 ⊢
              have o0 := L15.out.cell (i := 0) rfl
              have o1 := L15.out.cell (i := 1) rfl
              have o2 := L15.out.cell (i := 2) rfl
              have ts : ¬ (tt : Int) ≠ tt := fun e => e rfl
              go_wp2_with fail
              exact ⟨⟨3, j + 1, by omega, by omega, rfl, by go_num, Lib.hid ⟨H15.out, T15.out⟩, Lib.hid K15.out⟩, by simp [intOf]; omega⟩
          · cases o with
            | false =>
              clear hw3
              go_upto_region 41 with fail
              go_upto_region 42 with (first
                | (refine wpList_plain rfl fun K' hK' => wp_bmsg _ rfl rfl (hK' _ _ ?_); simp only [Act.put, List.setIfInBounds_toArray, List.set_cons_zero, List.set_cons_succ])
                | (refine wpList_plain rfl fun K' hK' => wp_bdid2 (g := gs) _ _ rfl rfl rfl (hK' _ _ ?_); simp only [Act.put, List.setIfInBounds_toArray, List.set_cons_zero, List.set_cons_succ])
                | (refine wpList_plain rfl fun K' hK' => wp_bdid1 _ rfl rfl (hK' _ _ ?_); simp only [Act.put, List.setIfInBounds_toArray, List.set_cons_zero, List.set_cons_succ])
                | (refine wpList_plain rfl fun K' hK' => wp_store_did (cs' := dcl 3 i none (some gs)) _ _ rfl rfl rfl (Lies.new _ _ zdl) rfl rfl (one_did _ _ _ _) (fun w11 z1 z2 => hK' _ _ ?_))
                | fail)
              have K11 := Lib.hid (grown_below (K9.out.alloc K9.out.size _) z2 K9.out.size)
              have k11 : Below w9.heap.size w9 w11 := (below1 w9 _).grown z2 (below1 w9 _).size (fun j hj => by cases hj; exact Nat.le_refl _)
              have L11 := Lib.hid z1
              have H11 := Lib.hid (H9.out.next k11)
              have T11 := Lib.hid (T9.out.next k11)
              have G11 := Lib.hid K9.out.size
              have G12 : Hid (h < w9.heap.size ∧ ¬ Ow.Fp b w9.heap.size) := Lib.hid ⟨H9.out.lt, fun q => by have := T9.out.in _ q; omega⟩
              clear z1 z2 k11 H9 T9 K9 d1
              generalize w9.heap.size = g11 at L11 G11 G12 ⊢
              go_upto_region 43 with fail
              go_upto_region 44 with fail
              go_upto_region 46 with (first
                | (refine wpList_plain rfl fun K' hK' => wp_bmsg _ rfl rfl (hK' _ _ ?_); simp only [Act.put, List.setIfInBounds_toArray, List.set_cons_zero, List.set_cons_succ])
                | (refine wpList_plain rfl fun K' hK' => wp_bdid2 (g := gs) _ _ rfl rfl rfl (hK' _ _ ?_); simp only [Act.put, List.setIfInBounds_toArray, List.set_cons_zero, List.set_cons_succ])
                | (refine wpList_plain rfl fun K' hK' => wp_bdid1 _ rfl rfl (hK' _ _ ?_); simp only [Act.put, List.setIfInBounds_toArray, List.set_cons_zero, List.set_cons_succ])
                | (refine wpList_plain rfl fun K' hK' => wp_store_did (cs' := dcl 4 i none none) _ _ rfl rfl rfl L11.out rfl rfl (one_did _ _ _ _) (fun w12 z1 z2 => hK' _ _ ?_))
                | fail)
              have K12 := Lib.hid (grown_below K11.out z2 G11.out)
              have L12 := Lib.hid z1
              have H12 : Hid (Is w12 h b i tt 4 true none) := Lib.hid ((z2.block h H11.out.lt (fun e => by have := Option.some.inj e; have := G12.out.1; omega)).trans H11.out)
              have T12 : Hid (Ow.Is w12 b s _) := Lib.hid ⟨(z2.block _ T11.out.lies.lt (fun e => G12.out.2 (.inr (Option.some.inj e).symm))).trans T11.out.lies, (z2.block _ T11.out.rows.lt (fun e => G12.out.2 (.inl (Option.some.inj e).symm))).trans T11.out.rows⟩
              clear z1 z2 K11 L11 H11 T11 G11 G12
              obtain ⟨-, d1⟩ := D.out w12 K12.out
              go_wp2_with (first
                | (refine wpList_plain rfl fun K' hK' => wp_load_did _ rfl rfl L12.out rfl (hK' _ _ ?_); simp only [Act.put, List.setIfInBounds_toArray, List.set_cons_zero, List.set_cons_succ])
                | fail)
              refine (did_have H12 T12 hx rfl t1 t2 (by show (0 : Int) ≤ 0; decide) (by show (0 : Int) ≤ 1000000; decide) NE.out).mono ?_
              rintro r w13 ⟨rfl, h13, b13, v13⟩
              rw [List.set_set] at b13
              have T13 : Hid (Ow.Is w13 b s ((Ow.ini s n n).set i ⟨tt, 1, false⟩)) := Lib.hid b13
              have H13 := Lib.hid h13
              have K13 := Lib.hid (K12.out.trans (v13.below (fun j hj => by rcases hj with hj | hj; obtain rfl : j = h := hj; exact HB.out; exact F2.out j hj) K12.out.size))
              clear h13 b13 v13 H12 T12 K12 L12 d1
              go_wp2_with fail
              refine (Ow.of_yes (i := i) (o := ⟨tt, 1, false⟩) T13 (by rw [List.getElem?_set_self (by rw [Ow.ini_len]; exact hi)])).mono ?_
              rintro r w14 ⟨rfl, k14⟩
              go_upto_region 52 with fail
              have k15 := k14.alloc k14.size (Obj.cells #[.int .i64 tt, .int .i64 1, .bool false] 34)
              have L15 : Hid (Lies (w14.alloc (Obj.cells #[.int .i64 tt, .int .i64 1, .bool false] 34)) w14.heap.size 34 [.int .i64 tt, .int .i64 1, .bool false]) := Lib.hid (Lies.new _ _ [.int .i64 tt, .int .i64 1, .bool false])
              have H15 := Lib.hid (H13.out.next k15)
              have T15 := Lib.hid (T13.out.next k15)
              have K15 := Lib.hid (after K13.out k15)
              clear k14 k15 H13 T13 K13
              generalize w14.heap.size = g15 at L15 ⊢
              generalize w14.alloc (Obj.cells #[.int .i64 tt, .int .i64 1, .bool false] 34) = w15 at L15 H15 T15 K15 ⊢
              have o0 := L15.out.cell (i := 0) rfl
              have o1 := L15.out.cell (i := 1) rfl
              have o2 := L15.out.cell (i := 2) rfl
              have ts : ¬ (tt : Int) ≠ tt := fun e => e rfl
              go_wp2_with fail
              exact ⟨⟨4, j + 1, by omega, by omega, rfl, by go_num, Lib.hid ⟨H15.out, T15.out⟩, Lib.hid K15.out⟩, by simp [intOf]; omega⟩
            | true =>
              clear hw3
              go_upto_region 41 with fail
              go_upto_region 42 with (first
                | (refine wpList_plain rfl fun K' hK' => wp_bmsg _ rfl rfl (hK' _ _ ?_); simp only [Act.put, List.setIfInBounds_toArray, List.set_cons_zero, List.set_cons_succ])
                | (refine wpList_plain rfl fun K' hK' => wp_bdid2 (g := gs) _ _ rfl rfl rfl (hK' _ _ ?_); simp only [Act.put, List.setIfInBounds_toArray, List.set_cons_zero, List.set_cons_succ])
                | (refine wpList_plain rfl fun K' hK' => wp_bdid1 _ rfl rfl (hK' _ _ ?_); simp only [Act.put, List.setIfInBounds_toArray, List.set_cons_zero, List.set_cons_succ])
                | (refine wpList_plain rfl fun K' hK' => wp_store_did (cs' := dcl 3 (i + 1) none (some gs)) _ _ rfl rfl rfl (Lies.new _ _ zdl) rfl rfl (one_did _ _ _ _) (fun w11 z1 z2 => hK' _ _ ?_))
                | fail)
              have K11 := Lib.hid (grown_below (K9.out.alloc K9.out.size _) z2 K9.out.size)
              have k11 : Below w9.heap.size w9 w11 := (below1 w9 _).grown z2 (below1 w9 _).size (fun j hj => by cases hj; exact Nat.le_refl _)
              have L11 := Lib.hid z1
              have H11 := Lib.hid (H9.out.next k11)
              have T11 := Lib.hid (T9.out.next k11)
              have G11 := Lib.hid K9.out.size
              have G12 : Hid (h < w9.heap.size ∧ ¬ Ow.Fp b w9.heap.size) := Lib.hid ⟨H9.out.lt, fun q => by have := T9.out.in _ q; omega⟩
              clear z1 z2 k11 H9 T9 K9 d1
              generalize w9.heap.size = g11 at L11 G11 G12 ⊢
              go_upto_region 43 with fail
              go_upto_region 44 with fail
              go_upto_region 46 with (first
                | (refine wpList_plain rfl fun K' hK' => wp_bmsg _ rfl rfl (hK' _ _ ?_); simp only [Act.put, List.setIfInBounds_toArray, List.set_cons_zero, List.set_cons_succ])
                | (refine wpList_plain rfl fun K' hK' => wp_bdid2 (g := gs) _ _ rfl rfl rfl (hK' _ _ ?_); simp only [Act.put, List.setIfInBounds_toArray, List.set_cons_zero, List.set_cons_succ])
                | (refine wpList_plain rfl fun K' hK' => wp_bdid1 _ rfl rfl (hK' _ _ ?_); simp only [Act.put, List.setIfInBounds_toArray, List.set_cons_zero, List.set_cons_succ])
                | (refine wpList_plain rfl fun K' hK' => wp_store_did (cs' := dcl 4 (i + 1) none none) _ _ rfl rfl rfl L11.out rfl rfl (one_did _ _ _ _) (fun w12 z1 z2 => hK' _ _ ?_))
                | fail)
              have K12 := Lib.hid (grown_below K11.out z2 G11.out)
              have L12 := Lib.hid z1
              have H12 : Hid (Is w12 h b i tt 4 true none) := Lib.hid ((z2.block h H11.out.lt (fun e => by have := Option.some.inj e; have := G12.out.1; omega)).trans H11.out)
              have T12 : Hid (Ow.Is w12 b s _) := Lib.hid ⟨(z2.block _ T11.out.lies.lt (fun e => G12.out.2 (.inr (Option.some.inj e).symm))).trans T11.out.lies, (z2.block _ T11.out.rows.lt (fun e => G12.out.2 (.inl (Option.some.inj e).symm))).trans T11.out.rows⟩
              clear z1 z2 K11 L11 H11 T11 G11 G12
              obtain ⟨-, d1⟩ := D.out w12 K12.out
              go_wp2_with (first
                | (refine wpList_plain rfl fun K' hK' => wp_load_did _ rfl rfl L12.out rfl (hK' _ _ ?_); simp only [Act.put, List.setIfInBounds_toArray, List.set_cons_zero, List.set_cons_succ])
                | fail)
              refine (did_no H12 (.inr (.inr (by omega)))).mono ?_
              rintro r w13 ⟨rfl, k13⟩
              have H13 := Lib.hid (H12.out.next k13)
              have T13 := Lib.hid (T12.out.next k13)
              have K13 := Lib.hid (after K12.out k13)
              clear k13 H12 T12 K12 L12 d1
              go_wp2_with fail
              refine (Ow.of_yes (i := i) (o := ⟨(i : Int) % s, 0, true⟩) T13 (by rw [List.getElem?_set_self (by rw [Ow.ini_len]; exact hi)])).mono ?_
              rintro r w14 ⟨rfl, k14⟩
              go_upto_region 52 with fail
              have k15 := k14.alloc k14.size (Obj.cells #[.int .i64 ((i : Int) % s), .int .i64 0, .bool true] 34)
              have L15 : Hid (Lies (w14.alloc (Obj.cells #[.int .i64 ((i : Int) % s), .int .i64 0, .bool true] 34)) w14.heap.size 34 [.int .i64 ((i : Int) % s), .int .i64 0, .bool true]) := Lib.hid (Lies.new _ _ [.int .i64 ((i : Int) % s), .int .i64 0, .bool true])
              have H15 := Lib.hid (H13.out.next k15)
              have T15 := Lib.hid (T13.out.next k15)
              have K15 := Lib.hid (after K13.out k15)
              clear k14 k15 H13 T13 K13
              generalize w14.heap.size = g15 at L15 ⊢
              generalize w14.alloc (Obj.cells #[.int .i64 ((i : Int) % s), .int .i64 0, .bool true] 34) = w15 at L15 H15 T15 K15 ⊢
              have o0 := L15.out.cell (i := 0) rfl
              have o1 := L15.out.cell (i := 1) rfl
              have o2 := L15.out.cell (i := 2) rfl
              have ts : ¬ (tt : Int) ≠ tt := fun e => e rfl
              go_wp2_with fail
              exact ⟨⟨3, j + 1, by omega, by omega, rfl, by go_num, Lib.hid ⟨H15.out, T15.out⟩, Lib.hid K15.out⟩, by simp [intOf]; omega⟩
      · as_aux_lemma =>
          have HI : Hid (Is wr h b i tt 0 false none) := Lib.hid X.out.hand
          have TI : Hid (Ow.Is wr b s ((Ow.ini s n n).set i ⟨tt, 1, false⟩)) := Lib.hid X.out.table
          have hx : ((Ow.ini s n n).set i ⟨tt, 1, false⟩)[i]? = some ⟨tt, 1, false⟩ := by rw [List.getElem?_set_self (by rw [Ow.ini_len]; exact hi)]
          clear X
          go_wp2_with fail
          refine (ask_none HI (.inr rfl)).mono ?_
          rintro r w8 ⟨rfl, k8⟩
          go_upto_region 24 with fail
          have k9 := k8.alloc k8.size (Obj.cells #[.int .i64 0, .int .i64 0, .int .i64 0, .string ⟨#[]⟩, .int .i64 0, .int .i64 0, .int .i64 0, .int .i64 0, .int .i64 0, .int .i64 0, .pointer none] 45)
          have L9 : Hid (Lies (w8.alloc (Obj.cells #[.int .i64 0, .int .i64 0, .int .i64 0, .string ⟨#[]⟩, .int .i64 0, .int .i64 0, .int .i64 0, .int .i64 0, .int .i64 0, .int .i64 0, .pointer none] 45)) w8.heap.size 45 (mcl 0 0 none)) := Lib.hid (Lies.new _ _ (mcl 0 0 none))
          have H9 := Lib.hid (HI.out.next k9)
          have T9 := Lib.hid (TI.out.next k9)
          have K9 := Lib.hid (after K.out k9)
          clear k8 k9 HI TI K
          generalize w8.heap.size = g9 at L9 ⊢
          generalize w8.alloc (Obj.cells #[.int .i64 0, .int .i64 0, .int .i64 0, .string ⟨#[]⟩, .int .i64 0, .int .i64 0, .int .i64 0, .int .i64 0, .int .i64 0, .int .i64 0, .pointer none] 45) = w9 at L9 H9 T9 K9 ⊢
          have m0 := L9.out.cell (i := 0) rfl
          have m1 := L9.out.cell (i := 1) rfl
          have m2 := L9.out.cell (i := 2) rfl
          have m3 := L9.out.cell (i := 3) rfl
          have m4 := L9.out.cell (i := 4) rfl
          have m5 := L9.out.cell (i := 5) rfl
          have m6 := L9.out.cell (i := 6) rfl
          have m7 := L9.out.cell (i := 7) rfl
          have m8 := L9.out.cell (i := 8) rfl
          have m9 := L9.out.cell (i := 9) rfl
          have m10 : w9.cell? ⟨g9, 10, none⟩ = some (.pointer none) := L9.out.cell (i := 10) rfl
          have qn : ∀ w, (Op.equalIn 9999 37 (.pointer none) (.pointer none)).run Try.prog w = .ok true w := fun w => eql_ptr w 9998 none
          have qm : (i : Int).tmod s = (i : Int) % s := Int.tmod_eq_emod_of_nonneg (by omega)
          have qs : ¬ s = 0 := by omega
          go_wp2_with fail
          refine (over_ok H9).mono ?_
          rintro r w10 ⟨rfl, rfl⟩
          go_upto_region 32 with fail
          clear m0 m1 m2 m3 m4 m5 m6 m7 m8 m9 m10 qn qm qs L9
          obtain ⟨d0, d1⟩ := D.out w9 K9.out
          go_wp2_with fail
          refine (pick_det x.c 3 w9 fx (by decide) (by decide)).mono ?_
          rintro r _ ⟨rfl, rfl⟩
          obtain ⟨wh, hwh⟩ : ∃ v, v = pk x.c 3 := ⟨_, rfl⟩
          have hw3 := pk_in (c := x.c) (n := 3) (by decide)
          rw [← hwh] at hw3 ⊢
          clear hwh d0
          obtain ⟨o, ho⟩ : ∃ o, o = x.o := ⟨_, rfl⟩
          rw [← ho] at d1
          rw [← ho] at D
          clear ho fx
          have hw1 : IntKind.i64.wrap ((i : Int) + 1) = (i : Int) + 1 := IntWalk.i64_in _ (by omega)
          obtain rfl | rfl | rfl : wh = 0 ∨ wh = 1 ∨ wh = 2 := by omega
          · cases o with
            | false =>
              clear hw3
              go_wp2_with fail
              refine (sent_no H9 (.inr rfl)).mono ?_
              rintro r w11 ⟨rfl, rfl⟩
              clear d1
              go_wp2_with fail
              exact ⟨⟨4, j + 1, by omega, by omega, rfl, by go_num, Lib.hid ⟨H9.out, T9.out⟩, Lib.hid K9.out⟩, by simp [intOf]; omega⟩
            | true =>
              clear hw3
              go_wp2_with fail
              refine (sent_no H9 (.inr rfl)).mono ?_
              rintro r w11 ⟨rfl, rfl⟩
              clear d1
              go_wp2_with fail
              exact ⟨⟨4, j + 1, by omega, by omega, rfl, by go_num, Lib.hid ⟨H9.out, T9.out⟩, Lib.hid K9.out⟩, by simp [intOf]; omega⟩
          · cases o with
            | false =>
              clear hw3
              go_upto_region 41 with fail
              go_upto_region 42 with (first
                | (refine wpList_plain rfl fun K' hK' => wp_bmsg _ rfl rfl (hK' _ _ ?_); simp only [Act.put, List.setIfInBounds_toArray, List.set_cons_zero, List.set_cons_succ])
                | (refine wpList_plain rfl fun K' hK' => wp_bdid2 (g := gs) _ _ rfl rfl rfl (hK' _ _ ?_); simp only [Act.put, List.setIfInBounds_toArray, List.set_cons_zero, List.set_cons_succ])
                | (refine wpList_plain rfl fun K' hK' => wp_bdid1 _ rfl rfl (hK' _ _ ?_); simp only [Act.put, List.setIfInBounds_toArray, List.set_cons_zero, List.set_cons_succ])
                | (refine wpList_plain rfl fun K' hK' => wp_store_did (cs' := dcl 3 i none (some gs)) _ _ rfl rfl rfl (Lies.new _ _ zdl) rfl rfl (one_did _ _ _ _) (fun w11 z1 z2 => hK' _ _ ?_))
                | fail)
              have K11 := Lib.hid (grown_below (K9.out.alloc K9.out.size _) z2 K9.out.size)
              have k11 : Below w9.heap.size w9 w11 := (below1 w9 _).grown z2 (below1 w9 _).size (fun j hj => by cases hj; exact Nat.le_refl _)
              have L11 := Lib.hid z1
              have H11 := Lib.hid (H9.out.next k11)
              have T11 := Lib.hid (T9.out.next k11)
              have G11 := Lib.hid K9.out.size
              have G12 : Hid (h < w9.heap.size ∧ ¬ Ow.Fp b w9.heap.size) := Lib.hid ⟨H9.out.lt, fun q => by have := T9.out.in _ q; omega⟩
              clear z1 z2 k11 H9 T9 K9 d1
              generalize w9.heap.size = g11 at L11 G11 G12 ⊢
              go_upto_region 46 with fail
              have K12 := K11
              have L12 := L11
              have H12 := H11
              have T12 := T11
              clear K11 L11 H11 T11
              generalize w11 = w12 at K12 L12 H12 T12 ⊢
              obtain ⟨-, d1⟩ := D.out w12 K12.out
              go_wp2_with (first
                | (refine wpList_plain rfl fun K' hK' => wp_load_did _ rfl rfl L12.out rfl (hK' _ _ ?_); simp only [Act.put, List.setIfInBounds_toArray, List.set_cons_zero, List.set_cons_succ])
                | fail)
              refine (did_no H12 (.inl rfl)).mono ?_
              rintro r w13 ⟨rfl, k13⟩
              have H13 := Lib.hid (H12.out.next k13)
              have T13 := Lib.hid (T12.out.next k13)
              have K13 := Lib.hid (after K12.out k13)
              clear k13 H12 T12 K12 L12 d1
              go_wp2_with fail
              refine (Ow.of_yes (i := i) (o := ⟨tt, 1, false⟩) T13 (by rw [List.getElem?_set_self (by rw [Ow.ini_len]; exact hi)])).mono ?_
              rintro r w14 ⟨rfl, k14⟩
              go_upto_region 52 with fail
              have k15 := k14.alloc k14.size (Obj.cells #[.int .i64 tt, .int .i64 1, .bool false] 34)
              have L15 : Hid (Lies (w14.alloc (Obj.cells #[.int .i64 tt, .int .i64 1, .bool false] 34)) w14.heap.size 34 [.int .i64 tt, .int .i64 1, .bool false]) := Lib.hid (Lies.new _ _ [.int .i64 tt, .int .i64 1, .bool false])
              have H15 := Lib.hid (H13.out.next k15)
              have T15 := Lib.hid (T13.out.next k15)
              have K15 := Lib.hid (after K13.out k15)
              clear k14 k15 H13 T13 K13
              generalize w14.heap.size = g15 at L15 ⊢
              generalize w14.alloc (Obj.cells #[.int .i64 tt, .int .i64 1, .bool false] 34) = w15 at L15 H15 T15 K15 ⊢
              have o0 := L15.out.cell (i := 0) rfl
              have o1 := L15.out.cell (i := 1) rfl
              have o2 := L15.out.cell (i := 2) rfl
              have ts : ¬ (tt : Int) ≠ tt := fun e => e rfl
              go_wp2_with fail
              exact ⟨⟨4, j + 1, by omega, by omega, rfl, by go_num, Lib.hid ⟨H15.out, T15.out⟩, Lib.hid K15.out⟩, by simp [intOf]; omega⟩
            | true =>
              clear hw3
              go_upto_region 41 with fail
              go_upto_region 42 with (first
                | (refine wpList_plain rfl fun K' hK' => wp_bmsg _ rfl rfl (hK' _ _ ?_); simp only [Act.put, List.setIfInBounds_toArray, List.set_cons_zero, List.set_cons_succ])
                | (refine wpList_plain rfl fun K' hK' => wp_bdid2 (g := gs) _ _ rfl rfl rfl (hK' _ _ ?_); simp only [Act.put, List.setIfInBounds_toArray, List.set_cons_zero, List.set_cons_succ])
                | (refine wpList_plain rfl fun K' hK' => wp_bdid1 _ rfl rfl (hK' _ _ ?_); simp only [Act.put, List.setIfInBounds_toArray, List.set_cons_zero, List.set_cons_succ])
                | (refine wpList_plain rfl fun K' hK' => wp_store_did (cs' := dcl 3 (i + 1) none (some gs)) _ _ rfl rfl rfl (Lies.new _ _ zdl) rfl rfl (one_did _ _ _ _) (fun w11 z1 z2 => hK' _ _ ?_))
                | fail)
              have K11 := Lib.hid (grown_below (K9.out.alloc K9.out.size _) z2 K9.out.size)
              have k11 : Below w9.heap.size w9 w11 := (below1 w9 _).grown z2 (below1 w9 _).size (fun j hj => by cases hj; exact Nat.le_refl _)
              have L11 := Lib.hid z1
              have H11 := Lib.hid (H9.out.next k11)
              have T11 := Lib.hid (T9.out.next k11)
              have G11 := Lib.hid K9.out.size
              have G12 : Hid (h < w9.heap.size ∧ ¬ Ow.Fp b w9.heap.size) := Lib.hid ⟨H9.out.lt, fun q => by have := T9.out.in _ q; omega⟩
              clear z1 z2 k11 H9 T9 K9 d1
              generalize w9.heap.size = g11 at L11 G11 G12 ⊢
              go_upto_region 46 with fail
              have K12 := K11
              have L12 := L11
              have H12 := H11
              have T12 := T11
              clear K11 L11 H11 T11
              generalize w11 = w12 at K12 L12 H12 T12 ⊢
              obtain ⟨-, d1⟩ := D.out w12 K12.out
              go_wp2_with (first
                | (refine wpList_plain rfl fun K' hK' => wp_load_did _ rfl rfl L12.out rfl (hK' _ _ ?_); simp only [Act.put, List.setIfInBounds_toArray, List.set_cons_zero, List.set_cons_succ])
                | fail)
              refine (did_no H12 (.inl rfl)).mono ?_
              rintro r w13 ⟨rfl, k13⟩
              have H13 := Lib.hid (H12.out.next k13)
              have T13 := Lib.hid (T12.out.next k13)
              have K13 := Lib.hid (after K12.out k13)
              clear k13 H12 T12 K12 L12 d1
              go_wp2_with fail
              refine (Ow.of_yes (i := i) (o := ⟨tt, 1, false⟩) T13 (by rw [List.getElem?_set_self (by rw [Ow.ini_len]; exact hi)])).mono ?_
              rintro r w14 ⟨rfl, k14⟩
              go_upto_region 52 with fail
              have k15 := k14.alloc k14.size (Obj.cells #[.int .i64 tt, .int .i64 1, .bool false] 34)
              have L15 : Hid (Lies (w14.alloc (Obj.cells #[.int .i64 tt, .int .i64 1, .bool false] 34)) w14.heap.size 34 [.int .i64 tt, .int .i64 1, .bool false]) := Lib.hid (Lies.new _ _ [.int .i64 tt, .int .i64 1, .bool false])
              have H15 := Lib.hid (H13.out.next k15)
              have T15 := Lib.hid (T13.out.next k15)
              have K15 := Lib.hid (after K13.out k15)
              clear k14 k15 H13 T13 K13
              generalize w14.heap.size = g15 at L15 ⊢
              generalize w14.alloc (Obj.cells #[.int .i64 tt, .int .i64 1, .bool false] 34) = w15 at L15 H15 T15 K15 ⊢
              have o0 := L15.out.cell (i := 0) rfl
              have o1 := L15.out.cell (i := 1) rfl
              have o2 := L15.out.cell (i := 2) rfl
              have ts : ¬ (tt : Int) ≠ tt := fun e => e rfl
              go_wp2_with fail
              exact ⟨⟨4, j + 1, by omega, by omega, rfl, by go_num, Lib.hid ⟨H15.out, T15.out⟩, Lib.hid K15.out⟩, by simp [intOf]; omega⟩
          · cases o with
            | false =>
              clear hw3
              go_upto_region 41 with fail
              go_upto_region 42 with (first
                | (refine wpList_plain rfl fun K' hK' => wp_bmsg _ rfl rfl (hK' _ _ ?_); simp only [Act.put, List.setIfInBounds_toArray, List.set_cons_zero, List.set_cons_succ])
                | (refine wpList_plain rfl fun K' hK' => wp_bdid2 (g := gs) _ _ rfl rfl rfl (hK' _ _ ?_); simp only [Act.put, List.setIfInBounds_toArray, List.set_cons_zero, List.set_cons_succ])
                | (refine wpList_plain rfl fun K' hK' => wp_bdid1 _ rfl rfl (hK' _ _ ?_); simp only [Act.put, List.setIfInBounds_toArray, List.set_cons_zero, List.set_cons_succ])
                | (refine wpList_plain rfl fun K' hK' => wp_store_did (cs' := dcl 3 i none (some gs)) _ _ rfl rfl rfl (Lies.new _ _ zdl) rfl rfl (one_did _ _ _ _) (fun w11 z1 z2 => hK' _ _ ?_))
                | fail)
              have K11 := Lib.hid (grown_below (K9.out.alloc K9.out.size _) z2 K9.out.size)
              have k11 : Below w9.heap.size w9 w11 := (below1 w9 _).grown z2 (below1 w9 _).size (fun j hj => by cases hj; exact Nat.le_refl _)
              have L11 := Lib.hid z1
              have H11 := Lib.hid (H9.out.next k11)
              have T11 := Lib.hid (T9.out.next k11)
              have G11 := Lib.hid K9.out.size
              have G12 : Hid (h < w9.heap.size ∧ ¬ Ow.Fp b w9.heap.size) := Lib.hid ⟨H9.out.lt, fun q => by have := T9.out.in _ q; omega⟩
              clear z1 z2 k11 H9 T9 K9 d1
              generalize w9.heap.size = g11 at L11 G11 G12 ⊢
              go_upto_region 43 with fail
              go_upto_region 44 with fail
              go_upto_region 46 with (first
                | (refine wpList_plain rfl fun K' hK' => wp_bmsg _ rfl rfl (hK' _ _ ?_); simp only [Act.put, List.setIfInBounds_toArray, List.set_cons_zero, List.set_cons_succ])
                | (refine wpList_plain rfl fun K' hK' => wp_bdid2 (g := gs) _ _ rfl rfl rfl (hK' _ _ ?_); simp only [Act.put, List.setIfInBounds_toArray, List.set_cons_zero, List.set_cons_succ])
                | (refine wpList_plain rfl fun K' hK' => wp_bdid1 _ rfl rfl (hK' _ _ ?_); simp only [Act.put, List.setIfInBounds_toArray, List.set_cons_zero, List.set_cons_succ])
                | (refine wpList_plain rfl fun K' hK' => wp_store_did (cs' := dcl 4 i none none) _ _ rfl rfl rfl L11.out rfl rfl (one_did _ _ _ _) (fun w12 z1 z2 => hK' _ _ ?_))
                | fail)
              have K12 := Lib.hid (grown_below K11.out z2 G11.out)
              have L12 := Lib.hid z1
              have H12 : Hid (Is w12 h b i tt 0 false none) := Lib.hid ((z2.block h H11.out.lt (fun e => by have := Option.some.inj e; have := G12.out.1; omega)).trans H11.out)
              have T12 : Hid (Ow.Is w12 b s _) := Lib.hid ⟨(z2.block _ T11.out.lies.lt (fun e => G12.out.2 (.inr (Option.some.inj e).symm))).trans T11.out.lies, (z2.block _ T11.out.rows.lt (fun e => G12.out.2 (.inl (Option.some.inj e).symm))).trans T11.out.rows⟩
              clear z1 z2 K11 L11 H11 T11 G11 G12
              obtain ⟨-, d1⟩ := D.out w12 K12.out
              go_wp2_with (first
                | (refine wpList_plain rfl fun K' hK' => wp_load_did _ rfl rfl L12.out rfl (hK' _ _ ?_); simp only [Act.put, List.setIfInBounds_toArray, List.set_cons_zero, List.set_cons_succ])
                | fail)
              refine (did_no H12 (.inl rfl)).mono ?_
              rintro r w13 ⟨rfl, k13⟩
              have H13 := Lib.hid (H12.out.next k13)
              have T13 := Lib.hid (T12.out.next k13)
              have K13 := Lib.hid (after K12.out k13)
              clear k13 H12 T12 K12 L12 d1
              go_wp2_with fail
              refine (Ow.of_yes (i := i) (o := ⟨tt, 1, false⟩) T13 (by rw [List.getElem?_set_self (by rw [Ow.ini_len]; exact hi)])).mono ?_
              rintro r w14 ⟨rfl, k14⟩
              go_upto_region 52 with fail
              have k15 := k14.alloc k14.size (Obj.cells #[.int .i64 tt, .int .i64 1, .bool false] 34)
              have L15 : Hid (Lies (w14.alloc (Obj.cells #[.int .i64 tt, .int .i64 1, .bool false] 34)) w14.heap.size 34 [.int .i64 tt, .int .i64 1, .bool false]) := Lib.hid (Lies.new _ _ [.int .i64 tt, .int .i64 1, .bool false])
              have H15 := Lib.hid (H13.out.next k15)
              have T15 := Lib.hid (T13.out.next k15)
              have K15 := Lib.hid (after K13.out k15)
              clear k14 k15 H13 T13 K13
              generalize w14.heap.size = g15 at L15 ⊢
              generalize w14.alloc (Obj.cells #[.int .i64 tt, .int .i64 1, .bool false] 34) = w15 at L15 H15 T15 K15 ⊢
              have o0 := L15.out.cell (i := 0) rfl
              have o1 := L15.out.cell (i := 1) rfl
              have o2 := L15.out.cell (i := 2) rfl
              have ts : ¬ (tt : Int) ≠ tt := fun e => e rfl
              go_wp2_with fail
              exact ⟨⟨4, j + 1, by omega, by omega, rfl, by go_num, Lib.hid ⟨H15.out, T15.out⟩, Lib.hid K15.out⟩, by simp [intOf]; omega⟩
            | true =>
              clear hw3
              go_upto_region 41 with fail
              go_upto_region 42 with (first
                | (refine wpList_plain rfl fun K' hK' => wp_bmsg _ rfl rfl (hK' _ _ ?_); simp only [Act.put, List.setIfInBounds_toArray, List.set_cons_zero, List.set_cons_succ])
                | (refine wpList_plain rfl fun K' hK' => wp_bdid2 (g := gs) _ _ rfl rfl rfl (hK' _ _ ?_); simp only [Act.put, List.setIfInBounds_toArray, List.set_cons_zero, List.set_cons_succ])
                | (refine wpList_plain rfl fun K' hK' => wp_bdid1 _ rfl rfl (hK' _ _ ?_); simp only [Act.put, List.setIfInBounds_toArray, List.set_cons_zero, List.set_cons_succ])
                | (refine wpList_plain rfl fun K' hK' => wp_store_did (cs' := dcl 3 (i + 1) none (some gs)) _ _ rfl rfl rfl (Lies.new _ _ zdl) rfl rfl (one_did _ _ _ _) (fun w11 z1 z2 => hK' _ _ ?_))
                | fail)
              have K11 := Lib.hid (grown_below (K9.out.alloc K9.out.size _) z2 K9.out.size)
              have k11 : Below w9.heap.size w9 w11 := (below1 w9 _).grown z2 (below1 w9 _).size (fun j hj => by cases hj; exact Nat.le_refl _)
              have L11 := Lib.hid z1
              have H11 := Lib.hid (H9.out.next k11)
              have T11 := Lib.hid (T9.out.next k11)
              have G11 := Lib.hid K9.out.size
              have G12 : Hid (h < w9.heap.size ∧ ¬ Ow.Fp b w9.heap.size) := Lib.hid ⟨H9.out.lt, fun q => by have := T9.out.in _ q; omega⟩
              clear z1 z2 k11 H9 T9 K9 d1
              generalize w9.heap.size = g11 at L11 G11 G12 ⊢
              go_upto_region 43 with fail
              go_upto_region 44 with fail
              go_upto_region 46 with (first
                | (refine wpList_plain rfl fun K' hK' => wp_bmsg _ rfl rfl (hK' _ _ ?_); simp only [Act.put, List.setIfInBounds_toArray, List.set_cons_zero, List.set_cons_succ])
                | (refine wpList_plain rfl fun K' hK' => wp_bdid2 (g := gs) _ _ rfl rfl rfl (hK' _ _ ?_); simp only [Act.put, List.setIfInBounds_toArray, List.set_cons_zero, List.set_cons_succ])
                | (refine wpList_plain rfl fun K' hK' => wp_bdid1 _ rfl rfl (hK' _ _ ?_); simp only [Act.put, List.setIfInBounds_toArray, List.set_cons_zero, List.set_cons_succ])
                | (refine wpList_plain rfl fun K' hK' => wp_store_did (cs' := dcl 4 (i + 1) none none) _ _ rfl rfl rfl L11.out rfl rfl (one_did _ _ _ _) (fun w12 z1 z2 => hK' _ _ ?_))
                | fail)
              have K12 := Lib.hid (grown_below K11.out z2 G11.out)
              have L12 := Lib.hid z1
              have H12 : Hid (Is w12 h b i tt 0 false none) := Lib.hid ((z2.block h H11.out.lt (fun e => by have := Option.some.inj e; have := G12.out.1; omega)).trans H11.out)
              have T12 : Hid (Ow.Is w12 b s _) := Lib.hid ⟨(z2.block _ T11.out.lies.lt (fun e => G12.out.2 (.inr (Option.some.inj e).symm))).trans T11.out.lies, (z2.block _ T11.out.rows.lt (fun e => G12.out.2 (.inl (Option.some.inj e).symm))).trans T11.out.rows⟩
              clear z1 z2 K11 L11 H11 T11 G11 G12
              obtain ⟨-, d1⟩ := D.out w12 K12.out
              go_wp2_with (first
                | (refine wpList_plain rfl fun K' hK' => wp_load_did _ rfl rfl L12.out rfl (hK' _ _ ?_); simp only [Act.put, List.setIfInBounds_toArray, List.set_cons_zero, List.set_cons_succ])
                | fail)
              refine (did_no H12 (.inl rfl)).mono ?_
              rintro r w13 ⟨rfl, k13⟩
              have H13 := Lib.hid (H12.out.next k13)
              have T13 := Lib.hid (T12.out.next k13)
              have K13 := Lib.hid (after K12.out k13)
              clear k13 H12 T12 K12 L12 d1
              go_wp2_with fail
              refine (Ow.of_yes (i := i) (o := ⟨tt, 1, false⟩) T13 (by rw [List.getElem?_set_self (by rw [Ow.ini_len]; exact hi)])).mono ?_
              rintro r w14 ⟨rfl, k14⟩
              go_upto_region 52 with fail
              have k15 := k14.alloc k14.size (Obj.cells #[.int .i64 tt, .int .i64 1, .bool false] 34)
              have L15 : Hid (Lies (w14.alloc (Obj.cells #[.int .i64 tt, .int .i64 1, .bool false] 34)) w14.heap.size 34 [.int .i64 tt, .int .i64 1, .bool false]) := Lib.hid (Lies.new _ _ [.int .i64 tt, .int .i64 1, .bool false])
              have H15 := Lib.hid (H13.out.next k15)
              have T15 := Lib.hid (T13.out.next k15)
              have K15 := Lib.hid (after K13.out k15)
              clear k14 k15 H13 T13 K13
              generalize w14.heap.size = g15 at L15 ⊢
              generalize w14.alloc (Obj.cells #[.int .i64 tt, .int .i64 1, .bool false] 34) = w15 at L15 H15 T15 K15 ⊢
              have o0 := L15.out.cell (i := 0) rfl
              have o1 := L15.out.cell (i := 1) rfl
              have o2 := L15.out.cell (i := 2) rfl
              have ts : ¬ (tt : Int) ≠ tt := fun e => e rfl
              go_wp2_with fail
              exact ⟨⟨4, j + 1, by omega, by omega, rfl, by go_num, Lib.hid ⟨H15.out, T15.out⟩, Lib.hid K15.out⟩, by simp [intOf]; omega⟩
    · obtain rfl : m = j := by omega
      go_wp2
      go_ret
      exact ⟨rfl, K.out⟩

/-- no table, or too many deeds -/
theorem walk_no (x y g tt : Int) (A : Option Addr) (m cp : Nat) (w : World) (h : x < 1 ∨ 16 < x ∨ y < 1 ∨ 8 < y) :
    Calls Try.prog 3 #[.int .i64 x, .int .i64 y, .int .i64 g, .int .i64 tt, .slice A m cp] w fun r w' => r = .returned (.bool true) ∧ Below w.heap.size w w' := by
  have HX := Lib.hid h
  clear h
  go_enter Try.func3, Try.ntmps3
  go_wp2_with fail
  refine (up_ok w).mono ?_
  rintro r w1 ⟨rfl, k1⟩
  have K1 := Lib.hid k1
  clear k1
  go_wp2_with fail
  refine (Ow.new_no x y w1 HX.out).mono ?_
  rintro r w2 ⟨rfl, k2⟩
  have K2 := Lib.hid (after K1.out k2)
  clear k2
  go_wp2
  go_ret
  exact ⟨rfl, K2.out⟩
theorem walk_far (n : Nat) (s g tt : Int) (A : Option Addr) (m cp : Nat) (w : World) (n1 : 1 ≤ n) (n2 : n ≤ 16) (s1 : 1 ≤ s) (s2 : s ≤ 8) (hm : 60 < m) :
    Calls Try.prog 3 #[.int .i64 n, .int .i64 s, .int .i64 g, .int .i64 tt, .slice A m cp] w fun r w' => r = .returned (.bool true) ∧ Below w.heap.size w w' := by
  have q60 : (60 : Int) < m := by omega
  go_enter Try.func3, Try.ntmps3
  go_wp2_with fail
  refine (up_ok w).mono ?_
  rintro r w1 ⟨rfl, k1⟩
  have K1 := Lib.hid k1
  clear k1
  go_wp2_with fail
  refine (Ow.new_ok n s w1 n1 n2 s1 s2).mono ?_
  rintro r w2 ⟨rfl, -, k2⟩
  have K2 := Lib.hid (after K1.out k2)
  clear k2
  go_wp2
  go_ret
  exact ⟨rfl, K2.out⟩
set_option maxHeartbeats 4000000 in
/-- a group that there isn't -/
theorem walk_none (n : Nat) (s g tt : Int) (A : Option Addr) (m cp : Nat) (w : World) (n1 : 1 ≤ n) (n2 : n ≤ 16) (s1 : 1 ≤ s) (s2 : s ≤ 8) (hm : m ≤ 60) (hg : g < 0 ∨ n ≤ g) :
    Calls Try.prog 3 #[.int .i64 n, .int .i64 s, .int .i64 g, .int .i64 tt, .slice A m cp] w fun r w' => r = .returned (.bool true) ∧ Below w.heap.size w w' := by
  have q60 : ¬ (60 : Int) < m := by omega
  have HX := Lib.hid hg
  clear hg
  go_enter Try.func3, Try.ntmps3
  go_wp2_with fail
  refine (up_ok w).mono ?_
  rintro r w1 ⟨rfl, k1⟩
  have K1 := Lib.hid k1
  clear k1
  go_wp2_with fail
  refine (Ow.new_ok n s w1 n1 n2 s1 s2).mono ?_
  rintro r w2 ⟨rfl, b2, k2⟩
  have B2 := Lib.hid b2
  have K2 := Lib.hid (after K1.out k2)
  clear b2 k2 K1
  go_wp2_with fail
  refine (new_none (x := g) (y := tt) B2 (by rw [Ow.ini_len]; exact HX.out)).mono ?_
  rintro r w3 ⟨rfl, k3⟩
  have B3 := Lib.hid (B2.out.next k3)
  have K3 := Lib.hid (after K2.out k3)
  have C3 := Errs.code_of 6 w3 (by decide) (by decide)
  clear k3 B2 K2
  by_cases u1 : tt < 0
  · by_cases u2 : g < 0
    · go_wp2_with fail
      refine C3.mono ?_
      rintro r w4 ⟨rfl, rfl⟩
      go_wp2_with fail
      refine (Ow.of_no (x := g) B3 (by rw [Ow.ini_len]; exact HX.out)).mono ?_
      rintro r w5 ⟨rfl, k5⟩
      have K5 := Lib.hid (after K3.out (k5.alloc k5.size (Obj.cells #[.int .i64 0, .int .i64 0, .bool false] 34)))
      go_wp2
      go_ret
      exact ⟨rfl, by have := K5.out; exact this⟩
    · have u3 : (n : Int) ≤ g := by have := HX.out; omega
      go_wp2_with fail
      refine C3.mono ?_
      rintro r w4 ⟨rfl, rfl⟩
      go_wp2_with fail
      refine (Ow.of_no (x := g) B3 (by rw [Ow.ini_len]; exact HX.out)).mono ?_
      rintro r w5 ⟨rfl, k5⟩
      have K5 := Lib.hid (after K3.out (k5.alloc k5.size (Obj.cells #[.int .i64 0, .int .i64 0, .bool false] 34)))
      go_wp2
      go_ret
      exact ⟨rfl, by have := K5.out; exact this⟩
  · by_cases u4 : s ≤ tt
    · by_cases u2 : g < 0
      · go_wp2_with fail
        refine C3.mono ?_
        rintro r w4 ⟨rfl, rfl⟩
        go_wp2_with fail
        refine (Ow.of_no (x := g) B3 (by rw [Ow.ini_len]; exact HX.out)).mono ?_
        rintro r w5 ⟨rfl, k5⟩
        have K5 := Lib.hid (after K3.out (k5.alloc k5.size (Obj.cells #[.int .i64 0, .int .i64 0, .bool false] 34)))
        go_wp2
        go_ret
        exact ⟨rfl, by have := K5.out; exact this⟩
      · have u3 : (n : Int) ≤ g := by have := HX.out; omega
        go_wp2_with fail
        refine C3.mono ?_
        rintro r w4 ⟨rfl, rfl⟩
        go_wp2_with fail
        refine (Ow.of_no (x := g) B3 (by rw [Ow.ini_len]; exact HX.out)).mono ?_
        rintro r w5 ⟨rfl, k5⟩
        have K5 := Lib.hid (after K3.out (k5.alloc k5.size (Obj.cells #[.int .i64 0, .int .i64 0, .bool false] 34)))
        go_wp2
        go_ret
        exact ⟨rfl, by have := K5.out; exact this⟩
    · by_cases u2 : g < 0
      · go_wp2_with fail
        refine C3.mono ?_
        rintro r w4 ⟨rfl, rfl⟩
        go_wp2_with fail
        refine (Ow.of_no (x := g) B3 (by rw [Ow.ini_len]; exact HX.out)).mono ?_
        rintro r w5 ⟨rfl, k5⟩
        have K5 := Lib.hid (after K3.out (k5.alloc k5.size (Obj.cells #[.int .i64 0, .int .i64 0, .bool false] 34)))
        go_wp2
        go_ret
        exact ⟨rfl, by have := K5.out; exact this⟩
      · have u3 : (n : Int) ≤ g := by have := HX.out; omega
        go_wp2_with fail
        refine C3.mono ?_
        rintro r w4 ⟨rfl, rfl⟩
        go_wp2_with fail
        refine (Ow.of_no (x := g) B3 (by rw [Ow.ini_len]; exact HX.out)).mono ?_
        rintro r w5 ⟨rfl, k5⟩
        have K5 := Lib.hid (after K3.out (k5.alloc k5.size (Obj.cells #[.int .i64 0, .int .i64 0, .bool false] 34)))
        go_wp2
        go_ret
        exact ⟨rfl, by have := K5.out; exact this⟩
set_option maxHeartbeats 4000000 in
/-- a shard that there isn't -/
theorem walk_arg (n : Nat) (s : Int) (i : Nat) (tt : Int) (A : Option Addr) (m cp : Nat) (w : World) (n1 : 1 ≤ n) (n2 : n ≤ 16) (s1 : 1 ≤ s) (s2 : s ≤ 8) (hm : m ≤ 60) (hi : i < n) (ht : tt < 0 ∨ s ≤ tt) :
    Calls Try.prog 3 #[.int .i64 n, .int .i64 s, .int .i64 i, .int .i64 tt, .slice A m cp] w fun r w' => r = .returned (.bool true) ∧ Below w.heap.size w w' := by
  have q60 : ¬ (60 : Int) < m := by omega
  have q3 : ¬ (i : Int) < 0 := by omega
  have q4 : ¬ (n : Int) ≤ i := by omega
  have HX := Lib.hid ht
  clear ht
  go_enter Try.func3, Try.ntmps3
  go_wp2_with fail
  refine (up_ok w).mono ?_
  rintro r w1 ⟨rfl, k1⟩
  have K1 := Lib.hid k1
  clear k1
  go_wp2_with fail
  refine (Ow.new_ok n s w1 n1 n2 s1 s2).mono ?_
  rintro r w2 ⟨rfl, b2, k2⟩
  have B2 := Lib.hid b2
  have K2 := Lib.hid (after K1.out k2)
  clear b2 k2 K1
  go_wp2_with fail
  refine (new_arg (y := tt) (o := ⟨(i : Int) % s, 0, false⟩) B2 (by rw [Ow.ini_at s n hi, if_pos hi]) rfl HX.out).mono ?_
  rintro r w3 ⟨rfl, k3⟩
  have B3 := Lib.hid (B2.out.next k3)
  have K3 := Lib.hid (after K2.out k3)
  have C3 := Errs.code_of 1 w3 (by decide) (by decide)
  clear k3 B2 K2
  by_cases u1 : tt < 0
  · go_wp2_with fail
    refine C3.mono ?_
    rintro r w4 ⟨rfl, rfl⟩
    go_wp2_with fail
    refine (Ow.of_yes (i := i) (o := ⟨(i : Int) % s, 0, false⟩) B3 (by rw [Ow.ini_at s n hi, if_pos hi])).mono ?_
    rintro r w5 ⟨rfl, k5⟩
    have K5 := Lib.hid (after K3.out (k5.alloc k5.size (Obj.cells #[.int .i64 ((i : Int) % s), .int .i64 0, .bool false] 34)))
    go_wp2
    go_ret
    exact ⟨rfl, by have := K5.out; exact this⟩
  · have u4 : s ≤ tt := by have := HX.out; omega
    go_wp2_with fail
    refine C3.mono ?_
    rintro r w4 ⟨rfl, rfl⟩
    go_wp2_with fail
    refine (Ow.of_yes (i := i) (o := ⟨(i : Int) % s, 0, false⟩) B3 (by rw [Ow.ini_at s n hi, if_pos hi])).mono ?_
    rintro r w5 ⟨rfl, k5⟩
    have K5 := Lib.hid (after K3.out (k5.alloc k5.size (Obj.cells #[.int .i64 ((i : Int) % s), .int .i64 0, .bool false] 34)))
    go_wp2
    go_ret
    exact ⟨rfl, by have := K5.out; exact this⟩
theorem walk (x y g tt : Int) (d : Option Addr × Nat × Nat × (Nat → Deed)) (w : World) (hd : Opens.IsRows dl 2 DFits w d) :
    Calls Try.prog 3 #[.int .i64 x, .int .i64 y, .int .i64 g, .int .i64 tt, .slice d.1 d.2.1 d.2.2.1] w fun r w' => r = .returned (.bool true) ∧ Below w.heap.size w w' := by
  obtain ⟨A, m, cp, f⟩ := d
  obtain ⟨hm, hf, hr⟩ := hd
  simp only at hm hf hr ⊢
  by_cases h1 : x < 1 ∨ 16 < x ∨ y < 1 ∨ 8 < y
  · exact walk_no x y g tt A m cp w h1
  · obtain ⟨n, rfl⟩ : ∃ n : Nat, x = n := ⟨x.toNat, by omega⟩
    by_cases h2 : 60 < m
    · exact walk_far n y g tt A m cp w (by omega) (by omega) (by omega) (by omega) h2
    · by_cases h3 : g < 0 ∨ n ≤ g
      · exact walk_none n y g tt A m cp w (by omega) (by omega) (by omega) (by omega) (by omega) h3
      · obtain ⟨i, rfl⟩ : ∃ i : Nat, g = i := ⟨g.toNat, by omega⟩
        by_cases h4 : tt < 0 ∨ y ≤ tt
        · exact walk_arg n y i tt A m cp w (by omega) (by omega) (by omega) (by omega) (by omega) (by omega) h4
        · exact walk_on n y i tt A m cp f w (by omega) (by omega) (by omega) (by omega) (by omega) (by omega) (by omega) (by omega) (Lib.hid hf) (Lib.hid hr)

theorem own : ownKnob Try.prog.godebug = none := by kernel_rfl

set_option maxRecDepth 100000 in
theorem lifted (os : Os) (started : os.Started) (H : Type) (enc : TypeId × Value → H) :
    ReturnsInHanded {} Try.checked os 3 .any (Rows.handPlaysSpec.pre6 enc Try.prog Try.f3 Rows.handPlaysRow.domain false) (Rows.handPlaysSpec.post enc Try.prog Try.f3 false true false false) := by
  refine returnsInHanded_of_change (C := Try.checked) own started (by kernel_rfl) Try.func3
    (ChangeSpec.witness6 (enc := enc) (C := Try.checked) false ⟨#[], #[.int .i64 0, .int .i64 0, .int .i64 0, .int .i64 0, .slice none 0 0], []⟩ 8 (by kernel_rfl) (by kernel_rfl) (by kernel_rfl) (by kernel_rfl)) ?_
  intro W base args ds gs before hval0 hW hcnd _
  have hval : ∀ (j : Nat) t v, Try.f3.params[j]? = some t → args[j]? = some v → Value.okWide Try.prog W .any base t v := hval0
  have hW' := hW
  obtain ⟨p, q, hA0, hV, rfl, hfz, hnd⟩ := hW
  have hA : DataW.TrodAll enc Try.prog W 0 (fun _ => true) true Try.f3.params.toList args.toList ds p := hA0
  rw [Try.params3] at hA hval
  obtain ⟨v0, vs0, d0, ds0, p0, q0, hargs, rfl, rfl, h0, r0⟩ := trodAll_cons hA
  obtain ⟨v1, vs1, d1, ds1, p1, q1, rfl, rfl, rfl, h1, r1⟩ := trodAll_cons r0
  obtain ⟨v2, vs2, d2, ds2, p2, q2, rfl, rfl, rfl, h2, r2⟩ := trodAll_cons r1
  obtain ⟨v3, vs3, d3, ds3, p3, q3, rfl, rfl, rfl, h3, r3⟩ := trodAll_cons r2
  obtain ⟨v4, vs4, d4, ds4, p4, q4, rfl, rfl, rfl, h4, r4⟩ := trodAll_cons r3
  obtain ⟨rfl, rfl, rfl⟩ := trodAll_nil r4
  obtain rfl : args = #[v0, v1, v2, v3, v4] := by cases args; simp_all
  obtain ⟨rfl, rfl⟩ := trodVars_none hV
  obtain ⟨a0, rfl, rfl, rfl, w0⟩ := open_int Try.underlying3 (hval 0 3 v0 rfl rfl) h0
  obtain ⟨a1, rfl, rfl, rfl, w1⟩ := open_int Try.underlying3 (hval 1 3 v1 rfl rfl) h1
  obtain ⟨a2, rfl, rfl, rfl, w2⟩ := open_int Try.underlying3 (hval 2 3 v2 rfl rfl) h2
  obtain ⟨a3, rfl, rfl, rfl, w3⟩ := open_int Try.underlying3 (hval 3 3 v3 rfl rfl) h3
  obtain ⟨a4, rfl, w4⟩ := Opens.open_deeds (hval 4 22 v4 rfl rfl) h4
  clear hA0 hval0
  refine (walk a0 a1 a2 a3 a4 W w4).mono fun e W' ⟨he, hg⟩ => ?_
  subst he
  exact ⟨_, rfl, Laid.post Laid.laidOut (by kernel_rfl) rfl (by kernel_rfl) Try.underlying4 hW' ⟨rfl, rfl, rfl⟩ hg⟩

theorem over : Rows.handPlaysRow.holds Try.pinned (OpenSpec.ofChange Rows.handPlaysSpec) :=
  OpenClaim.holds_of_wide 3 Try.f3 rfl rfl rfl rfl rfl rfl rfl ⟨rfl, rfl, rfl, rfl, rfl⟩ rfl rfl rfl rfl rfl (by kernel_rfl) Try.func3 (by kernel_rfl)
    (of_decide_eq_true (by kernel_rfl)) (by unfold Func.isWrapper; first | (rw [if_pos (by decide +kernel)]; kernel_rfl) | (rw [if_neg (by decide +kernel)]; exact ⟨rfl, rfl⟩))
    (fun os started H enc _ => lifted os started H enc)

/-- ████ THE STATEMENT ████ -/
theorem proved : Rows.HandPlaysSaid :=
  over
#print axioms proved
end Go.Proofs.Ytdnigpkdnkbfbaa.handPlays
