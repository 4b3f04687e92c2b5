/-
  outlog.compare of two panes: by keys' bytes, then by Ends, then by Starts; what it leaves: draws and new blocks alone.
-/
import Derived.Test.YtdmplcnnoabkaaaSrtStab
import Derived.Test.YtdmplcnnoabkaaaSpan
import Derived.Test.YtdmplcnnoabkaaaDrawn
import Derived.StillTailTactics
import Derived.Laws.Cover1
namespace Go.Proofs.Ytdmplcnnoabkaaa
open Go.ChangeShapes Go.WideShapes Go.ChangeAt Go.RowKit Go.Sort Go.Lib
namespace Out
open Small
set_option linter.unusedVariables false
set_option maxRecDepth 100000

def cmpS (a b : ByteArray) : Int := if Op.bytesLess a.toList b.toList = true then -1 else if a.toList == b.toList then 0 else 1
/-- how two panes stand to one another -/
def pc (a b : Pn) : Int := if cmpS a.key b.key = 0 then (if Spn.cmp3 a.e b.e = 0 then Spn.cmpW a.s a.e b.s b.e else Spn.cmp3 a.e b.e) else cmpS a.key b.key
/-- the one is ahead of the other -/
def ah (a b : Pn) : Bool := ltOf pc a b

theorem cmpS_neg (a b : ByteArray) : cmpS a b < 0 ↔ Op.bytesLess a.toList b.toList = true := by
  unfold cmpS
  repeat' split
  all_goals simp_all
theorem cmpS_zero (a b : ByteArray) : cmpS a b = 0 ↔ a = b := by
  unfold cmpS
  constructor
  · intro h
    split at h
    · simp at h
    · split at h
      · next h2 => exact Pn.bytes_ext.1 (by simpa using h2)
      · simp at h
  · rintro rfl
    rw [Tmr.bl_irrefl]
    simp
/-- in other words -/
theorem ah_iff (a b : Pn) : ah a b = true ↔ Op.bytesLess a.key.toList b.key.toList = true ∨ (a.key = b.key ∧ (a.e < b.e ∨ (a.e = b.e ∧ a.s < b.s))) := by
  show decide (pc a b < 0) = true ↔ _
  rw [decide_eq_true_iff, ← cmpS_neg, ← cmpS_zero]
  unfold pc Spn.cmp3 Spn.cmpW Spn.cmp3
  by_cases h : cmpS a.key b.key = 0
  · simp only [h, if_true, Int.lt_irrefl, true_and, false_or]
    repeat' split
    all_goals omega
  · simp only [h, if_false, false_and, or_false]
theorem ah_no (a b : Pn) : ah a b = false ↔ ¬ (Op.bytesLess a.key.toList b.key.toList = true ∨ (a.key = b.key ∧ (a.e < b.e ∨ (a.e = b.e ∧ a.s < b.s)))) := by
  rw [← ah_iff]
  simp
theorem swo : SWO (ltOf pc) where
  irrefl := fun x => (ah_no x x).2 (by
    rintro (h | ⟨_, h | ⟨_, h⟩⟩)
    · rw [Tmr.bl_irrefl] at h; cases h
    · omega
    · omega)
  trans := fun x y z h k => by
    have h' := (ah_iff x y).1 h
    have k' := (ah_iff y z).1 k
    refine (ah_iff x z).2 ?_
    rcases h' with h' | ⟨h1, h2⟩
    · rcases k' with k' | ⟨k1, k2⟩
      · exact .inl (Tmr.bl_trans _ _ _ h' k')
      · exact .inl (k1 ▸ h')
    · rcases k' with k' | ⟨k1, k2⟩
      · exact .inl (h1 ▸ k')
      · exact .inr ⟨h1.trans k1, by omega⟩
  ntrans := fun x y z h k => by
    have h' := (ah_no x y).1 h
    have k' := (ah_no y z).1 k
    refine (ah_no x z).2 ?_
    rintro (q | ⟨q, r⟩)
    · -- x's key is less than z's: so it is less than y's, or y's is less than z's
      cases e : Op.bytesLess x.key.toList y.key.toList with
      | true => exact h' (.inl e)
      | false =>
        cases f : Op.bytesLess y.key.toList z.key.toList with
        | true => exact k' (.inl f)
        | false =>
          cases g : Op.bytesLess y.key.toList x.key.toList with
          | true => have := Tmr.bl_trans _ _ _ g q; rw [f] at this; cases this
          | false => have := Tmr.bl_total _ _ e g; rw [this, f] at q; cases q
    · cases e : Op.bytesLess x.key.toList y.key.toList with
      | true => exact h' (.inl e)
      | false =>
        cases f : Op.bytesLess y.key.toList z.key.toList with
        | true => exact k' (.inl f)
        | false =>
          have xy : x.key = y.key := Pn.bytes_ext.1 (Tmr.bl_total _ _ e (by rw [q]; exact f))
          have yz : y.key = z.key := xy ▸ q
          have h2 : ¬ (x.e < y.e ∨ (x.e = y.e ∧ x.s < y.s)) := fun t => h' (.inr ⟨xy, t⟩)
          have k2 : ¬ (y.e < z.e ∨ (y.e = z.e ∧ y.s < z.s)) := fun t => k' (.inr ⟨yz, t⟩)
          omega

/-! ### what goes on by draws and new blocks alone -/
def Gr (w w' : World) : Prop := ∃ q os, w' = grow (w.drewN q) os
theorem Gr.refl (w : World) : Gr w w := ⟨0, #[], by simp [grow]; rfl⟩
theorem Gr.trans {a b c : World} (h : Gr a b) (k : Gr b c) : Gr a c := by
  obtain ⟨q, os, rfl⟩ := h
  obtain ⟨r, os', rfl⟩ := k
  exact ⟨q + r, os ++ os', by show grow (grow ((a.drewN q).drewN r) os) os' = _; rw [grow_grow, World.drewN_drewN]⟩
theorem Gr.alloc {a b : World} (h : Gr a b) (o : Obj) : Gr a (b.alloc o) := h.trans ⟨0, #[o], by rw [alloc_eq_grow]; rfl⟩
theorem Gr.drew {a b : World} (h : Gr a b) : Gr a b.drew := h.trans ⟨1, #[], by rw [grow_empty]; rfl⟩
theorem Gr.same {f : FuncId} {vs : Array Value} {v : Value} {w : World} (h : Calls Try.prog f vs w fun e w' => e = .returned v ∧ w = w') : Calls Try.prog f vs w fun e w' => e = .returned v ∧ ∃ q os, w' = grow (w.drewN q) os :=
  h.mono fun _ _ ⟨h1, h2⟩ => ⟨h1, h2 ▸ Gr.refl w⟩
theorem Gr.below {a b : World} (h : Gr a b) : Below a.heap.size a b := by
  obtain ⟨q, os, rfl⟩ := h
  exact ⟨rfl, rfl, rfl, by simp [grow, World.drewN], fun i hi => heap_grow_old (a.drewN q) os hi⟩

set_option maxHeartbeats 400000 in
theorem nanS_ok (a : ByteArray) (w : World) : Calls Try.prog 28 #[.string a] w fun r w' => r = .returned (.bool false) ∧ w = w' := by
  go_enter Try.func28, Try.ntmps28
  go_wp2
  go_ret
  exact ⟨ret_bool (by simp), rfl⟩

set_option maxHeartbeats 400000 in
theorem compareS_ok (a b : ByteArray) (w : World) : Calls Try.prog 23 #[.string a, .string b] w fun r w' => r = .returned (.int .i64 (cmpS a b)) ∧ w = w' := by
  have h3 : (a.toList == b.toList) = (!Op.bytesLess a.toList b.toList && !Op.bytesLess b.toList a.toList) := by
    cases e : Op.bytesLess a.toList b.toList with
    | true =>
      have : a.toList ≠ b.toList := fun h => by rw [h, Tmr.bl_irrefl] at e; cases e
      simpa using this
    | false =>
      cases f : Op.bytesLess b.toList a.toList with
      | true =>
        have : a.toList ≠ b.toList := fun h => by rw [h, Tmr.bl_irrefl] at f; cases f
        simpa using this
      | false => simp [Tmr.bl_total _ _ e f]
  cases hx : Op.bytesLess a.toList b.toList <;> cases hz : Op.bytesLess b.toList a.toList
  all_goals
    obtain ⟨y, hy⟩ : ∃ y, (a.toList == b.toList) = y := ⟨_, rfl⟩
    have hy2 := hy
    rw [h3, hx, hz] at hy2
    simp only [Bool.not_true, Bool.not_false, Bool.and_true, Bool.and_false, Bool.and_self] at hy2
    subst hy2
    clear h3
    have H : Hid (cmpS a b = if Op.bytesLess a.toList b.toList = true then -1 else if a.toList == b.toList then 0 else 1) := Lib.hid rfl
    go_enter Try.func23, Try.ntmps23
    go_wp2_with fail
    refine (nanS_ok _ _).mono ?_
    rintro e w1 ⟨rfl, rfl⟩
    go_wp2_with fail
    refine (nanS_ok _ _).mono ?_
    rintro e w1 ⟨rfl, rfl⟩
    go_wp2
    go_ret
    exact ⟨ret_int (by rw [H.out, hx, hy]; rfl), rfl⟩

set_option maxHeartbeats 400000 in
theorem or3_ok (a b c d : Int) (p : Nat) (w : World) (h0 : w.cell? ⟨p, 0, none⟩ = some (.int .i64 a)) (h1 : w.cell? ⟨p, 1, none⟩ = some (.int .i64 b)) (h2 : w.cell? ⟨p, 2, none⟩ = some (.int .i64 c))
    (hd : Hid (d = if a = 0 then (if b = 0 then c else b) else a)) :
    Calls Try.prog 22 #[.slice (some ⟨p, 0, none⟩) 3 3] w fun r w' => r = .returned (.int .i64 d) ∧ w = w' := by
  go_enter Try.func22, Try.ntmps22
  go_wp2
  go_loop [8] (fun i => i = .int .i64 0 ∨ (i = .int .i64 1 ∧ a = 0) ∨ (i = .int .i64 2 ∧ a = 0 ∧ b = 0) ∨ (i = .int .i64 3 ∧ a = 0 ∧ b = 0 ∧ c = 0)) (fun i => 3 - (intOf i).toNat)
  case atStart => exact .inl rfl
  case round =>
    rcases hrel with rfl | ⟨rfl, rfl⟩ | ⟨rfl, rfl, rfl⟩ | ⟨rfl, rfl, rfl, rfl⟩
    · by_cases ha : a = 0
      · subst ha
        go_wp2
        go_round
        case rel => exact .inr (.inl (by simp))
        case measure => simp [intOf]
      · have hne : (a != 0) = true := by simp [ha]
        go_wp2
        go_ret
        exact ⟨ret_int (by rw [hd.out]; simp [ha]), rfl⟩
    · by_cases hb : b = 0
      · subst hb
        go_wp2
        go_round
        case rel => exact .inr (.inr (.inl (by simp)))
        case measure => simp [intOf]
      · have hne : (b != 0) = true := by simp [hb]
        go_wp2
        go_ret
        exact ⟨ret_int (by rw [hd.out]; simp [hb]), rfl⟩
    · by_cases hc : c = 0
      · subst hc
        go_wp2
        go_round
        case rel => exact .inr (.inr (.inr (by simp)))
        case measure => simp [intOf]
      · have hne : (c != 0) = true := by simp [hc]
        go_wp2
        go_ret
        exact ⟨ret_int (by rw [hd.out]; simp), rfl⟩
    · go_wp2
      go_ret
      exact ⟨ret_int (by rw [hd.out]; simp), rfl⟩

set_option maxHeartbeats 400000 in
theorem spanC_ok (a b c d : Int) (w : World) :
    Calls Try.prog 25 #[Spn.win a b, Spn.win c d] w fun r w' => r = .returned (.int .i64 (Spn.cmpW a b c d)) ∧ Gr w w' := by
  go_enter Try.func25, Try.ntmps25
  go_wp2_with fail
  refine wp_region_still_tail 10 (by kernel_rfl) (by kernel_rfl) ?_
  obtain ⟨wq, hwq⟩ : ∃ wq, wq = (((w.alloc (Obj.cells #[.int .i64 a, .int .i64 b] 28)).alloc (Obj.cells #[.int .i64 c, .int .i64 d] 28)).drew) := ⟨_, rfl⟩
  change wpStill _ _ (World.drew _) _ _ _
  rw [← hwq]
  have c0 : wq.cell? ⟨w.heap.size, 0, none⟩ = some (.int .i64 a) := by rw [hwq]; go_simp
  have c1 : wq.cell? ⟨w.heap.size, 1, none⟩ = some (.int .i64 b) := by rw [hwq]; go_simp
  have c2 : wq.cell? ⟨w.heap.size + 1, 0, none⟩ = some (.int .i64 c) := by rw [hwq]; go_simp
  have c3 : wq.cell? ⟨w.heap.size + 1, 1, none⟩ = some (.int .i64 d) := by rw [hwq]; go_simp
  clear hwq
  simp only [List.take_succ_cons, List.take_zero, List.drop_succ_cons, List.drop_zero]
  still_step
  still_step
  still_step
  still_step
  still_call (Spn.turned (Spn.compare_ok a c wq))
  still_step
  still_step
  still_step
  still_step
  still_call (Spn.turned (Spn.compare_ok b d wq))
  refine wpStill_nil ?_
  change wpList _ _ _ _ _ (World.drew _)
  obtain ⟨wp, hwp⟩ : ∃ wp, wp = (((w.alloc (Obj.cells #[.int .i64 a, .int .i64 b] 28)).alloc (Obj.cells #[.int .i64 c, .int .i64 d] 28)).drew) := ⟨_, rfl⟩
  rw [← hwp]
  have kp : Gr w wp := by rw [hwp]; exact (((Gr.refl _).alloc _).alloc _).drew
  clear hwp c0 c1 c2 c3
  go_wp2_with fail
  refine (Spn.or_ok (Spn.cmp3 a c) (Spn.cmp3 b d) (Spn.cmpW a b c d) _ _ (by go_simp) (by go_simp) (Lib.hid (by unfold Spn.cmpW Spn.cmp3; repeat' split; all_goals omega))).mono ?_
  rintro e w1 ⟨rfl, rfl⟩
  go_wp2
  go_ret
  exact ⟨rfl, kp.alloc _⟩

set_option maxHeartbeats 2000000 in
theorem comp_ok (x y : Pn) (w : World) :
    Calls Try.prog 20 #[x.v, y.v] w fun r w' => r = .returned (.int .i64 (pc x y)) ∧ Gr w w' := by
  have H : Hid (pc x y = if cmpS x.key y.key = 0 then (if Spn.cmp3 x.e y.e = 0 then Spn.cmpW x.s x.e y.s y.e else Spn.cmp3 x.e y.e) else cmpS x.key y.key) := Lib.hid rfl
  have mx : Try.prog.follows .mixedOrders = true := by kernel_rfl
  go_enter Try.func20, Try.ntmps20
  go_wp2_with fail
  obtain ⟨wq, hwq⟩ : ∃ wq, wq = ((w.alloc (Obj.cells x.cl.toArray 32)).alloc (Obj.cells y.cl.toArray 32)) := ⟨_, rfl⟩
  change Code.wp _ _ _ _ ((w.alloc (Obj.cells x.cl.toArray 32)).alloc (Obj.cells y.cl.toArray 32))
  rw [← hwq]
  have K0 : Hid (Gr w wq) := Lib.hid (by rw [hwq]; exact ((Gr.refl _).alloc _).alloc _)
  have c0 : ∀ n os, (grow (wq.drewN n) os).cell? ⟨w.heap.size, 0, none⟩ = some (.string x.key) := cell_grown (by rw [hwq]; simp <;> omega) (by rw [hwq]; go_simp)
  have c1 : ∀ n os, (grow (wq.drewN n) os).cell? ⟨w.heap.size, 1, none⟩ = some (.int .i64 x.s) := cell_grown (by rw [hwq]; simp <;> omega) (by rw [hwq]; go_simp)
  have c2 : ∀ n os, (grow (wq.drewN n) os).cell? ⟨w.heap.size, 2, none⟩ = some (.int .i64 x.e) := cell_grown (by rw [hwq]; simp <;> omega) (by rw [hwq]; go_simp)
  have d0 : ∀ n os, (grow (wq.drewN n) os).cell? ⟨w.heap.size + 1, 0, none⟩ = some (.string y.key) := cell_grown (by rw [hwq]; simp <;> omega) (by rw [hwq]; go_simp)
  have d1 : ∀ n os, (grow (wq.drewN n) os).cell? ⟨w.heap.size + 1, 1, none⟩ = some (.int .i64 y.s) := cell_grown (by rw [hwq]; simp <;> omega) (by rw [hwq]; go_simp)
  have d2 : ∀ n os, (grow (wq.drewN n) os).cell? ⟨w.heap.size + 1, 2, none⟩ = some (.int .i64 y.e) := cell_grown (by rw [hwq]; simp <;> omega) (by rw [hwq]; go_simp)
  clear hwq
  refine Tail.region (C := fun w' => ∃ p : GrownBy, w' = grow (wq.drewN p.n) p.os) 17 mx (by kernel_rfl) ⟨⟨1, #[]⟩, by rw [grow_empty]; rfl⟩ ?_
  simp only [List.take_succ_cons, List.take_zero, List.drop_succ_cons, List.drop_zero]
  repeat (quiet_step (first | (go_at_call 23; refine Calls.grown_of (Gr.same (compareS_ok _ _ _))) | (go_at_call 24; refine Calls.grown_of (Gr.same (Spn.compare_ok _ _ _))) | (go_at_call 25; refine Calls.grown_of (spanC_ok _ _ _ _ _))))
  refine wpQuiet_nil ?_
  intro w' hw'
  obtain ⟨⟨nq, osq⟩, rfl⟩ := hw'
  have K1 : Hid (Gr w (grow (wq.drewN nq) osq)) := Lib.hid (K0.out.trans ⟨nq, osq, rfl⟩)
  clear c0 c1 c2 d0 d1 d2 K0
  generalize grow (wq.drewN nq) osq = wp at K1 ⊢
  go_wp2_with fail
  refine (or3_ok (cmpS x.key y.key) (Spn.cmp3 x.e y.e) (Spn.cmpW x.s x.e y.s y.e) (pc x y) _ _ (by go_simp) (by go_simp) (by go_simp) H).mono ?_
  rintro e w1 ⟨rfl, rfl⟩
  go_wp2
  go_ret
  exact ⟨rfl, K1.out.alloc _⟩
end Out
end Go.Proofs.Ytdmplcnnoabkaaa
