/-
  The document's put (easelref06): a value is put into a window, or merged in.
-/
import Derived.Test.YtbdocnkpjlpfmaaGreatRgSettle
import Derived.Test.YtbdocnkpjlpfmaaGreatPaneMerge
import Derived.Deep.DeepCutAuto
namespace Go.Proofs.YtbdocnkpjlpfmaaGreat
open Go.ChangeShapes Go.WideShapes Go.ChangeAt Go.RowKit
namespace Rg
open Small Foot Pane Grp
set_option linter.unusedVariables false

/-- is a pane one that the value goes into -/
def same (k s e : Int) (p : Pn) : Bool := if k = 2 then meets s e p else decide (Eq2 p s e)
def hit (k : Int) (key : ByteArray) (s e : Int) (p : Pn) : Bool := decide (p.key = key) && same k s e p
abbrev rest (k : Int) (key : ByteArray) (s e : Int) (R : List Pn) : List Pn := R.filter fun p => !hit k key s e p
abbrev made (k : Int) (key : ByteArray) (s e v : Int) (R : List Pn) : Pn := (R.filter (hit k key s e)).foldl join2 (one key s e v)
theorem take_no {k s e : Int} {key : ByteArray} {R : List Pn} {i : Nat} {p : Pn} (h : R[i]? = some p) (hm : hit k key s e p = false) : rest k key s e (R.take (i + 1)) = rest k key s e (R.take i) ++ [p] ∧ (R.take (i + 1)).filter (hit k key s e) = (R.take i).filter (hit k key s e) := by
  rw [List.take_add_one, h]
  simp only [rest, List.filter_append, Option.toList_some, List.filter_cons, List.filter_nil, hm]
  simp
theorem take_yes {k s e : Int} {key : ByteArray} {R : List Pn} {i : Nat} {p : Pn} (h : R[i]? = some p) (hm : hit k key s e p = true) : rest k key s e (R.take (i + 1)) = rest k key s e (R.take i) ∧ (R.take (i + 1)).filter (hit k key s e) = (R.take i).filter (hit k key s e) ++ [p] := by
  rw [List.take_add_one, h]
  simp only [rest, List.filter_append, Option.toList_some, List.filter_cons, List.filter_nil, hm]
  simp
theorem win_eql (a b c d : Int) (w : World) : (binOp .eql 49 (.agg #[.int .i64 a, .int .i64 b]) (.agg #[.int .i64 c, .int .i64 d])).run Tryz.prog w = .ok (.bool (decide (a = c ∧ b = d))) w := by
  have h : decide (a = c ∧ b = d) = (a == c && b == d) := by
    rw [Bool.eq_iff_iff]
    simp
  rw [h]
  cases h0 : (a == c)
  · simp [go_sem, h0]
  cases h1 : (b == d)
  · simp [go_sem, h0, h1]
  simp [go_sem, h0, h1]
abbrev zp : Pn := ⟨⟨#[]⟩, 0, 0, 0, 0, 0, 0⟩
/-- what lies in memory in the midst of it: the window's box, the pane that is made, the rest -/
structure PS (B : World) (g6 g8 : Nat) (s e : Int) (x : Pn) (vr : Value) (R : List Pn) (w : World) : Prop where
  below : Below B.heap.size B w
  lo6 : B.heap.size ≤ g6
  lo8 : B.heap.size ≤ g8
  ne : g6 ≠ g8
  win : Lies w g6 49 [.int .i64 s, .int .i64 e]
  one : Lies w g8 53 x.cl
  rest : Sl.Own Pn.k B.heap.size w vr R
  nr : ∀ a, vr.ownBlock = some a → a ≠ g6 ∧ a ≠ g8
section
variable {B w w' : World} {g6 g8 : Nat} {s e : Int} {x x' : Pn} {vr v' : Value} {R R' : List Pn}
theorem PS.next (h : PS B g6 g8 s e x vr R w) (k : Below w.heap.size w w') : PS B g6 g8 s e x vr R w' :=
  ⟨after h.below k, h.lo6, h.lo8, h.ne, h.win.next k, h.one.next k, h.rest.next k, h.nr⟩
theorem PS.rested (h : PS B g6 g8 s e x vr R w) (o : Sl.Own Pn.k B.heap.size w' v' R') (k : w.grownBy w' vr.ownBlock) (q : v'.ownBlock = vr.ownBlock ∨ v'.ownBlock = some w.heap.size) : PS B g6 g8 s e x v' R' w' := by
  have n6 : some g6 ≠ vr.ownBlock := fun e => (h.nr g6 e.symm).1 rfl
  have n8 : some g8 ≠ vr.ownBlock := fun e => (h.nr g8 e.symm).2 rfl
  refine ⟨h.below.grown k h.below.size (fun a ha => (h.rest.lt a ha).1), h.lo6, h.lo8, h.ne, lies_grown h.win k n6, lies_grown h.one k n8, o, fun a ha => ?_⟩
  rcases q with r | r
  · exact h.nr a (r ▸ ha)
  · rw [r] at ha
    have := Option.some.inj ha
    have := h.win.lt
    have := h.one.lt
    omega
theorem PS.oned (h : PS B g6 g8 s e x vr R w) (o : Lies w' g8 53 x'.cl) (k : w.grownBy w' (some g8)) : PS B g6 g8 s e x' vr R w' := by
  refine ⟨h.below.grown k h.below.size (fun a ha => by have := Option.some.inj ha; have := h.lo8; omega), h.lo6, h.lo8, h.ne, lies_grown h.win k (fun e => h.ne (Option.some.inj e)), o, h.rest.move fun a ha => k.block a (h.rest.lt a ha).2 (fun e => (h.nr a ha).2 (Option.some.inj e)), h.nr⟩
end
/-- what the parts of 'p := api.Pane{..}' yield -/
def Mq (B g6 : Nat) (key : ByteArray) (s e v : Int) (i : Nat) (u : Value) (w : World) : Prop := match i with
  | 0 => u = .string key
  | 1 => u = win s e
  | 2 => u = .int .i64 v
  | 3 => u = Agg.agv 1 v v v
  | 4 => u = (one key s e v).v
  | 5 => ∃ g, u = .pointer (some ⟨g, 0, none⟩) ∧ Lies w g 53 zp.cl ∧ B ≤ g
  | _ => True
theorem Mq.mono (B g6 : Nat) (key : ByteArray) (s e v : Int) : ∀ i u w w', Mq B g6 key s e v i u w → Below w.heap.size w w' → Mq B g6 key s e v i u w'
  | 0, u, w, w', h, k => h
  | 1, u, w, w', h, k => h
  | 2, u, w, w', h, k => h
  | 3, u, w, w', h, k => h
  | 4, u, w, w', h, k => h
  | 5, u, w, w', ⟨g, h1, h2, h3⟩, k => ⟨g, h1, h2.next k, h3⟩
  | i + 6, u, w, w', h, k => trivial

def RPutTo (w : World) (gr : Nat) (cf : C8) (R : List Pn) (key : ByteArray) (s e v : Int) (r : Ending) (w' : World) : Prop :=
  r = .returned (.tuple #[]) ∧ ∃ u b, w.heap.size ≤ b ∧ Rg w' gr cf u (rest cf.k key s e R ++ [made cf.k key s e v R]) b ∧ w.grownBy w' (some gr)
set_option maxRecDepth 100000 in
set_option maxHeartbeats 8000000 in
theorem put_ok (gr : Nat) (cf : C8) (lv : Value) (R : List Pn) (b : Nat) (key : ByteArray) (s e v : Int) (w : World) (H : Hid (Rg w gr cf lv R b)) (hn : R.length ≤ 10000) :
    Calls Tryz.prog 29 #[gp gr, .string key, win s e, .int .i64 v] w (RPutTo w gr cf R key s e v) := by
  have hgr : gr < w.heap.size := H.out.lies.lt
  obtain ⟨AV, cv, hv⟩ := H.out.list.len
  subst hv
  have X1 := Lib.hid (Lies.new w 49 [.int .i64 s, .int .i64 e])
  have KA := Lib.hid (below1 w (Obj.cells #[.int .i64 s, .int .i64 e] 49))
  have X1 : Hid (Lies (w.alloc (Obj.cells #[.int .i64 s, .int .i64 e] 49)) w.heap.size 49 [.int .i64 s, .int .i64 e]) := X1
  go_enter Tryz.func29, Tryz.ntmps29
  go_upto_region 1 with fail
  obtain ⟨g6, hg6⟩ : ∃ g, g = w.heap.size := ⟨_, rfl⟩
  rw [← hg6] at X1 ⊢
  have HG := Lib.hid hg6
  clear hg6
  generalize w.alloc (Obj.cells #[.int .i64 s, .int .i64 e] 49) = w2 at *
  refine wp_region_goes Goes.below 6 78 (Mq w2.heap.size g6 key s e v) (by show _ = _; kernel_rfl) (by show _ = _; kernel_rfl) (by show _ = _; kernel_rfl) (Mq.mono w2.heap.size g6 key s e v) ?_ ?_
  · intro i hi o ho a' w' Kc hd hout hdep hB hK
    match i, hi, ho with
    | 0, _, ho => exact Sl.wp_move _ (Reg.Has.op (p := Op.move (.tmp 1)) (t := 13) (by show _ = _; kernel_rfl) ho).1 (hK _ _ (hout 1 (Reg.Free.out (by show _ = _; kernel_rfl))) (Below.refl _ _))
    | 1, _, ho =>
      refine wp_val (V := win s e) (w' := w') ?_ (hK _ _ rfl (Below.refl _ _))
      have hop := (Reg.Has.op (p := Op.load 49 (.tmp 6)) (t := 14) (by show _ = _; kernel_rfl) ho).1
      have h6 : a'.eval (.tmp 6) = .pointer (some ⟨g6, 0, none⟩) := (hout 6 (Reg.Free.out (by show _ = _; kernel_rfl)))
      have c1 := (X1.out.next hB).cell (i := 0) rfl
      have c2 := (X1.out.next hB).cell (i := 1) rfl
      generalize a'.eval = ev at h6
      simp [execOp, hop, h6, go_sem, c1, c2]
    | 2, _, ho => exact Sl.wp_move _ (Reg.Has.op (p := Op.move (.tmp 3)) (t := 15) (by show _ = _; kernel_rfl) ho).1 (hK _ _ (hout 3 (Reg.Free.out (by show _ = _; kernel_rfl))) (Below.refl _ _))
    | 3, _, ho =>
      refine wp_call (S := fun u w2 => u = Agg.agv 1 v v v ∧ Below w'.heap.size w' w2) (Reg.Has.op (p := Op.call { callee := Callee.value (.func 53), args := #[.tmp 15], argTypes := #[2] }) (t := 16) (by show _ = _; kernel_rfl) ho).1 #[.int .i64 v] (by simp [show a'.eval (.tmp 15) = _ from (hdep 2 (mem_of (by show _ = _; kernel_rfl)) 15 (by show _ = _; kernel_rfl))]) (fun _ _ => enters Tryz.func53 (by kernel_rfl) rfl _ _) ((Agg.one_ok v w').mono (fun e w2 ⟨h1, h2⟩ => ⟨_, h1, rfl, h2⟩)) ?_
      rintro u w2 ⟨rfl, h2⟩
      exact hK _ _ rfl h2
    | 4, _, ho =>
      refine wp_val (V := (one key s e v).v) (w' := w') ?_ (hK _ _ rfl (Below.refl _ _))
      have hop := (Reg.Has.op (p := Op.build 53 #[(0, .tmp 13), (1, .tmp 14), (2, .tmp 16)]) (t := 17) (by show _ = _; kernel_rfl) ho).1
      have h2 : a'.eval (.tmp 13) = .string key := (hdep 0 (mem_of (by show _ = _; kernel_rfl)) 13 (by show _ = _; kernel_rfl))
      have h3 : a'.eval (.tmp 14) = win s e := (hdep 1 (mem_of (by show _ = _; kernel_rfl)) 14 (by show _ = _; kernel_rfl))
      have h5 : a'.eval (.tmp 16) = Agg.agv 1 v v v := (hdep 3 (mem_of (by show _ = _; kernel_rfl)) 16 (by show _ = _; kernel_rfl))
      generalize a'.eval = ev at h2 h3 h5
      simp [execOp, hop, h2, h3, h5, go_sem]
    | 5, _, ho =>
      refine wp_val (V := .pointer (some ⟨w'.heap.size, 0, none⟩)) (w' := w'.alloc (.cells zp.cl.toArray 53)) ?_ (hK _ _ ⟨_, rfl, Lies.new _ _ _, hB.size⟩ (below1 _ _))
      have hop := (Reg.Has.op (p := Op.alloc 53) (t := 8) (by show _ = _; kernel_rfl) ho).1
      simp [execOp, hop, go_sem]
  · intro f w' hv hB hev
    obtain ⟨g8, e5, z7, hg⟩ := hv 5 (by omega)
    have e4 : f 4 = (one key s e v).v := hv 4 (by omega)
    change wpList _ _ _ [_] (Act.put (Act.put (Act.put (Act.put (Act.put (Act.put _ (some 13) (f 0)) (some 14) (f 1)) (some 15) (f 2)) (some 16) (f 3)) (some 17) (f 4)) (some 8) (f 5)) _
    rw [Rel.puts_zero]
    clear hv hev
    rw [e4, e5]
    have X2 := Lib.hid (X1.out.next hB)
    have hgl : Hid (g6 < w2.heap.size) := Lib.hid X1.out.lt
    have D0 : PS w g6 g8 s e zp (.slice none 0 0) [] w' :=
      ⟨after KA.out hB, by rw [HG.out]; exact Nat.le_refl _, by have := KA.out.size; omega, by have := hgl.out; omega, X2.out, z7, Sl.Own.nil _ _ _, fun a ha => (by cases ha)⟩
    obtain ⟨⟨z0, z1, z2, z3, z4, z5', z6⟩, y0, y1, y2, y3, y4, y5, y6⟩ := seven z7
    have O1 := put7_lies z7 (.string key) (.int .i64 s) (.int .i64 e) (.int .i64 1) (.int .i64 v) (.int .i64 v) (.int .i64 v)
    have D1 : Hid (PS w g6 g8 s e (one key s e v) (.slice none 0 0) [] _) := Lib.hid (D0.oned (x' := one key s e v) O1 (grown_cells _ (grown_cells _ (grown_cells _ (grown_cells _ (grown_cells _ (grown_cells _ (grown_cells _ (grown_refl _ _)))))))))
    go_wp2_with fail
    clear O1 D0 z0 z1 z2 z3 z4 z5' z6 y0 y1 y2 y3 y4 y5 y6 z7 e4 e5 hB X1 X2
    go_loopw [9, 10] (fun so si wr => ∃ (i : Nat), i ≤ R.length ∧ si = .int .i64 i ∧ Hid (PS w g6 g8 s e (((R.take i).filter (hit cf.k key s e)).foldl join2 (one key s e v)) so (rest cf.k key s e (R.take i)) wr)) (fun _ si _ => R.length - (intOf si).toNat)
    case atStart => exact ⟨0, Nat.zero_le _, rfl, D1⟩
    case round =>
      obtain ⟨i, hi, rfl, DI⟩ := hrel
      have G1 := Lib.hid (H.out.next DI.out.below)
      have c8 := G1.out.lies.cell (i := 8) rfl
      by_cases hlt : i < R.length
      · obtain ⟨off, cap', he, h2, h3, h4, hcell⟩ := G1.out.list.some_ Pn.ok (by omega)
        obtain ⟨rfl, rfl⟩ : AV = some ⟨b, off, none⟩ ∧ cv = cap' := by simpa using he
        obtain ⟨p, hp⟩ := at_some hlt
        have HP := Lib.hid hp
        obtain ⟨x0, x1, x2, x3, x4, x5, x6⟩ := Tmr.pane_cells hp hcell
        have i0 : (i : Int) < R.length := by omega
        have XB := Lib.hid (Lies.new wr 53 p.cl)
        have XB : Hid (Lies (wr.alloc (Obj.cells #[.string p.key, .int .i64 p.s, .int .i64 p.e, .int .i64 p.c, .int .i64 p.m, .int .i64 p.l, .int .i64 p.u] 53)) wr.heap.size 53 p.cl) := XB
        have D2 := Lib.hid (DI.out.next (below1 wr (Obj.cells #[.string p.key, .int .i64 p.s, .int .i64 p.e, .int .i64 p.c, .int .i64 p.m, .int .i64 p.l, .int .i64 p.u] 53)))
        clear hcell he h2 h3 h4 hp
        go_upto_region 7 with fail
        obtain ⟨gx, hgx⟩ : ∃ g, g = wr.heap.size := ⟨_, rfl⟩
        rw [← hgx] at XB ⊢
        have ngx : gx ≠ g8 := by have := DI.out.one.lt; omega
        clear hgx DI x0 x1 x2 x3 x4 x5 x6 c8
        generalize wr.alloc (Obj.cells #[.string p.key, .int .i64 p.s, .int .i64 p.e, .int .i64 p.c, .int .i64 p.m, .int .i64 p.l, .int .i64 p.u] 53) = w3 at *
        have G2 := Lib.hid (H.out.next D2.out.below)
        have s1 := D2.out.win.cell (i := 0) rfl
        have s2 := D2.out.win.cell (i := 1) rfl
        have y1 := XB.out.cell (i := 1) rfl
        have y2 := XB.out.cell (i := 2) rfl
        clear G1
        go_cut [12] from 18 to 70 (fun q wx => q = .bool (decide (Eq2 p s e)) ∧ wx = w3)
        case first =>
          by_cases h1 : p.s = s
          · by_cases h2 : p.e = e
            · have hd := Lib.hid (show decide (Eq2 p s e) = true from decide_eq_true ⟨h1, h2⟩)
              have b1 : (p.s == s) = true := by simpa using h1
              have b2 : (p.e == e) = true := by simpa using h2
              clear h1 h2
              go_wp2_with fail
              go_meet
              case rel => exact ⟨by rw [hd.out], rfl⟩
            · have hd := Lib.hid (show decide (Eq2 p s e) = false from decide_eq_false fun q => h2 q.2)
              have b1 : (p.s == s) = true := by simpa using h1
              have b2 : (p.e == e) = false := by simpa using h2
              clear h1 h2
              go_wp2_with fail
              go_meet
              case rel => exact ⟨by rw [hd.out], rfl⟩
          · have hd := Lib.hid (show decide (Eq2 p s e) = false from decide_eq_false fun q => h1 q.1)
            have b1 : (p.s == s) = false := by simpa using h1
            clear h1
            go_wp2_with fail
            go_meet
            case rel => exact ⟨by rw [hd.out], rfl⟩
        case rest =>
        obtain ⟨rfl, hwc⟩ := hcut
        subst hwc
        have c0 := G2.out.lies.cell (i := 0) rfl
        go_upto_if 43 with fail
        go_cut [12] from 18 to 70 (fun q wx => q = .bool (same cf.k s e p) ∧ Hid (PS w g6 g8 s e (((R.take i).filter (hit cf.k key s e)).foldl join2 (one key s e v)) u9 (rest cf.k key s e (R.take i)) wx) ∧ Hid (Lies wx gx 53 p.cl))
        case first =>
          by_cases h2 : cf.k = 2
          · have e2 : (cf.k == 2) = true := by simpa using h2
            go_wp2_with fail
            refine (RefSpan.meet_ok p.s p.e s e _).mono ?_
            rintro r w4 ⟨rfl, k4⟩
            have D3 := Lib.hid (D2.out.next k4)
            have XC := Lib.hid (XB.out.next k4)
            go_wp2_with fail
            go_meet
            case rel => exact ⟨by rw [same, if_pos h2], D3, XC⟩
          · have e2 : (cf.k == 2) = false := by simpa using h2
            go_wp2_with fail
            go_meet
            case rel => exact ⟨by rw [same, if_neg h2], D2, XB⟩
        case rest =>
          obtain ⟨rfl, D3, XC⟩ := hcut
          clear s1 s2 y1 y2 c0 D2 XB G2
          obtain ⟨sm, hsm⟩ : ∃ sm, sm = same cf.k s e p := ⟨_, rfl⟩
          rw [← hsm]
          have x0 := XC.out.cell (i := 0) rfl
          have x1 := XC.out.cell (i := 1) rfl
          have x2 := XC.out.cell (i := 2) rfl
          have x3 := XC.out.cell (i := 3) rfl
          have x4 := XC.out.cell (i := 4) rfl
          have x5 := XC.out.cell (i := 5) rfl
          have x6 := XC.out.cell (i := 6) rfl
          have hw := Lib.hid D3.out.below.size
          have hfl : Hid ((rest cf.k key s e (R.take i)).length ≤ R.length) := Lib.hid (by
            have h1 := List.length_filter_le (fun p => !hit cf.k key s e p) (R.take i)
            rw [List.length_take] at h1
            simp only [rest]
            omega)
          by_cases hk : p.key = key
          · have hkk : (p.key.toList == key.toList) = true := by simp [hk]
            cases sm
            · have HT : Hid (hit cf.k key s e p = false) := Lib.hid (by simp [hit, ← hsm])
              clear hsm hk
              obtain ⟨t1, t2⟩ := take_no HP.out HT.out
              have T1 := Lib.hid t1
              have T2 := Lib.hid t2
              clear t1 t2
              go_wp2_with (at_builtin; refine wpList_plain rfl fun K' hK' => Sl.wp_append (K := Pn.k) Pn.ok (.tmp 67) (.tmp 69) rfl (base := w.heap.size) (l := rest cf.k key s e (R.take i)) (l2 := [p]) (by exact D3.out.rest.next (below1 _ _)) (by exact Sl.Is.one Pn.ok (x := p) (Lies.new _ _ _)) (by have := hfl.out; simp only [List.length_singleton]; omega) (by have := hw.out; simp; omega) (fun v' w5 q1 q2 q3 => hK' _ _ ?_); have D5 := Lib.hid ((D3.out.next (below1 _ _)).rested q1 q2 q3); clear q1 q2 q3)
              exact ⟨⟨i + 1, by omega, by go_num, Lib.hid (by rw [T1.out, T2.out]; exact D5.out)⟩, by simp [intOf]; omega⟩
            · have HT : Hid (hit cf.k key s e p = true) := Lib.hid (by simp [hit, ← hsm, hk])
              clear hsm hk
              obtain ⟨t1, t2⟩ := take_yes HP.out HT.out
              have T1 := Lib.hid t1
              have T2 := Lib.hid t2
              clear t1 t2
              obtain ⟨x, hx⟩ : ∃ x, x = ((R.take i).filter (hit cf.k key s e)).foldl join2 (one key s e v) := ⟨_, rfl⟩
              rw [← hx] at D3
              have X := Lib.hid hx
              clear hx
              obtain ⟨ns, hns⟩ : ∃ ns, Hid (ns = min x.s p.s) := ⟨_, Lib.hid rfl⟩
              obtain ⟨ne, hne⟩ : ∃ ne, Hid (ne = max x.e p.e) := ⟨_, Lib.hid rfl⟩
              have J := Lib.hid fun w : World => RefSpan.join_ok x.s x.e p.s p.e ns ne w hns hne
              have G := Lib.hid fun w : World => Agg.ref_ok (ag x) (ag p) w
              have XJ : Hid (join2 x p = mk x.key ns ne (Agg.mrg (ag x) (ag p))) := Lib.hid (by rw [hns.out, hne.out])
              generalize Agg.mrg (ag x) (ag p) = z at *
              have o1 := D3.out.one.cell (i := 1) rfl
              have o2 := D3.out.one.cell (i := 2) rfl
              go_wp2_with fail
              refine (J.out _).mono ?_
              rintro r w5 ⟨rfl, k5⟩
              have D4 := Lib.hid (D3.out.next k5)
              have XD := Lib.hid (XC.out.next k5)
              clear D3 XC k5 o1 o2 x0 x1 x2 x3 x4 x5 x6
              obtain ⟨⟨o0, o1, o2, o3, o4, o5, o6⟩, z0, z1, z2, z3, z4, z5, z6⟩ := seven D4.out.one
              have G8 := grown_cells (i := 2) (.int .i64 ne) (grown_cells (i := 1) (.int .i64 ns) (grown_refl w5 g8))
              have D5 : Hid (PS w g6 g8 s e ⟨x.key, ns, ne, x.c, x.m, x.l, x.u⟩ u9 (rest cf.k key s e (R.take i)) ((w5.setCell ⟨g8, 1, none⟩ (.int .i64 ns)).setCell ⟨g8, 2, none⟩ (.int .i64 ne))) :=
                Lib.hid (D4.out.oned (x' := ⟨x.key, ns, ne, x.c, x.m, x.l, x.u⟩) ((D4.out.one.put 1 (.int .i64 ns)).put 2 (.int .i64 ne)) G8)
              have XE : Hid (Lies ((w5.setCell ⟨g8, 1, none⟩ (.int .i64 ns)).setCell ⟨g8, 2, none⟩ (.int .i64 ne)) gx 53 p.cl) := Lib.hid (lies_grown XD.out G8 (fun q => ngx (Option.some.inj q)))
              clear G8
              go_upto_region 12 with fail
              generalize (w5.setCell ⟨g8, 1, none⟩ (.int .i64 ns)).setCell ⟨g8, 2, none⟩ (.int .i64 ne) = w6 at *
              clear D4 XD o0 o1 o2 o3 o4 o5 o6 z0 z1 z2 z3 z4 z5 z6
              have o3 := D5.out.one.cell (i := 3) rfl
              have o4 := D5.out.one.cell (i := 4) rfl
              have o5 := D5.out.one.cell (i := 5) rfl
              have o6 := D5.out.one.cell (i := 6) rfl
              have x3 := XE.out.cell (i := 3) rfl
              have x4 := XE.out.cell (i := 4) rfl
              have x5 := XE.out.cell (i := 5) rfl
              have x6 := XE.out.cell (i := 6) rfl
              go_wp2_with fail
              refine (G.out _).mono ?_
              rintro r w7 ⟨rfl, k7⟩
              have D6 := Lib.hid (D5.out.next k7)
              clear D5 XE k7 o3 o4 o5 o6 x3 x4 x5 x6
              obtain ⟨⟨o0, o1, o2, o3, o4, o5, o6⟩, z0, z1, z2, z3, z4, z5, z6⟩ := seven D6.out.one
              have D7 : Hid (PS w g6 g8 s e ⟨x.key, ns, ne, z.c, z.s, z.l, z.u⟩ u9 (rest cf.k key s e (R.take i)) ((((w7.setCell ⟨g8, 3, none⟩ (.int .i64 z.c)).setCell ⟨g8, 4, none⟩ (.int .i64 z.s)).setCell ⟨g8, 5, none⟩ (.int .i64 z.l)).setCell ⟨g8, 6, none⟩ (.int .i64 z.u))) :=
                Lib.hid (D6.out.oned (x' := ⟨x.key, ns, ne, z.c, z.s, z.l, z.u⟩) ((((D6.out.one.put 3 (.int .i64 z.c)).put 4 (.int .i64 z.s)).put 5 (.int .i64 z.l)).put 6 (.int .i64 z.u)) (grown_cells _ (grown_cells _ (grown_cells _ (grown_cells _ (grown_refl _ _))))))
              have hfold : Hid (((R.take (i + 1)).filter (hit cf.k key s e)).foldl join2 (one key s e v) = ⟨x.key, ns, ne, z.c, z.s, z.l, z.u⟩) := Lib.hid (by
                rw [T2.out, List.foldl_append]
                show join2 (((R.take i).filter (hit cf.k key s e)).foldl join2 (one key s e v)) p = _
                rw [← X.out]
                exact XJ.out)
              go_wp2_with fail
              exact ⟨⟨i + 1, by omega, by go_num, Lib.hid (by rw [hfold.out, T1.out]; exact D7.out)⟩, by simp [intOf]; omega⟩
          · have hkk : (p.key.toList == key.toList) = false := by
              rw [beq_eq_false_iff_ne]
              exact fun q => hk (Pn.bytes_ext.1 q)
            have HT : Hid (hit cf.k key s e p = false) := Lib.hid (by simp [hit, hk])
            clear hsm hk
            obtain ⟨t1, t2⟩ := take_no HP.out HT.out
            have T1 := Lib.hid t1
            have T2 := Lib.hid t2
            clear t1 t2
            go_wp2_with (at_builtin; refine wpList_plain rfl fun K' hK' => Sl.wp_append (K := Pn.k) Pn.ok (.tmp 67) (.tmp 69) rfl (base := w.heap.size) (l := rest cf.k key s e (R.take i)) (l2 := [p]) (by exact D3.out.rest.next (below1 _ _)) (by exact Sl.Is.one Pn.ok (x := p) (Lies.new _ _ _)) (by have := hfl.out; simp only [List.length_singleton]; omega) (by have := hw.out; simp; omega) (fun v' w5 q1 q2 q3 => hK' _ _ ?_); have D5 := Lib.hid ((D3.out.next (below1 _ _)).rested q1 q2 q3); clear q1 q2 q3)
            exact ⟨⟨i + 1, by omega, by go_num, Lib.hid (by rw [T1.out, T2.out]; exact D5.out)⟩, by simp [intOf]; omega⟩
      · obtain rfl : i = R.length := by omega
        rw [List.take_length] at DI
        obtain ⟨x, hx⟩ : ∃ x, x = (R.filter (hit cf.k key s e)).foldl join2 (one key s e v) := ⟨_, rfl⟩
        have X := Lib.hid hx
        rw [← hx] at DI
        clear hx
        have o0 := DI.out.one.cell (i := 0) rfl
        have o1 := DI.out.one.cell (i := 1) rfl
        have o2 := DI.out.one.cell (i := 2) rfl
        have o3 := DI.out.one.cell (i := 3) rfl
        have o4 := DI.out.one.cell (i := 4) rfl
        have o5 := DI.out.one.cell (i := 5) rfl
        have o6 := DI.out.one.cell (i := 6) rfl
        have hw := Lib.hid DI.out.below.size
        have hfl : Hid ((rest cf.k key s e R).length ≤ R.length) := Lib.hid (List.length_filter_le _ _)
        go_wp2_with (at_builtin; refine wpList_plain rfl fun K' hK' => Sl.wp_append (K := Pn.k) Pn.ok (.tmp 72) (.tmp 74) rfl (base := w.heap.size) (l := rest cf.k key s e R) (l2 := [x]) (by exact DI.out.rest.next (below1 _ _)) (by exact Sl.Is.one Pn.ok (x := x) (Lies.new _ _ _)) (by have := hfl.out; simp only [List.length_singleton]; omega) (by have := hw.out; simp; omega) (fun u w5 q1 q2 q3 => hK' _ _ ?_); have D5 := Lib.hid ((DI.out.next (below1 _ _)).rested q1 q2 q3); clear q1 q2 q3; have hR : ∃ R2, Hid (R2 = rest cf.k key s e R ++ [x]) := ⟨_, Lib.hid rfl⟩; obtain ⟨R2, hR2⟩ := hR; rw [← hR2.out] at D5; obtain ⟨b9, -, i9⟩ := D5.out.rest.is; obtain ⟨A9, c9, e9⟩ := i9.len; subst e9; clear i9; have G5 := Lib.hid (H.out.next D5.out.below); have c8 := G5.out.lies.cell (i := 8) rfl; have y8 := G5.out.lies.open_ 8)
        have fin := G5.out.put D5.out.rest hgr
        obtain ⟨b2, hb2, FR⟩ := fin
        have FR := Lib.hid FR
        have FG := Lib.hid ((⟨D5.out.below.os, D5.out.below.tape, D5.out.below.output, D5.out.below.size, fun i hi _ => D5.out.below.block i hi⟩ : w.grownBy w5 (some gr)).andThen (set_grown w5 gr 8 (.slice A9 R2.length c9)) (fun j hj => .inr hj))
        exact bodyPost_end (v := .tuple #[]) (by simp [results, Tryz.results29, go_sem]) rfl ⟨rfl, _, b2, hb2, by show Rg _ gr cf _ (rest cf.k key s e R ++ [(R.filter (hit cf.k key s e)).foldl join2 (one key s e v)]) b2; rw [← X.out, ← hR2.out]; exact FR.out, FG.out⟩
end Rg
end Go.Proofs.YtbdocnkpjlpfmaaGreat
