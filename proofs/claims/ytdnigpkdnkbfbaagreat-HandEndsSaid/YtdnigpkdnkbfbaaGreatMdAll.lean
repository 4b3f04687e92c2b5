/-
  model's only: the pane of a window, of a key's panes, or none.
  A model in memory: a config, a group of all keys, a watermark, an output, whether it is closed; contracts of model's New and Keyed.
  model's Keyed: a keyed call on a group, settled at a watermark; what goes out.
  model's change and Do: what a call comes to.
-/
import Derived.Test.YtdnigpkdnkbfbaaGreatPaneList
import Derived.Test.YtdnigpkdnkbfbaaGreatSmall
import Derived.Test.YtdnigpkdnkbfbaaGreatGrAll
import Derived.Test.YtdnigpkdnkbfbaaGreatOutLogs
import Derived.Test.YtdnigpkdnkbfbaaGreatCall
import Derived.Deep.RegionHeld3
namespace Go.Proofs.YtdnigpkdnkbfbaaGreat
open Go.ChangeShapes Go.WideShapes Go.ChangeAt Go.RowKit
namespace Md
open Small Pane
set_option linter.unusedVariables false

/-- those of a window -/
abbrev only (s e : Int) (L : List Pn) : List Pn := L.filter fun p => decide (p.s = s ∧ p.e = e)
theorem only_one {L : List Pn} {s e : Int} {k : Nat} {p : Pn} (up : Rises L) (hp : L[k]? = some p) (he : Eq2 p s e) : only s e L = [p] := by
  have e1 : L = L.take k ++ p :: L.drop (k + 1) := by
    obtain ⟨h1, h2⟩ := List.getElem?_eq_some_iff.1 hp
    conv => lhs; rw [← List.take_append_drop k L, List.drop_eq_getElem_cons h1, h2]
  have hr := up
  rw [Rises, e1] at hr
  obtain ⟨r1, r2, r3⟩ := List.pairwise_append.1 hr
  obtain ⟨r4, r5⟩ := List.pairwise_cons.1 r2
  have z1 : (L.take k).filter (fun p => decide (p.s = s ∧ p.e = e)) = [] := List.filter_eq_nil_iff.2 fun y hy => by
    have := r3 y hy p (List.mem_cons_self ..)
    simp only [Ah, Eq2] at this he
    simp only [decide_eq_true_eq]
    omega
  have z2 : (L.drop (k + 1)).filter (fun p => decide (p.s = s ∧ p.e = e)) = [] := List.filter_eq_nil_iff.2 fun y hy => by
    have := r4 y hy
    simp only [Ah, Eq2] at this he
    simp only [decide_eq_true_eq]
    omega
  have hq : decide (p.s = s ∧ p.e = e) = true := by
    simp only [Eq2] at he
    simp only [decide_eq_true_eq]
    exact he
  conv => lhs; rw [only, e1]
  rw [List.filter_append, List.filter_cons, z1, z2, hq]
  rfl
theorem only_none {L : List Pn} {s e : Int} (h : ∀ p ∈ L, ¬ Eq2 p s e) : only s e L = [] := List.filter_eq_nil_iff.2 fun y hy => by
  have := h y hy
  simpa [Eq2] using this

set_option maxRecDepth 100000 in
set_option maxHeartbeats 4000000 in
theorem only_ok (v : Value) (L : List Pn) (b : Nat) (s e : Int) (w : World) (H : Hid (Sl.Is Pn.k w v L b)) (hn : L.length ≤ 9000) (up : Hid (Rises L)) :
    Calls Tryz.prog 87 #[v, win s e] w fun r w' => ∃ u, r = .returned u ∧ Sl.Own Pn.k w.heap.size w' u (only s e L) ∧ Below w.heap.size w w' := by
  obtain ⟨k, A⟩ := At.ex up.out s e
  have K0 := Lib.hid (below1 w (Obj.cells #[.int .i64 s, .int .i64 e] 105))
  by_cases hx : ∃ p, L[k]? = some p ∧ Eq2 p s e
  · obtain ⟨p, hp, he⟩ := hx
    have E := Lib.hid (only_one up.out hp he)
    go_enter Tryz.func87, Tryz.ntmps87
    go_wp2_with fail
    refine (find_yes v L b k s e p _ (Lib.hid (H.out.next K0.out)) hn (Lib.hid A) (Lib.hid hp) (Lib.hid he)).mono ?_
    rintro r w1 ⟨rfl, k1⟩
    have K1 := Lib.hid (after K0.out k1)
    clear k1 K0
    go_wp2
    go_ret
    refine ⟨_, rfl, ?_, after K1.out (below2 _ _ _)⟩
    rw [E.out]
    obtain ⟨rfl, rfl⟩ := he
    have LN := Lies.new (w1.alloc (Obj.cells p.cl.toArray 109)) 109 p.cl
    simp only [World.size_alloc] at LN
    exact Sl.Own.one (K := Pn.k) Pn.ok (x := p) LN (by have := K1.out.size; omega)
  · have E := Lib.hid (only_none (L := L) (s := s) (e := e) fun p hp he => hx (by
      have hh := A.found up.out hp he
      exact ⟨p, hh, he⟩))
    go_enter Tryz.func87, Tryz.ntmps87
    go_wp2_with fail
    refine (find_no v L b k s e _ (Lib.hid (H.out.next K0.out)) hn (Lib.hid A) (Lib.hid fun x hx' he => hx ⟨x, hx', he⟩)).mono ?_
    rintro r w1 ⟨rfl, k1⟩
    have K1 := Lib.hid (after K0.out k1)
    clear k1 K0
    go_wp2
    go_ret
    exact ⟨_, rfl, by rw [E.out]; exact Sl.Own.nil _ _ _, after K1.out (below1 _ _)⟩
end Md
end Go.Proofs.YtdnigpkdnkbfbaaGreat

namespace Go.Proofs.YtdnigpkdnkbfbaaGreat
open Go.ChangeShapes Go.WideShapes Go.ChangeAt Go.RowKit
set_option maxRecDepth 100000
namespace Md
open Small Foot Pane Grp
set_option linter.unusedVariables false

abbrev mcl (x : C8) (g lg : Nat) (mark : Int) (cl : Bool) : List Value := [.int .i64 x.k, .int .i64 x.s, .int .i64 x.l, .int .i64 x.g, .int .i64 x.z, .int .i64 x.h, .int .i64 x.r, .int .i64 x.c, .pointer (some ⟨g, 0, none⟩), .int .i64 mark, .pointer (some ⟨lg, 0, none⟩), .bool cl]
/-- a config as the calls' contracts have it -/
abbrev cfOf (x : C8) : Cf := ⟨x.k, x.s, x.l, x.g, x.z, x.h, x.r, x.c⟩
/-- a model at mo: its group at g, of the blocks Fg, its Log at lg, whose list is lv -/
structure Mq (w : World) (mo g : Nat) (Fg : Nat → Prop) (lg : Nat) (lv : Value) (cf : C8) (S : Lists) (N n : Nat) (mark : Int) (L : List Pn) (cl : Bool) : Prop where
  lies : Lies w mo 128 (mcl cf g lg mark cl)
  grp : Gr.Is w g Fg cf S N n
  log : Out.Lg w lg lv L
  mo_g : ¬ Fg mo
  mo_l : mo ≠ lg
  mo_v : lv.ownBlock ≠ some mo
  lg_g : ¬ Fg lg
  lv_g : ∀ a, lv.ownBlock = some a → ¬ Fg a
  few : L.length + n ≤ N
  over : NoneOver cf.z mark S
/-- the blocks it is made of -/
def MF (mo : Nat) (Fg : Nat → Prop) (lg : Nat) (lv : Value) : Nat → Prop := fun k => k = mo ∨ Fg k ∨ k = lg ∨ lv.ownBlock = some k
def Is (w : World) (mo : Nat) (F : Nat → Prop) (cf : C8) (S : Lists) (N : Nat) (mark : Int) (L : List Pn) (cl : Bool) : Prop :=
  ∃ g Fg lg lv n, Mq w mo g Fg lg lv cf S N n mark L cl ∧ ∀ k, F k ↔ MF mo Fg lg lv k
section
variable {w w' : World} {mo g lg N N' n : Nat} {Fg F : Nat → Prop} {lv : Value} {cf : C8} {S : Lists} {mark : Int} {L : List Pn} {cl : Bool}
theorem Mq.keep (h : Mq w mo g Fg lg lv cf S N n mark L cl) (k : ∀ i, MF mo Fg lg lv i → w'.heap[i]? = w.heap[i]?) (s : w.heap.size ≤ w'.heap.size) : Mq w' mo g Fg lg lv cf S N n mark L cl :=
  ⟨(k mo (.inl rfl)).trans h.lies, h.grp.keep (fun i hi => k i (.inr (.inl hi))) s, ⟨(k lg (.inr (.inr (.inl rfl)))).trans h.log.lies, h.log.own.move fun a ha => k a (.inr (.inr (.inr ha)))⟩, h.mo_g, h.mo_l, h.mo_v, h.lg_g, h.lv_g, h.few, h.over⟩
theorem Mq.in (h : Mq w mo g Fg lg lv cf S N n mark L cl) : In w (MF mo Fg lg lv) := fun k hk => by
  rcases hk with rfl | hk | rfl | hk
  · exact h.lies.lt
  · exact h.grp.in k hk
  · exact h.log.lies.lt
  · exact (h.log.own.lt k hk).2
theorem Mq.next (h : Mq w mo g Fg lg lv cf S N n mark L cl) (k : Below w.heap.size w w') : Mq w' mo g Fg lg lv cf S N n mark L cl := h.keep (fun i hi => k.block i (h.in i hi)) k.size
theorem Is.in (h : Is w mo F cf S N mark L cl) : In w F := by
  obtain ⟨g, Fg, lg, lv, n, q, hF⟩ := h
  exact fun k hk => q.in k ((hF k).1 hk)
theorem Is.keep (h : Is w mo F cf S N mark L cl) (k : ∀ i, F i → w'.heap[i]? = w.heap[i]?) (s : w.heap.size ≤ w'.heap.size) : Is w' mo F cf S N mark L cl := by
  obtain ⟨g, Fg, lg, lv, n, q, hF⟩ := h
  exact ⟨g, Fg, lg, lv, n, q.keep (fun i hi => k i ((hF i).2 hi)) s, hF⟩
theorem Is.next (h : Is w mo F cf S N mark L cl) (k : Below w.heap.size w w') : Is w' mo F cf S N mark L cl := h.keep (fun i hi => k.block i (h.in i hi)) k.size
theorem Is.beside {G G' : Nat → Prop} (h : Is w mo F cf S N mark L cl) (k : Moves G G' w w') (a : Apart F G) : Is w' mo F cf S N mark L cl := h.keep (fun i hi => k.block i (h.in i hi) (a i hi)) k.size
theorem Is.more (h : Is w mo F cf S N mark L cl) (hN : N ≤ N') : Is w mo F cf S N' mark L cl := by
  obtain ⟨g, Fg, lg, lv, n, q, hF⟩ := h
  exact ⟨g, Fg, lg, lv, n, ⟨q.lies, q.grp.more hN, q.log, q.mo_g, q.mo_l, q.mo_v, q.lg_g, q.lv_g, by have := q.few; omega, q.over⟩, hF⟩
theorem Is.grp (h : Is w mo F cf S N mark L cl) : ∃ g Fg n, Gr.Is w g Fg cf S N n ∧ L.length + n ≤ N := by
  obtain ⟨g, Fg, lg, lv, n, q, hF⟩ := h
  exact ⟨g, Fg, n, q.grp, q.few⟩
theorem Is.over (h : Is w mo F cf S N mark L cl) : NoneOver cf.z mark S := by
  obtain ⟨g, Fg, lg, lv, n, q, hF⟩ := h
  exact q.over
end

set_option maxHeartbeats 4000000 in
theorem new_no (cf : C8) (w : World) (M : Hid (¬ Asg.may cf.k cf.s cf.l cf.g cf.z cf.h cf.r cf.c)) (s1 : cf.s ≤ 9223372036854775807) :
    Calls Tryz.prog 23 #[cf.v] w fun r w' => r = .returned (.tuple #[.pointer none, .iface 33 (.int .i64 2)]) ∧ Below w.heap.size w w' := by
  go_enter Tryz.func23, Tryz.ntmps23
  go_wp2_with fail
  refine (Grp.new_no cf _ M s1).mono ?_
  rintro r w1 ⟨rfl, k1⟩
  go_wp2
  go_ret2
  exact ⟨rfl, after (below1 _ _) k1⟩

theorem made (w w1 w9 : World) (cf : C8) (g : Nat) (Fg : Nat → Prop) (G1 : Gr.Is w1 g Fg cf (fun _ => []) 0 0) (F1 : From w.heap.size Fg) (K1 : Below w.heap.size w w1) (L9 : Out.Lg w9 w1.heap.size (.slice none 0 0) []) (k9 : Below w1.heap.size w1 w9) :
    ∃ F, Is (w9.alloc (Obj.cells #[.int .i64 cf.k, .int .i64 cf.s, .int .i64 cf.l, .int .i64 cf.g, .int .i64 cf.z, .int .i64 cf.h, .int .i64 cf.r, .int .i64 cf.c, .pointer (some ⟨g, 0, none⟩), .int .i64 (-9223372036854775808), .pointer (some ⟨w1.heap.size, 0, none⟩), .bool false] 128)) w9.heap.size F cf (fun _ => []) 0 (-9223372036854775808) [] false ∧ From w.heap.size F ∧ Below w.heap.size w (w9.alloc (Obj.cells #[.int .i64 cf.k, .int .i64 cf.s, .int .i64 cf.l, .int .i64 cf.g, .int .i64 cf.z, .int .i64 cf.h, .int .i64 cf.r, .int .i64 cf.c, .pointer (some ⟨g, 0, none⟩), .int .i64 (-9223372036854775808), .pointer (some ⟨w1.heap.size, 0, none⟩), .bool false] 128)) := by
  have h1 := K1.size
  have h9 := k9.size
  have hl := L9.lies.lt
  have KB := below1 w9 (Obj.cells #[.int .i64 cf.k, .int .i64 cf.s, .int .i64 cf.l, .int .i64 cf.g, .int .i64 cf.z, .int .i64 cf.h, .int .i64 cf.r, .int .i64 cf.c, .pointer (some ⟨g, 0, none⟩), .int .i64 (-9223372036854775808), .pointer (some ⟨w1.heap.size, 0, none⟩), .bool false] 128)
  refine ⟨MF w9.heap.size Fg w1.heap.size (.slice none 0 0), ⟨g, Fg, w1.heap.size, .slice none 0 0, 0, ⟨Lies.new w9 128 (mcl cf g w1.heap.size (-9223372036854775808) false), (G1.next k9).next KB, L9.next KB, fun q => ?_, by omega, (fun q => by cases q), fun q => ?_, (fun a q => by cases q), Nat.le_refl _, Gr.over_none _ _⟩, fun _ => Iff.rfl⟩, fun k hk => ?_, after K1 (after k9 KB)⟩
  · have := G1.in _ q; omega
  · have := G1.in _ q; omega
  · rcases hk with rfl | hk | rfl | hk
    · omega
    · exact F1 k hk
    · exact h1
    · cases hk

set_option maxHeartbeats 8000000 in
theorem new_ok (cf : C8) (w : World) (M : Hid (Asg.may cf.k cf.s cf.l cf.g cf.z cf.h cf.r cf.c)) (s1 : cf.s ≤ 9223372036854775807) :
    Calls Tryz.prog 23 #[cf.v] w fun r w' => ∃ mo F, r = .returned (.tuple #[gp mo, .nilIface]) ∧ Is w' mo F cf (fun _ => []) 0 (-9223372036854775808) [] false ∧ From w.heap.size F ∧ Below w.heap.size w w' := by
  have X0 := Lib.hid (Lies.new w 23 cf.cl)
  have K0 := Lib.hid (below1 w (Obj.cells #[.int .i64 cf.k, .int .i64 cf.s, .int .i64 cf.l, .int .i64 cf.g, .int .i64 cf.z, .int .i64 cf.h, .int .i64 cf.r, .int .i64 cf.c] 23))
  go_enter Tryz.func23, Tryz.ntmps23
  go_wp2_with fail
  refine (Gr.new_ok cf _ M s1).mono ?_
  rintro e w1 ⟨g, Fg, rfl, G1, F1, k1⟩
  have X1 := Lib.hid (X0.out.next k1)
  have K1 := Lib.hid (after K0.out k1)
  have G1 := Lib.hid G1
  have F1 := Lib.hid F1
  have hs1 := Lib.hid k1.size
  clear k1
  go_wp2_with fail
  have CS : Hid (∀ w', Below w1.heap.size w1 w' → w'.cell? ⟨w.heap.size, 0, none⟩ = some (.int .i64 cf.k) ∧ w'.cell? ⟨w.heap.size, 1, none⟩ = some (.int .i64 cf.s) ∧ w'.cell? ⟨w.heap.size, 2, none⟩ = some (.int .i64 cf.l) ∧ w'.cell? ⟨w.heap.size, 3, none⟩ = some (.int .i64 cf.g) ∧ w'.cell? ⟨w.heap.size, 4, none⟩ = some (.int .i64 cf.z) ∧ w'.cell? ⟨w.heap.size, 5, none⟩ = some (.int .i64 cf.h) ∧ w'.cell? ⟨w.heap.size, 6, none⟩ = some (.int .i64 cf.r) ∧ w'.cell? ⟨w.heap.size, 7, none⟩ = some (.int .i64 cf.c) ∧ Below w1.heap.size w1 w') := Lib.hid fun w' hB =>
    ⟨(X1.out.next hB).cell (i := 0) rfl, (X1.out.next hB).cell (i := 1) rfl, (X1.out.next hB).cell (i := 2) rfl, (X1.out.next hB).cell (i := 3) rfl, (X1.out.next hB).cell (i := 4) rfl, (X1.out.next hB).cell (i := 5) rfl, (X1.out.next hB).cell (i := 6) rfl, (X1.out.next hB).cell (i := 7) rfl, hB⟩
  have CB : Hid (∀ w', w'.cell? ⟨w.heap.size, 0, none⟩ = some (.int .i64 cf.k) ∧ w'.cell? ⟨w.heap.size, 1, none⟩ = some (.int .i64 cf.s) ∧ w'.cell? ⟨w.heap.size, 2, none⟩ = some (.int .i64 cf.l) ∧ w'.cell? ⟨w.heap.size, 3, none⟩ = some (.int .i64 cf.g) ∧ w'.cell? ⟨w.heap.size, 4, none⟩ = some (.int .i64 cf.z) ∧ w'.cell? ⟨w.heap.size, 5, none⟩ = some (.int .i64 cf.h) ∧ w'.cell? ⟨w.heap.size, 6, none⟩ = some (.int .i64 cf.r) ∧ w'.cell? ⟨w.heap.size, 7, none⟩ = some (.int .i64 cf.c) ∧ Below w1.heap.size w1 w' → Below w1.heap.size w1 w') := Lib.hid fun w' h => h.2.2.2.2.2.2.2.2
  go_region_held3 (fun w' => w'.cell? ⟨w.heap.size, 0, none⟩ = some (.int .i64 cf.k) ∧ w'.cell? ⟨w.heap.size, 1, none⟩ = some (.int .i64 cf.s) ∧ w'.cell? ⟨w.heap.size, 2, none⟩ = some (.int .i64 cf.l) ∧ w'.cell? ⟨w.heap.size, 3, none⟩ = some (.int .i64 cf.g) ∧ w'.cell? ⟨w.heap.size, 4, none⟩ = some (.int .i64 cf.z) ∧ w'.cell? ⟨w.heap.size, 5, none⟩ = some (.int .i64 cf.h) ∧ w'.cell? ⟨w.heap.size, 6, none⟩ = some (.int .i64 cf.r) ∧ w'.cell? ⟨w.heap.size, 7, none⟩ = some (.int .i64 cf.c) ∧ Below w1.heap.size w1 w')
    (first | exact CS.out _ (Below.refl _ _).drew | exact CS.out _ (after (by first | assumption | exact (Below.refl _ _).drew | exact CB.out _ (by assumption)) k9) | exact CS.out _ (after (by first | assumption | exact (Below.refl _ _).drew | exact CB.out _ (by assumption)) (below1 _ _)))
    (first | (go_at_call 56; refine (Out.new_ok _).mono ?_; rintro e w9 ⟨rfl, L9, k9⟩))
  have k9 : Below w1.heap.size w1 w9 := ⟨k9.os, k9.tape, k9.output, k9.size, k9.block⟩
  obtain ⟨F, m1, m2, m3⟩ := made w w1 w9 cf g Fg G1.out (fun k hk => by have := F1.out k hk; simp at this; omega) K1.out L9 k9
  go_wp2
  go_ret2
  exact ⟨_, F, rfl, m1, m2, m3⟩
end Md
end Go.Proofs.YtdnigpkdnkbfbaaGreat

namespace Go.Proofs.YtdnigpkdnkbfbaaGreat
open Go.ChangeShapes Go.WideShapes Go.ChangeAt Go.RowKit
set_option maxRecDepth 100000
namespace Md
open Small Foot Pane Grp Ca
set_option linter.unusedVariables false

/-- a record is put -/
abbrev puts (op : Int) : Prop := op = 1 ∨ op = 2
/-- what a keyed call comes to: a code, panes, what goes out, how many windows had the record, all panes behind it -/
def MAsked (cf : C8) (S : Lists) (mark : Int) (x : Cl) (z : Option (Nat × Int × Int × Int)) (code : Int) (P O : List Pn) (c : Nat) (S' : Lists) : Prop :=
  (puts x.op ∧ P = [] ∧ ∃ S1, Outs cf.z mark S O S1 ∧ NoneOver cf.z mark S1 ∧ Taken cf.k x.key x.v cf.z mark z S1 code c S') ∨
  (¬ puts x.op ∧ code = 0 ∧ c = 0 ∧ Outs cf.z mark S O S' ∧ NoneOver cf.z mark S' ∧ P = if x.op = 4 then only x.t x.e (S' x.key) else S' x.key)
def Asked (w : World) (g : Nat) (F : Nat → Prop) (cf : C8) (S : Lists) (N n : Nat) (x : Cl) (mark : Int) (z : Option (Nat × Int × Int × Int)) (r : Ending) (w' : World) : Prop :=
  ∃ rv ov code P O c S' n' F', r = .returned (.tuple #[rep code rv, ov]) ∧ MAsked cf S mark x z code P O c S' ∧ n' ≤ n + c ∧ P.length ≤ 9000 ∧ Gr.Is w' g F' cf S' (N + c) n' ∧ Moves F F' w w' ∧ Sl.Own Pn.k w.heap.size w' rv P ∧ Sl.Own Pn.k w.heap.size w' ov O

/-- the reply's two cells are written -/
theorem put_two {w : World} {gy : Nat} {a b : Value} (u v : Value) : w.grownBy ((w.setCell ⟨gy, 0, none⟩ u).setCell ⟨gy, 1, none⟩ v) (some gy) :=
  ⟨rfl, rfl, rfl, by simp, fun i hi hn => by
    have h : i ≠ gy := fun e => hn (by rw [e])
    rw [Below.heap_setCell _ _ _ _ h, Below.heap_setCell _ _ _ _ h]⟩

/-- a list of the call's own is a slice, of some length -/
theorem lit {base : Nat} {w : World} {v : Value} {L : List Pn} (h : Sl.Own Pn.k base w v L) : ∃ A n c, v = .slice A n c := by
  obtain ⟨b, -, i⟩ := h.is
  obtain ⟨A, c, e⟩ := i.len
  exact ⟨A, _, c, e⟩
theorem asked_end {w w2 w3 : World} {g N n' : Nat} {F F' : Nat → Prop} {cf : C8} {S' : Lists} (K0 : Below w.heap.size w w2) (sz : w2.heap.size = w.heap.size + 1 + 1) (nF : ¬ F (w.heap.size + 1)) (hw : In w F) (V3 : Moves F F' w2 w3) (G3 : Gr.Is w3 g F' cf S' N n')
    (y : Lies w3 (w.heap.size + 1) 47 [.int .i64 0, .slice none 0 0]) (u v : Value) :
    ((w3.setCell ⟨w.heap.size + 1, 0, none⟩ u).setCell ⟨w.heap.size + 1, 1, none⟩ v).cell? ⟨w.heap.size + 1, 0, none⟩ = some u ∧ ((w3.setCell ⟨w.heap.size + 1, 0, none⟩ u).setCell ⟨w.heap.size + 1, 1, none⟩ v).cell? ⟨w.heap.size + 1, 1, none⟩ = some v ∧
    Gr.Is ((w3.setCell ⟨w.heap.size + 1, 0, none⟩ u).setCell ⟨w.heap.size + 1, 1, none⟩ v) g F' cf S' N n' ∧ Moves F F' w ((w3.setCell ⟨w.heap.size + 1, 0, none⟩ u).setCell ⟨w.heap.size + 1, 1, none⟩ v) ∧
    ∀ (p : Value) (L : List Pn), Sl.Own Pn.k w2.heap.size w3 p L → Sl.Own Pn.k w.heap.size ((w3.setCell ⟨w.heap.size + 1, 0, none⟩ u).setCell ⟨w.heap.size + 1, 1, none⟩ v) p L := by
  have Z := (y.put 0 u).put 1 v
  have k := put_two (w := w3) (gy := w.heap.size + 1) (a := u) (b := v) u v
  have nF' : ¬ F' (w.heap.size + 1) := fun q => by
    rcases (V3.new _ q).1 with r | r
    · exact nF r
    · omega
  have V := (Moves.of_below K0 hw).trans V3
  exact ⟨Z.cell (i := 0) rfl, Z.cell (i := 1) rfl, G3.grown k nF', moves_grown V k (fun b e => by have := Option.some.inj e; omega), fun p L o => Gr.own_base (Gr.own_grown o k (by omega)) (by omega)⟩

set_option maxHeartbeats 8000000 in
theorem keyed_ok {g N n : Nat} {cf : C8} {S : Lists} {F : Nat → Prop} (x : Cl) (mark : Int) (z : Option (Nat × Int × Int × Int)) (w : World) (H : Hid (Gr.Is w g F cf S N n)) (hN : N ≤ 8880) (M : Hid (Asg.may cf.k cf.s cf.l cf.g cf.z cf.h cf.r cf.c)) (B : Hid (cf.s ≤ 9223372036854775807 ∧ cf.l ≤ 9223372036854775807 ∧ cf.g ≤ 9223372036854775807 ∧ cf.z ≤ 9223372036854775807))
    (ft : Hid ((Lit.int .i64 x.t).wf = true)) (fk : Hid ((Lit.int .i64 mark).wf = true)) (hk : x.key.size ≤ maxLen) (T : Hid (Asg.Told cf.k cf.s cf.l cf.g cf.z x.t z)) :
    Calls Tryz.prog 57 #[gp g, x.val, .int .i64 mark] w (Asked w g F cf S N n x mark z) := by
  have fz : Hid ((Lit.int .i64 cf.z).wf = true) := Lib.hid (wf_of (by have := M.out.2.1; omega) B.out.2.2.2)
  obtain ⟨op, key, t, v, e, u, s⟩ := x
  dsimp only at *
  have hw := H.out.in
  have X0 := Lib.hid ((Lies.new w 42 [.int .i64 op, .string key, .int .i64 t, .int .i64 v, .int .i64 e, .int .i64 u, .int .i64 s]).next (below1 _ (Obj.cells #[.int .i64 0, .slice none 0 0] 47)))
  have y00 := Lies.new (w.alloc (Obj.cells #[.int .i64 op, .string key, .int .i64 t, .int .i64 v, .int .i64 e, .int .i64 u, .int .i64 s] 42)) 47 [.int .i64 0, .slice none 0 0]
  simp only [World.size_alloc] at y00
  have Y0 := Lib.hid y00
  clear y00
  have k00 := below2 w (Obj.cells #[.int .i64 op, .string key, .int .i64 t, .int .i64 v, .int .i64 e, .int .i64 u, .int .i64 s] 42) (Obj.cells #[.int .i64 0, .slice none 0 0] 47)
  have G0 := Lib.hid (H.out.next k00)
  have K0 := Lib.hid k00
  clear k00
  have s00 : ((w.alloc (Obj.cells #[.int .i64 op, .string key, .int .i64 t, .int .i64 v, .int .i64 e, .int .i64 u, .int .i64 s] 42)).alloc (Obj.cells #[.int .i64 0, .slice none 0 0] 47)).heap.size = w.heap.size + 1 + 1 := by simp
  have sz := Lib.hid s00
  clear s00
  go_enter Tryz.func57, Tryz.ntmps57
  go_upto_region 1 with fail
  generalize ((w.alloc (Obj.cells #[.int .i64 op, .string key, .int .i64 t, .int .i64 v, .int .i64 e, .int .i64 u, .int .i64 s] 42)).alloc (Obj.cells #[.int .i64 0, .slice none 0 0] 47)) = w2 at X0 Y0 K0 G0 sz ⊢
  have nF : Hid (¬ F (w.heap.size + 1)) := Lib.hid fun q => by have := hw _ q; omega
  have nX : Hid (¬ F w.heap.size) := Lib.hid fun q => by have := hw _ q; omega
  by_cases hp : puts op
  · have x1 := X0.out.cell (i := 1) rfl
    have x2 := X0.out.cell (i := 2) rfl
    have x3 := X0.out.cell (i := 3) rfl
    have x0 := X0.out.cell (i := 0) rfl
    rcases hp with rfl | rfl
    all_goals
      go_wp2_with fail
      refine (Gr.take_ok key t v mark z w2 G0 hN M B ft fk hk T).mono ?_
      rintro r w3 ⟨sv, O, S1, code, c, S', n', F', rfl, ho, hno, htk, hn', G3, V3, o3, -⟩
      have Y3 := V3.lies nF.out Y0.out
      have y0 := Y3.cell (i := 0) rfl
      have y1 := Y3.cell (i := 1) rfl
      have f0 := Y3.open_ 0
      have f1 := Y3.open_ 1
      have HH := Lib.hid (And.intro ho (And.intro hno (And.intro htk (And.intro hn' (And.intro G3 (And.intro V3 o3))))))
      clear ho hno htk hn' G3 V3 o3 x0 x1 x2 x3
      go_wp2
      obtain ⟨ho, hno, htk, hn', G3, V3, o3⟩ := HH.out
      obtain ⟨q0, q1, q2, q3, q4⟩ := asked_end K0.out sz.out nF.out hw V3 G3 Y3 (.int .i64 code) (.slice none 0 0)
      exact bodyPost_ret (v := .tuple #[rep code (.slice none 0 0), sv]) (by simp [results, Tryz.results57, go_sem, q0, q1]) rfl
        ⟨_, _, code, [], O, c, S', n', F', rfl, .inl ⟨by simp [puts], rfl, S1, ho, hno, htk⟩, hn', by simp, q2, q3, Sl.Own.nil _ _ _, q4 _ _ o3⟩
  · have r1 : (op == 1) = false := by simp [puts] at hp; simp; omega
    have r2 : (op == 2) = false := by simp [puts] at hp; simp; omega
    have HP := Lib.hid hp
    clear hp
    have x0 := X0.out.cell (i := 0) rfl
    go_wp2_with fail
    refine (Gr.settle_ok mark w2 G0 hN fz fk).mono ?_
    rintro r w3 ⟨sv, O, S', n', F', rfl, ho, hno, hlen, g3, v3, o3, -⟩
    have G3 := Lib.hid g3
    have V3 := Lib.hid v3
    have O3 := Lib.hid (And.intro ho (And.intro hno (And.intro hlen o3)))
    have Y3 := Lib.hid (v3.lies nF.out Y0.out)
    have X3 := Lib.hid (v3.lies nX.out X0.out)
    clear x0 ho hno hlen g3 v3 o3
    have x1 := X3.out.cell (i := 1) rfl
    go_wp2_with fail
    refine (Gr.panes_ok key w3 G3 hN hk).mono ?_
    rintro r w4 ⟨lv, rfl, o4, k4⟩
    have s3 := Lib.hid V3.out.size
    have G4 := Lib.hid (G3.out.next k4)
    have V4 := Lib.hid (V3.out.trans (Moves.of_below k4 G3.out.in))
    have Y4 := Lib.hid (Y3.out.next k4)
    have X4 := Lib.hid (X3.out.next k4)
    have P4 := Lib.hid (Gr.own_base o4 s3.out)
    have O4 : Hid (Sl.Own Pn.k w2.heap.size w4 sv O) := Lib.hid (O3.out.2.2.2.next k4)
    have F4 := Lib.hid (G4.out.fine hN)
    clear x1 o4 k4 Y3 X3
    have x0 := X4.out.cell (i := 0) rfl
    by_cases h4 : op = 4
    · have r4 : (op == 4) = true := by simp [h4]
      have x2 := X4.out.cell (i := 2) rfl
      have x4 := X4.out.cell (i := 4) rfl
      obtain ⟨b4, -, i4⟩ := P4.out.is
      go_wp2_with fail
      refine (only_ok lv (S' key) b4 t e w4 (Lib.hid i4) (F4.out.few key) (Lib.hid (F4.out.rises key))).mono ?_
      rintro r w5 ⟨pv, rfl, o5, k5⟩
      have Y5 := Y4.out.next k5
      have G5 := Lib.hid (G4.out.next k5)
      have V5 := Lib.hid (V4.out.trans (Moves.of_below k5 G4.out.in))
      have s5 := Lib.hid V4.out.size
      have P5 := Lib.hid (Gr.own_base o5 s5.out)
      have O5 := Lib.hid (O4.out.next k5)
      have y0 := Y5.cell (i := 0) rfl
      have y1 := Y5.cell (i := 1) rfl
      have f0 := Y5.open_ 0
      have f1 := Y5.open_ 1
      clear o5 k5 x0 x2 x4 i4
      obtain ⟨Av, nv, cv, rfl⟩ := lit P5.out
      go_wp2
      obtain ⟨q0, q1, q2, q3, q4⟩ := asked_end K0.out sz.out nF.out hw V5.out G5.out Y5 (.int .i64 0) (.slice Av nv cv)
      obtain ⟨ho, hno, hlen, -⟩ := O3.out
      exact bodyPost_ret (v := .tuple #[rep 0 (.slice Av nv cv), sv]) (by simp [results, Tryz.results57, go_sem, q0, q1]) rfl
        ⟨_, _, 0, only t e (S' key), O, 0, S', n', F', rfl, .inr ⟨HP.out, rfl, rfl, ho, hno, by simp [h4]⟩, by omega, Nat.le_trans (List.length_filter_le _ _) (F4.out.few key), q2, q3, q4 _ _ P5.out, q4 _ _ O5.out⟩
    · have r4 : (op == 4) = false := by simp [h4]
      have y0 := Y4.out.cell (i := 0) rfl
      have y1 := Y4.out.cell (i := 1) rfl
      have f0 := Y4.out.open_ 0
      have f1 := Y4.out.open_ 1
      obtain ⟨Av, nv, cv, rfl⟩ := lit P4.out
      go_wp2
      obtain ⟨q0, q1, q2, q3, q4⟩ := asked_end K0.out sz.out nF.out hw V4.out G4.out Y4.out (.int .i64 0) (.slice Av nv cv)
      obtain ⟨ho, hno, hlen, -⟩ := O3.out
      exact bodyPost_ret (v := .tuple #[rep 0 (.slice Av nv cv), sv]) (by simp [results, Tryz.results57, go_sem, q0, q1]) rfl
        ⟨_, _, 0, S' key, O, 0, S', n', F', rfl, .inr ⟨HP.out, rfl, rfl, ho, hno, by simp [h4]⟩, by omega, F4.out.few key, q2, q3, q4 _ _ P4.out, q4 _ _ O4.out⟩
end Md
end Go.Proofs.YtdnigpkdnkbfbaaGreat

namespace Go.Proofs.YtdnigpkdnkbfbaaGreat
open Go.ChangeShapes Go.WideShapes Go.ChangeAt Go.RowKit
set_option maxRecDepth 100000
namespace Out
open Small Foot
set_option linter.unusedVariables false
section
variable {F F' : Nat → Prop} {a b c w w' : World}
theorem Wr.of_below (k : Below w.heap.size w w') : Wr F w w' := ⟨k.os, k.tape, k.output, k.size, fun i hi _ => k.block i hi⟩
theorem Wr.of_moves (k : Moves F F' w w') : Wr F w w' := ⟨k.os, k.tape, k.output, k.size, k.block⟩
theorem Wr.trans (h : Wr F a b) (k : Wr F b c) : Wr F a c := ⟨k.os.trans h.os, k.tape.trans h.tape, k.output.trans h.output, Nat.le_trans h.size k.size, fun i hi hn => (k.block i (Nat.lt_of_lt_of_le hi h.size) hn).trans (h.block i hi hn)⟩
theorem Wr.more {G : Nat → Prop} (h : Wr F a b) (hG : ∀ i, F i → G i) : Wr G a b := ⟨h.os, h.tape, h.output, h.size, fun i hi hn => h.block i hi fun q => hn (hG i q)⟩
theorem Wr.set {i j : Nat} (h : Wr F a b) (u : Value) (hi : a.heap.size ≤ i) : Wr F a (b.setCell ⟨i, j, none⟩ u) :=
  ⟨h.os, h.tape, h.output, by simpa using h.size, fun k hk hn => (Below.heap_setCell b ⟨i, j, none⟩ u k (by show k ≠ i; omega)).trans (h.block k hk hn)⟩
theorem Wr.drew : Wr F w w.drew := Wr.of_below (Below.refl _ _).drew
theorem Wr.lies {g : Nat} {t : TypeId} {cs : List Value} (h : Wr F w w') (hf : ¬ F g) (l : Lies w g t cs) : Lies w' g t cs := (h.block g l.lt hf).trans l
/-- a Log is made of its block, and its list's -/
def FL (g : Nat) (v : Value) : Nat → Prop := fun k => k = g ∨ v.ownBlock = some k
theorem put_moves {g : Nat} {v v' : Value} {L X : List Pn} (H : Lg w g v L) (H' : Lg w' g v' (L ++ X)) (e : v'.ownBlock = v.ownBlock ∨ v'.ownBlock = some w.heap.size) (k : Wr (fun i => i = g ∨ v.ownBlock = some i) w w') : Moves (FL g v) (FL g v') w w' :=
  ⟨k.os, k.tape, k.output, k.size, k.block, fun i hi => by
    rcases hi with rfl | hi
    · exact ⟨.inl (.inl rfl), H'.lies.lt⟩
    · refine ⟨?_, (H'.own.lt i hi).2⟩
      rcases e with q | q
      · exact .inl (.inr (q ▸ hi))
      · rw [q] at hi
        exact .inr (Nat.le_of_eq (Option.some.inj hi))⟩
end
end Out
namespace Md
open Small Foot Pane Grp Ca
set_option linter.unusedVariables false
section
variable {w w' : World} {mo g lg N n : Nat} {Fg F : Nat → Prop} {lv : Value} {cf : C8} {S : Lists} {mark : Int} {L : List Pn} {cl : Bool}
/-- the group went on, the model's own cells, and its output, too: all of them are in w' -/
theorem went {N' n' : Nat} {Fg' : Nat → Prop} {lv' : Value} {S' : Lists} {mark' : Int} {L' : List Pn} {cl' : Bool} (h : Mq w mo g Fg lg lv cf S N n mark L cl) (k : Out.Wr (MF mo Fg lg lv) w w') (l : Lies w' mo 128 (mcl cf g lg mark' cl'))
    (G : Gr.Is w' g Fg' cf S' N' n') (hG : ∀ i, Fg' i → Fg i ∨ w.heap.size ≤ i) (O : Out.Lg w' lg lv' L') (hO : ∀ i, lv'.ownBlock = some i → (lv.ownBlock = some i ∨ w.heap.size ≤ i) ∧ ¬ Fg' i) (few : L'.length + n' ≤ N') (no : NoneOver cf.z mark' S') :
    Mq w' mo g Fg' lg lv' cf S' N' n' mark' L' cl' ∧ Moves (MF mo Fg lg lv) (MF mo Fg' lg lv') w w' := by
  have hm := h.lies.lt
  have hl := h.log.lies.lt
  refine ⟨⟨l, G, O, fun q => ?_, h.mo_l, fun q => ?_, fun q => ?_, fun a ha => (hO a ha).2, few, no⟩, k.os, k.tape, k.output, k.size, k.block, fun i hi => ?_⟩
  · rcases hG _ q with r | r
    · exact h.mo_g r
    · omega
  · rcases (hO _ q).1 with r | r
    · exact h.mo_v r
    · omega
  · rcases hG _ q with r | r
    · exact h.lg_g r
    · omega
  · rcases hi with rfl | hi | rfl | hi
    · exact ⟨.inl (.inl rfl), l.lt⟩
    · exact ⟨(hG i hi).elim (fun r => .inl (.inr (.inl r))) .inr, G.in i hi⟩
    · exact ⟨.inl (.inr (.inr (.inl rfl))), O.lies.lt⟩
    · exact ⟨(hO i hi).1.elim (fun r => .inl (.inr (.inr (.inr r)))) .inr, (O.own.lt i hi).2⟩
/-- what was put into the output is none of the group's -/
theorem log_end {w5 w6 : World} {g lg N n' B : Nat} {Fg Fg' : Nat → Prop} {lv v' : Value} {cf : C8} {S' : Lists} (hG : ∀ i, Fg' i → Fg i ∨ B ≤ i) (G5 : Gr.Is w5 g Fg' cf S' N n') (hl : lg < B) (hv : ∀ a, lv.ownBlock = some a → a < B) (hB : B ≤ w5.heap.size)
    (n1 : ¬ Fg lg) (n2 : ∀ a, lv.ownBlock = some a → ¬ Fg a) (k6 : Out.Wr (fun i => i = lg ∨ lv.ownBlock = some i) w5 w6) (e6 : v'.ownBlock = lv.ownBlock ∨ v'.ownBlock = some w5.heap.size) :
    Gr.Is w6 g Fg' cf S' N n' ∧ ∀ i, v'.ownBlock = some i → (lv.ownBlock = some i ∨ B ≤ i) ∧ ¬ Fg' i := by
  have no : ∀ i, Fg' i → ¬ (i = lg ∨ lv.ownBlock = some i) := fun i hi q => by
    rcases q with rfl | q
    · rcases hG _ hi with r | r
      · exact n1 r
      · omega
    · have := hv _ q
      rcases hG _ hi with r | r
      · exact n2 _ q r
      · omega
  refine ⟨G5.keep (fun i hi => k6.block i (G5.in i hi) (no i hi)) k6.size, fun i hi => ?_⟩
  rcases e6 with e | e
  · rw [e] at hi
    exact ⟨.inl hi, fun q => no i q (.inr hi)⟩
  · rw [e] at hi
    have := Option.some.inj hi
    exact ⟨.inr (by omega), fun q => by have := G5.in _ q; omega⟩
end

set_option maxHeartbeats 8000000 in
theorem change_up {mo g lg N n : Nat} {Fg : Nat → Prop} {lv : Value} {cf : C8} {S : Lists} {mark : Int} {L : List Pn} {cl : Bool} (x : Cl) (w : World) (H : Hid (Mq w mo g Fg lg lv cf S N n mark L cl)) (hN : N ≤ 8880) (fz : Hid ((Lit.int .i64 cf.z).wf = true)) (ft : Hid ((Lit.int .i64 x.t).wf = true)) (ho : x.op = 3) :
    Calls Tryz.prog 59 #[gp mo, x.val] w fun r w' => r = .returned (.tuple #[]) ∧ ∃ O S' n' Fg' lv', Outs cf.z x.t S O S' ∧ NoneOver cf.z x.t S' ∧ Mq w' mo g Fg' lg lv' cf S' N n' x.t (L ++ O) cl ∧ Moves (MF mo Fg lg lv) (MF mo Fg' lg lv') w w' := by
  obtain ⟨op, key, t, v, e, u, s⟩ := x
  dsimp only at ho ⊢
  subst ho
  have hw := Lib.hid H.out.in
  have X0 := Lib.hid (Lies.new w 42 [.int .i64 3, .string key, .int .i64 t, .int .i64 v, .int .i64 e, .int .i64 u, .int .i64 s])
  have K0 := Lib.hid (below1 w (Obj.cells #[.int .i64 3, .string key, .int .i64 t, .int .i64 v, .int .i64 e, .int .i64 u, .int .i64 s] 42))
  go_enter Tryz.func59, Tryz.ntmps59
  go_upto_region 1 with fail
  have M1 := Lib.hid (H.out.next K0.out)
  generalize w.alloc (Obj.cells #[.int .i64 3, .string key, .int .i64 t, .int .i64 v, .int .i64 e, .int .i64 u, .int .i64 s] 42) = w1 at X0 K0 M1 ⊢
  have x0 := X0.out.cell (i := 0) rfl
  have x2 := X0.out.cell (i := 2) rfl
  have m9 := M1.out.lies.cell (i := 9) rfl
  have f9 := M1.out.lies.open_ 9
  go_upto_region 4 with fail
  have L4 := Lib.hid (M1.out.lies.put 9 (.int .i64 t))
  have k4 : w1.grownBy (w1.setCell ⟨mo, 9, none⟩ (.int .i64 t)) (some mo) := ⟨rfl, rfl, rfl, by simp, fun i hi hn => Below.heap_setCell _ _ _ _ fun e => hn (by rw [e])⟩
  have G4 := Lib.hid (M1.out.grp.grown k4 M1.out.mo_g)
  have O4 : Hid (Out.Lg (w1.setCell ⟨mo, 9, none⟩ (.int .i64 t)) lg lv L) := Lib.hid ⟨(k4.block lg M1.out.log.lies.lt fun e => M1.out.mo_l (Option.some.inj e).symm).trans M1.out.log.lies, M1.out.log.own.move fun a ha => k4.block a (M1.out.log.own.lt a ha).2 fun e => M1.out.mo_v (by rw [ha, e])⟩
  have K4 : Hid (Out.Wr (MF mo Fg lg lv) w (w1.setCell ⟨mo, 9, none⟩ (.int .i64 t))) := Lib.hid ((Out.Wr.of_below K0.out).trans ⟨k4.os, k4.tape, k4.output, k4.size, fun i hi hn => k4.block i hi fun e => hn (.inl (Option.some.inj e))⟩)
  clear k4 x0 x2 m9 f9 X0
  generalize w1.setCell ⟨mo, 9, none⟩ (.int .i64 t) = w4 at L4 G4 O4 K4 ⊢
  obtain ⟨D, hD⟩ : ∃ D : Nat → Prop, D = fun i => Fg i ∨ i = lg ∨ lv.ownBlock = some i := ⟨_, rfl⟩
  have hD := Lib.hid hD
  have nD : Hid (¬ D mo) := Lib.hid (by rw [hD.out]; rintro (q | q | q); exact H.out.mo_g q; exact H.out.mo_l q; exact H.out.mo_v q)
  have CS : Hid (∀ w', Out.Wr D w4 w' → (w'.cell? ⟨mo, 8, none⟩ = some (gp g) ∧ w'.cell? ⟨mo, 9, none⟩ = some (.int .i64 t) ∧ w'.cell? ⟨mo, 10, none⟩ = some (gp lg)) ∧ Out.Wr D w4 w') := Lib.hid fun w' hB => ⟨⟨(hB.lies nD.out L4.out).cell (i := 8) rfl, (hB.lies nD.out L4.out).cell (i := 9) rfl, (hB.lies nD.out L4.out).cell (i := 10) rfl⟩, hB⟩
  have CB : Hid (∀ w', (w'.cell? ⟨mo, 8, none⟩ = some (gp g) ∧ w'.cell? ⟨mo, 9, none⟩ = some (.int .i64 t) ∧ w'.cell? ⟨mo, 10, none⟩ = some (gp lg)) ∧ Out.Wr D w4 w' → Out.Wr D w4 w') := Lib.hid fun w' h => h.2
  have D1 : Hid (∀ i, Fg i → D i) := Lib.hid fun i h => by rw [hD.out]; exact .inl h
  have D2 : Hid (∀ i, (i = lg ∨ lv.ownBlock = some i) → D i) := Lib.hid fun i h => by rw [hD.out]; exact .inr h
  have N1 : Hid (¬ Fg lg ∧ ∀ a, lv.ownBlock = some a → ¬ Fg a) := Lib.hid ⟨H.out.lg_g, H.out.lv_g⟩
  have hfew := Lib.hid H.out.few
  go_region_held3 (fun w' => (w'.cell? ⟨mo, 8, none⟩ = some (gp g) ∧ w'.cell? ⟨mo, 9, none⟩ = some (.int .i64 t) ∧ w'.cell? ⟨mo, 10, none⟩ = some (gp lg)) ∧ Out.Wr D w4 w')
    (first | exact CS.out _ Out.Wr.drew | exact CS.out _ (Out.Wr.trans Out.Wr.drew (Out.Wr.more (Out.Wr.of_moves V5) D1.out)) | exact CS.out _ (Out.Wr.trans (CB.out _ (by assumption)) (Out.Wr.more k6 D2.out)))
    (first
      | (go_at_call 81; refine (Gr.settle_ok t _ (Lib.hid (G4.out.next (Below.refl _ _).drew)) hN fz ft).mono ?_; rintro r w5 ⟨sv, O, S', n', Fg', rfl, ho, hno, hlen, G5, V5, o5, -⟩)
      | (go_at_call 58; refine (Out.put_ok lg lv sv L O w5 (Lib.hid (O4.out.keep (Out.Wr.trans Out.Wr.drew (Out.Wr.of_moves V5)) N1.out.1 N1.out.2)) (Lib.hid (Out.Rd.own o5)) (by have := hfew.out; omega)).mono ?_; rintro r w6 ⟨v', rfl, L6, e6, k6⟩))
  have WD := CB.out _ (by assumption)
  have s4 : w.heap.size ≤ w4.heap.size := K4.out.size
  have s5 : w4.heap.size ≤ w5.heap.size := V5.size
  have hl := O4.out.lies.lt
  obtain ⟨G6, q6⟩ := log_end (B := w4.heap.size) (fun i hi => (V5.new i hi).1) G5 hl (fun a ha => (O4.out.own.lt a ha).2) s5 N1.out.1 N1.out.2 k6 e6
  have KK : Out.Wr (MF mo Fg lg lv) w w6 := K4.out.trans (WD.more fun i hi => by rw [hD.out] at hi; exact .inr hi)
  obtain ⟨M6, V6⟩ := went H.out KK (WD.lies nD.out L4.out) G6 (fun i hi => ((V5.new i hi).1).imp id fun r => Nat.le_trans s4 r) L6 (fun i hi => ⟨(q6 i hi).1.imp id fun r => Nat.le_trans s4 r, (q6 i hi).2⟩) (by rw [List.length_append]; have := hfew.out; omega) hno
  clear CS CB D1 D2 hD nD
  go_wp2
  go_end0
  exact ⟨rfl, O, S', n', Fg', v', ho, hno, M6, V6⟩

set_option maxHeartbeats 4000000 in
theorem change_same {mo g lg N n : Nat} {Fg : Nat → Prop} {lv : Value} {cf : C8} {S : Lists} {mark : Int} {L : List Pn} {cl : Bool} (x : Cl) (w : World) (H : Hid (Mq w mo g Fg lg lv cf S N n mark L cl)) (h3 : x.op ≠ 3) (h7 : x.op ≠ 7) :
    Calls Tryz.prog 59 #[gp mo, x.val] w fun r w' => r = .returned (.tuple #[]) ∧ Below w.heap.size w w' := by
  obtain ⟨op, key, t, v, e, u, s⟩ := x
  dsimp only at h3 h7 ⊢
  have r3 : (op == 3) = false := by simp [h3]
  have r7 : (op == 7) = false := by simp [h7]
  go_enter Tryz.func59, Tryz.ntmps59
  go_wp2
  go_end0
  exact ⟨rfl, below1 _ _⟩
set_option maxHeartbeats 4000000 in
theorem change_shut {mo g lg N n : Nat} {Fg : Nat → Prop} {lv : Value} {cf : C8} {S : Lists} {mark : Int} {L : List Pn} {cl : Bool} (x : Cl) (w : World) (H : Hid (Mq w mo g Fg lg lv cf S N n mark L cl)) (h7 : x.op = 7) :
    Calls Tryz.prog 59 #[gp mo, x.val] w fun r w' => r = .returned (.tuple #[]) ∧ Mq w' mo g Fg lg lv cf S N n mark L true ∧ Moves (MF mo Fg lg lv) (MF mo Fg lg lv) w w' := by
  obtain ⟨op, key, t, v, e, u, s⟩ := x
  dsimp only at h7 ⊢
  subst h7
  have K0 := below1 w (Obj.cells #[.int .i64 7, .string key, .int .i64 t, .int .i64 v, .int .i64 e, .int .i64 u, .int .i64 s] 42)
  have M1 := Lib.hid (H.out.next K0)
  have m11 := M1.out.lies.cell (i := 11) rfl
  have f11 := M1.out.lies.open_ 11
  have K0 := Lib.hid K0
  go_enter Tryz.func59, Tryz.ntmps59
  go_wp2
  go_end0
  generalize w.alloc (Obj.cells #[.int .i64 7, .string key, .int .i64 t, .int .i64 v, .int .i64 e, .int .i64 u, .int .i64 s] 42) = w1 at K0 M1 ⊢
  have k4 : w1.grownBy (w1.setCell ⟨mo, 11, none⟩ (.bool true)) (some mo) := ⟨rfl, rfl, rfl, by simp, fun i hi hn => Below.heap_setCell _ _ _ _ fun e => hn (by rw [e])⟩
  refine ⟨rfl, ?_⟩
  have KK : Out.Wr (MF mo Fg lg lv) w (w1.setCell ⟨mo, 11, none⟩ (.bool true)) := (Out.Wr.of_below K0.out).trans ⟨k4.os, k4.tape, k4.output, k4.size, fun i hi hn => k4.block i hi fun e => hn (.inl (Option.some.inj e))⟩
  exact went H.out KK (M1.out.lies.put 11 (.bool true)) (M1.out.grp.grown k4 M1.out.mo_g) (fun i hi => .inl hi) ⟨(k4.block lg M1.out.log.lies.lt fun e => M1.out.mo_l (Option.some.inj e).symm).trans M1.out.log.lies, M1.out.log.own.move fun a ha => k4.block a (M1.out.log.own.lt a ha).2 fun e => M1.out.mo_v (by rw [ha, e])⟩
    (fun i hi => ⟨.inl hi, M1.out.lv_g i hi⟩) M1.out.few M1.out.over
theorem drewN_below (w : World) (n : Nat) : Below w.heap.size w (w.drewN n) := by
  induction n with
  | zero => exact Below.refl _ _
  | succ n ih => exact ih.drew
theorem box_kept {w5 w9 : World} {Fg Fg' : Nat → Prop} (V9 : Moves Fg Fg' (w5.drew.alloc (Obj.cells #[.int .i64 0, .slice none 0 0] 47)) w9) (hF : In w5 Fg) :
    w9.cell? ⟨w5.heap.size, 0, none⟩ = some (.int .i64 0) ∧ w9.cell? ⟨w5.heap.size, 1, none⟩ = some (.slice none 0 0) ∧ w9.frozen? ⟨w5.heap.size, 0, none⟩ = false ∧ w9.frozen? ⟨w5.heap.size, 1, none⟩ = false := by
  have l : Lies w9 w5.heap.size 47 [.int .i64 0, .slice none 0 0] := V9.lies (fun q => by have := hF _ q; omega) (Lies.new w5.drew 47 [.int .i64 0, .slice none 0 0])
  exact ⟨l.cell (i := 0) rfl, l.cell (i := 1) rfl, l.open_ 0, l.open_ 1⟩
/-- what lies behind a keyed call of a model, ahead of the output: the reply's box b, the group, what is told -/
def KP (w5 W : World) (b g N n : Nat) (Fg Fg' : Nat → Prop) (cf : C8) (S' : Lists) (code : Int) (rv ov : Value) (P O : List Pn) : Prop :=
  W.cell? ⟨b, 0, none⟩ = some (.int .i64 code) ∧ W.cell? ⟨b, 1, none⟩ = some rv ∧ Gr.Is W g Fg' cf S' N n ∧ Sl.Own Pn.k w5.heap.size W rv P ∧ Sl.Own Pn.k w5.heap.size W ov O ∧ Out.Wr Fg w5 W ∧ ∀ i, Fg' i → Fg i ∨ w5.heap.size ≤ i
section
variable {w5 w9 : World} {g N n : Nat} {Fg Fg' : Nat → Prop} {cf : C8} {S' : Lists} {code : Int} {rv ov : Value} {P O : List Pn}
theorem pack1 (V9 : Moves Fg Fg' (w5.drew.alloc (Obj.cells #[.int .i64 0, .slice none 0 0] 47)) w9) (hF : In w5 Fg) (G9 : Gr.Is w9 g Fg' cf S' N n)
    (o9 : Sl.Own Pn.k (w5.drew.alloc (Obj.cells #[.int .i64 0, .slice none 0 0] 47)).heap.size w9 rv P) (oo9 : Sl.Own Pn.k (w5.drew.alloc (Obj.cells #[.int .i64 0, .slice none 0 0] 47)).heap.size w9 ov O) :
    KP w5 ((w9.setCell ⟨w5.heap.size, 0, none⟩ (.int .i64 code)).setCell ⟨w5.heap.size, 1, none⟩ rv) w5.heap.size g N n Fg Fg' cf S' code rv ov P O := by
  have sz : (w5.drew.alloc (Obj.cells #[.int .i64 0, .slice none 0 0] 47)).heap.size = w5.heap.size + 1 := by
    have : w5.drew.heap.size = w5.heap.size := rfl
    simp [this]
  have l : Lies w9 w5.heap.size 47 [.int .i64 0, .slice none 0 0] := V9.lies (fun q => by have := hF _ q; omega) (Lies.new w5.drew 47 [.int .i64 0, .slice none 0 0])
  have Z := (l.put 0 (.int .i64 code)).put 1 rv
  have k := put_two (w := w9) (gy := w5.heap.size) (a := rv) (b := rv) (.int .i64 code) rv
  have nF' : ¬ Fg' w5.heap.size := fun q => by
    rcases (V9.new _ q).1 with r | r
    · have := hF _ r; omega
    · omega
  have kb : Below w5.heap.size w5 (w5.drew.alloc (Obj.cells #[.int .i64 0, .slice none 0 0] 47)) := after (Below.refl _ _).drew (below1 _ _)
  refine ⟨Z.cell (i := 0) rfl, Z.cell (i := 1) rfl, G9.grown k nF', Gr.own_base (Gr.own_grown o9 k (by omega)) (by omega), Gr.own_base (Gr.own_grown oo9 k (by omega)) (by omega), ?_, fun i hi => ((V9.new i hi).1).imp id fun r => by omega⟩
  exact Out.Wr.set (Out.Wr.set ((Out.Wr.of_below kb).trans (Out.Wr.of_moves V9)) _ (Nat.le_refl _)) _ (Nat.le_refl _)
theorem pack2 (V9 : Moves Fg Fg' w5.drew w9) (hF : In w5 Fg) (G9 : Gr.Is w9 g Fg' cf S' N n) (o9 : Sl.Own Pn.k w5.drew.heap.size w9 rv P) (oo9 : Sl.Own Pn.k w5.drew.heap.size w9 ov O) :
    KP w5 (w9.alloc (Obj.cells #[.int .i64 code, rv] 47)) w9.heap.size g N n Fg Fg' cf S' code rv ov P O := by
  have k := below1 w9 (Obj.cells #[.int .i64 code, rv] 47)
  have l := Lies.new w9 47 [.int .i64 code, rv]
  exact ⟨l.cell (i := 0) rfl, l.cell (i := 1) rfl, G9.next k, o9.next k, oo9.next k, (Out.Wr.drew.trans (Out.Wr.of_moves V9)).trans (Out.Wr.of_below k), fun i hi => (V9.new i hi).1⟩
end
theorem Is.grown {w w' : World} {mo N b : Nat} {F : Nat → Prop} {cf : C8} {S : Lists} {mark : Int} {L : List Pn} {cl : Bool} (h : Is w mo F cf S N mark L cl) (k : w.grownBy w' (some b)) (hb : ¬ F b) : Is w' mo F cf S N mark L cl := h.keep (fun i hi => k.block i (h.in i hi) fun e => hb (Option.some.inj e ▸ hi)) k.size
theorem do_end {w w2 w3 : World} {mo N' : Nat} {F F' : Nat → Prop} {cf : C8} {S' : Lists} {mark' : Int} {L' : List Pn} {cl' : Bool} {a b : Value} (K0 : Below w.heap.size w w2) (sz : w2.heap.size = w.heap.size + 1 + 1) (hw : In w F) (V3 : Moves F F' w2 w3) (H : Is w3 mo F' cf S' N' mark' L' cl')
    (y : Lies w3 (w.heap.size + 1) 47 [a, b]) (u v : Value) :
    ((w3.setCell ⟨w.heap.size + 1, 0, none⟩ u).setCell ⟨w.heap.size + 1, 1, none⟩ v).cell? ⟨w.heap.size + 1, 0, none⟩ = some u ∧ ((w3.setCell ⟨w.heap.size + 1, 0, none⟩ u).setCell ⟨w.heap.size + 1, 1, none⟩ v).cell? ⟨w.heap.size + 1, 1, none⟩ = some v ∧
    Is ((w3.setCell ⟨w.heap.size + 1, 0, none⟩ u).setCell ⟨w.heap.size + 1, 1, none⟩ v) mo F' cf S' N' mark' L' cl' ∧ Moves F F' w ((w3.setCell ⟨w.heap.size + 1, 0, none⟩ u).setCell ⟨w.heap.size + 1, 1, none⟩ v) ∧
    ∀ (p : Value) (L : List Pn), Sl.Own Pn.k w2.heap.size w3 p L → Sl.Own Pn.k w.heap.size ((w3.setCell ⟨w.heap.size + 1, 0, none⟩ u).setCell ⟨w.heap.size + 1, 1, none⟩ v) p L := by
  have Z := (y.put 0 u).put 1 v
  have k := put_two (w := w3) (gy := w.heap.size + 1) (a := u) (b := v) u v
  have nF' : ¬ F' (w.heap.size + 1) := fun q => by
    rcases (V3.new _ q).1 with r | r
    · have := hw _ r; omega
    · omega
  have V := (Moves.of_below K0 hw).trans V3
  exact ⟨Z.cell (i := 0) rfl, Z.cell (i := 1) rfl, H.grown k nF', moves_grown V k (fun b e => by have := Option.some.inj e; omega), fun p L o => Gr.own_base (Gr.own_grown o k (by omega)) (by omega)⟩

/-- what a call comes to: a code, panes, how many windows had the record, all panes behind it, the watermark, the output, whether it is closed -/
inductive MDid (cf : C8) (S : Lists) (mark : Int) (L : List Pn) (cl : Bool) (x : Cl) (z : Option (Nat × Int × Int × Int)) : Int → List Pn → Nat → Lists → Int → List Pn → Bool → Prop
  | bad (h : ¬ mayC (cfOf cf) x) : MDid cf S mark L cl x z 6 [] 0 S mark L cl
  | closed (h : mayC (cfOf cf) x) (hc : cl = true) : MDid cf S mark L cl x z 3 [] 0 S mark L cl
  | stale (h : mayC (cfOf cf) x) (hc : cl = false) (ho : x.op = 3) (ht : x.t ≤ mark) : MDid cf S mark L cl x z 5 [] 0 S mark L cl
  | put (h : mayC (cfOf cf) x) (hc : cl = false) (ho : puts x.op) {code : Int} {c : Nat} {S' : Lists} (tk : Taken cf.k x.key x.v cf.z mark z S code c S') : MDid cf S mark L cl x z code [] c S' mark L cl
  | up (h : mayC (cfOf cf) x) (hc : cl = false) (ho : x.op = 3) (ht : mark < x.t) {O : List Pn} {S' : Lists} (o : Outs cf.z x.t S O S') (no : NoneOver cf.z x.t S') : MDid cf S mark L cl x z 0 [] 0 S' x.t (L ++ O) cl
  | query (h : mayC (cfOf cf) x) (hc : cl = false) (ho : x.op = 4 ∨ x.op = 5) : MDid cf S mark L cl x z 0 (if x.op = 4 then only x.t x.e (S x.key) else S x.key) 0 S mark L cl
  | still (h : mayC (cfOf cf) x) (hc : cl = false) (ho : x.op = 6) : MDid cf S mark L cl x z 0 [] 0 S mark L cl
  | shut (h : mayC (cfOf cf) x) (hc : cl = false) (ho : x.op = 7) : MDid cf S mark L cl x z 0 [] 0 S mark L true
theorem asked_did {cf : C8} {S S' : Lists} {mark : Int} {L P O : List Pn} {x : Cl} {z : Option (Nat × Int × Int × Int)} {code : Int} {c N : Nat} (h : MAsked cf S mark x z code P O c S') (no : NoneOver cf.z mark S) (hm : mayC (cfOf cf) x) (hk : kd x.op = true) (ok : Ok cf.k S N) (hN : N ≤ 8880)
    (t0 : -9223372036854775808 ≤ x.t) (M : Asg.may cf.k cf.s cf.l cf.g cf.z cf.h cf.r cf.c) (B : cf.s ≤ 9223372036854775807 ∧ cf.l ≤ 9223372036854775807 ∧ cf.g ≤ 9223372036854775807 ∧ cf.z ≤ 9223372036854775807) (T : Asg.Told cf.k cf.s cf.l cf.g cf.z x.t z) : O = [] ∧ MDid cf S mark L false x z code P c S' mark L false ∧ NoneOver cf.z mark S' := by
  rcases h with ⟨hp, rfl, S1, ho, hn, tk⟩ | ⟨hp, rfl, rfl, ho, hn, rfl⟩
  · obtain ⟨rfl, rfl⟩ := Gr.outs_none ho no
    exact ⟨rfl, .put hm rfl hp tk, Gr.taken_over tk (Gr.told16 M t0 B.1 B.2.2.1 T) ok hN no⟩
  · obtain ⟨rfl, rfl⟩ := Gr.outs_none ho no
    refine ⟨rfl, .query hm rfl ?_, no⟩
    simp only [kd, decide_eq_true_eq] at hk
    simp only [puts] at hp
    omega
def Did (w : World) (mo : Nat) (F : Nat → Prop) (cf : C8) (S : Lists) (N : Nat) (mark : Int) (L : List Pn) (cl : Bool) (x : Cl) (z : Option (Nat × Int × Int × Int)) (r : Ending) (w' : World) : Prop :=
  ∃ rv code P c S' mark' L' cl' F', r = .returned (rep code rv) ∧ MDid cf S mark L cl x z code P c S' mark' L' cl' ∧ P.length ≤ 9000 ∧ Is w' mo F' cf S' (N + c) mark' L' cl' ∧ Moves F F' w w' ∧ Sl.Own Pn.k w.heap.size w' rv P

set_option maxHeartbeats 16000000 in
theorem do_ok {mo N : Nat} {F : Nat → Prop} {cf : C8} {S : Lists} {mark : Int} {L : List Pn} {cl : Bool} (x : Cl) (z : Option (Nat × Int × Int × Int)) (w : World) (H : Hid (Is w mo F cf S N mark L cl)) (hN : N ≤ 8880) (M : Hid (Asg.may cf.k cf.s cf.l cf.g cf.z cf.h cf.r cf.c)) (hc : Hid (cfOf cf).Fit) (hx : Hid x.Fit)
    (hk : x.key.size ≤ maxLen) (fk : Hid ((Lit.int .i64 mark).wf = true)) (T : Hid (Asg.Told cf.k cf.s cf.l cf.g cf.z x.t z)) :
    Calls Tryz.prog 25 #[gp mo, x.val] w (Did w mo F cf S N mark L cl x z) := by
  have fz : Hid ((Lit.int .i64 cf.z).wf = true) := Lib.hid hc.out.2.2.2.2.1
  have B : Hid (cf.s ≤ 9223372036854775807 ∧ cf.l ≤ 9223372036854775807 ∧ cf.g ≤ 9223372036854775807 ∧ cf.z ≤ 9223372036854775807) := Lib.hid ⟨(fit hc.out.2.1).2, (fit hc.out.2.2.1).2, (fit hc.out.2.2.2.1).2, (fit hc.out.2.2.2.2.1).2⟩
  obtain ⟨m, hm⟩ : ∃ m : Bool, m = true ↔ mayC (cfOf cf) x := by classical exact ⟨decide (mayC (cfOf cf) x), by simp⟩
  have M1 := Lib.hid fun w => Ca.may_ok (cfOf cf) x w m (Lib.hid hm) hc.out hx.out
  have HM := Lib.hid hm
  have KD := Lib.hid fun w => Ca.keyed_ok x w
  obtain ⟨g, Fg, lg, lv, n, q, hF⟩ := H.out
  obtain rfl : F = MF mo Fg lg lv := funext fun k => propext (hF k)
  have Q := Lib.hid q
  have ft : Hid ((Lit.int .i64 x.t).wf = true) := Lib.hid hx.out.2.2.1
  clear hF hm H q
  have hw := Lib.hid Q.out.in
  obtain ⟨op, key, t, v, e, u, s⟩ := x
  dsimp only at *
  have X0 := Lib.hid ((Lies.new w 42 [.int .i64 op, .string key, .int .i64 t, .int .i64 v, .int .i64 e, .int .i64 u, .int .i64 s]).next (below1 _ (Obj.cells #[.int .i64 0, .slice none 0 0] 47)))
  have y00 := Lies.new (w.alloc (Obj.cells #[.int .i64 op, .string key, .int .i64 t, .int .i64 v, .int .i64 e, .int .i64 u, .int .i64 s] 42)) 47 [.int .i64 0, .slice none 0 0]
  simp only [World.size_alloc] at y00
  have Y0 := Lib.hid y00
  clear y00
  have k00 := below2 w (Obj.cells #[.int .i64 op, .string key, .int .i64 t, .int .i64 v, .int .i64 e, .int .i64 u, .int .i64 s] 42) (Obj.cells #[.int .i64 0, .slice none 0 0] 47)
  have Q0 := Lib.hid (Q.out.next k00)
  have K0 := Lib.hid k00
  clear k00
  have s00 : ((w.alloc (Obj.cells #[.int .i64 op, .string key, .int .i64 t, .int .i64 v, .int .i64 e, .int .i64 u, .int .i64 s] 42)).alloc (Obj.cells #[.int .i64 0, .slice none 0 0] 47)).heap.size = w.heap.size + 1 + 1 := by simp
  have sz := Lib.hid s00
  clear s00
  go_enter Tryz.func25, Tryz.ntmps25
  go_upto_region 1 with fail
  generalize ((w.alloc (Obj.cells #[.int .i64 op, .string key, .int .i64 t, .int .i64 v, .int .i64 e, .int .i64 u, .int .i64 s] 42)).alloc (Obj.cells #[.int .i64 0, .slice none 0 0] 47)) = w2 at X0 Y0 K0 Q0 sz ⊢
  have c0 := Later.cell (Q0.out.lies.cell (i := 0) rfl)
  have c1 := Later.cell (Q0.out.lies.cell (i := 1) rfl)
  have c2 := Later.cell (Q0.out.lies.cell (i := 2) rfl)
  have c3 := Later.cell (Q0.out.lies.cell (i := 3) rfl)
  have c4 := Later.cell (Q0.out.lies.cell (i := 4) rfl)
  have c5 := Later.cell (Q0.out.lies.cell (i := 5) rfl)
  have c6 := Later.cell (Q0.out.lies.cell (i := 6) rfl)
  have c7 := Later.cell (Q0.out.lies.cell (i := 7) rfl)
  have d0 := Later.cell (X0.out.cell (i := 0) rfl)
  have d1 := Later.cell (X0.out.cell (i := 1) rfl)
  have d2 := Later.cell (X0.out.cell (i := 2) rfl)
  have d3 := Later.cell (X0.out.cell (i := 3) rfl)
  have d4 := Later.cell (X0.out.cell (i := 4) rfl)
  have d5 := Later.cell (X0.out.cell (i := 5) rfl)
  have d6 := Later.cell (X0.out.cell (i := 6) rfl)
  refine wp_region_later (by kernel_rfl) (by kernel_rfl) ?_
  repeat (go_big_quiet_step (first
    | (go_at_call 26; with_reducible exact Later.call _ (M1.out _))))
  refine wpQuiet_nil ?_
  rintro _ ⟨u3, rfl⟩
  have B3 := u3.below
  have X3 := Lib.hid (X0.out.next B3)
  have Y3 := Lib.hid (Y0.out.next B3)
  have Q3 := Lib.hid (Q0.out.next B3)
  have K3 := Lib.hid (B3)
  clear c0 c1 c2 c3 c4 c5 c6 c7 d0 d1 d2 d3 d4 d5 d6 B3 X0 Y0
  generalize u3.w = w3 at X3 Y3 Q3 K3 ⊢
  cases m with
  | false =>
    have NM : ¬ mayC (cfOf cf) ⟨op, key, t, v, e, u, s⟩ := by have := HM.out; simpa using this
    have y0 := Y3.out.cell (i := 0) rfl
    have y1 := Y3.out.cell (i := 1) rfl
    have f0 := Y3.out.open_ 0
    have f1 := Y3.out.open_ 1
    go_wp2
    obtain ⟨q0, q1, q2, q3, q4⟩ := do_end K0.out sz.out hw.out (Moves.of_below K3.out Q0.out.in) (⟨g, Fg, lg, lv, n, Q3.out, fun _ => Iff.rfl⟩ : Is _ mo (MF mo Fg lg lv) cf S N mark L cl) Y3.out (.int .i64 6) (.slice none 0 0)
    exact bodyPost_ret (v := rep 6 (.slice none 0 0)) (by simp [results, Tryz.results25, go_sem, q0, q1]) rfl
      ⟨_, 6, [], 0, _, _, _, _, _, rfl, .bad NM, by simp, q2, q3, Sl.Own.nil _ _ _⟩
  | true =>
    have MC : Hid (mayC (cfOf cf) ⟨op, key, t, v, e, u, s⟩) := Lib.hid (HM.out.1 rfl)
    have m11 := Q3.out.lies.cell (i := 11) rfl
    cases cl with
    | true =>
      have y0 := Y3.out.cell (i := 0) rfl
      have y1 := Y3.out.cell (i := 1) rfl
      have f0 := Y3.out.open_ 0
      have f1 := Y3.out.open_ 1
      go_wp2
      obtain ⟨q0, q1, q2, q3, q4⟩ := do_end K0.out sz.out hw.out (Moves.of_below K3.out Q0.out.in) (⟨g, Fg, lg, lv, n, Q3.out, fun _ => Iff.rfl⟩ : Is _ mo (MF mo Fg lg lv) cf S N mark L true) Y3.out (.int .i64 3) (.slice none 0 0)
      exact bodyPost_ret (v := rep 3 (.slice none 0 0)) (by simp [results, Tryz.results25, go_sem, q0, q1]) rfl
        ⟨_, 3, [], 0, _, _, _, _, _, rfl, .closed MC.out rfl, by simp, q2, q3, Sl.Own.nil _ _ _⟩
    | false =>
      have x0 := X3.out.cell (i := 0) rfl
      have x2 := X3.out.cell (i := 2) rfl
      have m9 := Q3.out.lies.cell (i := 9) rfl
      by_cases h3 : op = 3
      · subst h3
        by_cases ht : t ≤ mark
        · have dt : decide (t ≤ mark) = true := decide_eq_true ht
          have HT := Lib.hid ht
          clear ht
          go_wp2_with fail
          go_quiet (fail)
          have B4 := drewN_below w3 nq
          have X4 := Lib.hid (X3.out.next B4)
          have Y4 := Lib.hid (Y3.out.next B4)
          have Q4 := Lib.hid (Q3.out.next B4)
          have K4 := Lib.hid (after K3.out B4)
          clear B4 x0 x2 m9 m11 X3 Y3 Q3 K3
          generalize w3.drewN nq = w4 at X4 Y4 Q4 K4 ⊢
          have y0 := Y4.out.cell (i := 0) rfl
          have y1 := Y4.out.cell (i := 1) rfl
          have f0 := Y4.out.open_ 0
          have f1 := Y4.out.open_ 1
          go_wp2
          obtain ⟨q0, q1, q2, q3, q4⟩ := do_end K0.out sz.out hw.out (Moves.of_below K4.out Q0.out.in) (⟨g, Fg, lg, lv, n, Q4.out, fun _ => Iff.rfl⟩ : Is _ mo (MF mo Fg lg lv) cf S N mark L false) Y4.out (.int .i64 5) (.slice none 0 0)
          exact bodyPost_ret (v := rep 5 (.slice none 0 0)) (by simp [results, Tryz.results25, go_sem, q0, q1]) rfl
            ⟨_, 5, [], 0, _, _, _, _, _, rfl, .stale MC.out rfl rfl HT.out, by simp, q2, q3, Sl.Own.nil _ _ _⟩
        · have dt : decide (t ≤ mark) = false := decide_eq_false ht
          have HT : Hid (mark < t) := Lib.hid (by omega)
          clear ht
          go_wp2_with fail
          go_quiet (fail)
          have B4 := drewN_below w3 nq
          have X4 := Lib.hid (X3.out.next B4)
          have Y4 := Lib.hid (Y3.out.next B4)
          have Q4 := Lib.hid (Q3.out.next B4)
          have K4 := Lib.hid (after K3.out B4)
          clear B4 x0 x2 m9 m11 X3 Y3 Q3 K3
          generalize w3.drewN nq = w4 at X4 Y4 Q4 K4 ⊢
          have x0 := X4.out.cell (i := 0) rfl
          have x1 := X4.out.cell (i := 1) rfl
          have x2 := X4.out.cell (i := 2) rfl
          have x3 := X4.out.cell (i := 3) rfl
          have x4 := X4.out.cell (i := 4) rfl
          have x5 := X4.out.cell (i := 5) rfl
          have x6 := X4.out.cell (i := 6) rfl
          go_wp2_with fail
          refine (KD.out _).mono ?_
          rintro r w5 ⟨rfl, k5⟩
          rw [show kd 3 = false from rfl]
          have X5 := Lib.hid (X4.out.next k5)
          have Y5 := Lib.hid (Y4.out.next k5)
          have Q5 := Lib.hid (Q4.out.next k5)
          have K5 := Lib.hid (after K4.out k5)
          clear k5 x0 x1 x2 x3 x4 x5 x6 X4 Y4 Q4 K4
          have x0 := X5.out.cell (i := 0) rfl
          have x1 := X5.out.cell (i := 1) rfl
          have x2 := X5.out.cell (i := 2) rfl
          have x3 := X5.out.cell (i := 3) rfl
          have x4 := X5.out.cell (i := 4) rfl
          have x5 := X5.out.cell (i := 5) rfl
          have x6 := X5.out.cell (i := 6) rfl
          go_wp2_with fail
          refine (change_up ⟨3, key, t, v, e, u, s⟩ w5 Q5 hN fz ft rfl).mono ?_
          rintro r w6 ⟨rfl, O, S', n', Fg', lv', ho, hno, m6, v6⟩
          have M6 := Lib.hid m6
          have V6 := Lib.hid ((Moves.of_below K5.out Q0.out.in).trans v6)
          have HO := Lib.hid (And.intro ho hno)
          have nG : ¬ MF mo Fg lg lv (w.heap.size + 1) := fun q => by have := hw.out _ q; omega
          have Y6 := Lib.hid (v6.lies nG Y5.out)
          clear m6 v6 ho hno nG x0 x1 x2 x3 x4 x5 x6
          have y0 := Y6.out.cell (i := 0) rfl
          have y1 := Y6.out.cell (i := 1) rfl
          have f0 := Y6.out.open_ 0
          have f1 := Y6.out.open_ 1
          go_wp2
          obtain ⟨q0, q1, q2, q3, q4⟩ := do_end K0.out sz.out hw.out V6.out (⟨g, Fg', lg, lv', n', M6.out, fun _ => Iff.rfl⟩ : Is _ mo (MF mo Fg' lg lv') cf S' N t (L ++ O) false) Y6.out (.int .i64 0) (.slice none 0 0)
          exact bodyPost_ret (v := rep 0 (.slice none 0 0)) (by simp [results, Tryz.results25, go_sem, q0, q1]) rfl
            ⟨_, 0, [], 0, _, _, _, _, _, rfl, .up MC.out rfl rfl HT.out HO.out.1 HO.out.2, by simp, q2, q3, Sl.Own.nil _ _ _⟩
      · have r3 : (op == 3) = false := by simp [h3]
        go_wp2_with fail
        go_quiet (fail)
        have B4 := drewN_below w3 nq
        have X4 := Lib.hid (X3.out.next B4)
        have Y4 := Lib.hid (Y3.out.next B4)
        have Q4 := Lib.hid (Q3.out.next B4)
        have K4 := Lib.hid (after K3.out B4)
        clear B4 x0 x2 m9 m11 X3 Y3 Q3 K3
        generalize w3.drewN nq = w4 at X4 Y4 Q4 K4 ⊢
        have H3 := Lib.hid h3
        clear h3
        have x0 := X4.out.cell (i := 0) rfl
        have x1 := X4.out.cell (i := 1) rfl
        have x2 := X4.out.cell (i := 2) rfl
        have x3 := X4.out.cell (i := 3) rfl
        have x4 := X4.out.cell (i := 4) rfl
        have x5 := X4.out.cell (i := 5) rfl
        have x6 := X4.out.cell (i := 6) rfl
        go_wp2_with fail
        refine (KD.out _).mono ?_
        rintro r w5 ⟨rfl, k5⟩
        have X5 := Lib.hid (X4.out.next k5)
        have Y5 := Lib.hid (Y4.out.next k5)
        have Q5 := Lib.hid (Q4.out.next k5)
        have K5 := Lib.hid (after K4.out k5)
        clear k5 x0 x1 x2 x3 x4 x5 x6 X4 Y4 Q4 K4
        have x0 := X5.out.cell (i := 0) rfl
        have x1 := X5.out.cell (i := 1) rfl
        have x2 := X5.out.cell (i := 2) rfl
        have x3 := X5.out.cell (i := 3) rfl
        have x4 := X5.out.cell (i := 4) rfl
        have x5 := X5.out.cell (i := 5) rfl
        have x6 := X5.out.cell (i := 6) rfl
        by_cases hkd : kd op = true
        · rw [hkd]
          have HK := Lib.hid hkd
          clear hkd
          clear x0 x1 x2 x3 x4 x5 x6
          have ng1 : Hid (¬ Fg (w.heap.size + 1)) := Lib.hid fun q => by have := hw.out _ (.inr (.inl q)); omega
          have ng : Hid (¬ Fg w.heap.size) := Lib.hid fun q => by have := hw.out _ (.inr (.inl q)); omega
          have hF9 : Hid (In w5 Fg) := Lib.hid Q5.out.grp.in
          have CS : Hid (∀ w', Out.Wr Fg w5 w' → (w'.cell? ⟨mo, 8, none⟩ = some (gp g) ∧ w'.cell? ⟨mo, 9, none⟩ = some (.int .i64 mark) ∧ w'.cell? ⟨w.heap.size, 0, none⟩ = some (.int .i64 op) ∧ w'.cell? ⟨w.heap.size, 1, none⟩ = some (.string key) ∧ w'.cell? ⟨w.heap.size, 2, none⟩ = some (.int .i64 t) ∧ w'.cell? ⟨w.heap.size, 3, none⟩ = some (.int .i64 v) ∧ w'.cell? ⟨w.heap.size, 4, none⟩ = some (.int .i64 e) ∧ w'.cell? ⟨w.heap.size, 5, none⟩ = some (.int .i64 u) ∧ w'.cell? ⟨w.heap.size, 6, none⟩ = some (.int .i64 s)) ∧ Out.Wr Fg w5 w') := Lib.hid fun w' hB => ⟨⟨(hB.lies Q5.out.mo_g Q5.out.lies).cell (i := 8) rfl, (hB.lies Q5.out.mo_g Q5.out.lies).cell (i := 9) rfl, (hB.lies ng.out X5.out).cell (i := 0) rfl, (hB.lies ng.out X5.out).cell (i := 1) rfl, (hB.lies ng.out X5.out).cell (i := 2) rfl, (hB.lies ng.out X5.out).cell (i := 3) rfl, (hB.lies ng.out X5.out).cell (i := 4) rfl, (hB.lies ng.out X5.out).cell (i := 5) rfl, (hB.lies ng.out X5.out).cell (i := 6) rfl⟩, hB⟩
          have CB : Hid (∀ w', (w'.cell? ⟨mo, 8, none⟩ = some (gp g) ∧ w'.cell? ⟨mo, 9, none⟩ = some (.int .i64 mark) ∧ w'.cell? ⟨w.heap.size, 0, none⟩ = some (.int .i64 op) ∧ w'.cell? ⟨w.heap.size, 1, none⟩ = some (.string key) ∧ w'.cell? ⟨w.heap.size, 2, none⟩ = some (.int .i64 t) ∧ w'.cell? ⟨w.heap.size, 3, none⟩ = some (.int .i64 v) ∧ w'.cell? ⟨w.heap.size, 4, none⟩ = some (.int .i64 e) ∧ w'.cell? ⟨w.heap.size, 5, none⟩ = some (.int .i64 u) ∧ w'.cell? ⟨w.heap.size, 6, none⟩ = some (.int .i64 s)) ∧ Out.Wr Fg w5 w' → Out.Wr Fg w5 w') := Lib.hid fun w' h => h.2
          go_wp2_with fail
          go_region_held3 (fun w' => (w'.cell? ⟨mo, 8, none⟩ = some (gp g) ∧ w'.cell? ⟨mo, 9, none⟩ = some (.int .i64 mark) ∧ w'.cell? ⟨w.heap.size, 0, none⟩ = some (.int .i64 op) ∧ w'.cell? ⟨w.heap.size, 1, none⟩ = some (.string key) ∧ w'.cell? ⟨w.heap.size, 2, none⟩ = some (.int .i64 t) ∧ w'.cell? ⟨w.heap.size, 3, none⟩ = some (.int .i64 v) ∧ w'.cell? ⟨w.heap.size, 4, none⟩ = some (.int .i64 e) ∧ w'.cell? ⟨w.heap.size, 5, none⟩ = some (.int .i64 u) ∧ w'.cell? ⟨w.heap.size, 6, none⟩ = some (.int .i64 s)) ∧ Out.Wr Fg w5 w')
            (first | exact CS.out _ Out.Wr.drew | exact CS.out _ (Out.Wr.trans Out.Wr.drew (Out.Wr.of_moves V9)) | exact CS.out _ (Out.Wr.trans (CB.out _ (by assumption)) (Out.Wr.of_moves V9)) | exact CS.out _ (Out.Wr.trans (by first | exact CB.out _ (by assumption) | exact Out.Wr.drew) (Out.Wr.of_below (below1 _ _))) | exact CS.out _ (Out.Wr.trans (Out.Wr.trans Out.Wr.drew (Out.Wr.of_moves V9)) (Out.Wr.of_below (below1 _ _))) | exact CS.out _ (Out.Wr.set (Out.Wr.set (CB.out _ (by assumption)) _ (by first | exact Nat.le_refl _ | simp)) _ (by first | exact Nat.le_refl _ | simp)))
            (first | (go_at_call 57; refine (keyed_ok ⟨op, key, t, v, e, u, s⟩ mark z _ (Lib.hid (Q5.out.grp.next (by first | exact (Below.refl _ _).drew | exact after (Below.refl _ _).drew (below1 _ _)))) hN M B ft fk hk T).mono ?_; rintro r w9 ⟨rv, ov, code, P, O, c, S', n', Fg', rfl, hA, hn', hP, G9, V9, o9, oo9⟩; obtain ⟨A, nv, cv, rfl⟩ := lit o9; first | (obtain ⟨z0, z1, e0, e1⟩ := box_kept V9 hF9.out) | skip))
          · have KP := Lib.hid (pack2 (code := code) V9 hF9.out G9 o9 oo9)
            generalize (World.alloc w9 (Obj.cells #[.int .i64 code, .slice A nv cv] 47)) = W at KP ⊢
            have hBB : w5.heap.size ≤ w9.heap.size := V9.size
            
            have W5 := Lib.hid KP.out.2.2.2.2.2.1
            have LW := Lib.hid (W5.out.lies Q5.out.mo_g Q5.out.lies)
            have YW := Lib.hid (W5.out.lies ng1.out Y5.out)
            have OW := Lib.hid (Q5.out.log.keep W5.out Q5.out.lg_g Q5.out.lv_g)
            obtain ⟨rfl, HD, NO⟩ := asked_did (L := L) hA Q5.out.over MC.out HK.out Q5.out.grp.ok hN (fit ft.out).1 M.out B.out T.out
            have HD := Lib.hid HD
            have NO := Lib.hid NO
            have m10 := LW.out.cell (i := 10) rfl
            have few := Q5.out.few
            clear hA CS CB
            go_wp2_with fail
            refine (Out.put_ok lg lv ov L [] W OW (Lib.hid (Out.Rd.own KP.out.2.2.2.2.1)) (by simp; omega)).mono ?_
            rintro r w6 ⟨v', rfl, L6, e6, k6⟩
            obtain ⟨hb0, hb1, GW, PW, -, -, nW⟩ := KP.out
            have hl := Q5.out.log.lies.lt
            have hv : ∀ a, lv.ownBlock = some a → a < w5.heap.size := fun a ha => (Q5.out.log.own.lt a ha).2
            have s5 : w5.heap.size ≤ W.heap.size := W5.out.size
            have nb : ∀ i, w5.heap.size ≤ i → ¬ (i = lg ∨ lv.ownBlock = some i) := fun i hi q => by
              rcases q with rfl | q
              · omega
              · have := hv _ q; omega
            obtain ⟨G6, q6⟩ := log_end (B := w5.heap.size) nW GW hl hv s5 Q5.out.lg_g Q5.out.lv_g k6 e6
            have L6 : Out.Lg w6 lg v' L := by rw [List.append_nil] at L6; exact L6
            have KK : Out.Wr (MF mo Fg lg lv) w5 w6 := (W5.out.more fun i hi => .inr (.inl hi)).trans (k6.more fun i hi => .inr (.inr hi))
            obtain ⟨m6, v6⟩ := went Q5.out KK (k6.lies (fun q => by rcases q with q | q; exact Q5.out.mo_l q; exact Q5.out.mo_v q) LW.out) G6 nW L6 q6 (by omega) NO.out
            have B0 := World.block_lt_of_cell? _ _ hb0
            have z0 : w6.cell? ⟨w9.heap.size, 0, none⟩ = some (.int .i64 code) := (World.cell?_of_block (a := ⟨w9.heap.size, 0, none⟩) (k6.block _ B0 (nb _ hBB))).trans hb0
            have z1 : w6.cell? ⟨w9.heap.size, 1, none⟩ = some (.slice A nv cv) := (World.cell?_of_block (a := ⟨w9.heap.size, 1, none⟩) (k6.block _ B0 (nb _ hBB))).trans hb1
            have P6 : Hid (Sl.Own Pn.k w2.heap.size w6 (.slice A nv cv) P) := Lib.hid (Gr.own_base (PW.move fun a ha => k6.block a (PW.lt a ha).2 (nb a (PW.lt a ha).1)) K5.out.size)
            have M6 := Lib.hid m6
            have V6 := Lib.hid ((Moves.of_below K5.out Q0.out.in).trans v6)
            have Y6 := Lib.hid (k6.lies (fun q => by rcases q with q | q; have := hw.out lg (.inr (.inr (.inl rfl))); omega; have := hw.out _ (.inr (.inr (.inr q))); omega) YW.out)
            clear m6 v6 hb0 hb1 GW PW nW L6 e6 k6 G6 q6 KK B0 nb hv m10 hl s5
            have y0 := Y6.out.cell (i := 0) rfl
            have y1 := Y6.out.cell (i := 1) rfl
            have f0 := Y6.out.open_ 0
            have f1 := Y6.out.open_ 1
            go_wp2
            obtain ⟨q0, q1, q2, q3, q4⟩ := do_end K0.out sz.out hw.out V6.out (⟨g, Fg', lg, v', n', M6.out, fun _ => Iff.rfl⟩ : Is _ mo (MF mo Fg' lg v') cf S' (N + c) mark L false) Y6.out (.int .i64 code) (.slice A nv cv)
            exact bodyPost_ret (v := rep code (.slice A nv cv)) (by simp [results, Tryz.results25, go_sem, q0, q1]) rfl
              ⟨_, code, P, c, _, _, _, _, _, rfl, HD.out, hP, q2, q3, q4 _ _ P6.out⟩
          · have KP := Lib.hid (pack1 (code := code) V9 hF9.out G9 o9 oo9)
            generalize (World.setCell (World.setCell w9 ⟨w5.heap.size, 0, none⟩ (.int .i64 code)) ⟨w5.heap.size, 1, none⟩ (.slice A nv cv)) = W at KP ⊢
            have hBB : w5.heap.size ≤ w5.heap.size := Nat.le_refl _
            
            have W5 := Lib.hid KP.out.2.2.2.2.2.1
            have LW := Lib.hid (W5.out.lies Q5.out.mo_g Q5.out.lies)
            have YW := Lib.hid (W5.out.lies ng1.out Y5.out)
            have OW := Lib.hid (Q5.out.log.keep W5.out Q5.out.lg_g Q5.out.lv_g)
            obtain ⟨rfl, HD, NO⟩ := asked_did (L := L) hA Q5.out.over MC.out HK.out Q5.out.grp.ok hN (fit ft.out).1 M.out B.out T.out
            have HD := Lib.hid HD
            have NO := Lib.hid NO
            have m10 := LW.out.cell (i := 10) rfl
            have few := Q5.out.few
            clear hA CS CB
            go_wp2_with fail
            refine (Out.put_ok lg lv ov L [] W OW (Lib.hid (Out.Rd.own KP.out.2.2.2.2.1)) (by simp; omega)).mono ?_
            rintro r w6 ⟨v', rfl, L6, e6, k6⟩
            obtain ⟨hb0, hb1, GW, PW, -, -, nW⟩ := KP.out
            have hl := Q5.out.log.lies.lt
            have hv : ∀ a, lv.ownBlock = some a → a < w5.heap.size := fun a ha => (Q5.out.log.own.lt a ha).2
            have s5 : w5.heap.size ≤ W.heap.size := W5.out.size
            have nb : ∀ i, w5.heap.size ≤ i → ¬ (i = lg ∨ lv.ownBlock = some i) := fun i hi q => by
              rcases q with rfl | q
              · omega
              · have := hv _ q; omega
            obtain ⟨G6, q6⟩ := log_end (B := w5.heap.size) nW GW hl hv s5 Q5.out.lg_g Q5.out.lv_g k6 e6
            have L6 : Out.Lg w6 lg v' L := by rw [List.append_nil] at L6; exact L6
            have KK : Out.Wr (MF mo Fg lg lv) w5 w6 := (W5.out.more fun i hi => .inr (.inl hi)).trans (k6.more fun i hi => .inr (.inr hi))
            obtain ⟨m6, v6⟩ := went Q5.out KK (k6.lies (fun q => by rcases q with q | q; exact Q5.out.mo_l q; exact Q5.out.mo_v q) LW.out) G6 nW L6 q6 (by omega) NO.out
            have B0 := World.block_lt_of_cell? _ _ hb0
            have z0 : w6.cell? ⟨w5.heap.size, 0, none⟩ = some (.int .i64 code) := (World.cell?_of_block (a := ⟨w5.heap.size, 0, none⟩) (k6.block _ B0 (nb _ hBB))).trans hb0
            have z1 : w6.cell? ⟨w5.heap.size, 1, none⟩ = some (.slice A nv cv) := (World.cell?_of_block (a := ⟨w5.heap.size, 1, none⟩) (k6.block _ B0 (nb _ hBB))).trans hb1
            have P6 : Hid (Sl.Own Pn.k w2.heap.size w6 (.slice A nv cv) P) := Lib.hid (Gr.own_base (PW.move fun a ha => k6.block a (PW.lt a ha).2 (nb a (PW.lt a ha).1)) K5.out.size)
            have M6 := Lib.hid m6
            have V6 := Lib.hid ((Moves.of_below K5.out Q0.out.in).trans v6)
            have Y6 := Lib.hid (k6.lies (fun q => by rcases q with q | q; have := hw.out lg (.inr (.inr (.inl rfl))); omega; have := hw.out _ (.inr (.inr (.inr q))); omega) YW.out)
            clear m6 v6 hb0 hb1 GW PW nW L6 e6 k6 G6 q6 KK B0 nb hv m10 hl s5
            have y0 := Y6.out.cell (i := 0) rfl
            have y1 := Y6.out.cell (i := 1) rfl
            have f0 := Y6.out.open_ 0
            have f1 := Y6.out.open_ 1
            go_wp2
            obtain ⟨q0, q1, q2, q3, q4⟩ := do_end K0.out sz.out hw.out V6.out (⟨g, Fg', lg, v', n', M6.out, fun _ => Iff.rfl⟩ : Is _ mo (MF mo Fg' lg v') cf S' (N + c) mark L false) Y6.out (.int .i64 code) (.slice A nv cv)
            exact bodyPost_ret (v := rep code (.slice A nv cv)) (by simp [results, Tryz.results25, go_sem, q0, q1]) rfl
              ⟨_, code, P, c, _, _, _, _, _, rfl, HD.out, hP, q2, q3, q4 _ _ P6.out⟩
        · have hkd : kd op = false := by simpa using hkd
          rw [hkd]
          have HK := Lib.hid hkd
          clear hkd
          by_cases h7 : op = 7
          · subst h7
            go_wp2_with fail
            refine (change_shut ⟨7, key, t, v, e, u, s⟩ w5 Q5 rfl).mono ?_
            rintro r w6 ⟨rfl, m6, v6⟩
            have M6 := Lib.hid m6
            have V6 := Lib.hid ((Moves.of_below K5.out Q0.out.in).trans v6)
            have nG : ¬ MF mo Fg lg lv (w.heap.size + 1) := fun q => by have := hw.out _ q; omega
            have Y6 := Lib.hid (v6.lies nG Y5.out)
            clear m6 v6 nG x0 x1 x2 x3 x4 x5 x6
            have y0 := Y6.out.cell (i := 0) rfl
            have y1 := Y6.out.cell (i := 1) rfl
            have f0 := Y6.out.open_ 0
            have f1 := Y6.out.open_ 1
            go_wp2
            obtain ⟨q0, q1, q2, q3, q4⟩ := do_end K0.out sz.out hw.out V6.out (⟨g, Fg, lg, lv, n, M6.out, fun _ => Iff.rfl⟩ : Is _ mo (MF mo Fg lg lv) cf S N mark L true) Y6.out (.int .i64 0) (.slice none 0 0)
            exact bodyPost_ret (v := rep 0 (.slice none 0 0)) (by simp [results, Tryz.results25, go_sem, q0, q1]) rfl
              ⟨_, 0, [], 0, _, _, _, _, _, rfl, .shut MC.out rfl rfl, by simp, q2, q3, Sl.Own.nil _ _ _⟩
          · have h6 : Hid (op = 6) := Lib.hid (by
              have h1 := MC.out.2.1
              have h2 := HK.out
              have h3 := H3.out
              simp only [kd, decide_eq_false_iff_not] at h2
              simp only at h1
              omega)
            have H7 := Lib.hid h7
            clear h7
            go_wp2_with fail
            refine (change_same ⟨op, key, t, v, e, u, s⟩ w5 Q5 H3.out H7.out).mono ?_
            rintro r w6 ⟨rfl, k6⟩
            have M6 := Lib.hid (Q5.out.next k6)
            have V6 := Lib.hid (Moves.of_below (after K5.out k6) Q0.out.in)
            have Y6 := Lib.hid (Y5.out.next k6)
            clear k6 x0 x1 x2 x3 x4 x5 x6
            have y0 := Y6.out.cell (i := 0) rfl
            have y1 := Y6.out.cell (i := 1) rfl
            have f0 := Y6.out.open_ 0
            have f1 := Y6.out.open_ 1
            go_wp2
            obtain ⟨q0, q1, q2, q3, q4⟩ := do_end K0.out sz.out hw.out V6.out (⟨g, Fg, lg, lv, n, M6.out, fun _ => Iff.rfl⟩ : Is _ mo (MF mo Fg lg lv) cf S N mark L false) Y6.out (.int .i64 0) (.slice none 0 0)
            exact bodyPost_ret (v := rep 0 (.slice none 0 0)) (by simp [results, Tryz.results25, go_sem, q0, q1]) rfl
              ⟨_, 0, [], 0, _, _, _, _, _, rfl, .still MC.out rfl h6.out, by simp, q2, q3, Sl.Own.nil _ _ _⟩
end Md
end Go.Proofs.YtdnigpkdnkbfbaaGreat
