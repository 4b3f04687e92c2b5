/-
  A model in memory: a config, a group of all keys, a watermark, an output, whether it is closed; contracts of model's New and Keyed.
-/
import Derived.Test.YtemklcckhpchaaaGr
import Derived.Test.YtemklcckhpchaaaOutLog
import Derived.Test.YtemklcckhpchaaaCall
import Derived.Test.YtemklcckhpchaaaMdOnly
import Derived.Deep.RegionHeld3
namespace Go.Proofs.Ytemklcckhpchaaa
open Go.ChangeShapes Go.WideShapes Go.ChangeAt Go.RowKit
set_option maxRecDepth 100000
namespace Md
open Small Foot Pane Grp
set_option linter.unusedVariables false

abbrev mcl (x : C8) (g lg : Nat) (mark : Int) (cl : Bool) : List Value := [.int .i64 x.k, .int .i64 x.s, .int .i64 x.l, .int .i64 x.g, .int .i64 x.z, .int .i64 x.h, .int .i64 x.r, .int .i64 x.c, .pointer (some ⟨g, 0, none⟩), .int .i64 mark, .pointer (some ⟨lg, 0, none⟩), .bool cl]
/-- a config as the calls' contracts have it -/
abbrev cfOf (x : C8) : Cf := ⟨x.k, x.s, x.l, x.g, x.z, x.h, x.r, x.c⟩
/-- a model at mo: its group at g, of the blocks Fg, its Log at lg, whose list is lv -/
structure Mq (w : World) (mo g : Nat) (Fg : Nat → Prop) (lg : Nat) (lv : Value) (cf : C8) (S : Lists) (N n : Nat) (mark : Int) (L : List Pn) (cl : Bool) : Prop where
  lies : Lies w mo 51 (mcl cf g lg mark cl)
  grp : Gr.Is w g Fg cf S N n
  log : Out.Lg w lg lv L
  mo_g : ¬ Fg mo
  mo_l : mo ≠ lg
  mo_v : lv.ownBlock ≠ some mo
  lg_g : ¬ Fg lg
  lv_g : ∀ a, lv.ownBlock = some a → ¬ Fg a
  few : L.length + n ≤ N
  over : NoneOver cf.z mark S
/-- the blocks it is made of -/
def MF (mo : Nat) (Fg : Nat → Prop) (lg : Nat) (lv : Value) : Nat → Prop := fun k => k = mo ∨ Fg k ∨ k = lg ∨ lv.ownBlock = some k
def Is (w : World) (mo : Nat) (F : Nat → Prop) (cf : C8) (S : Lists) (N : Nat) (mark : Int) (L : List Pn) (cl : Bool) : Prop :=
  ∃ g Fg lg lv n, Mq w mo g Fg lg lv cf S N n mark L cl ∧ ∀ k, F k ↔ MF mo Fg lg lv k
section
variable {w w' : World} {mo g lg N N' n : Nat} {Fg F : Nat → Prop} {lv : Value} {cf : C8} {S : Lists} {mark : Int} {L : List Pn} {cl : Bool}
theorem Mq.keep (h : Mq w mo g Fg lg lv cf S N n mark L cl) (k : ∀ i, MF mo Fg lg lv i → w'.heap[i]? = w.heap[i]?) (s : w.heap.size ≤ w'.heap.size) : Mq w' mo g Fg lg lv cf S N n mark L cl :=
  ⟨(k mo (.inl rfl)).trans h.lies, h.grp.keep (fun i hi => k i (.inr (.inl hi))) s, ⟨(k lg (.inr (.inr (.inl rfl)))).trans h.log.lies, h.log.own.move fun a ha => k a (.inr (.inr (.inr ha)))⟩, h.mo_g, h.mo_l, h.mo_v, h.lg_g, h.lv_g, h.few, h.over⟩
theorem Mq.in (h : Mq w mo g Fg lg lv cf S N n mark L cl) : In w (MF mo Fg lg lv) := fun k hk => by
  rcases hk with rfl | hk | rfl | hk
  · exact h.lies.lt
  · exact h.grp.in k hk
  · exact h.log.lies.lt
  · exact (h.log.own.lt k hk).2
theorem Mq.next (h : Mq w mo g Fg lg lv cf S N n mark L cl) (k : Below w.heap.size w w') : Mq w' mo g Fg lg lv cf S N n mark L cl := h.keep (fun i hi => k.block i (h.in i hi)) k.size
theorem Is.in (h : Is w mo F cf S N mark L cl) : In w F := by
  obtain ⟨g, Fg, lg, lv, n, q, hF⟩ := h
  exact fun k hk => q.in k ((hF k).1 hk)
theorem Is.keep (h : Is w mo F cf S N mark L cl) (k : ∀ i, F i → w'.heap[i]? = w.heap[i]?) (s : w.heap.size ≤ w'.heap.size) : Is w' mo F cf S N mark L cl := by
  obtain ⟨g, Fg, lg, lv, n, q, hF⟩ := h
  exact ⟨g, Fg, lg, lv, n, q.keep (fun i hi => k i ((hF i).2 hi)) s, hF⟩
theorem Is.next (h : Is w mo F cf S N mark L cl) (k : Below w.heap.size w w') : Is w' mo F cf S N mark L cl := h.keep (fun i hi => k.block i (h.in i hi)) k.size
theorem Is.beside {G G' : Nat → Prop} (h : Is w mo F cf S N mark L cl) (k : Moves G G' w w') (a : Apart F G) : Is w' mo F cf S N mark L cl := h.keep (fun i hi => k.block i (h.in i hi) (a i hi)) k.size
theorem Is.more (h : Is w mo F cf S N mark L cl) (hN : N ≤ N') : Is w mo F cf S N' mark L cl := by
  obtain ⟨g, Fg, lg, lv, n, q, hF⟩ := h
  exact ⟨g, Fg, lg, lv, n, ⟨q.lies, q.grp.more hN, q.log, q.mo_g, q.mo_l, q.mo_v, q.lg_g, q.lv_g, by have := q.few; omega, q.over⟩, hF⟩
theorem Is.grp (h : Is w mo F cf S N mark L cl) : ∃ g Fg n, Gr.Is w g Fg cf S N n ∧ L.length + n ≤ N := by
  obtain ⟨g, Fg, lg, lv, n, q, hF⟩ := h
  exact ⟨g, Fg, n, q.grp, q.few⟩
theorem Is.over (h : Is w mo F cf S N mark L cl) : NoneOver cf.z mark S := by
  obtain ⟨g, Fg, lg, lv, n, q, hF⟩ := h
  exact q.over
end

set_option maxHeartbeats 4000000 in
theorem new_no (cf : C8) (w : World) (M : Hid (¬ Asg.may cf.k cf.s cf.l cf.g cf.z cf.h cf.r cf.c)) (s1 : cf.s ≤ 9223372036854775807) :
    Calls Try.prog 5 #[cf.v] w fun r w' => r = .returned (.tuple #[.pointer none, .iface 44 (.int .i64 2)]) ∧ Below w.heap.size w w' := by
  go_enter Try.func5, Try.ntmps5
  go_wp2_with fail
  refine (Grp.new_no cf _ M s1).mono ?_
  rintro r w1 ⟨rfl, k1⟩
  go_wp2
  go_ret2
  exact ⟨rfl, after (below1 _ _) k1⟩

theorem made (w w1 w9 : World) (cf : C8) (g : Nat) (Fg : Nat → Prop) (G1 : Gr.Is w1 g Fg cf (fun _ => []) 0 0) (F1 : From w.heap.size Fg) (K1 : Below w.heap.size w w1) (L9 : Out.Lg w9 w1.heap.size (.slice none 0 0) []) (k9 : Below w1.heap.size w1 w9) :
    ∃ F, Is (w9.alloc (Obj.cells #[.int .i64 cf.k, .int .i64 cf.s, .int .i64 cf.l, .int .i64 cf.g, .int .i64 cf.z, .int .i64 cf.h, .int .i64 cf.r, .int .i64 cf.c, .pointer (some ⟨g, 0, none⟩), .int .i64 (-9223372036854775808), .pointer (some ⟨w1.heap.size, 0, none⟩), .bool false] 51)) w9.heap.size F cf (fun _ => []) 0 (-9223372036854775808) [] false ∧ From w.heap.size F ∧ Below w.heap.size w (w9.alloc (Obj.cells #[.int .i64 cf.k, .int .i64 cf.s, .int .i64 cf.l, .int .i64 cf.g, .int .i64 cf.z, .int .i64 cf.h, .int .i64 cf.r, .int .i64 cf.c, .pointer (some ⟨g, 0, none⟩), .int .i64 (-9223372036854775808), .pointer (some ⟨w1.heap.size, 0, none⟩), .bool false] 51)) := by
  have h1 := K1.size
  have h9 := k9.size
  have hl := L9.lies.lt
  have KB := below1 w9 (Obj.cells #[.int .i64 cf.k, .int .i64 cf.s, .int .i64 cf.l, .int .i64 cf.g, .int .i64 cf.z, .int .i64 cf.h, .int .i64 cf.r, .int .i64 cf.c, .pointer (some ⟨g, 0, none⟩), .int .i64 (-9223372036854775808), .pointer (some ⟨w1.heap.size, 0, none⟩), .bool false] 51)
  refine ⟨MF w9.heap.size Fg w1.heap.size (.slice none 0 0), ⟨g, Fg, w1.heap.size, .slice none 0 0, 0, ⟨Lies.new w9 51 (mcl cf g w1.heap.size (-9223372036854775808) false), (G1.next k9).next KB, L9.next KB, fun q => ?_, by omega, (fun q => by cases q), fun q => ?_, (fun a q => by cases q), Nat.le_refl _, Gr.over_none _ _⟩, fun _ => Iff.rfl⟩, fun k hk => ?_, after K1 (after k9 KB)⟩
  · have := G1.in _ q; omega
  · have := G1.in _ q; omega
  · rcases hk with rfl | hk | rfl | hk
    · omega
    · exact F1 k hk
    · exact h1
    · cases hk

set_option maxHeartbeats 8000000 in
theorem new_ok (cf : C8) (w : World) (M : Hid (Asg.may cf.k cf.s cf.l cf.g cf.z cf.h cf.r cf.c)) (s1 : cf.s ≤ 9223372036854775807) :
    Calls Try.prog 5 #[cf.v] w fun r w' => ∃ mo F, r = .returned (.tuple #[gp mo, .nilIface]) ∧ Is w' mo F cf (fun _ => []) 0 (-9223372036854775808) [] false ∧ From w.heap.size F ∧ Below w.heap.size w w' := by
  have X0 := Lib.hid (Lies.new w 23 cf.cl)
  have K0 := Lib.hid (below1 w (Obj.cells #[.int .i64 cf.k, .int .i64 cf.s, .int .i64 cf.l, .int .i64 cf.g, .int .i64 cf.z, .int .i64 cf.h, .int .i64 cf.r, .int .i64 cf.c] 23))
  go_enter Try.func5, Try.ntmps5
  go_wp2_with fail
  refine (Gr.new_ok cf _ M s1).mono ?_
  rintro e w1 ⟨g, Fg, rfl, G1, F1, k1⟩
  have X1 := Lib.hid (X0.out.next k1)
  have K1 := Lib.hid (after K0.out k1)
  have G1 := Lib.hid G1
  have F1 := Lib.hid F1
  have hs1 := Lib.hid k1.size
  clear k1
  go_wp2_with fail
  have CS : Hid (∀ w', Below w1.heap.size w1 w' → w'.cell? ⟨w.heap.size, 0, none⟩ = some (.int .i64 cf.k) ∧ w'.cell? ⟨w.heap.size, 1, none⟩ = some (.int .i64 cf.s) ∧ w'.cell? ⟨w.heap.size, 2, none⟩ = some (.int .i64 cf.l) ∧ w'.cell? ⟨w.heap.size, 3, none⟩ = some (.int .i64 cf.g) ∧ w'.cell? ⟨w.heap.size, 4, none⟩ = some (.int .i64 cf.z) ∧ w'.cell? ⟨w.heap.size, 5, none⟩ = some (.int .i64 cf.h) ∧ w'.cell? ⟨w.heap.size, 6, none⟩ = some (.int .i64 cf.r) ∧ w'.cell? ⟨w.heap.size, 7, none⟩ = some (.int .i64 cf.c) ∧ Below w1.heap.size w1 w') := Lib.hid fun w' hB =>
    ⟨(X1.out.next hB).cell (i := 0) rfl, (X1.out.next hB).cell (i := 1) rfl, (X1.out.next hB).cell (i := 2) rfl, (X1.out.next hB).cell (i := 3) rfl, (X1.out.next hB).cell (i := 4) rfl, (X1.out.next hB).cell (i := 5) rfl, (X1.out.next hB).cell (i := 6) rfl, (X1.out.next hB).cell (i := 7) rfl, hB⟩
  have CB : Hid (∀ w', w'.cell? ⟨w.heap.size, 0, none⟩ = some (.int .i64 cf.k) ∧ w'.cell? ⟨w.heap.size, 1, none⟩ = some (.int .i64 cf.s) ∧ w'.cell? ⟨w.heap.size, 2, none⟩ = some (.int .i64 cf.l) ∧ w'.cell? ⟨w.heap.size, 3, none⟩ = some (.int .i64 cf.g) ∧ w'.cell? ⟨w.heap.size, 4, none⟩ = some (.int .i64 cf.z) ∧ w'.cell? ⟨w.heap.size, 5, none⟩ = some (.int .i64 cf.h) ∧ w'.cell? ⟨w.heap.size, 6, none⟩ = some (.int .i64 cf.r) ∧ w'.cell? ⟨w.heap.size, 7, none⟩ = some (.int .i64 cf.c) ∧ Below w1.heap.size w1 w' → Below w1.heap.size w1 w') := Lib.hid fun w' h => h.2.2.2.2.2.2.2.2
  go_region_held3 (fun w' => w'.cell? ⟨w.heap.size, 0, none⟩ = some (.int .i64 cf.k) ∧ w'.cell? ⟨w.heap.size, 1, none⟩ = some (.int .i64 cf.s) ∧ w'.cell? ⟨w.heap.size, 2, none⟩ = some (.int .i64 cf.l) ∧ w'.cell? ⟨w.heap.size, 3, none⟩ = some (.int .i64 cf.g) ∧ w'.cell? ⟨w.heap.size, 4, none⟩ = some (.int .i64 cf.z) ∧ w'.cell? ⟨w.heap.size, 5, none⟩ = some (.int .i64 cf.h) ∧ w'.cell? ⟨w.heap.size, 6, none⟩ = some (.int .i64 cf.r) ∧ w'.cell? ⟨w.heap.size, 7, none⟩ = some (.int .i64 cf.c) ∧ Below w1.heap.size w1 w')
    (first | exact CS.out _ (Below.refl _ _).drew | exact CS.out _ (after (by first | assumption | exact (Below.refl _ _).drew | exact CB.out _ (by assumption)) k9) | exact CS.out _ (after (by first | assumption | exact (Below.refl _ _).drew | exact CB.out _ (by assumption)) (below1 _ _)))
    (first | (go_at_call 14; refine (Out.new_ok _).mono ?_; rintro e w9 ⟨rfl, L9, k9⟩))
  have k9 : Below w1.heap.size w1 w9 := ⟨k9.os, k9.tape, k9.output, k9.size, k9.block⟩
  obtain ⟨F, m1, m2, m3⟩ := made w w1 w9 cf g Fg G1.out (fun k hk => by have := F1.out k hk; simp at this; omega) K1.out L9 k9
  go_wp2
  go_ret2
  exact ⟨_, F, rfl, m1, m2, m3⟩
end Md
end Go.Proofs.Ytemklcckhpchaaa
