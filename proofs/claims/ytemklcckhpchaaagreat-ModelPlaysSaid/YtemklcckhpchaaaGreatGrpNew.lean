/-
  group.New: a group without panes, or ErrConfig.
-/
import Derived.Test.YtemklcckhpchaaaGreatGrpMem
import Derived.Test.YtemklcckhpchaaaGreatAsgAll
import Derived.Deep.RegionHeld3
namespace Go.Proofs.YtemklcckhpchaaaGreat
open Go.ChangeShapes Go.WideShapes Go.ChangeAt Go.RowKit
namespace Grp
open Small Foot Pane
set_option linter.unusedVariables false

theorem made (w W : World) (cf : C8) (tg m g : Nat) (FT : Nat → Prop) (K : Below w.heap.size w W) (hl : Lies W g 82 (gcl cf m tg)) (hm : Mp W m (fun _ => none) 0) (ht : Tmr.Ts W tg 0 (fun _ => False) FT)
    (h1 : g ≠ m) (h2 : ¬ FT g) (h3 : ¬ FT m) (b1 : w.heap.size ≤ g) (b2 : w.heap.size ≤ m) (b3 : From w.heap.size FT) :
    Gq W g m tg cf (fun _ => []) (fun _ => False) 0 0 (fun _ => none) FT (fun _ => False) ∧ From w.heap.size (Fp g m FT) ∧ Below w.heap.size w W :=
  ⟨⟨hl, hm, ht, h1, h2, h3, fun x => .inl ⟨rfl, rfl⟩⟩, fun k hk => by rcases hk with rfl | rfl | hk; exact b1; exact b2; exact b3 k hk, K⟩

set_option maxRecDepth 100000 in
set_option maxHeartbeats 4000000 in
theorem new_no (cf : C8) (w : World) (M : Hid (¬ Asg.may cf.k cf.s cf.l cf.g cf.z cf.h cf.r cf.c)) (s1 : cf.s ≤ 9223372036854775807) :
    Calls Tryz.prog 18 #[cf.v] w fun r w' => r = .returned (.tuple #[.pointer none, .iface 32 (.int .i64 2)]) ∧ Below w.heap.size w w' := by
  go_enter Tryz.func18, Tryz.ntmps18
  go_wp2_with fail
  refine (Asg.may_ok cf.k cf.s cf.l cf.g cf.z cf.h cf.r cf.c _ false (Lib.hid (by simp [M.out])) s1).mono ?_
  rintro e w1 ⟨rfl, k1⟩
  go_wp2
  go_ret2
  exact ⟨rfl, after (below1 _ _) k1⟩

set_option maxRecDepth 100000 in
set_option maxHeartbeats 4000000 in
theorem new_ok (cf : C8) (w : World) (M : Hid (Asg.may cf.k cf.s cf.l cf.g cf.z cf.h cf.r cf.c)) (s1 : cf.s ≤ 9223372036854775807) :
    Calls Tryz.prog 18 #[cf.v] w fun r w' => ∃ g m tg FT, r = .returned (.tuple #[gp g, .nilIface]) ∧ Gq w' g m tg cf (fun _ => []) (fun _ => False) 0 0 (fun _ => none) FT (fun _ => False) ∧ From w.heap.size (Fp g m FT) ∧ Below w.heap.size w w' := by
  have X0 := Lib.hid (Lies.new w 23 cf.cl)
  have K0 := Lib.hid (below1 w (Obj.cells #[.int .i64 cf.k, .int .i64 cf.s, .int .i64 cf.l, .int .i64 cf.g, .int .i64 cf.z, .int .i64 cf.h, .int .i64 cf.r, .int .i64 cf.c] 23))
  go_enter Tryz.func18, Tryz.ntmps18
  go_wp2_with fail
  refine (Asg.may_ok cf.k cf.s cf.l cf.g cf.z cf.h cf.r cf.c _ true (Lib.hid (by simp [M.out])) s1).mono ?_
  rintro e w1 ⟨rfl, k1⟩
  have X1 := Lib.hid (X0.out.next k1)
  have K1 := Lib.hid (after K0.out k1)
  clear k1
  go_wp2_with fail
  have hm := fun w' : World => run_makeMap (P := Tryz.prog) 78 w'
  have CS : Hid (∀ w', Below w1.heap.size w1 w' → w'.cell? ⟨w.heap.size, 0, none⟩ = some (.int .i64 cf.k) ∧ w'.cell? ⟨w.heap.size, 1, none⟩ = some (.int .i64 cf.s) ∧ w'.cell? ⟨w.heap.size, 2, none⟩ = some (.int .i64 cf.l) ∧ w'.cell? ⟨w.heap.size, 3, none⟩ = some (.int .i64 cf.g) ∧ w'.cell? ⟨w.heap.size, 4, none⟩ = some (.int .i64 cf.z) ∧ w'.cell? ⟨w.heap.size, 5, none⟩ = some (.int .i64 cf.h) ∧ w'.cell? ⟨w.heap.size, 6, none⟩ = some (.int .i64 cf.r) ∧ w'.cell? ⟨w.heap.size, 7, none⟩ = some (.int .i64 cf.c) ∧ Below w1.heap.size w1 w') := Lib.hid fun w' hB =>
    ⟨(X1.out.next hB).cell (i := 0) rfl, (X1.out.next hB).cell (i := 1) rfl, (X1.out.next hB).cell (i := 2) rfl, (X1.out.next hB).cell (i := 3) rfl, (X1.out.next hB).cell (i := 4) rfl, (X1.out.next hB).cell (i := 5) rfl, (X1.out.next hB).cell (i := 6) rfl, (X1.out.next hB).cell (i := 7) rfl, hB⟩
  have CB : Hid (∀ w', w'.cell? ⟨w.heap.size, 0, none⟩ = some (.int .i64 cf.k) ∧ w'.cell? ⟨w.heap.size, 1, none⟩ = some (.int .i64 cf.s) ∧ w'.cell? ⟨w.heap.size, 2, none⟩ = some (.int .i64 cf.l) ∧ w'.cell? ⟨w.heap.size, 3, none⟩ = some (.int .i64 cf.g) ∧ w'.cell? ⟨w.heap.size, 4, none⟩ = some (.int .i64 cf.z) ∧ w'.cell? ⟨w.heap.size, 5, none⟩ = some (.int .i64 cf.h) ∧ w'.cell? ⟨w.heap.size, 6, none⟩ = some (.int .i64 cf.r) ∧ w'.cell? ⟨w.heap.size, 7, none⟩ = some (.int .i64 cf.c) ∧ Below w1.heap.size w1 w' → Below w1.heap.size w1 w') := Lib.hid fun w' h => h.2.2.2.2.2.2.2.2
  go_region_held3 (fun w' => w'.cell? ⟨w.heap.size, 0, none⟩ = some (.int .i64 cf.k) ∧ w'.cell? ⟨w.heap.size, 1, none⟩ = some (.int .i64 cf.s) ∧ w'.cell? ⟨w.heap.size, 2, none⟩ = some (.int .i64 cf.l) ∧ w'.cell? ⟨w.heap.size, 3, none⟩ = some (.int .i64 cf.g) ∧ w'.cell? ⟨w.heap.size, 4, none⟩ = some (.int .i64 cf.z) ∧ w'.cell? ⟨w.heap.size, 5, none⟩ = some (.int .i64 cf.h) ∧ w'.cell? ⟨w.heap.size, 6, none⟩ = some (.int .i64 cf.r) ∧ w'.cell? ⟨w.heap.size, 7, none⟩ = some (.int .i64 cf.c) ∧ Below w1.heap.size w1 w')
    (first | exact CS.out _ (Below.refl _ _).drew | exact CS.out _ (after (by first | assumption | exact (Below.refl _ _).drew | exact CB.out _ (by assumption)) k9) | exact CS.out _ (after (by first | assumption | exact (Below.refl _ _).drew | exact CB.out _ (by assumption)) (below1 _ _)))
    (first | (go_at_call 36; refine (Tmr.new_foot _).mono ?_; rintro e w9 ⟨tg, FT, rfl, T9, F9, k9⟩))
  · have k9 : Below (w1.alloc (Obj.map #[] 0)).heap.size (w1.alloc (Obj.map #[] 0)) w9 := ⟨k9.os, k9.tape, k9.output, k9.size, k9.block⟩
    have F9 : From (w1.alloc (Obj.map #[] 0)).heap.size FT := F9
    have hs : (w1.alloc (Obj.map #[] 0)).heap.size = w1.heap.size + 1 := by simp
    have hz := k9.size
    have hw := K1.out.size
    have KB := below1 w9 (Obj.cells #[.int .i64 cf.k, .int .i64 cf.s, .int .i64 cf.l, .int .i64 cf.g, .int .i64 cf.z, .int .i64 cf.h, .int .i64 cf.r, .int .i64 cf.c, .map (some w1.heap.size), .pointer (some ⟨tg, 0, none⟩)] 82)
    have FIN := made w (w9.alloc (Obj.cells #[.int .i64 cf.k, .int .i64 cf.s, .int .i64 cf.l, .int .i64 cf.g, .int .i64 cf.z, .int .i64 cf.h, .int .i64 cf.r, .int .i64 cf.c, .map (some w1.heap.size), .pointer (some ⟨tg, 0, none⟩)] 82)) cf tg w1.heap.size w9.heap.size FT (after K1.out (after (below1 w1 (Obj.map #[] 0)) (after k9 KB))) (Lies.new w9 82 (gcl cf w1.heap.size tg))
      ((Mp.made w1).kept (((KB.block _ (by omega)).trans (k9.block _ (by omega)))) ) (T9.next KB) (by omega) (fun q => by have := T9.in _ q; omega) (fun q => by have := F9 _ q; omega) (by omega) (by omega) (fun k hk => by have := F9 k hk; omega)
    go_wp2
    go_ret2
    exact ⟨_, _, _, _, rfl, FIN⟩
  · have k9 : Below w1.heap.size w1 w9 := ⟨k9.os, k9.tape, k9.output, k9.size, k9.block⟩
    have F9 : From w1.heap.size FT := F9
    have hs : (w9.alloc (Obj.map #[] 0)).heap.size = w9.heap.size + 1 := by simp
    have hz := k9.size
    have hw := K1.out.size
    have KB := below1 (w9.alloc (Obj.map #[] 0)) (Obj.cells #[.int .i64 cf.k, .int .i64 cf.s, .int .i64 cf.l, .int .i64 cf.g, .int .i64 cf.z, .int .i64 cf.h, .int .i64 cf.r, .int .i64 cf.c, .map (some w9.heap.size), .pointer (some ⟨tg, 0, none⟩)] 82)
    have hl := Lies.new (w9.alloc (Obj.map #[] 0)) 82 (gcl cf w9.heap.size tg)
    rw [hs] at hl
    have FIN := made w ((w9.alloc (Obj.map #[] 0)).alloc (Obj.cells #[.int .i64 cf.k, .int .i64 cf.s, .int .i64 cf.l, .int .i64 cf.g, .int .i64 cf.z, .int .i64 cf.h, .int .i64 cf.r, .int .i64 cf.c, .map (some w9.heap.size), .pointer (some ⟨tg, 0, none⟩)] 82)) cf tg w9.heap.size (w9.heap.size + 1) FT (after K1.out (after k9 (after (below1 w9 (Obj.map #[] 0)) KB))) hl
      ((Mp.made w9).kept (KB.block _ (by omega))) ((T9.next (below1 w9 (Obj.map #[] 0))).next KB) (by omega) (fun q => by have := T9.in _ q; omega) (fun q => by have := T9.in _ q; omega) (by omega) (by omega) (fun k hk => by have := F9 k hk; omega)
    go_wp2
    go_ret2
    exact ⟨_, _, _, _, rfl, FIN⟩
end Grp
end Go.Proofs.YtemklcckhpchaaaGreat
