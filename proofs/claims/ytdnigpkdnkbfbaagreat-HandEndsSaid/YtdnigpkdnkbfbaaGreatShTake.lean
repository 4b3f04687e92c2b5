/-
  Take of a mailbox of messages.
-/
import Derived.Test.YtdnigpkdnkbfbaaGreatShBox
namespace Go.Proofs.YtdnigpkdnkbfbaaGreat
open Go.ChangeShapes Go.WideShapes Go.ChangeAt Go.RowKit Small Foot Bx
set_option linter.unusedVariables false
set_option maxRecDepth 100000
namespace Ms
/-- what lies in a block that was made later is written, too -/
theorem moves_later {F F' : Nat → Prop} {w w1 w2 : World} {j : Nat} (h : Moves F F' w w1) (k : w1.grownBy w2 (some j)) (hj : w.heap.size ≤ j) : Moves F F' w w2 :=
  ⟨k.os.trans h.os, k.tape.trans h.tape, k.output.trans h.output, Nat.le_trans h.size k.size, fun i hi hn => (k.block i (Nat.lt_of_lt_of_le hi h.size) fun e => by have := Option.some.inj e; omega).trans (h.block i hi hn), fun i hi => ⟨(h.new i hi).1, Nat.lt_of_lt_of_le (h.new i hi).2 k.size⟩⟩
set_option maxHeartbeats 1600000 in
theorem take_ok (g : Nat) (room : Int) (sh : Bool) (v : Value) (x : M) (L : List M) (w : World) (H : Hid (Box w g room sh v (x :: L))) (hn : L.length ≤ 100) :
    Calls Tryz.prog 48 #[gp g] w fun r w' => ∃ v', r = .returned (.tuple #[(val x), .bool true]) ∧ Box w' g room sh v' L ∧ Moves (Fp g v) (Fp g v') w w' := by
  have I0 := Lib.hid H.out.in
  obtain ⟨W0, h0⟩ : ∃ W, w.alloc (Obj.cells zs.toArray 45) = W := ⟨_, rfl⟩
  have K0 := Lib.hid (h0 ▸ below1 w (Obj.cells zs.toArray 45))
  have X0 := Lib.hid (h0 ▸ Lies.new w 45 zs)
  have S0 := Lib.hid (h0 ▸ (by simp : (w.alloc (Obj.cells zs.toArray 45)).heap.size = w.heap.size + 1))
  obtain ⟨W1, h1⟩ : ∃ W, W0.alloc (Obj.cells zs.toArray 45) = W := ⟨_, rfl⟩
  have K1 := Lib.hid (h1 ▸ below1 W0 (Obj.cells zs.toArray 45))
  have Y1 := Lib.hid (h1 ▸ Lies.new W0 45 zs)
  have X1 := Lib.hid (X0.out.next K1.out)
  have H0 := Lib.hid (H.out.next K0.out)
  have H1 := Lib.hid (H0.out.next K1.out)
  obtain ⟨b, hbg, cap, rfl, hcell⟩ : ∃ b, g + 1 ≤ b ∧ ∃ cap, v = .slice (some ⟨b, 0, none⟩) (x :: L).length cap ∧ ∀ j u, (cl x)[j]? = some u → W0.cell? ⟨b, j, none⟩ = some u := by
    obtain ⟨b0, -, hb⟩ := H0.out.own.is
    rcases H0.out.own.2 with ⟨_, h0⟩ | ⟨b, cap, cur, rfl, hbase, hb2, h1, h2, h3, h4⟩
    · simp at h0
    · refine ⟨b, hbase, cap, rfl, fun j u hu => ?_⟩
      obtain ⟨off, cap', e, -, -, -, hc⟩ := hb.some_ ok (by simp)
      simp only [Value.slice.injEq, Option.some.injEq, Addr.mk.injEq] at e
      obtain ⟨⟨rfl, rfl, -⟩, -, -⟩ := e
      simpa using hc 0 x rfl j u hu
  have hcell' : ∀ j u, (cl x)[j]? = some u → W0.cell? ⟨b, 0 + j, none⟩ = some u := fun j u hu => by rw [Nat.zero_add]; exact hcell j u hu
  obtain ⟨d0, d1, d2, d3, d4, d5, d6, d7, d8, d9, d10⟩ : W0.cell? ⟨b, 0, none⟩ = some (.int .i64 x.kind) ∧ W0.cell? ⟨b, 1, none⟩ = some (.int .i64 x.fr) ∧ W0.cell? ⟨b, 2, none⟩ = some (.int .i64 x.call.op) ∧ W0.cell? ⟨b, 3, none⟩ = some (.string x.call.key) ∧ W0.cell? ⟨b, 4, none⟩ = some (.int .i64 x.call.t) ∧ W0.cell? ⟨b, 5, none⟩ = some (.int .i64 x.call.v) ∧ W0.cell? ⟨b, 6, none⟩ = some (.int .i64 x.call.e) ∧ W0.cell? ⟨b, 7, none⟩ = some (.int .i64 x.call.u) ∧ W0.cell? ⟨b, 8, none⟩ = some (.int .i64 x.call.s) ∧ W0.cell? ⟨b, 9, none⟩ = some (.int .i64 x.group) ∧ W0.cell? ⟨b, 10, none⟩ = some (stv x.st) :=
    ⟨hcell 0 _ rfl, hcell 1 _ rfl, hcell 2 _ rfl, hcell 3 _ rfl, hcell 4 _ rfl, hcell 5 _ rfl, hcell 6 _ rfl, hcell 7 _ rfl, hcell 8 _ rfl, hcell 9 _ rfl, hcell 10 _ rfl⟩
  have c1 := H0.out.lies.cell (i := 1) rfl
  have q1 : ((x :: L).length : Int) ≠ 0 := by simp; omega
  have q2 : (0 : Int) < (x :: L).length := by simp
  have D := Lib.hid fun (w : World) (h : Sl.Own k (g + 1) w (.slice (some ⟨b, 0, none⟩) (x :: L).length cap) (x :: L)) => del_ok _ x L (g + 1) w h (by omega)
  have lx := H.out.lies.lt
  have YF := Y1.out.open_
  obtain ⟨y0, y1, y2, y3, y4, y5, y6, y7, y8, y9, y10⟩ := eleven Y1.out
  generalize hl : (x :: L).length = n at *
  clear hcell hcell'
  go_enter Tryz.func48, Tryz.ntmps48
  go_upto_region 5 with fail
  rw [chain]
  obtain ⟨W2, h2⟩ : ∃ W2, W1.setCells W0.heap.size 0 (cl x) = W2 := ⟨_, rfl⟩
  obtain ⟨Z2, G2⟩ := over (cs' := cl x) Y1.out rfl
  rw [h2] at Z2 G2
  have K2 : Below w.heap.size w W2 := below_over (after K0.out K1.out) G2 (by have := S0.out; omega)
  have K02 : Below W0.heap.size W0 W2 := below_over K1.out G2 (Nat.le_refl _)
  have X2 : Lies W2 w.heap.size 45 zs := X0.out.next K02
  have H2 : Box W2 g room sh (.slice (some ⟨b, 0, none⟩) n cap) (x :: L) := H0.out.next K02
  have nb : b < W0.heap.size := (H0.out.own.lt b rfl).2
  rw [h2]
  have Z2 := Lib.hid Z2
  have K2 := Lib.hid K2
  have X2 := Lib.hid X2
  have H2 := Lib.hid H2
  have nb := Lib.hid nb
  clear K02 G2 y0 y1 y2 y3 y4 y5 y6 y7 y8 y9 y10 d0 d1 d2 d3 d4 d5 d6 d7 d8 d9 d10 c1 YF h2 h1 h0 Y1 X1
  have c1 := H2.out.lies.cell (i := 1) rfl
  go_wp2_with fail
  refine (D.out W2 H2.out.own).mono ?_
  rintro r w3 ⟨A, c, rfl, o3, k3, e3⟩
  have gl := H2.out.lies.lt
  have l3 := (k3.block g H2.out.lies.lt (fun e => H2.out.not e.symm)).trans H2.out.lies
  have y1 := Lies.cell l3 (i := 1) rfl
  have y2 := Lies.open_ l3 1
  have P := Lib.hid (H2.out.put k3 o3 (.inl e3))
  have nbw : b < w.heap.size := (H.out.own.lt b rfl).2
  have nw : b ≠ w.heap.size := by omega
  have nw2 : b ≠ W0.heap.size := fun e => by have := nb.out; omega
  have ng : g ≠ w.heap.size := by have := lx; omega
  have ng2 : g ≠ W0.heap.size := by have := S0.out; omega
  have Z3 : Lies w3 W0.heap.size 45 (cl x) := (k3.block _ Z2.out.lt (fun e => nw2 (Option.some.inj e).symm)).trans Z2.out
  have X3 : Lies w3 w.heap.size 45 zs := (k3.block _ X2.out.lt (fun e => nw (Option.some.inj e).symm)).trans X2.out
  have Z4 := Z3.far (p := ⟨g, 1, none⟩) ng2.symm (.slice A L.length c)
  have X4 := X3.far (p := ⟨g, 1, none⟩) ng.symm (.slice A L.length c)
  obtain ⟨z0, z1, z2, z3, z4, z5, z6, z7, z8, z9, z10⟩ := eleven Z4
  obtain ⟨x0, x1, x2, x3, x4, x5, x6, x7, x8, x9, x10⟩ := eleven X4
  have f4 := X4.open_
  have X4 := Lib.hid X4
  have e3' := Lib.hid e3
  clear Z4 Z3 X3 l3 k3 o3 e3 D c1
  go_wp2_with fail
  rw [chain]
  obtain ⟨Z5, G5⟩ := over (cs' := cl x) X4.out rfl
  obtain ⟨u0, u1, u2, u3, u4, u5, u6, u7, u8, u9, u10⟩ := eleven Z5
  have M5 := moves_later ((Moves.of_below K2.out I0.out).trans P.out.2) G5 (Nat.le_refl _)
  have B5 : Box ((w3.setCell ⟨g, 1, none⟩ (.slice A L.length c)).setCells w.heap.size 0 (cl x)) g room sh (.slice A L.length c) L :=
    ⟨(G5.block g P.out.1.lies.lt fun e => ng (Option.some.inj e)).trans P.out.1.lies, P.out.1.own.move fun a ha => G5.block a (P.out.1.own.lt a ha).2 fun e => nw (by rw [e3'.out] at ha; rw [← Option.some.inj e]; exact (Option.some.inj ha))⟩
  exact bodyPost_ret (v := .tuple #[val x, .bool true]) (by simp [results, Tryz.results48, go_sem, u0, u1, u2, u3, u4, u5, u6, u7, u8, u9, u10]) rfl ⟨_, rfl, B5, M5⟩
end Ms
end Go.Proofs.YtdnigpkdnkbfbaaGreat
