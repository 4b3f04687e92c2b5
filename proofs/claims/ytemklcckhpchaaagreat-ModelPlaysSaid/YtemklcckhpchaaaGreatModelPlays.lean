/-
  ModelPlays holds: for any config, calls and key the law answers true (no conditions).
-/
import Derived.Test.YtemklcckhpchaaaGreatRmAll
import Derived.Test.YtemklcckhpchaaaGreatWhen
import Derived.Test.YtemklcckhpchaaaGreatLaid
namespace Go.Proofs.YtemklcckhpchaaaGreat
open Go.ChangeShapes Go.WideShapes Go.ChangeAt Go.RowKit Rel
set_option maxRecDepth 100000
namespace modelPlays
open Small Foot Pane Grp Ca Md Rg
set_option linter.unusedVariables false

/-- both models, side by side -/
structure AB (w0 w : World) (mo rm : Nat) (F G : Nat → Prop) (cf : C8) (S : Lists) (R : List Pn) (N : Nat) (mark : Int) (L : List Pn) (cl : Bool) : Prop where
  mi : Md.Is w mo F cf S N mark L cl
  ri : Rm.Is w rm G cf R mark L cl
  ap : Apart F G
  ff : From w0.heap.size F
  fg : From w0.heap.size G
  bl : Below w0.heap.size w0 w
  rp : Rep S R
  wf : (Lit.int .i64 mark).wf = true
theorem AB.next {w0 w w' : World} {mo rm N : Nat} {F G : Nat → Prop} {cf : C8} {S : Lists} {R : List Pn} {mark : Int} {L : List Pn} {cl : Bool} (h : AB w0 w mo rm F G cf S R N mark L cl) (k : Below w.heap.size w w') : AB w0 w' mo rm F G cf S R N mark L cl :=
  ⟨h.mi.next k, h.ri.next k, h.ap, h.ff, h.fg, h.bl.trans (k.mono h.bl.size), h.rp, h.wf⟩
/-- what the parts of the comparison yield -/
def Zp (B mo rm gr : Nat) (ov : Value) (key : ByteArray) (mark : Int) (L P : List Pn) (i : Nat) (u : Value) (w : World) : Prop := match i with
  | 0 => u = .bool true
  | 1 => u = .bool false
  | 2 => u = .bool false
  | 3 => u = gp mo
  | 4 => Sl.Own Pn.k B w u L
  | 5 => u = gp rm
  | 6 => u = gp rm
  | 7 => u = .pointer (some ⟨rm, 1, none⟩)
  | 8 => u = ov
  | 9 => u = .bool true
  | 10 => u = .bool false
  | 11 => u = .bool false
  | 12 => u = .bool false
  | 13 => u = gp mo
  | 14 => u = .int .i64 mark
  | 15 => u = gp rm
  | 16 => u = gp rm
  | 17 => u = .pointer (some ⟨rm, 2, none⟩)
  | 18 => u = .int .i64 mark
  | 19 => u = .bool false
  | 20 => u = .bool false
  | 21 => u = .bool false
  | 22 => u = gp mo
  | 23 => u = .string key
  | 24 => Sl.Own Pn.k B w u P
  | 25 => u = gp rm
  | 26 => u = gp rm
  | 27 => u = .pointer (some ⟨rm, 0, none⟩)
  | 28 => u = gp gr
  | 29 => u = .string key
  | 30 => Sl.Own Pn.k B w u P
  | 31 => u = .bool true
  | 32 => u = .bool false
  | _ => True
theorem Zp.mono (B mo rm gr : Nat) (ov : Value) (key : ByteArray) (mark : Int) (L P : List Pn) : ∀ i u w w', Zp B mo rm gr ov key mark L P i u w → Below w.heap.size w w' → Zp B mo rm gr ov key mark L P i u w'
  | 0, u, w, w', h, k => h
  | 1, u, w, w', h, k => h
  | 2, u, w, w', h, k => h
  | 3, u, w, w', h, k => h
  | 4, u, w, w', h, k => Sl.Own.next (K := Pn.k) h k
  | 5, u, w, w', h, k => h
  | 6, u, w, w', h, k => h
  | 7, u, w, w', h, k => h
  | 8, u, w, w', h, k => h
  | 9, u, w, w', h, k => h
  | 10, u, w, w', h, k => h
  | 11, u, w, w', h, k => h
  | 12, u, w, w', h, k => h
  | 13, u, w, w', h, k => h
  | 14, u, w, w', h, k => h
  | 15, u, w, w', h, k => h
  | 16, u, w, w', h, k => h
  | 17, u, w, w', h, k => h
  | 18, u, w, w', h, k => h
  | 19, u, w, w', h, k => h
  | 20, u, w, w', h, k => h
  | 21, u, w, w', h, k => h
  | 22, u, w, w', h, k => h
  | 23, u, w, w', h, k => h
  | 24, u, w, w', h, k => Sl.Own.next (K := Pn.k) h k
  | 25, u, w, w', h, k => h
  | 26, u, w, w', h, k => h
  | 27, u, w, w', h, k => h
  | 28, u, w, w', h, k => h
  | 29, u, w, w', h, k => h
  | 30, u, w, w', h, k => Sl.Own.next (K := Pn.k) h k
  | 31, u, w, w', h, k => h
  | 32, u, w, w', h, k => h
  | i + 33, u, w, w', h, k => trivial

set_option maxHeartbeats 16000000 in
theorem walk_on (A : Option Addr) (n cp : Nat) (f : Nat → Cl) (key : ByteArray) (cf : C8) (w : World) (hq : Hid (Fw n f 60)) (hf : Hid (∀ i, i < n → (f i).Fit)) (hk100 : key.size ≤ 100) (hnm : n ≤ maxLen)
    (hc : Hid (Row A n f w)) (M : Hid (Asg.may cf.k cf.s cf.l cf.g cf.z cf.h cf.r cf.c)) (CFI : Hid (cfOf cf).Fit) :
    Calls Tryz.prog 3 #[cf.v, .slice A n cp, .string key] w fun r w' => r = .returned (.bool true) ∧ Below w.heap.size w w' := by
  have n60 : n ≤ 60 := hq.out.1
  have hk : key.size ≤ maxLen := by unfold maxLen; omega
  have qk : decide ((100 : Int) < key.size) = false := decide_eq_false (by omega)
  have qk2 : decide (100 < key.size) = false := decide_eq_false (by omega)
  have BC : Hid (cf.s ≤ 9223372036854775807 ∧ cf.l ≤ 9223372036854775807 ∧ cf.g ≤ 9223372036854775807 ∧ cf.z ≤ 9223372036854775807) := Lib.hid ⟨(fit CFI.out.2.1).2, (fit CFI.out.2.2.1).2, (fit CFI.out.2.2.2.1).2, (fit CFI.out.2.2.2.2.1).2⟩
  have X0 := Lib.hid (Lies.new w 23 cf.cl)
  have K0 := Lib.hid (below1 w (Obj.cells #[.int .i64 cf.k, .int .i64 cf.s, .int .i64 cf.l, .int .i64 cf.g, .int .i64 cf.z, .int .i64 cf.h, .int .i64 cf.r, .int .i64 cf.c] 23))
  have hc := Lib.hid (hc.out.next K0.out)
  go_enter Tryz.func3, Tryz.ntmps3
  go_upto_region 1 with fail
  generalize w.alloc (Obj.cells #[.int .i64 cf.k, .int .i64 cf.s, .int .i64 cf.l, .int .i64 cf.g, .int .i64 cf.z, .int .i64 cf.h, .int .i64 cf.r, .int .i64 cf.c] 23) = w0 at X0 K0 hc ⊢
  go_wp2_with fail
  refine (Md.up_ok _).mono ?_
  rintro r w1 ⟨rfl, k1⟩
  have K1 := Lib.hid k1
  have X1 := Lib.hid (X0.out.next k1)
  clear k1
  have c0 := X1.out.cell (i := 0) rfl
  have c1 := X1.out.cell (i := 1) rfl
  have c2 := X1.out.cell (i := 2) rfl
  have c3 := X1.out.cell (i := 3) rfl
  have c4 := X1.out.cell (i := 4) rfl
  have c5 := X1.out.cell (i := 5) rfl
  have c6 := X1.out.cell (i := 6) rfl
  have c7 := X1.out.cell (i := 7) rfl
  go_wp2_with fail
  refine (Md.new_ok cf w1 M BC.out.1).mono ?_
  rintro r w2 ⟨mo, F, rfl, h2, f2, k2⟩
  have H2 := Lib.hid h2
  have F2 : Hid (From w0.heap.size F) := Lib.hid fun k hk => Nat.le_trans K1.out.size (f2 k hk)
  have K2 := Lib.hid (after K1.out k2)
  have X2 := Lib.hid (X0.out.next K2.out)
  clear h2 f2 k2 K1 X1
  clear c0 c1 c2 c3 c4 c5 c6 c7
  have c0 := X2.out.cell (i := 0) rfl
  have c1 := X2.out.cell (i := 1) rfl
  have c2 := X2.out.cell (i := 2) rfl
  have c3 := X2.out.cell (i := 3) rfl
  have c4 := X2.out.cell (i := 4) rfl
  have c5 := X2.out.cell (i := 5) rfl
  have c6 := X2.out.cell (i := 6) rfl
  have c7 := X2.out.cell (i := 7) rfl
  go_wp2_with fail
  refine (Asg.refMay_ok cf.k cf.s cf.l cf.g cf.z cf.h cf.r cf.c _ true (Lib.hid (by simp [M.out])) BC.out.1).mono ?_
  rintro r w3 ⟨rfl, k3⟩
  have H3 := Lib.hid (H2.out.next k3)
  have K3 := Lib.hid (after K2.out k3)
  have hc3 := Lib.hid (hc.out.next K3.out)
  clear k3 H2 K2 X2
  clear c0 c1 c2 c3 c4 c5 c6 c7
  go_wp2_with fail
  refine (Md.few_ok A n cp f 60 true w3 (Lib.hid (by simpa using hq.out)) (by omega) hnm hc3).mono ?_
  rintro r w4 ⟨rfl, k4⟩
  have H4 := Lib.hid (H3.out.next k4)
  have K4 := Lib.hid (after K3.out k4)
  have X4 := Lib.hid (X0.out.next K4.out)
  clear k4 H3 K3 hc3
  have c0 := X4.out.cell (i := 0) rfl
  have c1 := X4.out.cell (i := 1) rfl
  have c2 := X4.out.cell (i := 2) rfl
  have c3 := X4.out.cell (i := 3) rfl
  have c4 := X4.out.cell (i := 4) rfl
  have c5 := X4.out.cell (i := 5) rfl
  have c6 := X4.out.cell (i := 6) rfl
  have c7 := X4.out.cell (i := 7) rfl
  go_wp2_with fail
  refine (Rm.new_ok cf w4).mono ?_
  rintro r w5 ⟨rm, G, rfl, r5, f5, k5⟩
  have B5 : Hid (AB w0 w5 mo rm F G cf (fun _ => []) [] (16 * 0) (-9223372036854775808) [] false) := Lib.hid ⟨H4.out.next k5, r5, fun k hk q => by have := H4.out.in _ hk; have := f5 k q; omega, F2.out, fun k hk => Nat.le_trans K4.out.size (f5 k hk), after K4.out k5, Rr.rep_none, by decide⟩
  clear r5 f5 k5 H4 K4 X4 F2
  clear c0 c1 c2 c3 c4 c5 c6 c7
  go_wp2_with fail
  go_loopw [12] (fun si wr => ∃ (i : Nat) (S : Lists) (R : List Pn) (mark : Int) (L : List Pn) (cl : Bool) (F G : Nat → Prop), i ≤ n ∧ si = .int .i64 i ∧ Hid (AB w0 wr mo rm F G cf S R (16 * i) mark L cl)) (fun si _ => n - (intOf si).toNat)
  case atStart => exact ⟨0, _, _, _, _, _, _, _, Nat.zero_le _, rfl, B5⟩
  case round =>
    obtain ⟨i, S, R, mark, L, cl, F, G, hi, rfl, B⟩ := hrel
    clear B5
    by_cases hlt : i < n
    · obtain ⟨ab, off, rfl, hcell⟩ := hc.out (by omega)
      obtain ⟨x, hx⟩ : ∃ x, x = f i := ⟨_, rfl⟩
      have fx : Hid x.Fit := Lib.hid (hx ▸ hf.out i hlt)
      have hxk : x.key.size ≤ maxLen := by have := hq.out.2 i hlt; rw [← hx] at this; unfold maxLen; omega
      have hcell := hcell i hlt
      rw [← hx] at hcell
      have HC := Lib.hid hcell
      have i0 : (i : Int) < n := by omega
      obtain ⟨z, T⟩ := Asg.tells cf.k cf.s cf.l cf.g cf.z cf.h cf.r cf.c x.t (fit fx.out.2.2.1).1 (fit fx.out.2.2.1).2 M.out
      have T := Lib.hid T
      clear hx hcell
      have hN : 16 * i ≤ 8880 := by omega
      obtain ⟨g1, Fg1, n1, GI, few⟩ := B.out.mi.grp
      have GI := Lib.hid GI
      have hRn := Rr.count B.out.rp GI.out hN
      have hRN : R.length ≤ 8880 := by have := GI.out.few; omega
      have hLN : L.length ≤ 8880 := by omega
      have FE : Hid (∀ p ∈ R, (Lit.int .i64 p.e).wf = true) := Lib.hid (Rr.ends B.out.rp GI.out)
      have DD : Hid ((ofKey x.key R).Pairwise fun p q => ¬ Eq2 p q.s q.e) := Lib.hid (Rm.rep_apart B.out.rp GI.out hN x.key)
      have OKS := Lib.hid GI.out.ok
      have WF := Lib.hid B.out.wf
      clear few hRn
      have CS : Hid (∀ w', Below w0.heap.size w0 w' → (w'.cell? ⟨ab, off + i * 7, none⟩ = some (.int .i64 x.op) ∧ w'.cell? ⟨ab, off + i * 7 + 1, none⟩ = some (.string x.key) ∧ w'.cell? ⟨ab, off + i * 7 + 2, none⟩ = some (.int .i64 x.t) ∧ w'.cell? ⟨ab, off + i * 7 + 3, none⟩ = some (.int .i64 x.v) ∧ w'.cell? ⟨ab, off + i * 7 + 4, none⟩ = some (.int .i64 x.e) ∧ w'.cell? ⟨ab, off + i * 7 + 5, none⟩ = some (.int .i64 x.u) ∧ w'.cell? ⟨ab, off + i * 7 + 6, none⟩ = some (.int .i64 x.s)) ∧ Below w0.heap.size w0 w') := Lib.hid fun w' hB => ⟨⟨(by have h := (hB.cell (World.block_lt_of_cell? _ _ (HC.out 0 _ rfl)) |>.trans (HC.out 0 _ rfl)); rw [← Nat.add_assoc] at h; rw [Nat.add_zero] at h; exact h), (by have h := (hB.cell (World.block_lt_of_cell? _ _ (HC.out 1 _ rfl)) |>.trans (HC.out 1 _ rfl)); rw [← Nat.add_assoc] at h; exact h), (by have h := (hB.cell (World.block_lt_of_cell? _ _ (HC.out 2 _ rfl)) |>.trans (HC.out 2 _ rfl)); rw [← Nat.add_assoc] at h; exact h), (by have h := (hB.cell (World.block_lt_of_cell? _ _ (HC.out 3 _ rfl)) |>.trans (HC.out 3 _ rfl)); rw [← Nat.add_assoc] at h; exact h), (by have h := (hB.cell (World.block_lt_of_cell? _ _ (HC.out 4 _ rfl)) |>.trans (HC.out 4 _ rfl)); rw [← Nat.add_assoc] at h; exact h), (by have h := (hB.cell (World.block_lt_of_cell? _ _ (HC.out 5 _ rfl)) |>.trans (HC.out 5 _ rfl)); rw [← Nat.add_assoc] at h; exact h), (by have h := (hB.cell (World.block_lt_of_cell? _ _ (HC.out 6 _ rfl)) |>.trans (HC.out 6 _ rfl)); rw [← Nat.add_assoc] at h; exact h)⟩, hB⟩
      have CB : Hid (∀ w', (w'.cell? ⟨ab, off + i * 7, none⟩ = some (.int .i64 x.op) ∧ w'.cell? ⟨ab, off + i * 7 + 1, none⟩ = some (.string x.key) ∧ w'.cell? ⟨ab, off + i * 7 + 2, none⟩ = some (.int .i64 x.t) ∧ w'.cell? ⟨ab, off + i * 7 + 3, none⟩ = some (.int .i64 x.v) ∧ w'.cell? ⟨ab, off + i * 7 + 4, none⟩ = some (.int .i64 x.e) ∧ w'.cell? ⟨ab, off + i * 7 + 5, none⟩ = some (.int .i64 x.u) ∧ w'.cell? ⟨ab, off + i * 7 + 6, none⟩ = some (.int .i64 x.s)) ∧ Below w0.heap.size w0 w' → Below w0.heap.size w0 w') := Lib.hid fun w' h => h.2
      have BD := Lib.hid (B.out.next (Below.refl _ _).drew)
      have hz := Gr.told16 M.out (fit fx.out.2.2.1).1 BC.out.1 BC.out.2.2.1 T.out
      have HZ := Lib.hid hz
      clear hz
      go_wp2_with fail
      go_region_held3 (fun w' => (w'.cell? ⟨ab, off + i * 7, none⟩ = some (.int .i64 x.op) ∧ w'.cell? ⟨ab, off + i * 7 + 1, none⟩ = some (.string x.key) ∧ w'.cell? ⟨ab, off + i * 7 + 2, none⟩ = some (.int .i64 x.t) ∧ w'.cell? ⟨ab, off + i * 7 + 3, none⟩ = some (.int .i64 x.v) ∧ w'.cell? ⟨ab, off + i * 7 + 4, none⟩ = some (.int .i64 x.e) ∧ w'.cell? ⟨ab, off + i * 7 + 5, none⟩ = some (.int .i64 x.u) ∧ w'.cell? ⟨ab, off + i * 7 + 6, none⟩ = some (.int .i64 x.s)) ∧ Below w0.heap.size w0 w')
        (first | exact CS.out _ BD.out.bl | exact CS.out _ K5.out | exact CS.out _ K6.out | exact CS.out _ K7.out)
        (first
          | (go_at_call 11; refine (Md.do_ok x z _ (Lib.hid BD.out.mi) hN M CFI fx hxk WF T).mono ?_; rintro r w5 ⟨rv, code, P, c, S', mark', L', cl', F', rfl, hd, hP, h5, v5, o5⟩; have H5 := Lib.hid h5; have R5 := Lib.hid (BD.out.ri.beside v5 BD.out.ap.symm); have A5 := Lib.hid (v5.apart BD.out.ap BD.out.ri.in); have FF5 := Lib.hid (v5.from BD.out.ff BD.out.bl.size); have K5 := Lib.hid (BD.out.bl.trans (v5.below BD.out.ff BD.out.bl.size)); have O5 := Lib.hid o5; have HD := Lib.hid hd; have s5 := Lib.hid v5.size; obtain ⟨A5v, n5v, c5v, rfl⟩ := lit o5; clear h5 v5 o5 hd)
          | (go_at_call 12; refine (Rm.do_ok x z w5 R5 hRN hLN M CFI fx WF FE DD T).mono ?_; rintro r w6 ⟨rv2, code2, P2, R', mark2, L2, cl2, G', rfl, hd2, h6, v6, o6⟩; obtain ⟨rfl, rfl, rfl, rfl, rfl, rp'⟩ := Rm.both_did BD.out.rp OKS.out hN HZ.out BD.out.mi.over HD.out hd2; have lowG : ∀ a, wr.heap.size ≤ a → ¬ G a := (fun a ha q => by have := B.out.ri.in _ q; omega); have H6 := Lib.hid (H5.out.beside v6 A5.out); have R6 := Lib.hid h6; have A6 := Lib.hid (v6.apart A5.out.symm H5.out.in).symm; have FG6 := Lib.hid (v6.from B.out.fg K5.out.size); have K6 := Lib.hid (K5.out.trans (v6.below B.out.fg K5.out.size)); have O56 := Lib.hid (O5.out.move fun a ha => v6.block a (O5.out.lt a ha).2 (lowG a (O5.out.lt a ha).1)); have O6 := Lib.hid o6; have RP := Lib.hid rp'; obtain ⟨A6v, n6v, c6v, rfl⟩ := lit o6; clear h6 v6 o6 hd2 lowG rp')
          | (go_at_call 10; refine (told true (Ca.rsame_ok code code _ _ P P w6 (Lib.hid (Out.Rd.own O56.out)) (Lib.hid (Out.Rd.own O6.out)) hP hP) (by simp)).mono ?_; rintro r w7 ⟨rfl, k7⟩; have K7 := Lib.hid (K6.out.trans (k7.mono K6.out.size)); have H7 := Lib.hid (H6.out.next k7); have R7 := Lib.hid (R6.out.next k7); clear k7))
      have hc16 := HD.out.c16 HZ.out
      have B7 : Hid (AB w0 w7 mo rm F' G' cf S' R' (16 * (i + 1)) mark' L' cl') := Lib.hid ⟨H7.out.more (by omega), R7.out, A6.out, FF5.out, FG6.out, K7.out, RP.out, HD.out.wf WF.out fx.out.2.2.1⟩
      clear CS CB BD HZ hP hN hRN hLN FE DD OKS WF H5 R5 A5 FF5 K5 O5 HD s5 H6 R6 A6 FG6 K6 O56 O6 RP H7 R7 K7 GI hc16
      go_upto_region 13 with fail
      generalize w7 = w4 at B7 ⊢
      have hN : 16 * (i + 1) ≤ 8880 := by omega
      obtain ⟨g1, Fg1, n1, GI, few⟩ := B7.out.mi.grp
      have FS : Hid (Fine S') := Lib.hid (GI.fine hN)
      have hRn := Rr.count B7.out.rp GI hN
      have hR : R'.length ≤ 10000 := by have := GI.few; omega
      have hLn : L'.length ≤ 9000 := by omega
      clear few hRn GI
      have HM := Lib.hid B7.out.mi
      have rp := Lib.hid B7.out.rp
      obtain ⟨gr, Fr, ov, RQ0, -⟩ := B7.out.ri
      have RQ := Lib.hid RQ0
      clear RQ0
      obtain ⟨P, hP⟩ : ∃ P, P = S' key := ⟨_, rfl⟩
      have hP := Lib.hid hP
      have hPn : P.length ≤ 9000 := by rw [hP.out]; exact FS.out.few key
      refine wp_region_when Goes.below 33 115 (Zp w4.heap.size mo rm gr ov key mark' L' P) (by show _ = _; kernel_rfl) (by show _ = _; kernel_rfl) (by show _ = _; kernel_rfl) (Zp.mono w4.heap.size mo rm gr ov key mark' L' P) ?_ ?_ ?_
      · intro k j b hk hg v w' hv
        obtain ⟨hj, rfl⟩ := RelW.guards_of (js := [2, 12, 21]) (b := false) (by show _ = _; kernel_rfl) hk hg
        simp only [List.mem_cons, List.not_mem_nil, or_false] at hj
        rcases hj with rfl | rfl | rfl | rfl | rfl | rfl | rfl | rfl | rfl | rfl | rfl <;> exact hv
      · intro i hi o ho a' w' Kc hd hout hdep hB hK
        match i, hi, ho with
        | 0, _, ho => exact Sl.wp_move _ (Reg.Has.op (p := Op.move (.tmp 13)) (t := 80) (by show _ = _; kernel_rfl) ho).1 (hK _ _ (hout 13 (Reg.Free.out (by show _ = _; kernel_rfl))) (Below.refl _ _))
        | 1, _, ho =>
          refine wp_val (V := .bool false) (w' := w') ?_ (hK _ _ rfl (Below.refl _ _))
          have hop := (Reg.Has.op (p := Op.unOp UnOp.not 4 (.tmp 80)) (t := 81) (by show _ = _; kernel_rfl) ho).1
          have q0 : a'.eval (.tmp 80) = .bool true := (hdep 0 (mem_of (by show _ = _; kernel_rfl)) 80 (by show _ = _; kernel_rfl))
          generalize a'.eval = ev at q0
          simp [execOp, hop, go_sem, q0]
        | 2, _, ho => exact Sl.wp_move _ (Reg.Has.op (p := Op.move (.tmp 81)) (t := 82) (by show _ = _; kernel_rfl) ho).1 (hK _ _ (hdep 1 (mem_of (by show _ = _; kernel_rfl)) 81 (by show _ = _; kernel_rfl)) (Below.refl _ _))
        | 3, _, ho => exact Sl.wp_move _ (Reg.Has.op (p := Op.move (.tmp 8)) (t := 83) (by show _ = _; kernel_rfl) ho).1 (hK _ _ (hout 8 (Reg.Free.out (by show _ = _; kernel_rfl))) (Below.refl _ _))
        | 4, _, ho =>
          have q0 : a'.eval (.tmp 83) = gp mo := (hdep 3 (mem_of (by show _ = _; kernel_rfl)) 83 (by show _ = _; kernel_rfl))
          refine wp_call (S := fun u w2 => Sl.Own Pn.k w'.heap.size w2 u L' ∧ Below w'.heap.size w' w2) (Reg.Has.op (p := Op.call { callee := Callee.value (.func 14), args := #[.tmp 83], argTypes := #[26] }) (t := 84) (by show _ = _; kernel_rfl) ho).1 #[gp mo] (by simp [q0]) (fun _ _ => enters Tryz.func14 (by kernel_rfl) rfl _ _) ((Md.out_ok w' (Lib.hid (HM.out.next hB)) hN).mono (fun e w2 ⟨v, h1, h2, h3⟩ => ⟨v, h1, h2, h3⟩)) ?_
          rintro u w2 ⟨h1, h2⟩
          exact hK _ _ (Gr.own_base h1 hB.size) h2
        | 5, _, ho => exact Sl.wp_move _ (Reg.Has.op (p := Op.move (.tmp 11)) (t := 85) (by show _ = _; kernel_rfl) ho).1 (hK _ _ (hout 11 (Reg.Free.out (by show _ = _; kernel_rfl))) (Below.refl _ _))
        | 6, _, ho =>
          refine wp_val (V := gp rm) (w' := w') ?_ (hK _ _ rfl (Below.refl _ _))
          have hop := (Reg.Has.op (p := Op.nilCheck (.tmp 85)) (t := 86) (by show _ = _; kernel_rfl) ho).1
          have q0 : a'.eval (.tmp 85) = gp rm := (hdep 5 (mem_of (by show _ = _; kernel_rfl)) 85 (by show _ = _; kernel_rfl))
          generalize a'.eval = ev at q0
          simp [execOp, hop, go_sem, q0]
        | 7, _, ho =>
          refine wp_val (V := .pointer (some ⟨rm, 1, none⟩)) (w' := w') ?_ (hK _ _ rfl (Below.refl _ _))
          have hop := (Reg.Has.op (p := Op.fieldAddr 47 (.tmp 86) 1) (t := 87) (by show _ = _; kernel_rfl) ho).1
          have q0 : a'.eval (.tmp 86) = gp rm := (hdep 6 (mem_of (by show _ = _; kernel_rfl)) 86 (by show _ = _; kernel_rfl))
          generalize a'.eval = ev at q0
          simp [execOp, hop, go_sem, q0]
        | 8, _, ho =>
          refine wp_val (V := ov) (w' := w') ?_ (hK _ _ rfl (Below.refl _ _))
          have hop := (Reg.Has.op (p := Op.load 37 (.tmp 87)) (t := 88) (by show _ = _; kernel_rfl) ho).1
          have q0 : a'.eval (.tmp 87) = .pointer (some ⟨rm, 1, none⟩) := (hdep 7 (mem_of (by show _ = _; kernel_rfl)) 87 (by show _ = _; kernel_rfl))
          have q1 : w'.cell? ⟨rm, 1, none⟩ = some (ov) := (RQ.out.lies.next hB).cell (i := 1) rfl
          generalize a'.eval = ev at q0
          simp [execOp, hop, go_sem, q0, q1]
        | 9, _, ho =>
          have r1 : Out.Rd w' (a'.eval (.tmp 84)) L' := Out.Rd.own (show Sl.Own Pn.k w4.heap.size w' _ L' from (hdep 4 (mem_of (by show _ = _; kernel_rfl)) 84 (by show _ = _; kernel_rfl)))
          have q8 : a'.eval (.tmp 88) = ov := (hdep 8 (mem_of (by show _ = _; kernel_rfl)) 88 (by show _ = _; kernel_rfl))
          have r2 : Out.Rd w' (a'.eval (.tmp 88)) L' := by rw [q8]; exact Out.Rd.own (RQ.out.own.next hB)
          refine wp_call (S := fun u w2 => u = .bool true ∧ Below w'.heap.size w' w2) (Reg.Has.op (p := Op.call { callee := Callee.value (.func 13), args := #[.tmp 84, .tmp 88], argTypes := #[37, 37] }) (t := 89) (by show _ = _; kernel_rfl) ho).1 #[a'.eval (.tmp 84), a'.eval (.tmp 88)] (by simp) (fun _ _ => enters Tryz.func13 (by kernel_rfl) rfl _ _) ((told true (Out.same_ok _ _ L' L' w' (Lib.hid r1) (Lib.hid r2) hLn hLn) (by simp)).mono (fun e w2 ⟨h1, h2⟩ => ⟨_, h1, rfl, h2⟩)) ?_
          rintro u w2 ⟨rfl, h2⟩
          exact hK _ _ rfl h2
        | 10, _, ho =>
          refine wp_val (V := .bool false) (w' := w') ?_ (hK _ _ rfl (Below.refl _ _))
          have hop := (Reg.Has.op (p := Op.unOp UnOp.not 4 (.tmp 89)) (t := 90) (by show _ = _; kernel_rfl) ho).1
          have q0 : a'.eval (.tmp 89) = .bool true := (hdep 9 (mem_of (by show _ = _; kernel_rfl)) 89 (by show _ = _; kernel_rfl))
          generalize a'.eval = ev at q0
          simp [execOp, hop, go_sem, q0]
        | 11, _, ho =>
          refine wp_val (V := .bool false) (w' := w') ?_ (hK _ _ rfl (Below.refl _ _))
          have hop := (Reg.Has.op (p := Op.pick (.tmp 82) (.const (.bool true)) (.tmp 90)) (t := 91) (by show _ = _; kernel_rfl) ho).1
          have q0 : a'.eval (.tmp 82) = .bool false := (hdep 2 (mem_of (by show _ = _; kernel_rfl)) 82 (by show _ = _; kernel_rfl))
          have q1 : a'.eval (.tmp 90) = .bool false := (hdep 10 (mem_of (by show _ = _; kernel_rfl)) 90 (by show _ = _; kernel_rfl))
          generalize a'.eval = ev at q0 q1
          simp [execOp, hop, go_sem, q0, q1]
        | 12, _, ho => exact Sl.wp_move _ (Reg.Has.op (p := Op.move (.tmp 91)) (t := 92) (by show _ = _; kernel_rfl) ho).1 (hK _ _ (hdep 11 (mem_of (by show _ = _; kernel_rfl)) 91 (by show _ = _; kernel_rfl)) (Below.refl _ _))
        | 13, _, ho => exact Sl.wp_move _ (Reg.Has.op (p := Op.move (.tmp 8)) (t := 93) (by show _ = _; kernel_rfl) ho).1 (hK _ _ (hout 8 (Reg.Free.out (by show _ = _; kernel_rfl))) (Below.refl _ _))
        | 14, _, ho =>
          have q0 : a'.eval (.tmp 93) = gp mo := (hdep 13 (mem_of (by show _ = _; kernel_rfl)) 93 (by show _ = _; kernel_rfl))
          refine wp_call (S := fun u w2 => u = .int .i64 mark' ∧ Below w'.heap.size w' w2) (Reg.Has.op (p := Op.call { callee := Callee.value (.func 15), args := #[.tmp 93], argTypes := #[26] }) (t := 94) (by show _ = _; kernel_rfl) ho).1 #[gp mo] (by simp [q0]) (fun _ _ => enters Tryz.func15 (by kernel_rfl) rfl _ _) ((Md.mark_ok w' (Lib.hid (HM.out.next hB))).mono (fun e w2 ⟨h1, h2⟩ => ⟨_, h1, rfl, h2⟩)) ?_
          rintro u w2 ⟨rfl, h2⟩
          exact hK _ _ rfl h2
        | 15, _, ho => exact Sl.wp_move _ (Reg.Has.op (p := Op.move (.tmp 11)) (t := 95) (by show _ = _; kernel_rfl) ho).1 (hK _ _ (hout 11 (Reg.Free.out (by show _ = _; kernel_rfl))) (Below.refl _ _))
        | 16, _, ho =>
          refine wp_val (V := gp rm) (w' := w') ?_ (hK _ _ rfl (Below.refl _ _))
          have hop := (Reg.Has.op (p := Op.nilCheck (.tmp 95)) (t := 96) (by show _ = _; kernel_rfl) ho).1
          have q0 : a'.eval (.tmp 95) = gp rm := (hdep 15 (mem_of (by show _ = _; kernel_rfl)) 95 (by show _ = _; kernel_rfl))
          generalize a'.eval = ev at q0
          simp [execOp, hop, go_sem, q0]
        | 17, _, ho =>
          refine wp_val (V := .pointer (some ⟨rm, 2, none⟩)) (w' := w') ?_ (hK _ _ rfl (Below.refl _ _))
          have hop := (Reg.Has.op (p := Op.fieldAddr 47 (.tmp 96) 2) (t := 97) (by show _ = _; kernel_rfl) ho).1
          have q0 : a'.eval (.tmp 96) = gp rm := (hdep 16 (mem_of (by show _ = _; kernel_rfl)) 96 (by show _ = _; kernel_rfl))
          generalize a'.eval = ev at q0
          simp [execOp, hop, go_sem, q0]
        | 18, _, ho =>
          refine wp_val (V := .int .i64 mark') (w' := w') ?_ (hK _ _ rfl (Below.refl _ _))
          have hop := (Reg.Has.op (p := Op.load 2 (.tmp 97)) (t := 98) (by show _ = _; kernel_rfl) ho).1
          have q0 : a'.eval (.tmp 97) = .pointer (some ⟨rm, 2, none⟩) := (hdep 17 (mem_of (by show _ = _; kernel_rfl)) 97 (by show _ = _; kernel_rfl))
          have q1 : w'.cell? ⟨rm, 2, none⟩ = some (.int .i64 mark') := (RQ.out.lies.next hB).cell (i := 2) rfl
          generalize a'.eval = ev at q0
          simp [execOp, hop, go_sem, q0, q1]
        | 19, _, ho =>
          refine wp_val (V := .bool false) (w' := w') ?_ (hK _ _ rfl (Below.refl _ _))
          have hop := (Reg.Has.op (p := Op.binOp BinOp.neq 2 (.tmp 94) (.tmp 98) 2) (t := 99) (by show _ = _; kernel_rfl) ho).1
          have q0 : a'.eval (.tmp 94) = .int .i64 mark' := (hdep 14 (mem_of (by show _ = _; kernel_rfl)) 94 (by show _ = _; kernel_rfl))
          have q1 : a'.eval (.tmp 98) = .int .i64 mark' := (hdep 18 (mem_of (by show _ = _; kernel_rfl)) 98 (by show _ = _; kernel_rfl))
          generalize a'.eval = ev at q0 q1
          simp [execOp, hop, go_sem, q0, q1]
        | 20, _, ho =>
          refine wp_val (V := .bool false) (w' := w') ?_ (hK _ _ rfl (Below.refl _ _))
          have hop := (Reg.Has.op (p := Op.pick (.tmp 92) (.const (.bool true)) (.tmp 99)) (t := 100) (by show _ = _; kernel_rfl) ho).1
          have q0 : a'.eval (.tmp 92) = .bool false := (hdep 12 (mem_of (by show _ = _; kernel_rfl)) 92 (by show _ = _; kernel_rfl))
          have q1 : a'.eval (.tmp 99) = .bool false := (hdep 19 (mem_of (by show _ = _; kernel_rfl)) 99 (by show _ = _; kernel_rfl))
          generalize a'.eval = ev at q0 q1
          simp [execOp, hop, go_sem, q0, q1]
        | 21, _, ho => exact Sl.wp_move _ (Reg.Has.op (p := Op.move (.tmp 100)) (t := 101) (by show _ = _; kernel_rfl) ho).1 (hK _ _ (hdep 20 (mem_of (by show _ = _; kernel_rfl)) 100 (by show _ = _; kernel_rfl)) (Below.refl _ _))
        | 22, _, ho => exact Sl.wp_move _ (Reg.Has.op (p := Op.move (.tmp 8)) (t := 102) (by show _ = _; kernel_rfl) ho).1 (hK _ _ (hout 8 (Reg.Free.out (by show _ = _; kernel_rfl))) (Below.refl _ _))
        | 23, _, ho => exact Sl.wp_move _ (Reg.Has.op (p := Op.move (.tmp 2)) (t := 103) (by show _ = _; kernel_rfl) ho).1 (hK _ _ (hout 2 (Reg.Free.out (by show _ = _; kernel_rfl))) (Below.refl _ _))
        | 24, _, ho =>
          have q0 : a'.eval (.tmp 102) = gp mo := (hdep 22 (mem_of (by show _ = _; kernel_rfl)) 102 (by show _ = _; kernel_rfl))
          have q1 : a'.eval (.tmp 103) = .string key := (hdep 23 (mem_of (by show _ = _; kernel_rfl)) 103 (by show _ = _; kernel_rfl))
          refine wp_call (S := fun u w2 => Sl.Own Pn.k w'.heap.size w2 u P ∧ Below w'.heap.size w' w2) (Reg.Has.op (p := Op.call { callee := Callee.value (.func 16), args := #[.tmp 102, .tmp 103], argTypes := #[26, 9] }) (t := 104) (by show _ = _; kernel_rfl) ho).1 #[gp mo, .string key] (by simp [q0, q1]) (fun _ _ => enters Tryz.func16 (by kernel_rfl) rfl _ _) ((Md.panes_ok key w' (Lib.hid (HM.out.next hB)) hN hk).mono (fun e w2 ⟨v, h1, h2, h3⟩ => ⟨v, h1, (by rw [hP.out]; exact h2), h3⟩)) ?_
          rintro u w2 ⟨h1, h2⟩
          exact hK _ _ (Gr.own_base h1 hB.size) h2
        | 25, _, ho => exact Sl.wp_move _ (Reg.Has.op (p := Op.move (.tmp 11)) (t := 105) (by show _ = _; kernel_rfl) ho).1 (hK _ _ (hout 11 (Reg.Free.out (by show _ = _; kernel_rfl))) (Below.refl _ _))
        | 26, _, ho =>
          refine wp_val (V := gp rm) (w' := w') ?_ (hK _ _ rfl (Below.refl _ _))
          have hop := (Reg.Has.op (p := Op.nilCheck (.tmp 105)) (t := 106) (by show _ = _; kernel_rfl) ho).1
          have q0 : a'.eval (.tmp 105) = gp rm := (hdep 25 (mem_of (by show _ = _; kernel_rfl)) 105 (by show _ = _; kernel_rfl))
          generalize a'.eval = ev at q0
          simp [execOp, hop, go_sem, q0]
        | 27, _, ho =>
          refine wp_val (V := .pointer (some ⟨rm, 0, none⟩)) (w' := w') ?_ (hK _ _ rfl (Below.refl _ _))
          have hop := (Reg.Has.op (p := Op.fieldAddr 47 (.tmp 106) 0) (t := 107) (by show _ = _; kernel_rfl) ho).1
          have q0 : a'.eval (.tmp 106) = gp rm := (hdep 26 (mem_of (by show _ = _; kernel_rfl)) 106 (by show _ = _; kernel_rfl))
          generalize a'.eval = ev at q0
          simp [execOp, hop, go_sem, q0]
        | 28, _, ho =>
          refine wp_val (V := gp gr) (w' := w') ?_ (hK _ _ rfl (Below.refl _ _))
          have hop := (Reg.Has.op (p := Op.load 45 (.tmp 107)) (t := 108) (by show _ = _; kernel_rfl) ho).1
          have q0 : a'.eval (.tmp 107) = .pointer (some ⟨rm, 0, none⟩) := (hdep 27 (mem_of (by show _ = _; kernel_rfl)) 107 (by show _ = _; kernel_rfl))
          have q1 : w'.cell? ⟨rm, 0, none⟩ = some (gp gr) := (RQ.out.lies.next hB).cell (i := 0) rfl
          generalize a'.eval = ev at q0
          simp [execOp, hop, go_sem, q0, q1]
        | 29, _, ho => exact Sl.wp_move _ (Reg.Has.op (p := Op.move (.tmp 2)) (t := 109) (by show _ = _; kernel_rfl) ho).1 (hK _ _ (hout 2 (Reg.Free.out (by show _ = _; kernel_rfl))) (Below.refl _ _))
        | 30, _, ho =>
          have q0 : a'.eval (.tmp 108) = gp gr := (hdep 28 (mem_of (by show _ = _; kernel_rfl)) 108 (by show _ = _; kernel_rfl))
          have q1 : a'.eval (.tmp 109) = .string key := (hdep 29 (mem_of (by show _ = _; kernel_rfl)) 109 (by show _ = _; kernel_rfl))
          refine wp_call (S := fun u w2 => Sl.Own Pn.k w'.heap.size w2 u P ∧ Below w'.heap.size w' w2) (Reg.Has.op (p := Op.call { callee := Callee.value (.func 17), args := #[.tmp 108, .tmp 109], argTypes := #[45, 9] }) (t := 110) (by show _ = _; kernel_rfl) ho).1 #[gp gr, .string key] (by simp [q0, q1]) (fun _ _ => enters Tryz.func17 (by kernel_rfl) rfl _ _) ((Rr.panes_ok key w' (Lib.hid (RQ.out.grp.next hB)) hR rp FS).mono (fun e w2 ⟨v, h1, h2, h3⟩ => ⟨v, h1, (by rw [hP.out]; exact h2), h3⟩)) ?_
          rintro u w2 ⟨h1, h2⟩
          exact hK _ _ (Gr.own_base h1 hB.size) h2
        | 31, _, ho =>
          have r1 : Out.Rd w' (a'.eval (.tmp 104)) P := Out.Rd.own (show Sl.Own Pn.k w4.heap.size w' _ P from (hdep 24 (mem_of (by show _ = _; kernel_rfl)) 104 (by show _ = _; kernel_rfl)))
          have r2 : Out.Rd w' (a'.eval (.tmp 110)) P := Out.Rd.own (show Sl.Own Pn.k w4.heap.size w' _ P from (hdep 30 (mem_of (by show _ = _; kernel_rfl)) 110 (by show _ = _; kernel_rfl)))
          refine wp_call (S := fun u w2 => u = .bool true ∧ Below w'.heap.size w' w2) (Reg.Has.op (p := Op.call { callee := Callee.value (.func 13), args := #[.tmp 104, .tmp 110], argTypes := #[37, 37] }) (t := 111) (by show _ = _; kernel_rfl) ho).1 #[a'.eval (.tmp 104), a'.eval (.tmp 110)] (by simp) (fun _ _ => enters Tryz.func13 (by kernel_rfl) rfl _ _) ((told true (Out.same_ok _ _ P P w' (Lib.hid r1) (Lib.hid r2) hPn hPn) (by simp)).mono (fun e w2 ⟨h1, h2⟩ => ⟨_, h1, rfl, h2⟩)) ?_
          rintro u w2 ⟨rfl, h2⟩
          exact hK _ _ rfl h2
        | 32, _, ho =>
          refine wp_val (V := .bool false) (w' := w') ?_ (hK _ _ rfl (Below.refl _ _))
          have hop := (Reg.Has.op (p := Op.unOp UnOp.not 4 (.tmp 111)) (t := 112) (by show _ = _; kernel_rfl) ho).1
          have q0 : a'.eval (.tmp 111) = .bool true := (hdep 31 (mem_of (by show _ = _; kernel_rfl)) 111 (by show _ = _; kernel_rfl))
          generalize a'.eval = ev at q0
          simp [execOp, hop, go_sem, q0]
        | i + 33, hi, _ => exact absurd hi (by omega)
      · intro f w' hv hB hev
        have e21 : f 21 = .bool false := hv 21 (by omega)
        have e32 : f 32 = .bool false := hv 32 (by omega)
        change wpList _ _ _ [_] (Act.put (Act.put (Act.put (Act.put (Act.put (Act.put (Act.put (Act.put (Act.put (Act.put (Act.put (Act.put (Act.put (Act.put (Act.put (Act.put (Act.put (Act.put (Act.put (Act.put (Act.put (Act.put (Act.put (Act.put (Act.put (Act.put (Act.put (Act.put (Act.put (Act.put (Act.put (Act.put (Act.put _ (some 80) (f 0)) (some 81) (f 1)) (some 82) (f 2)) (some 83) (f 3)) (some 84) (f 4)) (some 85) (f 5)) (some 86) (f 6)) (some 87) (f 7)) (some 88) (f 8)) (some 89) (f 9)) (some 90) (f 10)) (some 91) (f 11)) (some 92) (f 12)) (some 93) (f 13)) (some 94) (f 14)) (some 95) (f 15)) (some 96) (f 16)) (some 97) (f 17)) (some 98) (f 18)) (some 99) (f 19)) (some 100) (f 20)) (some 101) (f 21)) (some 102) (f 22)) (some 103) (f 23)) (some 104) (f 24)) (some 105) (f 25)) (some 106) (f 26)) (some 107) (f 27)) (some 108) (f 28)) (some 109) (f 29)) (some 110) (f 30)) (some 111) (f 31)) (some 112) (f 32)) _
        rw [Rel.puts_zero]
        clear hv hev
        rw [e21, e32]
        have KB := Lib.hid hB
        clear hB e21 e32
        generalize f 0 = t0, f 1 = t1, f 2 = t2, f 3 = t3, f 4 = t4, f 5 = t5, f 6 = t6, f 7 = t7, f 8 = t8, f 9 = t9, f 10 = t10, f 11 = t11, f 12 = t12, f 13 = t13, f 14 = t14, f 15 = t15, f 16 = t16, f 17 = t17, f 18 = t18, f 19 = t19, f 20 = t20, f 22 = t22, f 23 = t23, f 24 = t24, f 25 = t25, f 26 = t26, f 27 = t27, f 28 = t28, f 29 = t29, f 30 = t30, f 31 = t31
        go_wp2_with fail
        exact ⟨⟨i + 1, S', R', mark', L', cl', F', G', by omega, by go_num, Lib.hid (B7.out.next KB.out)⟩, by simp [intOf]; omega⟩
    · obtain rfl : i = n := by omega
      go_wp2_with fail
      go_ret
      exact ⟨rfl, after K0.out B.out.bl⟩

set_option maxHeartbeats 4000000 in
theorem walk_no (A : Option Addr) (n cp : Nat) (key : ByteArray) (cf : C8) (w : World) (M : Hid (¬ Asg.may cf.k cf.s cf.l cf.g cf.z cf.h cf.r cf.c)) (s1 : cf.s ≤ 9223372036854775807) :
    Calls Tryz.prog 3 #[cf.v, .slice A n cp, .string key] w fun r w' => r = .returned (.bool true) ∧ Below w.heap.size w w' := by
  have X0 := Lib.hid (Lies.new w 23 cf.cl)
  have K0 := Lib.hid (below1 w (Obj.cells #[.int .i64 cf.k, .int .i64 cf.s, .int .i64 cf.l, .int .i64 cf.g, .int .i64 cf.z, .int .i64 cf.h, .int .i64 cf.r, .int .i64 cf.c] 23))
  go_enter Tryz.func3, Tryz.ntmps3
  go_upto_region 1 with fail
  generalize w.alloc (Obj.cells #[.int .i64 cf.k, .int .i64 cf.s, .int .i64 cf.l, .int .i64 cf.g, .int .i64 cf.z, .int .i64 cf.h, .int .i64 cf.r, .int .i64 cf.c] 23) = w0 at X0 K0 ⊢
  go_wp2_with fail
  refine (Md.up_ok _).mono ?_
  rintro r w1 ⟨rfl, k1⟩
  have K1 := Lib.hid (after K0.out k1)
  have X1 := Lib.hid (X0.out.next k1)
  clear k1 X0
  have c0 := X1.out.cell (i := 0) rfl
  have c1 := X1.out.cell (i := 1) rfl
  have c2 := X1.out.cell (i := 2) rfl
  have c3 := X1.out.cell (i := 3) rfl
  have c4 := X1.out.cell (i := 4) rfl
  have c5 := X1.out.cell (i := 5) rfl
  have c6 := X1.out.cell (i := 6) rfl
  have c7 := X1.out.cell (i := 7) rfl
  go_wp2_with fail
  refine (Md.new_no cf w1 M s1).mono ?_
  rintro r w2 ⟨rfl, k2⟩
  have K2 := Lib.hid (after K1.out k2)
  have X2 := Lib.hid (X1.out.next k2)
  clear k2 X1
  clear c0 c1 c2 c3 c4 c5 c6 c7
  have c0 := X2.out.cell (i := 0) rfl
  have c1 := X2.out.cell (i := 1) rfl
  have c2 := X2.out.cell (i := 2) rfl
  have c3 := X2.out.cell (i := 3) rfl
  have c4 := X2.out.cell (i := 4) rfl
  have c5 := X2.out.cell (i := 5) rfl
  have c6 := X2.out.cell (i := 6) rfl
  have c7 := X2.out.cell (i := 7) rfl
  go_wp2_with fail
  refine (Asg.refMay_ok cf.k cf.s cf.l cf.g cf.z cf.h cf.r cf.c _ false (Lib.hid (by simp [M.out])) s1).mono ?_
  rintro r w3 ⟨rfl, k3⟩
  have K3 := Lib.hid (after K2.out k3)
  have qe := Errs.eql_code w3 2 2
  clear k3
  go_wp2
  go_ret
  exact ⟨rfl, K3.out⟩

set_option maxHeartbeats 4000000 in
theorem walk_far (A : Option Addr) (n cp : Nat) (f : Nat → Cl) (key : ByteArray) (cf : C8) (w : World) (b : Bool) (hq : Hid (b = true ↔ Fw n f 60)) (hb : b = false ∨ 100 < key.size) (hnm : n ≤ maxLen)
    (hc : Hid (Row A n f w)) (M : Hid (Asg.may cf.k cf.s cf.l cf.g cf.z cf.h cf.r cf.c)) (s1 : cf.s ≤ 9223372036854775807) :
    Calls Tryz.prog 3 #[cf.v, .slice A n cp, .string key] w fun r w' => r = .returned (.bool true) ∧ Below w.heap.size w w' := by
  have X0 := Lib.hid (Lies.new w 23 cf.cl)
  have K0 := Lib.hid (below1 w (Obj.cells #[.int .i64 cf.k, .int .i64 cf.s, .int .i64 cf.l, .int .i64 cf.g, .int .i64 cf.z, .int .i64 cf.h, .int .i64 cf.r, .int .i64 cf.c] 23))
  have HB := Lib.hid hb
  clear hb
  go_enter Tryz.func3, Tryz.ntmps3
  go_upto_region 1 with fail
  generalize w.alloc (Obj.cells #[.int .i64 cf.k, .int .i64 cf.s, .int .i64 cf.l, .int .i64 cf.g, .int .i64 cf.z, .int .i64 cf.h, .int .i64 cf.r, .int .i64 cf.c] 23) = w0 at X0 K0 ⊢
  go_wp2_with fail
  refine (Md.up_ok _).mono ?_
  rintro r w1 ⟨rfl, k1⟩
  have K1 := Lib.hid (after K0.out k1)
  have X1 := Lib.hid (X0.out.next k1)
  clear k1 X0
  have c0 := X1.out.cell (i := 0) rfl
  have c1 := X1.out.cell (i := 1) rfl
  have c2 := X1.out.cell (i := 2) rfl
  have c3 := X1.out.cell (i := 3) rfl
  have c4 := X1.out.cell (i := 4) rfl
  have c5 := X1.out.cell (i := 5) rfl
  have c6 := X1.out.cell (i := 6) rfl
  have c7 := X1.out.cell (i := 7) rfl
  go_wp2_with fail
  refine (Md.new_ok cf w1 M s1).mono ?_
  rintro r w2 ⟨mo, F, rfl, -, -, k2⟩
  have K2 := Lib.hid (after K1.out k2)
  have X2 := Lib.hid (X1.out.next k2)
  clear k2 X1
  clear c0 c1 c2 c3 c4 c5 c6 c7
  have c0 := X2.out.cell (i := 0) rfl
  have c1 := X2.out.cell (i := 1) rfl
  have c2 := X2.out.cell (i := 2) rfl
  have c3 := X2.out.cell (i := 3) rfl
  have c4 := X2.out.cell (i := 4) rfl
  have c5 := X2.out.cell (i := 5) rfl
  have c6 := X2.out.cell (i := 6) rfl
  have c7 := X2.out.cell (i := 7) rfl
  go_wp2_with fail
  refine (Asg.refMay_ok cf.k cf.s cf.l cf.g cf.z cf.h cf.r cf.c _ true (Lib.hid (by simp [M.out])) s1).mono ?_
  rintro r w3 ⟨rfl, k3⟩
  have K3 := Lib.hid (after K2.out k3)
  have hc3 := Lib.hid (hc.out.next K3.out)
  clear k3
  go_wp2_with fail
  refine (Md.few_ok A n cp f 60 b w3 hq (by omega) hnm hc3).mono ?_
  rintro r w4 ⟨rfl, k4⟩
  have K4 := Lib.hid (after K3.out k4)
  clear k4
  cases b with
  | false =>
    go_wp2
    go_ret
    exact ⟨rfl, K4.out⟩
  | true =>
    have hk : 100 < key.size := by
      rcases HB.out with q | q
      · cases q
      · exact q
    have qk : decide ((100 : Int) < key.size) = true := decide_eq_true (by omega)
    have qk2 : decide (100 < key.size) = true := decide_eq_true hk
    go_wp2
    go_ret
    exact ⟨rfl, K4.out⟩

theorem walk (c : Cf) (hc : c.Fit) (x : Option Addr × Nat × Nat × (Nat → Cl)) (key : ByteArray) (w : World) (hx : Opens.IsRows Cl.cl 7 Cl.Fit w x) :
    Calls Tryz.prog 3 #[c.val, .slice x.1 x.2.1 x.2.2.1, .string key] w fun r w' => r = .returned (.bool true) ∧ Below w.heap.size w w' := by
  obtain ⟨A, n, cp, f⟩ := x
  obtain ⟨hm, hf, hr⟩ := hx
  simp only at hm hf hr ⊢
  obtain ⟨k, s, l, g, z, h, r, cc⟩ := c
  by_cases M : Asg.may k s l g z h r cc
  · by_cases hq : Fw n f 60 ∧ key.size ≤ 100
    · exact walk_on A n cp f key ⟨k, s, l, g, z, h, r, cc⟩ w (Lib.hid hq.1) (Lib.hid hf) hq.2 hm (Lib.hid hr) (Lib.hid M) (Lib.hid hc)
    · obtain ⟨b, hb⟩ : ∃ b : Bool, b = true ↔ Fw n f 60 := by classical exact ⟨decide (Fw n f 60), by simp⟩
      refine walk_far A n cp f key ⟨k, s, l, g, z, h, r, cc⟩ w b (Lib.hid hb) ?_ hm (Lib.hid hr) (Lib.hid M) (fit hc.2.1).2
      cases b with
      | false => exact .inl rfl
      | true => exact .inr (by have := hb.1 rfl; exact Nat.lt_of_not_le fun q => hq ⟨this, q⟩)
  · exact walk_no A n cp key ⟨k, s, l, g, z, h, r, cc⟩ w (Lib.hid M) (fit hc.2.1).2

theorem own : ownKnob Tryz.prog.godebug = none := by kernel_rfl

set_option maxRecDepth 100000 in
theorem lifted (os : Os) (started : os.Started) (H : Type) (enc : TypeId × Value → H) :
    ReturnsInHanded {} Tryz.checked os 3 .any (Rows.modelPlaysSpec.pre6 enc Tryz.prog Tryz.f3 Rows.modelPlaysRow.domain false) (Rows.modelPlaysSpec.post enc Tryz.prog Tryz.f3 false true false false) := by
  refine returnsInHanded_of_change (C := Tryz.checked) own started (by kernel_rfl) Tryz.func3
    (ChangeSpec.witness6 (enc := enc) (C := Tryz.checked) false ⟨#[], #[.agg #[.int .i64 0, .int .i64 0, .int .i64 0, .int .i64 0, .int .i64 0, .int .i64 0, .int .i64 0, .int .i64 0], .slice none 0 0, .string ⟨#[]⟩], []⟩ 8 (by kernel_rfl) (by kernel_rfl) (by kernel_rfl) (by kernel_rfl)) ?_
  intro W base args ds gs before hval0 hW hcnd _
  have hval : ∀ (j : Nat) t v, Tryz.f3.params[j]? = some t → args[j]? = some v → Value.okWide Tryz.prog W .any base t v := hval0
  have hW' := hW
  obtain ⟨p, q, hA0, hV, rfl, hfz, hnd⟩ := hW
  have hA : DataW.TrodAll enc Tryz.prog W 0 (fun _ => true) true Tryz.f3.params.toList args.toList ds p := hA0
  rw [Tryz.params3] at hA hval
  obtain ⟨v0, vs0, d0, ds0, p0, q0, hargs, rfl, rfl, h0, r0⟩ := trodAll_cons hA
  obtain ⟨v1, vs1, d1, ds1, p1, q1, rfl, rfl, rfl, h1, r1⟩ := trodAll_cons r0
  obtain ⟨v2, vs2, d2, ds2, p2, q2, rfl, rfl, rfl, h2, r2⟩ := trodAll_cons r1
  obtain ⟨rfl, rfl, rfl⟩ := trodAll_nil r2
  obtain rfl : args = #[v0, v1, v2] := by cases args; simp_all
  obtain ⟨rfl, rfl⟩ := trodVars_none hV
  obtain ⟨a0, rfl, w0⟩ := Opens.open_config (hval 0 23 v0 rfl rfl) h0
  obtain ⟨a1, rfl, w1⟩ := Opens.open_calls (hval 1 24 v1 rfl rfl) h1
  obtain ⟨a2, rfl, w2⟩ := Opens.open_str (hval 2 9 v2 rfl rfl) h2
  clear hA0 hval0
  refine (walk a0 w0 a1 a2 W w1).mono fun e W' ⟨he, hg⟩ => ?_
  subst he
  exact ⟨_, rfl, Laid.post Laid.laidOut (by kernel_rfl) rfl (by kernel_rfl) Tryz.underlying4 hW' ⟨rfl, rfl, rfl⟩ hg⟩

theorem over : Rows.modelPlaysRow.holds Tryz.pinned (OpenSpec.ofChange Rows.modelPlaysSpec) :=
  OpenClaim.holds_of_wide 3 Tryz.f3 rfl rfl rfl rfl rfl rfl rfl ⟨rfl, rfl, rfl, rfl, rfl⟩ rfl rfl rfl rfl rfl (by kernel_rfl) Tryz.func3 (by kernel_rfl)
    (of_decide_eq_true (by kernel_rfl)) (by unfold Func.isWrapper; first | (rw [if_pos (by decide +kernel)]; kernel_rfl) | (rw [if_neg (by decide +kernel)]; exact ⟨rfl, rfl⟩))
    (fun os started H enc _ => lifted os started H enc)

/-- ████ THE STATEMENT ████ -/
theorem proved : Rows.ModelPlaysSaid :=
  over
#print axioms proved
end Go.Proofs.YtemklcckhpchaaaGreat.modelPlays
