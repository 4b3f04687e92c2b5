/-
  ShardModel: what one worker with all groups tells of any keyed calls is what the model tells, a group given to another worker, and had by it, tells on as it did.
-/
import Derived.Test.YtdnigpkdnkbfbaaGreatShCalls
import Derived.Test.YtdnigpkdnkbfbaaGreatLaid
namespace Go.Proofs.YtdnigpkdnkbfbaaGreat
open Go.ChangeShapes Go.WideShapes Go.ChangeAt Go.RowKit
set_option maxRecDepth 100000
set_option linter.unusedVariables false
namespace Sh
open Small Foot Pane Grp Ca Md
abbrev none0 : Nat → Prop := fun _ => False
theorem Moves.made {w w' : World} {F : Nat → Prop} (k : Below w.heap.size w w') (hF : From w.heap.size F) (hin : In w' F) : Moves none0 F w w' :=
  ⟨k.os, k.tape, k.output, k.size, fun i hi _ => k.block i hi, fun i hi => ⟨.inr (hF i hi), hin i hi⟩⟩
theorem Fam.start (w : World) : Fam w w (fam none0 none0 none0 none0 w.heap.size (.slice none 0 0)) ∨ True := .inr trivial
theorem fam_none (w0 w : World) (k : Below w0.heap.size w0 w) : Fam w0 w (fun _ => none0) := ⟨fun i b hb => hb.elim, fun i b hb => hb.elim, fun i j _ b hb => hb.elim, k⟩
theorem fam_first {w0 w w' : World} {R : Nat → Nat → Prop} {i : Nat} {F : Nat → Prop} (h : Fam w0 w R) (e : R i = none0) (k : Below w.heap.size w w') (hF : From w.heap.size F) (hin : In w' F) : Fam w0 w' (rset R i F) :=
  h.one (by rw [e]; exact Moves.made k hF hin)
theorem fam_pair {w0 w w' : World} {R : Nat → Nat → Prop} {i j : Nat} {F G : Nat → Prop} (h : Fam w0 w R) (hij : i ≠ j) (e : R i = none0) (e' : R j = none0) (k : Below w.heap.size w w') (hF : From w.heap.size F) (hG : From w.heap.size G) (hin : In w' F) (hin' : In w' G) (a : Apart F G) : Fam w0 w' (rset (rset R i F) j G) := by
  refine h.two hij ?_ a
  rw [e, e']
  exact ⟨k.os, k.tape, k.output, k.size, fun b hb _ => k.block b hb, fun b hb => hb.elim (fun q => ⟨.inr (hF b q), hin b q⟩) fun q => ⟨.inr (hG b q), hin' b q⟩⟩
theorem field_code (code : Int) (v : Value) (w : World) : (Instr.field 47 (rep code v) 0).run Tryz.prog w = .ok (.int .i64 code) w := by kernel_rfl
theorem OG.set {w w' : World} {Fm Fa Fb U : Nat → Prop} {g4 g : Nat} {vo : Value} {TT : TypeId} {cs cs' : List Value} (h : OG Fm Fa Fb U g4 vo g TT cs w) (k : Lies w' g TT cs') : OG Fm Fa Fb U g4 vo g TT cs' w' := ⟨k, h.2⟩
/-- numbers from 0 on -/
abbrev upto (k : Nat) : List Int := (List.range k).map fun j : Nat => (j : Int)
theorem upto_succ (k : Nat) : upto (k + 1) = upto k ++ [(k : Int)] := by simp [upto, List.range_succ]
theorem upto_mem {k : Nat} {x : Int} : x ∈ upto k ↔ 0 ≤ x ∧ x < k := by
  simp only [upto, List.mem_map, List.mem_range]
  exact ⟨fun ⟨j, h, e⟩ => by omega, fun h => ⟨x.toNat, by omega, by omega⟩⟩
theorem part_none (G : ByteArray → Int) (k : Int) : part G (fun _ => []) k = fun _ => [] := funext fun x => by unfold part; split <;> rfl
/-- numbers that came in -/
def Nums (A : Option Addr) (n : Nat) (l : List Int) (w : World) : Prop := l.length = n ∧ (0 < n → ∃ b off, A = some ⟨b, off, none⟩ ∧ ∀ j, j < n → w.cell? ⟨b, off + j, none⟩ = some (.int .i64 (l.getD j 0)))
theorem Nums.next {A : Option Addr} {n : Nat} {l : List Int} {w w' : World} (h : Nums A n l w) (k : Below w.heap.size w w') : Nums A n l w' := ⟨h.1, fun h0 => by
  obtain ⟨b, off, e, hc⟩ := h.2 h0
  exact ⟨b, off, e, fun j hj => cell_keep k (hc j hj)⟩⟩
theorem LM.markA' {w0 w w' : World} {g4 : Nat} {cf : C8} {mo wa wb : Nat} {pp qa qb : Int → Option Nat} {Fm Fa Fb Fa' : Nat → Prop} {FF FF' : Int → Nat → Prop} {SM T : Lists} {S' : Int → Lists} {N : Nat} {n n' : Int → Nat} {mark : Int} {L : List Pn} {La Lb La' : List Ms.M} {vo : Value} {out O : List Pn} {ks : List Int} (h : LM w0 g4 cf mo wa wb pp qa qb Fm Fa Fb FF SM (Sh.part (gk cf) T) N n mark L La Lb vo out w) (inv : Inv (gk cf) cf.z mark T SM out L) (hks : KeysOf qa ks) (hmk : Mk cf.z mark (Sh.part (gk cf) T) ks O S') (hi : Is w' wa Fa' cf qa La') (hp : Pool w' qa FF' cf S' N n') (ha : Apart Fa' (UF qa FF')) (hv : Moves (Or2 Fa (UF qa FF)) (Or2 Fa' (UF qa FF')) w w') :
    ∃ T' FF'' n'', LM w0 g4 cf mo wa wb pp qa qb Fm Fa' Fb FF'' SM (Sh.part (gk cf) T') N n'' mark L La' Lb vo out w' ∧ Inv (gk cf) cf.z mark T' SM (out ++ O) L ∧ (∀ x, qa (gk cf x) ≠ none → T' x = SM x) ∧ (∀ x, qa (gk cf x) = none → T' x = T x) ∧ Moves (Or2 Fa (UF pp FF)) (Or2 Fa' (UF pp FF'')) w w' ∧ ∀ y, qa y = none → FF'' y = FF y := by
  obtain ⟨P, V, A⟩ := h.pool.merge h.subA hp hv (fun i hi r => h.fam.ap 1 3 (by decide) i hi r) ha
  obtain ⟨T', t1, t2, t3, t4, t5⟩ := inv.marked (hks.up.imp fun {a b} q e => by omega) hmk fun _ _ => rfl
  have e : (fun y => if qa y = none then Sh.part (gk cf) T y else S' y) = Sh.part (gk cf) T' := funext fun y => by
    by_cases e : qa y = none
    · rw [if_pos e]
      exact (t2 y fun r => (hks.mem y).1 r e).2.symm
    · rw [if_neg e]
      exact t1 y ((hks.mem y).2 e)
  rw [e] at P
  exact ⟨T', _, _, h.allA hi P V A (Nat.le_refl _), t3, fun x hx => t4 x ((hks.mem _).2 hx), fun x hx => t5 x (fun r => (hks.mem _).1 r hx), V, fun y hy => if_pos hy⟩
theorem LM.markB' {w0 w w' : World} {g4 : Nat} {cf : C8} {mo wa wb : Nat} {pp qa qb : Int → Option Nat} {Fm Fa Fb Fb' : Nat → Prop} {FF FF' : Int → Nat → Prop} {SM T : Lists} {S' : Int → Lists} {N : Nat} {n n' : Int → Nat} {mark : Int} {L : List Pn} {La Lb Lb' : List Ms.M} {vo : Value} {out went O : List Pn} {ks : List Int} (h : LM w0 g4 cf mo wa wb pp qa qb Fm Fa Fb FF SM (Sh.part (gk cf) T) N n mark L La Lb vo out w) (inv : Inv (gk cf) cf.z mark T SM went L) (hks : KeysOf qb ks) (hmk : Mk cf.z mark (Sh.part (gk cf) T) ks O S') (hi : Is w' wb Fb' cf qb Lb') (hp : Pool w' qb FF' cf S' N n') (ha : Apart Fb' (UF qb FF')) (hv : Moves (Or2 Fb (UF qb FF)) (Or2 Fb' (UF qb FF')) w w') :
    ∃ T' FF'' n'', LM w0 g4 cf mo wa wb pp qa qb Fm Fa Fb' FF'' SM (Sh.part (gk cf) T') N n'' mark L La Lb' vo out w' ∧ Inv (gk cf) cf.z mark T' SM (went ++ O) L ∧ (∀ x, qb (gk cf x) ≠ none → T' x = SM x) ∧ (∀ x, qb (gk cf x) = none → T' x = T x) ∧ Moves (Or2 Fb (UF pp FF)) (Or2 Fb' (UF pp FF'')) w w' := by
  obtain ⟨P, V, A⟩ := h.pool.merge h.subB hp hv (fun i hi r => h.fam.ap 2 3 (by decide) i hi r) ha
  obtain ⟨T', t1, t2, t3, t4, t5⟩ := inv.marked (hks.up.imp fun {a b} q e => by omega) hmk fun _ _ => rfl
  have e : (fun y => if qb y = none then Sh.part (gk cf) T y else S' y) = Sh.part (gk cf) T' := funext fun y => by
    by_cases e : qb y = none
    · rw [if_pos e]
      exact (t2 y fun r => (hks.mem y).1 r e).2.symm
    · rw [if_neg e]
      exact t1 y ((hks.mem y).2 e)
  rw [e] at P
  exact ⟨T', _, _, h.allB hi P V A (Nat.le_refl _), t3, fun x hx => t4 x ((hks.mem _).2 hx), fun x hx => t5 x (fun r => (hks.mem _).1 r hx), V⟩
/-- append in a statement that draws its order, what it yields as a slice -/
theorem step_append_pn {ops : Array Oper} {o : Oper} {a : Act} {w : World} {Kc : Act → World → Prop} {Q : Exit → Act → World → Prop} {E : Prop} {l l2 : List Pn} {base b2 : Nat} (hgd : o.guard = none) (s x : Operand) (hop : o.op = Op.call { callee := Callee.builtin Builtin.append, args := #[s, x], argTypes := #[Pn.k.t, Pn.k.t] })
    (vs vx : Value) (hs : a.eval s = vs) (hxx : a.eval x = vx) (h : Sl.Own Pn.k base w vs l) (hx : Sl.Is Pn.k w vx l2 b2) (hn : l.length + l2.length ≤ 1048576) (hb : base ≤ w.heap.size)
    (hK : ∀ A m c w', Hid (m = (l ++ l2).length) → Sl.Own Pn.k base w' (.slice A m c) (l ++ l2) → w.grownBy w' vs.ownBlock → ((Value.slice A m c).ownBlock = vs.ownBlock ∨ (Value.slice A m c).ownBlock = some w.heap.size) → Kc (a.put o.dst (.slice A m c)) w') :
    if Region.wanted o (yielded ops a.tmps) = true then Oper.wp Tryz.prog o a w Kc Q else E := by
  have hw : Region.wanted o (yielded ops a.tmps) = true := by simp [Region.wanted, hgd]
  rw [if_pos hw]
  subst hs hxx
  refine Sl.wp_append Pn.ok s x hop h hx hn hb fun v' w' q1 q2 q3 => ?_
  obtain ⟨A, c, rfl⟩ : ∃ A c, v' = .slice A (l ++ l2).length c := by obtain ⟨b, _, h⟩ := q1.is; exact h.len
  exact hK A _ c w' (Lib.hid rfl) q1 q2 q3
theorem lies_app {w w' : World} {g : Nat} {T : TypeId} {cs : List Value} {v : Value} (h : Lies w g T cs) (k : w.grownBy w' v.ownBlock) (hn : ¬ v.ownBlock = some g) : Lies w' g T cs := (k.block g h.lt fun e => hn e.symm).trans h
theorem ne_app {w : World} {g : Nat} {v v' : Value} (e : v'.ownBlock = v.ownBlock ∨ v'.ownBlock = some w.heap.size) (hn : ¬ v.ownBlock = some g) (lt : g < w.heap.size) : ¬ v'.ownBlock = some g := fun q => e.elim (fun e => hn (e.symm.trans q)) fun e => by have := Option.some.inj (e.symm.trans q); omega
theorem box_later {w0 : World} {wk m bx : Nat} {bv : Value} {cf : C8} {p : Int → Option Nat} {L : List Ms.M} (H : Hid (Q w0 wk m bx bv cf p L)) : Hid (∀ u : Later w0, Calls Tryz.prog 9 #[Sh.gp wk] u.w fun e w' => e = .returned (Sh.gp bx) ∧ u.w = w') := Lib.hid fun u => box_at u.w (Lib.hid (H.out.next u.below))
end Sh
namespace shardModel
open Small Foot Pane Grp Ca Md Sh

set_option maxHeartbeats 32000000 in
theorem walk_on (A : Option Addr) (n cp : Nat) (f : Nat → Cl) (B : Option Addr) (mn mc : Nat) (ml : List Int) (key : ByteArray) (cf : C8) (w : World) (hq : Hid (Fw n f 50)) (hf : Hid (∀ i, i < n → (f i).Fit)) (hk100 : key.size ≤ 100) (hnm : n ≤ maxLen) (hm50 : mn ≤ 50)
    (hc : Hid (Row A n f w)) (hmv : Hid (Nums B mn ml w)) (hmw : Hid (∀ z ∈ ml, (Lit.int .i64 z).wf = true)) (M : Hid (Asg.may cf.k cf.s cf.l cf.g cf.z cf.h cf.r cf.c)) (CF : Hid (cfOf cf).Fit) :
    Calls Tryz.prog 4 #[cf.v, .slice A n cp, .slice B mn mc, .string key] w fun r w' => r = .returned (.bool true) ∧ Below w.heap.size w w' := by
  have n60 : n ≤ 50 := hq.out.1
  have hk : key.size ≤ maxLen := by unfold maxLen; omega
  have qk : decide ((100 : Int) < key.size) = false := decide_eq_false (by omega)
  have qk2 : decide (100 < key.size) = false := decide_eq_false (by omega)
  have qm : decide ((50 : Int) < mn) = false := decide_eq_false (by omega)
  have qm2 : decide (50 < mn) = false := decide_eq_false (by omega)
  have fz : Hid ((Lit.int .i64 cf.z).wf = true) := Lib.hid CF.out.2.2.2.2.1
  have BC : Hid (cf.s ≤ 9223372036854775807 ∧ cf.l ≤ 9223372036854775807 ∧ cf.g ≤ 9223372036854775807 ∧ cf.z ≤ 9223372036854775807) := Lib.hid ⟨(fit CF.out.2.1).2, (fit CF.out.2.2.1).2, (fit CF.out.2.2.2.1).2, (fit CF.out.2.2.2.2.1).2⟩
  have r16 : Hid (1 ≤ cf.r ∧ cf.r ≤ 16 ∧ 1 ≤ cf.c ∧ cf.c ≤ 16) := Lib.hid (by have := M.out; unfold Asg.may at this; omega)
  have k0 := below1 w (Obj.cells #[.int .i64 cf.k, .int .i64 cf.s, .int .i64 cf.l, .int .i64 cf.g, .int .i64 cf.z, .int .i64 cf.h, .int .i64 cf.r, .int .i64 cf.c] 23)
  have X0 := Lib.hid (Lies.new w 23 cf.cl)
  have HC0 := hc
  have HV0 := hmv
  have hc := Lib.hid (hc.out.next k0)
  have hmv := Lib.hid (hmv.out.next k0)
  have K0 := Lib.hid k0
  clear k0
  go_enter Tryz.func4, Tryz.ntmps4
  go_upto_region 1 with fail
  generalize hg4 : w.heap.size = g4 at X0 ⊢
  generalize w.alloc (Obj.cells #[.int .i64 cf.k, .int .i64 cf.s, .int .i64 cf.l, .int .i64 cf.g, .int .i64 cf.z, .int .i64 cf.h, .int .i64 cf.r, .int .i64 cf.c] 23) = w0 at X0 K0 hc hmv ⊢
  go_wp2_with fail
  refine (Sh.up_ok _).mono ?_
  rintro r w1 ⟨rfl, k1⟩
  have K1 := Lib.hid (after K0.out k1)
  have X1 := Lib.hid (X0.out.next k1)
  have hc1 := Lib.hid (hc.out.next k1)
  have hv1 := Lib.hid (hmv.out.next k1)
  clear k1 X0 hc hmv K0
  have c0 := X1.out.cell (i := 0) rfl
  have c1 := X1.out.cell (i := 1) rfl
  have c2 := X1.out.cell (i := 2) rfl
  have c3 := X1.out.cell (i := 3) rfl
  have c4 := X1.out.cell (i := 4) rfl
  have c5 := X1.out.cell (i := 5) rfl
  have c6 := X1.out.cell (i := 6) rfl
  have c7 := X1.out.cell (i := 7) rfl
  go_wp2_with fail
  refine (Md.new_ok cf w1 M BC.out.1).mono ?_
  rintro r w2 ⟨mo, Fm, rfl, h2, f2, k2⟩
  have H2 := Lib.hid h2
  have X2 := Lib.hid (X1.out.next k2)
  have hc2 := Lib.hid (hc1.out.next k2)
  have hv2 := Lib.hid (hv1.out.next k2)
  have FA2 : Hid (Fam w w2 (rset (rset (fun _ => none0) 4 (fun b => b = g4)) 0 Fm)) := Lib.hid (fam_first (fam_first (fam_none w w (Below.refl _ _)) rfl K1.out (fun b hb => by have h : b = g4 := hb; omega) (fun b hb => by have h : b = g4 := hb; rw [h]; exact X1.out.lt)) rfl k2 f2 h2.in)
  clear h2 f2 k2 K1 X1 hc1 hv1
  clear c0 c1 c2 c3 c4 c5 c6 c7
  go_wp2_with fail
  refine (Md.few_ok A n cp f 50 true w2 (Lib.hid (by simpa using hq.out)) (by omega) hnm hc2).mono ?_
  rintro r w3 ⟨rfl, k3⟩
  have H3 := Lib.hid (H2.out.next k3)
  have X3 := Lib.hid (X2.out.next k3)
  have hc3 := Lib.hid (hc2.out.next k3)
  have hv3 := Lib.hid (hv2.out.next k3)
  have FA3 := Lib.hid (FA2.out.next k3)
  clear k3 H2 X2 hc2 hv2 FA2
  go_wp2_with fail
  go_loopw [12, 13] (fun sv sk wr => ∃ (k : Nat) (A1 : Option Addr) (c1 : Nat), (k : Int) ≤ cf.r ∧ sk = .int .i64 k ∧ sv = .slice A1 k c1 ∧ Hid (Sl.Own Ik.k w3.heap.size wr sv (upto k)) ∧ Hid (Below w3.heap.size w3 wr)) (fun _ sk _ => cf.r.toNat - (intOf sk).toNat)
  case atStart => exact ⟨0, none, 0, by have := r16.out; omega, rfl, rfl, Lib.hid (Sl.Own.nil _ _ _), Lib.hid (Below.refl _ _)⟩
  case round =>
    obtain ⟨k, A1, c1, hk1, rfl, rfl, OA, KA⟩ := hrel
    have r16' := r16.out
    have x6 := (X3.out.next KA.out).cell (i := 6) rfl
    by_cases hlt : (k : Int) < cf.r
    · have lul : (upto k).length = k := by simp [upto]
      have ob : w3.heap.size ≤ wr.heap.size := KA.out.size
      have wk1 : (Lit.int .i64 (k : Int)).wf = true := wf_of (by omega) (by omega)
      have L8 : Hid (Lies (wr.alloc (Obj.cells #[.int .i64 k] 3)) wr.heap.size 3 [.int .i64 k]) := Lib.hid (Lies.new _ _ _)
      have e1 : Hid ((upto k).length + [(k : Int)].length ≤ 1048576) := Lib.hid (by rw [lul]; simp; omega)
      have e2 : Hid (w3.heap.size ≤ (wr.alloc (Obj.cells #[.int .i64 k] 3)).heap.size) := Lib.hid (by simp; omega)
      have e3 : Hid (Sl.Own Ik.k w3.heap.size (wr.alloc (Obj.cells #[.int .i64 k] 3)) (.slice A1 k c1) (upto k)) := Lib.hid (OA.out.next (below1 _ _))
      have e4 : Hid (Sl.Is Ik.k (wr.alloc (Obj.cells #[.int .i64 k] 3)) (.slice (some ⟨wr.heap.size, 0, none⟩) 1 1) [(k : Int)] wr.heap.size) := Lib.hid (Sl.Is.one Ik.ok (x := (k : Int)) L8.out)
      have HL := Lib.hid hlt
      have hk16 : k < 16 := by omega
      have OB := Lib.hid ob
      clear lul r16' ob
      go_wp2_with (at_builtin; refine wpList_plain rfl fun K' hK' => Sl.wp_append Ik.ok (.tmp 75) (.tmp 77) rfl (base := w3.heap.size) (l := upto k) (l2 := [(k : Int)]) (b2 := wr.heap.size) e3.out e4.out e1.out e2.out (fun u w5 z1 z2 z3 => hK' _ _ ?_))
      rw [← upto_succ] at z1
      obtain ⟨b5, -, i5⟩ := z1.is
      obtain ⟨A5, c5, e5⟩ := i5.len
      have lu2 : (upto (k + 1)).length = k + 1 := by simp [upto]
      rw [lu2] at e5
      subst e5
      exact ⟨⟨k + 1, A5, c5, by have := HL.out; omega, by go_num, rfl, Lib.hid z1, Lib.hid ((KA.out.alloc KA.out.size _).grown z2 (by have := OB.out; simp; omega) fun j hj => (OA.out.lt j hj).1)⟩, by have := HL.out; simp [intOf]; omega⟩
    · have hrk : Hid (cf.r = (k : Int)) := Lib.hid (by omega)
      clear r16' x6 hlt
      have FA5 := Lib.hid (FA3.out.next KA.out)
      have X5 := Lib.hid (X3.out.next KA.out)
      have H5 := Lib.hid (H3.out.next KA.out)
      have hc5 := Lib.hid (hc3.out.next KA.out)
      have hv5 := Lib.hid (hv3.out.next KA.out)
      obtain ⟨b5, -, i5⟩ := OA.out.is
      have I5 := Lib.hid i5
      have k16 : k ≤ 16 := by have := hrk.out; have := r16.out; omega
      have x6 := X5.out.cell (i := 6) rfl
      rw [hrk.out] at x6
      have qlt : decide ((k : Int) < (k : Int)) = false := by simp
      have hul : (upto k).length ≤ maxLen := by rw [show (upto k).length = k by simp [upto]]; exact Nat.le_trans k16 (by decide)
      have NW := Lib.hid (Sh.new_ok cf (upto k) (.slice A1 k c1) b5 wr I5 hul M BC.out.1)
      clear i5 FA3 X3 H3 hc3 hv3 OA KA hul
      go_upto_region 10 with fail
      clear x6 qlt
      have c0 := X5.out.cell (i := 0) rfl
      have c1 := X5.out.cell (i := 1) rfl
      have c2 := X5.out.cell (i := 2) rfl
      have c3 := X5.out.cell (i := 3) rfl
      have c4 := X5.out.cell (i := 4) rfl
      have c5 := X5.out.cell (i := 5) rfl
      have c6 := X5.out.cell (i := 6) rfl
      have c7 := X5.out.cell (i := 7) rfl
      go_wp2_with fail
      refine NW.out.mono ?_
      rintro r w6 ⟨wa, Fa, pa, FF, rfl, ha, P6, A6, fa, fu, k6, hpa⟩
      clear NW
      have FA6 : Hid (Fam w w6 (rset (rset (rset (rset (fun _ => none0) 4 (fun b => b = g4)) 0 Fm) 1 Fa) 3 (UF pa FF))) := Lib.hid (fam_pair FA5.out (by decide) rfl rfl k6 fa fu ha.in P6.in A6)
      have HA6 := Lib.hid ha
      have PO6 := Lib.hid P6
      have X6 := Lib.hid (X5.out.next k6)
      have H6 := Lib.hid (H5.out.next k6)
      have hc6 := Lib.hid (hc5.out.next k6)
      have hv6 := Lib.hid (hv5.out.next k6)
      have EV : Hid (∀ x, pa x ≠ none ↔ (0 ≤ x ∧ x < cf.r)) := Lib.hid fun x => by
        rw [hpa x, upto_mem, hrk.out]
        exact ⟨fun h => ⟨h.1, h.2.1⟩, fun h => ⟨h.1, h.2, h.1, h.2⟩⟩
      clear ha P6 A6 fa fu k6 hpa c0 c1 c2 c3 c4 c5 c6 c7 FA5 X5 H5 hc5 hv5 I5
      have c0 := X6.out.cell (i := 0) rfl
      have c1 := X6.out.cell (i := 1) rfl
      have c2 := X6.out.cell (i := 2) rfl
      have c3 := X6.out.cell (i := 3) rfl
      have c4 := X6.out.cell (i := 4) rfl
      have c5 := X6.out.cell (i := 5) rfl
      have c6 := X6.out.cell (i := 6) rfl
      have c7 := X6.out.cell (i := 7) rfl
      go_wp2_with fail
      refine (Sh.new_ok cf [] (.slice none 0 0) 0 w6 (Lib.hid (Sl.Is.nil _ _ _)) (by decide) M BC.out.1).mono ?_
      rintro r w7 ⟨wb, Fb, pb, FFb, rfl, hb, -, -, fb, -, k7, hpb⟩
      have PB : Hid (∀ x, pb x = none) := Lib.hid fun x => Classical.byContradiction fun h => by have := ((hpb x).1 h).2.2; cases this
      have FA7 := Lib.hid (fam_first (i := 2) FA6.out rfl k7 fb hb.in)
      have LM0 : Hid (LM w g4 cf mo wa wb pa pa pb Fm Fa Fb FF (fun _ => []) (Sh.part (gk cf) fun _ => []) 0 (fun _ => 0) (-9223372036854775808) [] [] [] (.slice none 0 0) [] w7) := Lib.hid (by
        refine ⟨?_, X6.out.next k7, H6.out.next k7, HA6.out.next k7, hb, ?_, Sl.Own.nil _ _ _, EV.out, fun _ _ => rfl, fun x hx => absurd (PB.out x) hx⟩
        · have e : rset (rset (rset (rset (rset (fun _ => none0) 4 (fun b => b = g4)) 0 Fm) 1 Fa) 3 (UF pa FF)) 2 Fb = fam Fm Fa Fb (UF pa FF) g4 (.slice none 0 0) := by
            funext l; match l with
            | 0 => rfl
            | 1 => rfl
            | 2 => rfl
            | 3 => rfl
            | 4 => rfl
            | 5 => exact funext fun b => propext ⟨fun h => h.elim, fun h => by cases h⟩
            | l + 6 => rfl
          rw [← e]
          exact FA7.out
        · have := PO6.out.next k7
          rw [show (Sh.part (gk cf) fun _ => []) = fun _ _ => [] from funext fun k => part_none _ k]
          exact this)
      have hc7 := Lib.hid (hc6.out.next k7)
      have hv7 := Lib.hid (hv6.out.next k7)
      clear hb fb k7 hpb c0 c1 c2 c3 c4 c5 c6 c7 FA6 FA7 X6 H6 HA6 PO6 hc6 hv6
      go_wp2_with fail
      refine (Sh.box_ok w7 (Lib.hid LM0.out.a)).mono ?_
      rintro r _ ⟨rfl, ma, bxa, bva, rfl, -, -⟩
      go_wp2_with fail
      refine (Sh.box_ok w7 (Lib.hid LM0.out.b)).mono ?_
      rintro r _ ⟨rfl, mb, bxb, bvb, rfl, -, -⟩
      go_wp2_with fail
      go_loopw [18, 19, 20] (fun sm so si wr => ∃ (i : Nat) (T SM : Lists) (mark : Int) (L out : List Pn) (qa qb : Int → Option Nat) (Gm Ga Gb : Nat → Prop) (FF : Int → Nat → Prop) (nn : Int → Nat) (A2 : Option Addr) (c2 : Nat), i ≤ n ∧ si = .int .i64 i ∧ sm = .int .i64 mark ∧ so = .slice A2 out.length c2 ∧ Hid (LM w g4 cf mo wa wb pa qa qb Gm Ga Gb FF SM (Sh.part (gk cf) T) (32 * i) nn mark L [] [] (.slice A2 out.length c2) out wr) ∧ Hid (Inv (gk cf) cf.z mark T SM out L) ∧ Hid (∀ x, (qa x = pa x ∧ qb x = none) ∨ (qa x = none ∧ qb x = pa x)) ∧ Hid ((Lit.int .i64 mark).wf = true)) (fun _ _ si _ => n - (intOf si).toNat)
      case atStart => exact ⟨0, fun _ => [], fun _ => [], _, [], [], pa, pb, Fm, Fa, Fb, FF, fun _ => 0, none, 0, Nat.zero_le _, rfl, rfl, rfl, LM0, Lib.hid (Inv.start _ _ _), Lib.hid fun x => .inl ⟨rfl, PB.out x⟩, Lib.hid (by decide)⟩
      case round =>
        obtain ⟨i, T, SM, mark, L, out, qa, qb, Gm, Ga, Gb, FG, nn, A2, c2, hi, rfl, rfl, rfl, HM, IV, PR, MW⟩ := hrel
        clear LM0 PB
        by_cases hlt : i < n
        · obtain ⟨ab, off, rfl, hcell⟩ := (HC0.out.next HM.out.fam.below) (by omega)
          obtain ⟨x, hx⟩ : ∃ x, x = f i := ⟨_, rfl⟩
          have fx : Hid x.Fit := Lib.hid (hx ▸ hf.out i hlt)
          have hxk : x.key.size ≤ maxLen := by have := hq.out.2 i hlt; rw [← hx] at this; unfold maxLen; omega
          have hcell := hcell i hlt
          rw [← hx] at hcell
          have i0 : (i : Int) < n := by omega
          have d0 := hcell 0 _ rfl
          have d1 := hcell 1 _ rfl
          have d2 := hcell 2 _ rfl
          have d3 := hcell 3 _ rfl
          have d4 := hcell 4 _ rfl
          have d5 := hcell 5 _ rfl
          have d6 := hcell 6 _ rfl
          rw [← Nat.add_assoc] at d0 d1 d2 d3 d4 d5 d6
          rw [Nat.add_zero] at d0
          obtain ⟨z, TZ⟩ := Asg.tells cf.k cf.s cf.l cf.g cf.z cf.h cf.r cf.c x.t (fit fx.out.2.2.1).1 (fit fx.out.2.2.1).2 M.out
          have TZ := Lib.hid TZ
          have hz := Lib.hid (Gr.told16 M.out (fit fx.out.2.2.1).1 BC.out.1 BC.out.2.2.1 TZ.out)
          have HLT := Lib.hid hlt
          clear hcell hx
          go_upto_region 20 with fail
          have k8 := below1 wr (Obj.cells #[.int .i64 x.op, .string x.key, .int .i64 x.t, .int .i64 x.v, .int .i64 x.e, .int .i64 x.u, .int .i64 x.s] 42)
          have YG8 := Lib.hid (OG.new (TT := 42) wr HM.out.fam (Lies.new wr 42 [.int .i64 x.op, .string x.key, .int .i64 x.t, .int .i64 x.v, .int .i64 x.e, .int .i64 x.u, .int .i64 x.s]))
          have HM8 := Lib.hid (HM.out.next k8)
          clear d0 d1 d2 d3 d4 d5 d6 k8 HM
          generalize wr.heap.size = gx at YG8 ⊢
          generalize wr.alloc (Obj.cells #[.int .i64 x.op, .string x.key, .int .i64 x.t, .int .i64 x.v, .int .i64 x.e, .int .i64 x.u, .int .i64 x.s] 42) = w8 at YG8 HM8 ⊢
          have y0 := YG8.out.1.cell (i := 0) rfl
          have y1 := YG8.out.1.cell (i := 1) rfl
          have y2 := YG8.out.1.cell (i := 2) rfl
          have y3 := YG8.out.1.cell (i := 3) rfl
          have y4 := YG8.out.1.cell (i := 4) rfl
          have y5 := YG8.out.1.cell (i := 5) rfl
          have y6 := YG8.out.1.cell (i := 6) rfl
          have hNi : 32 * i ≤ 8880 := by omega
          by_cases ho : x.op = 3
          · as_aux_lemma =>
              have e3 : (x.op == 3) = true := by simp [ho]
              have HO := Lib.hid ho
              clear ho
              go_wp2_with fail
              refine (Md.do_ok x z w8 (Lib.hid HM8.out.mod) hNi M CF fx hxk MW TZ).mono ?_
              rintro r w9 ⟨rv, code, P, c, SM', mark', L', cl', Gm', rfl, hd, -, h9, v9, o9⟩
              obtain ⟨A9, n9, c9, rfl⟩ := Md.lit o9
              obtain ⟨rfl, rfl, hcase⟩ := adv hd HO.out
              have hfl := field_code code (.slice A9 n9 c9)
              have HM9 := Lib.hid (HM8.out.model h9 v9 (Nat.le_refl _))
              have YG9 := Lib.hid (YG8.out.model v9)
              have MW' : Hid ((Lit.int .i64 mark').wf = true) := Lib.hid (hd.wf MW.out fx.out.2.2.1)
              have IV' : Hid (Inv (gk cf) cf.z mark' T SM' out L') := Lib.hid (by
                rcases hcase with ⟨-, rfl, hm, O, rfl, o, no⟩ | ⟨-, rfl, rfl, rfl⟩
                · exact IV.out.up o no hm
                · exact IV.out)
              have MK : Hid ((code = 0 ∧ mark' = x.t) ∨ (code ≠ 0 ∧ mark' = mark)) := Lib.hid (by
                rcases hcase with ⟨h1, h2, -⟩ | ⟨h1, -, h2, -⟩
                · exact .inl ⟨h1, h2⟩
                · exact .inr ⟨h1, h2⟩)
              clear hd h9 v9 o9 hcase y0 y1 y2 y3 y4 y5 y6 HM8 YG8 IV
              have y2 := YG9.out.1.cell (i := 2) rfl
              by_cases hcd : code = 0
              · have ec : (code == 0) = true := by simp [hcd]
                obtain rfl : mark' = x.t := by rcases MK.out with h | h; exact h.2; exact absurd hcd h.1
                clear MK hcd
                by_cases h2 : i % 2 = 0
                · have e2 : ((i : Int) % 2 == 0) = true := by rw [beq_iff_eq]; omega
                  clear h2
                  go_wp2_with fail
                  refine (Sh.box_ok w9 (Lib.hid HM9.out.a)).mono ?_
                  rintro r _ ⟨rfl, m20, bx20, bv20, rfl, q20, e20⟩
                  have Q20 := Lib.hid q20
                  have E20 := Lib.hid e20
                  clear q20 e20
                  go_wp2_with (first
                    | (refine wpList_plain rfl fun K' hK' => wp_bm1 rfl (hK' _ _ ?_))
                    | fail)
                  refine (Ms.put_ok bx20 cf.c bv20 [] ⟨2, 0, c00, 0, none⟩ w9 (Lib.hid Q20.out.box) (by have := r16.out; simp; omega) (by have := r16.out; omega)).mono ?_
                  rintro r w20 ⟨bw20, rfl, b20, v20⟩
                  obtain ⟨h20, mv20⟩ := Q20.out.put b20 v20
                  rw [← E20.out] at mv20
                  have HM20 := Lib.hid (HM9.out.onA h20 mv20 HM9.out.subA)
                  have YG20 := Lib.hid (YG9.out.onA mv20)
                  clear b20 v20 h20 mv20 Q20 E20 HM9 YG9
                  go_wp2_with fail
                  refine (step_mark 0 c00 0 none x.t false w20 (Lib.hid HM20.out.a) (by decide) (Lib.hid (HM20.out.pool.sub HM20.out.subA)) (Lib.hid HM20.out.apA) hNi fz MW').mono ?_
                  rintro r w21 ⟨ov21, ks, O, S21, n21, F21, FF21, rfl, hks, hmk, hO, hi21, hp21, ha21, hv21, o21⟩
                  obtain ⟨T', FG', nn', hm21, iv21, t21, u21, V21⟩ := HM20.out.markA IV'.out hks hmk hi21 hp21 ha21 hv21
                  have HM21 := Lib.hid hm21
                  have IV21 := Lib.hid iv21
                  have YG21 := Lib.hid (YG20.out.allA V21)
                  obtain ⟨Bv, mvv, ev, rfl⟩ := Md.lit o21
                  have OO21 := Lib.hid o21
                  have HL21 : Hid (out.length + O.length ≤ 1048576) := Lib.hid (by have h1 := iv21.len; have h2 := hm21.few; rw [List.length_append] at h1; omega)
                  clear hks hmk hO hi21 hp21 ha21 hv21 hm21 iv21 t21 u21 V21 o21 HM20 YG20 IV'

                  go_upto_region 26 with (first
                    | (refine wpList_plain rfl fun K' hK' => wp_store_did (cs' := dcl ⟨2, 0, c00, 0, none⟩ false 0 (.slice none 0 0) (.slice Bv mvv ev) none) _ _ rfl rfl rfl (Lies.new _ _ zd) rfl rfl (one_did _ _ _ _ _ _ _ _ _ _ _ _ _ _) (fun w22 z1 z2 => hK' _ _ ?_))
                    | fail)
                  have k22 := Ms.below_over (below1 w21 _) z2 (Nat.le_refl _)
                  have DG22 := Lib.hid (OG.new (TT := 49) w21 HM21.out.fam z1)
                  have HM22 := Lib.hid (HM21.out.next k22)
                  have YG22 := Lib.hid (YG21.out.next k22)
                  have OO22 := Lib.hid (OO21.out.next k22)
                  clear z1 z2 k22 HM21 YG21 OO21
                  generalize w21.heap.size = g22 at DG22 ⊢
                  have d14 := DG22.out.1.cell (i := 14) rfl
                  obtain ⟨bO, -, iO⟩ := OO22.out.is
                  have IO := Lib.hid iO
                  have SB : Hid (w.heap.size ≤ w22.heap.size) := Lib.hid HM22.out.fam.below.size
                  clear iO
                  go_wp2_with (at_builtin; refine wpList_plain rfl fun K' hK' => Sl.wp_append Pn.ok (.tmp 147) (.tmp 149) rfl (base := w.heap.size) (l := out) (l2 := O) (b2 := bO) HM22.out.out IO.out HL21.out SB.out (fun u w23 z1 z2 z3 => hK' _ _ ?_))
                  obtain ⟨bu, -, iu⟩ := z1.is
                  obtain ⟨Au, cu, rfl⟩ := iu.len
                  have HM23 := Lib.hid ((HM22.out.put z1 z2 z3).more (show 32 * i ≤ 32 * (i + 1) by omega))
                  exact ⟨⟨i + 1, T', SM', x.t, L', out ++ O, qa, qb, _, _, _, FG', nn', Au, cu, by have := HLT.out; omega, by go_num, rfl, rfl, HM23, IV21, PR, MW'⟩, by have := HLT.out; simp [intOf]; omega⟩

                · have e2 : ((i : Int) % 2 == 0) = false := by rw [beq_eq_false_iff_ne]; omega
                  clear h2
                  go_wp2_with fail
                  have HM10 := Lib.hid (HM9.out.more (show 32 * i ≤ 32 * (i + 1) by omega))
                  exact ⟨⟨i + 1, T, SM', x.t, L', out, qa, qb, _, _, _, FG, nn, A2, c2, by have := HLT.out; omega, by go_num, rfl, rfl, HM10, IV', PR, MW'⟩, by have := HLT.out; simp [intOf]; omega⟩

              · have ec : (code == 0) = false := by simp [hcd]
                obtain rfl : mark = mark' := by rcases MK.out with h | h; exact absurd h.1 hcd; exact h.2.symm
                clear MK hcd
                by_cases h2 : i % 2 = 0
                · have e2 : ((i : Int) % 2 == 0) = true := by rw [beq_iff_eq]; omega
                  clear h2
                  go_wp2_with fail
                  refine (Sh.box_ok w9 (Lib.hid HM9.out.a)).mono ?_
                  rintro r _ ⟨rfl, m20, bx20, bv20, rfl, q20, e20⟩
                  have Q20 := Lib.hid q20
                  have E20 := Lib.hid e20
                  clear q20 e20
                  go_wp2_with (first
                    | (refine wpList_plain rfl fun K' hK' => wp_bm1 rfl (hK' _ _ ?_))
                    | fail)
                  refine (Ms.put_ok bx20 cf.c bv20 [] ⟨2, 0, c00, 0, none⟩ w9 (Lib.hid Q20.out.box) (by have := r16.out; simp; omega) (by have := r16.out; omega)).mono ?_
                  rintro r w20 ⟨bw20, rfl, b20, v20⟩
                  obtain ⟨h20, mv20⟩ := Q20.out.put b20 v20
                  rw [← E20.out] at mv20
                  have HM20 := Lib.hid (HM9.out.onA h20 mv20 HM9.out.subA)
                  have YG20 := Lib.hid (YG9.out.onA mv20)
                  clear b20 v20 h20 mv20 Q20 E20 HM9 YG9
                  go_wp2_with fail
                  refine (step_mark 0 c00 0 none mark false w20 (Lib.hid HM20.out.a) (by decide) (Lib.hid (HM20.out.pool.sub HM20.out.subA)) (Lib.hid HM20.out.apA) hNi fz MW').mono ?_
                  rintro r w21 ⟨ov21, ks, O, S21, n21, F21, FF21, rfl, hks, hmk, hO, hi21, hp21, ha21, hv21, o21⟩
                  obtain ⟨T', FG', nn', hm21, iv21, t21, u21, V21⟩ := HM20.out.markA IV'.out hks hmk hi21 hp21 ha21 hv21
                  have HM21 := Lib.hid hm21
                  have IV21 := Lib.hid iv21
                  have YG21 := Lib.hid (YG20.out.allA V21)
                  obtain ⟨Bv, mvv, ev, rfl⟩ := Md.lit o21
                  have OO21 := Lib.hid o21
                  have HL21 : Hid (out.length + O.length ≤ 1048576) := Lib.hid (by have h1 := iv21.len; have h2 := hm21.few; rw [List.length_append] at h1; omega)
                  clear hks hmk hO hi21 hp21 ha21 hv21 hm21 iv21 t21 u21 V21 o21 HM20 YG20 IV'

                  go_upto_region 26 with (first
                    | (refine wpList_plain rfl fun K' hK' => wp_store_did (cs' := dcl ⟨2, 0, c00, 0, none⟩ false 0 (.slice none 0 0) (.slice Bv mvv ev) none) _ _ rfl rfl rfl (Lies.new _ _ zd) rfl rfl (one_did _ _ _ _ _ _ _ _ _ _ _ _ _ _) (fun w22 z1 z2 => hK' _ _ ?_))
                    | fail)
                  have k22 := Ms.below_over (below1 w21 _) z2 (Nat.le_refl _)
                  have DG22 := Lib.hid (OG.new (TT := 49) w21 HM21.out.fam z1)
                  have HM22 := Lib.hid (HM21.out.next k22)
                  have YG22 := Lib.hid (YG21.out.next k22)
                  have OO22 := Lib.hid (OO21.out.next k22)
                  clear z1 z2 k22 HM21 YG21 OO21
                  generalize w21.heap.size = g22 at DG22 ⊢
                  have d14 := DG22.out.1.cell (i := 14) rfl
                  obtain ⟨bO, -, iO⟩ := OO22.out.is
                  have IO := Lib.hid iO
                  have SB : Hid (w.heap.size ≤ w22.heap.size) := Lib.hid HM22.out.fam.below.size
                  clear iO
                  go_wp2_with (at_builtin; refine wpList_plain rfl fun K' hK' => Sl.wp_append Pn.ok (.tmp 147) (.tmp 149) rfl (base := w.heap.size) (l := out) (l2 := O) (b2 := bO) HM22.out.out IO.out HL21.out SB.out (fun u w23 z1 z2 z3 => hK' _ _ ?_))
                  obtain ⟨bu, -, iu⟩ := z1.is
                  obtain ⟨Au, cu, rfl⟩ := iu.len
                  have HM23 := Lib.hid ((HM22.out.put z1 z2 z3).more (show 32 * i ≤ 32 * (i + 1) by omega))
                  exact ⟨⟨i + 1, T', SM', mark, L', out ++ O, qa, qb, _, _, _, FG', nn', Au, cu, by have := HLT.out; omega, by go_num, rfl, rfl, HM23, IV21, PR, MW'⟩, by have := HLT.out; simp [intOf]; omega⟩

                · have e2 : ((i : Int) % 2 == 0) = false := by rw [beq_eq_false_iff_ne]; omega
                  clear h2
                  go_wp2_with fail
                  have HM10 := Lib.hid (HM9.out.more (show 32 * i ≤ 32 * (i + 1) by omega))
                  exact ⟨⟨i + 1, T, SM', mark, L', out, qa, qb, _, _, _, FG, nn, A2, c2, by have := HLT.out; omega, by go_num, rfl, rfl, HM10, IV', PR, MW'⟩, by have := HLT.out; simp [intOf]; omega⟩
          · have e3 : (x.op == 3) = false := by simp [ho]
            have HO := Lib.hid ho
            clear ho
            obtain ⟨mm, hmm⟩ : ∃ m : Bool, m = true ↔ mayC (cfOf cf) x := by classical exact ⟨decide (mayC (cfOf cf) x), by simp⟩
            have c0 := HM8.out.cfg.cell (i := 0) rfl
            have c1 := HM8.out.cfg.cell (i := 1) rfl
            have c2 := HM8.out.cfg.cell (i := 2) rfl
            have c3 := HM8.out.cfg.cell (i := 3) rfl
            have c4 := HM8.out.cfg.cell (i := 4) rfl
            have c5 := HM8.out.cfg.cell (i := 5) rfl
            have c6 := HM8.out.cfg.cell (i := 6) rfl
            have c7 := HM8.out.cfg.cell (i := 7) rfl
            go_wp2_with fail
            refine (Ca.may_ok (cfOf cf) x w8 mm (Lib.hid hmm) CF.out fx.out).mono ?_
            rintro r w9 ⟨rfl, k9⟩
            have HM9 := Lib.hid (HM8.out.next k9)
            have YG9 := Lib.hid (YG8.out.next k9)
            clear k9 y0 y1 y2 y3 y4 y5 y6 c0 c1 c2 c3 c4 c5 c6 c7 HM8 YG8
            cases mm with
            | false =>
              go_wp2_with fail
              have HM10 := Lib.hid (HM9.out.more (show 32 * i ≤ 32 * (i + 1) by omega))
              exact ⟨⟨i + 1, T, SM, mark, L, out, qa, qb, _, _, _, FG, nn, A2, c2, by have := HLT.out; omega, by go_num, rfl, rfl, HM10, IV, PR, MW⟩, by have := HLT.out; simp [intOf]; omega⟩
            | true =>
              have HMC : Hid (mayC (cfOf cf) x) := Lib.hid (hmm.1 rfl)
              clear hmm
              have y0 := YG9.out.1.cell (i := 0) rfl
              have y1 := YG9.out.1.cell (i := 1) rfl
              have y2 := YG9.out.1.cell (i := 2) rfl
              have y3 := YG9.out.1.cell (i := 3) rfl
              have y4 := YG9.out.1.cell (i := 4) rfl
              have y5 := YG9.out.1.cell (i := 5) rfl
              have y6 := YG9.out.1.cell (i := 6) rfl
              go_wp2_with fail
              refine (Ca.keyed_ok x w9).mono ?_
              rintro r w10 ⟨rfl, k10⟩
              have HM10 := Lib.hid (HM9.out.next k10)
              have YG10 := Lib.hid (YG9.out.next k10)
              clear k10 y0 y1 y2 y3 y4 y5 y6 HM9 YG9
              cases hkd : kd x.op with
              | false =>
                go_wp2_with fail
                have HM11 := Lib.hid (HM10.out.more (show 32 * i ≤ 32 * (i + 1) by omega))
                exact ⟨⟨i + 1, T, SM, mark, L, out, qa, qb, _, _, _, FG, nn, A2, c2, by have := HLT.out; omega, by go_num, rfl, rfl, HM11, IV, PR, MW⟩, by have := HLT.out; simp [intOf]; omega⟩
              | true =>
                have HKD := Lib.hid hkd
                clear hkd
                have GKX : grpOf cf.r x = gk cf x.key := by unfold grpOf; rw [if_pos HKD.out]
                have GKI : Hid (0 ≤ gk cf x.key ∧ gk cf x.key < cf.r) := Lib.hid (by have := Fnv.grp_in (Fnv.num x.key.data.toList) cf.r; exact ⟨this.1, this.2 r16.out.1⟩)
                have WGX : Wf (grpOf cf.r x) := by rw [GKX]; exact wf_small (by have := GKI.out; have := r16.out; omega)
                have GX := Lib.hid GKX
                clear GKX
                by_cases hmi : i < mn
                · have m0 : (i : Int) < mn := by omega
                  have m1 : (0 : Int) ≤ i := by omega
                  obtain ⟨nl, hrow⟩ := HV0.out.next HM10.out.fam.below
                  obtain ⟨bm, om, rfl, hcm⟩ := hrow (by omega)
                  obtain ⟨v7, hv7⟩ : ∃ v, v = ml.getD i 0 := ⟨_, rfl⟩
                  have h7 := hcm i hmi
                  rw [← hv7] at h7
                  have d7 := Later.cell h7
                  have MZ : (Lit.int .i64 v7).wf = true := hmw.out _ (by rw [hv7, List.getD_eq_getElem?_getD, List.getElem?_eq_getElem (by omega)]; exact List.getElem_mem _)
                  have PK := Lib.hid fun w => pick_det v7 cf.r w MZ (by have := r16.out; omega) (by have := r16.out; omega)
                  obtain ⟨gs, hgs⟩ : ∃ gs, gs = pk v7 cf.r := ⟨_, rfl⟩
                  have PK : Hid (∀ w, Calls Tryz.prog 10 #[.int .i64 v7, .int .i64 cf.r] w fun r w' => r = .returned (.int .i64 gs) ∧ w = w') := Lib.hid (by rw [hgs]; exact PK.out)
                  have GS : Hid (0 ≤ gs ∧ gs < cf.r) := Lib.hid (by rw [hgs]; exact pk_in (by have := r16.out; omega))
                  have g6 := Later.cell (HM10.out.cfg.cell (i := 6) rfl)
                  clear hgs hrow hcm nl MZ hv7 h7
                  go_upto_region 29 with fail
                  refine wp_region_later (by kernel_rfl) (by kernel_rfl) ?_
                  repeat (go_big_quiet_step (first
                    | (go_at_call 10; with_reducible exact Later.call_same _ (PK.out _))))
                  refine wpQuiet_nil ?_
                  rintro _ ⟨u3, rfl⟩
                  have B3 := u3.below
                  have HM11 := Lib.hid (HM10.out.next B3)
                  have YG11 := Lib.hid (YG10.out.next B3)
                  clear d7 g6 m0 m1 hmi PK HM10 YG10
                  generalize u3.w = w11 at B3 HM11 YG11 ⊢
                  clear B3
                  go_wp2_with fail

                  refine (Sh.box_ok w11 (Lib.hid HM11.out.a)).mono ?_
                  rintro r _ ⟨rfl, m12, bx12, bv12, rfl, q12, e12⟩
                  have Q12 := Lib.hid q12
                  have E12 := Lib.hid e12
                  clear q12 e12
                  go_wp2_with (first
                    | (refine wpList_plain rfl fun K' hK' => wp_bm3 _ _ rfl rfl (hK' _ _ ?_))
                    | fail)
                  refine (Ms.put_ok bx12 cf.c bv12 [] ⟨3, 0, c00, gs, none⟩ w11 (Lib.hid Q12.out.box) (by have := r16.out; simp; omega) (by have := r16.out; omega)).mono ?_
                  rintro r w12 ⟨bw12, rfl, b12, v12⟩
                  obtain ⟨h12, mv12⟩ := Q12.out.put b12 v12
                  rw [← E12.out] at mv12
                  have HM12 := Lib.hid (HM11.out.onA h12 mv12 HM11.out.subA)
                  have YG12 := Lib.hid (YG11.out.onA mv12)
                  clear b12 v12 h12 mv12 Q12 E12 HM11 YG11

                  go_wp2_with fail
                  refine (step_give 0 c00 gs none mark false w12 (Lib.hid HM12.out.a) (by decide) (by have := GS.out; have := r16.out; omega)).mono ?_
                  rintro r w13 ⟨rfl, F13, h13, v13⟩
                  have HM13 := Lib.hid (HM12.out.onA (pa' := Sh.updOf qa gs none) h13 v13 (fun y hy => by
                    by_cases e : y = gs
                    · subst e; simp [Sh.updOf] at hy
                    · rw [(updOf_ok qa gs none).2 y e] at hy ⊢; exact HM12.out.subA y hy))
                  have YG13 := Lib.hid (YG12.out.onA v13)
                  obtain ⟨st, hst⟩ : ∃ st, st = qa gs := ⟨_, rfl⟩
                  have ST := Lib.hid hst
                  rw [← hst]
                  clear h13 v13 HM12 YG12 hst

                  go_upto_region 32 with (first
                    | (refine wpList_plain rfl fun K' hK' => wp_store_did (cs' := dcl ⟨3, 0, c00, gs, none⟩ false 0 (.slice none 0 0) (.slice none 0 0) st) _ _ rfl rfl rfl (Lies.new _ _ zd) rfl rfl (one_did _ _ _ _ _ _ _ _ _ _ _ _ _ _) (fun w14 z1 z2 => hK' _ _ ?_))
                    | fail)
                  have k14 := Ms.below_over (below1 w13 _) z2 (Nat.le_refl _)
                  have DG14 := Lib.hid (OG.new (TT := 49) w13 HM13.out.fam z1)
                  have HM14 := Lib.hid (HM13.out.next k14)
                  have YG14 := Lib.hid (YG13.out.next k14)
                  clear z1 z2 k14 HM13 YG13 
                  generalize w13.heap.size = g14 at DG14 ⊢

                  obtain ⟨mB, bxB, bvB, qB, eB⟩ := HM14.out.b
                  obtain rfl : Gb = WF wb mB bxB bvB := funext fun k => propext (eB k)
                  have QB := Lib.hid qB
                  have e15 := Later.cell (DG14.out.1.cell (i := 15) rfl)
                  have BX := box_later QB
                  clear qB eB
                  have hbm := fun u : Later w14 => bm4 u.w 4 gs st
                  refine wp_region_later_tail 6 (by kernel_rfl) (by kernel_rfl) ?_
                  simp only [List.take_succ_cons, List.take_zero, List.drop_succ_cons, List.drop_zero]
                  repeat (go_big_quiet_step (first
                    | (go_at_call 9; with_reducible exact Later.call_same _ (BX.out _))))
                  refine wpQuiet_nil ?_
                  rintro _ ⟨u4, rfl⟩
                  have B4 := u4.below
                  have HM15 := Lib.hid (HM14.out.next B4)
                  have YG15 := Lib.hid (YG14.out.next B4)
                  have QB15 := Lib.hid (QB.out.next B4)
                  clear e15 BX hbm HM14 YG14 DG14 QB
                  generalize u4.w = w15 at B4 HM15 YG15 QB15 ⊢
                  clear B4
                  go_wp2_with fail
                  refine (Ms.put_ok bxB cf.c bvB [] ⟨4, 0, c00, gs, st⟩ w15 (Lib.hid QB15.out.box) (by have := r16.out; simp; omega) (by have := r16.out; omega)).mono ?_
                  rintro r w16 ⟨bw16, rfl, b16, v16⟩
                  obtain ⟨h16, mv16⟩ := QB15.out.put b16 v16
                  have HM16 := Lib.hid (HM15.out.onB h16 mv16 HM15.out.subB)
                  have YG16 := Lib.hid (YG15.out.onB mv16)
                  obtain ⟨qb2, hqb⟩ : ∃ q, q = if st = none then qb else Sh.updOf qb gs st := ⟨_, rfl⟩
                  have HQB := Lib.hid hqb
                  clear b16 v16 h16 mv16 QB15 HM15 YG15 hqb
                  go_wp2_with fail
                  refine (step_have 0 c00 gs st mark false w16 (Lib.hid HM16.out.b) (by decide) (by have := GS.out; have := r16.out; omega) qb2 HQB).mono ?_
                  rintro r w17 ⟨rfl, F17, h17, v17⟩
                  have PR2 : Hid (∀ y, (Sh.updOf qa gs none y = pa y ∧ qb2 y = none) ∨ (Sh.updOf qa gs none y = none ∧ qb2 y = pa y)) := Lib.hid (fun y => by
                    have hp := PR.out y
                    have hpg := PR.out gs
                    have he := (EV.out gs).2 GS.out
                    rw [HQB.out, ST.out]
                    by_cases e : y = gs
                    · subst e
                      refine .inr ⟨by simp [Sh.updOf], ?_⟩
                      by_cases hn : qa y = none
                      · rw [if_pos hn]
                        rcases hpg with h | h
                        · exact absurd (h.1 ▸ hn) he
                        · exact h.2
                      · rw [if_neg hn]
                        rcases hpg with h | h
                        · simp [Sh.updOf, h.1]
                        · exact absurd h.1 hn
                    · rw [(Sh.updOf_ok qa gs none).2 y e]
                      by_cases hn : qa gs = none
                      · rw [if_pos hn]; exact hp
                      · rw [if_neg hn, (Sh.updOf_ok qb gs (qa gs)).2 y e]; exact hp)
                  have HM17 := Lib.hid (HM16.out.onB h17 v17 (fun y hy => by rcases PR2.out y with h | h; exact absurd h.2 hy; exact h.2))
                  have YG17 := Lib.hid (YG16.out.onB v17)
                  obtain ⟨qa2, hqa⟩ : ∃ q, q = Sh.updOf qa gs none := ⟨_, rfl⟩
                  rw [← hqa] at PR2 HM17
                  clear h17 v17 HM16 YG16 HQB ST GS hqa PR
                  go_upto_region 34 with fail

                  go_upto_region 35 with fail
                  obtain ⟨mP, bxP, bvP, qP, eP⟩ := HM17.out.a
                  have QP := Lib.hid qP
                  have EP := Lib.hid (funext fun k => propext (eP k))
                  have BX := box_later QP
                  have l0 := Later.cell (YG17.out.1.cell (i := 0) rfl)
                  have l1 := Later.cell (YG17.out.1.cell (i := 1) rfl)
                  have l2 := Later.cell (YG17.out.1.cell (i := 2) rfl)
                  have l3 := Later.cell (YG17.out.1.cell (i := 3) rfl)
                  have l4 := Later.cell (YG17.out.1.cell (i := 4) rfl)
                  have l5 := Later.cell (YG17.out.1.cell (i := 5) rfl)
                  have l6 := Later.cell (YG17.out.1.cell (i := 6) rfl)
                  have hbm := fun u : Later w17 => bm2 u.w 1 x
                  clear qP eP
                  refine wp_region_later_tail 4 (by kernel_rfl) (by kernel_rfl) ?_
                  simp only [List.take_succ_cons, List.take_zero, List.drop_succ_cons, List.drop_zero]
                  repeat (go_big_quiet_step (first
                    | (go_at_call 9; with_reducible exact Later.call_same _ (BX.out _))))
                  refine wpQuiet_nil ?_
                  rintro _ ⟨u4, rfl⟩
                  have B4 := u4.below
                  have HM17' := Lib.hid (HM17.out.next B4)
                  have YG17' := Lib.hid (YG17.out.next B4)
                  have QP' := Lib.hid (QP.out.next B4)
                  clear l0 l1 l2 l3 l4 l5 l6 BX hbm QP HM17 YG17
                  generalize u4.w = w17' at B4 QP' HM17' YG17' ⊢
                  clear B4
                  go_wp2_with fail
                  refine (Ms.put_ok bxP cf.c bvP [] ⟨1, 0, x, 0, none⟩ w17' (Lib.hid QP'.out.box) (by have := r16.out; simp; omega) (by have := r16.out; omega)).mono ?_
                  rintro r w30 ⟨bw30, rfl, b30, v30⟩
                  obtain ⟨h30, mv30⟩ := QP'.out.put b30 v30
                  rw [← EP.out] at mv30
                  have HM30 := Lib.hid (HM17'.out.onA h30 mv30 HM17'.out.subA)
                  have YG30 := Lib.hid (YG17'.out.onA mv30)
                  clear b30 v30 h30 mv30 QP' EP HM17' YG17'
                  obtain ⟨had⟩ | ⟨ad, had⟩ : qa2 (gk cf x.key) = none ∨ ∃ ad, qa2 (gk cf x.key) = some ad := by
                    cases h : qa2 (gk cf x.key) with
                    | none => exact .inl rfl
                    | some ad => exact .inr ⟨ad, rfl⟩
                  · have HN := Lib.hid had
                    obtain ⟨ad, had2⟩ : ∃ ad, qb2 (gk cf x.key) = some ad := by
                      have he := (EV.out (gk cf x.key)).2 GKI.out
                      rcases PR2.out (gk cf x.key) with h | h
                      · exact absurd (h.1 ▸ had) he
                      · exact Option.ne_none_iff_exists'.1 (h.2 ▸ he)
                    have HAD := Lib.hid had2
                    clear had had2
                    go_wp2_with fail
                    refine (step_moved 0 x 0 none mark false w30 (Lib.hid HM30.out.a) (by decide) CF fx HKD HMC WGX (Lib.hid (by rw [GX.out]; exact HN.out))).mono ?_
                    rintro r w31 ⟨rfl, F31, h31, v31⟩
                    have HM31 := Lib.hid (HM30.out.onA h31 v31 HM30.out.subA)
                    have YG31 := Lib.hid (YG30.out.onA v31)
                    have NX : Hid (gx < w31.heap.size ∧ w.heap.size ≤ w31.heap.size) := Lib.hid ⟨YG31.out.1.lt, HM31.out.fam.below.size⟩
                    clear h31 v31 HM30 YG30 HN

                    go_upto_region 37 with (first
                      | (refine wpList_plain rfl fun K' hK' => wp_store_did (cs' := dcl ⟨1, 0, x, 0, none⟩ true 0 (.slice none 0 0) (.slice none 0 0) none) _ _ rfl rfl rfl (Lies.new _ _ zd) rfl rfl (one_did _ _ _ _ _ _ _ _ _ _ _ _ _ _) (fun w32 z1 z2 => hK' _ _ ?_))
                      | fail)
                    have k32 := Ms.below_over (below1 w31 _) z2 (Nat.le_refl _)
                    have DG32 := Lib.hid (OG.new (TT := 49) w31 HM31.out.fam z1)
                    have HM32 := Lib.hid (HM31.out.next k32)
                    have YG32 := Lib.hid (YG31.out.next k32)
                    clear z1 z2 k32 HM31 YG31 
                    generalize w31.heap.size = g32 at DG32 NX ⊢
                    have d11 := DG32.out.1.cell (i := 11) rfl

                    go_upto_region 39 with fail
                    clear d11
                    obtain ⟨mR, bxR, bvR, qR, eR⟩ := HM32.out.b
                    have QR := Lib.hid qR
                    have ER := Lib.hid (funext fun k => propext (eR k))
                    have BX := box_later QR
                    have l0 := Later.cell (YG32.out.1.cell (i := 0) rfl)
                    have l1 := Later.cell (YG32.out.1.cell (i := 1) rfl)
                    have l2 := Later.cell (YG32.out.1.cell (i := 2) rfl)
                    have l3 := Later.cell (YG32.out.1.cell (i := 3) rfl)
                    have l4 := Later.cell (YG32.out.1.cell (i := 4) rfl)
                    have l5 := Later.cell (YG32.out.1.cell (i := 5) rfl)
                    have l6 := Later.cell (YG32.out.1.cell (i := 6) rfl)
                    have hbm := fun u : Later w32 => bm2 u.w 1 x
                    clear qR eR
                    refine wp_region_later_tail 4 (by kernel_rfl) (by kernel_rfl) ?_
                    simp only [List.take_succ_cons, List.take_zero, List.drop_succ_cons, List.drop_zero]
                    repeat (go_big_quiet_step (first
                      | (go_at_call 9; with_reducible exact Later.call_same _ (BX.out _))))
                    refine wpQuiet_nil ?_
                    rintro _ ⟨u4, rfl⟩
                    have B4 := u4.below
                    have HM32' := Lib.hid (HM32.out.next B4)
                    have YG32' := Lib.hid (YG32.out.next B4)
                    have DG32' := Lib.hid (DG32.out.next B4)
                    have QR' := Lib.hid (QR.out.next B4)
                    clear l0 l1 l2 l3 l4 l5 l6 BX hbm QR HM32 YG32 DG32
                    generalize u4.w = w32' at B4 QR' HM32' YG32' DG32' ⊢
                    clear B4
                    go_wp2_with fail
                    refine (Ms.put_ok bxR cf.c bvR [] ⟨1, 0, x, 0, none⟩ w32' (Lib.hid QR'.out.box) (by have := r16.out; simp; omega) (by have := r16.out; omega)).mono ?_
                    rintro r w40 ⟨bw40, rfl, b40, v40⟩
                    obtain ⟨h40, mv40⟩ := QR'.out.put b40 v40
                    rw [← ER.out] at mv40
                    have HM40 := Lib.hid (HM32'.out.onB h40 mv40 HM32'.out.subB)
                    have YG40 := Lib.hid (YG32'.out.onB mv40)
                    have DG40 := Lib.hid (DG32'.out.onB mv40)
                    clear b40 v40 h40 mv40 QR' ER HM32' YG32' DG32'
                    as_aux_lemma =>
                      have GR41 := HM40.out.grp (k := gk cf x.key) (ad := ad) (by rw [← HM40.out.subB _ (by rw [HAD.out]; simp)]; exact HAD.out)
                      go_wp2_with fail
                      refine (step_has 0 x 0 none mark false w40 (Lib.hid HM40.out.b) (by decide) CF fx HKD HMC WGX (a := ad) (Lib.hid (by rw [GX.out]; exact HAD.out)) rfl z (Lib.hid GR41) (Lib.hid fun b hb q => HM40.out.apB b hb ⟨gk cf x.key, by rw [HAD.out]; simp, q⟩) hNi M BC MW hxk TZ).mono ?_
                      rintro r w41 ⟨rv, ov, code, P, O, c, S1, n1, F41, Fg41, rfl, ma41, hn41, hP41, hi41, G41, ha41, hv41, or41, oo41⟩
                      obtain ⟨hm41, V41⟩ := HM40.out.askB HAD.out hi41 G41 ha41 hv41
                      obtain ⟨Av, nv, cv, rfl⟩ := Md.lit or41
                      obtain ⟨Bv, mvv, ev, rfl⟩ := Md.lit oo41
                      have HM41 := Lib.hid hm41
                      have OK41 := Lib.hid G41.ok
                      have MA := Lib.hid ma41
                      have HP := Lib.hid hP41
                      have OR41 := Lib.hid or41
                      have OO41 := Lib.hid oo41
                      have OFR : Hid (∀ g, ((Value.slice Av nv cv).ownBlock = some g ∨ (Value.slice Bv mvv ev).ownBlock = some g) → ¬ Gm g) := Lib.hid fun g hg q => by
                        have h0 := HM40.out.fam.in_ 0 g q
                        rcases hg with h | h
                        · have := (or41.lt g h).1; omega
                        · have := (oo41.lt g h).1; omega
                      have YG41 := Lib.hid (YG40.out.allB V41)
                      have DG41 := Lib.hid (DG40.out.allB V41)
                      have ONE : Hid ((∀ i, (Value.slice Av nv cv).ownBlock = some i → w40.heap.size ≤ i) ∧ ∀ i, (Value.slice Bv mvv ev).ownBlock = some i → w40.heap.size ≤ i) := Lib.hid ⟨fun i hi => (or41.lt i hi).1, fun i hi => (oo41.lt i hi).1⟩
                      have DL : Hid (g32 < w40.heap.size) := Lib.hid DG40.out.1.lt
                      clear hm41 V41 ma41 hn41 hP41 hi41 G41 ha41 hv41 or41 oo41 GR41 HM40 YG40 DG40
                      go_upto_region 41 with (first
                        | (refine wpList_plain rfl fun K' hK' => wp_store_did (cs' := dcl ⟨1, 0, x, 0, none⟩ false code (.slice Av nv cv) (.slice Bv mvv ev) none) _ _ rfl rfl rfl DG41.out.1 rfl rfl (one_did _ _ _ _ _ _ _ _ _ _ _ _ _ _) (fun w42 z1 z2 => hK' _ _ ?_))
                        | fail)
                      have HM42 := Lib.hid (HM41.out.far z2 DG41.out.2 (by have := NX.out; omega))
                      have DG42 := Lib.hid (DG41.out.set z1)
                      have YG42 := Lib.hid (YG41.out.far z2 (by have := NX.out; omega))
                      have OR42 := Lib.hid (OR41.out.move fun i hi => z2.block i (OR41.out.lt i hi).2 fun e => by have := Option.some.inj e; have := ONE.out.1 i hi; have := DL.out; omega)
                      have OO42 := Lib.hid (OO41.out.move fun i hi => z2.block i (OO41.out.lt i hi).2 fun e => by have := Option.some.inj e; have := ONE.out.2 i hi; have := DL.out; omega)
                      have OK31 := OK41
                      clear z1 z2 HM41 DG41 YG41 OR41 OO41 ONE DL
                      have d11 := DG42.out.1.cell (i := 11) rfl
                      go_upto_region 41 with fail
                      clear d11
                      have c16 : c ≤ 16 := by
                        rcases MA.out with ⟨-, -, S0, -, -, tk⟩ | ⟨-, -, rfl, -⟩
                        · exact (Gr.taken16 tk hz.out).1
                        · omega
                      have CS : Hid (∀ w', Out.Wr Gm w42 w' → (w'.cell? ⟨g32, 11, none⟩ = some (.bool false) ∧ w'.cell? ⟨g32, 12, none⟩ = some (.int .i64 code) ∧ w'.cell? ⟨g32, 13, none⟩ = some (.slice Av nv cv) ∧ w'.cell? ⟨gx, 0, none⟩ = some (.int .i64 x.op) ∧ w'.cell? ⟨gx, 1, none⟩ = some (.string x.key) ∧ w'.cell? ⟨gx, 2, none⟩ = some (.int .i64 x.t) ∧ w'.cell? ⟨gx, 3, none⟩ = some (.int .i64 x.v) ∧ w'.cell? ⟨gx, 4, none⟩ = some (.int .i64 x.e) ∧ w'.cell? ⟨gx, 5, none⟩ = some (.int .i64 x.u) ∧ w'.cell? ⟨gx, 6, none⟩ = some (.int .i64 x.s)) ∧ Out.Wr Gm w42 w') := Lib.hid fun w' hB => ⟨⟨(hB.lies (DG42.out.2 0) DG42.out.1).cell (i := 11) rfl, (hB.lies (DG42.out.2 0) DG42.out.1).cell (i := 12) rfl, (hB.lies (DG42.out.2 0) DG42.out.1).cell (i := 13) rfl, (hB.lies (YG42.out.2 0) YG42.out.1).cell (i := 0) rfl, (hB.lies (YG42.out.2 0) YG42.out.1).cell (i := 1) rfl, (hB.lies (YG42.out.2 0) YG42.out.1).cell (i := 2) rfl, (hB.lies (YG42.out.2 0) YG42.out.1).cell (i := 3) rfl, (hB.lies (YG42.out.2 0) YG42.out.1).cell (i := 4) rfl, (hB.lies (YG42.out.2 0) YG42.out.1).cell (i := 5) rfl, (hB.lies (YG42.out.2 0) YG42.out.1).cell (i := 6) rfl⟩, hB⟩
                      have CB : Hid (∀ w', (w'.cell? ⟨g32, 11, none⟩ = some (.bool false) ∧ w'.cell? ⟨g32, 12, none⟩ = some (.int .i64 code) ∧ w'.cell? ⟨g32, 13, none⟩ = some (.slice Av nv cv) ∧ w'.cell? ⟨gx, 0, none⟩ = some (.int .i64 x.op) ∧ w'.cell? ⟨gx, 1, none⟩ = some (.string x.key) ∧ w'.cell? ⟨gx, 2, none⟩ = some (.int .i64 x.t) ∧ w'.cell? ⟨gx, 3, none⟩ = some (.int .i64 x.v) ∧ w'.cell? ⟨gx, 4, none⟩ = some (.int .i64 x.e) ∧ w'.cell? ⟨gx, 5, none⟩ = some (.int .i64 x.u) ∧ w'.cell? ⟨gx, 6, none⟩ = some (.int .i64 x.s)) ∧ Out.Wr Gm w42 w' → Out.Wr Gm w42 w') := Lib.hid fun w' h => h.2
                      have hD : Below w42.heap.size w42 w42.drew := (Below.refl _ _).drew
                      have HMd := Lib.hid (HM42.out.next hD)
                      have ORd := Lib.hid (OR42.out.next hD)
                      have DGd := Lib.hid (DG42.out.next hD)
                      have OOd := Lib.hid (OO42.out.next hD)
                      clear hD
                      go_region_held3 (fun w' => (w'.cell? ⟨g32, 11, none⟩ = some (.bool false) ∧ w'.cell? ⟨g32, 12, none⟩ = some (.int .i64 code) ∧ w'.cell? ⟨g32, 13, none⟩ = some (.slice Av nv cv) ∧ w'.cell? ⟨gx, 0, none⟩ = some (.int .i64 x.op) ∧ w'.cell? ⟨gx, 1, none⟩ = some (.string x.key) ∧ w'.cell? ⟨gx, 2, none⟩ = some (.int .i64 x.t) ∧ w'.cell? ⟨gx, 3, none⟩ = some (.int .i64 x.v) ∧ w'.cell? ⟨gx, 4, none⟩ = some (.int .i64 x.e) ∧ w'.cell? ⟨gx, 5, none⟩ = some (.int .i64 x.u) ∧ w'.cell? ⟨gx, 6, none⟩ = some (.int .i64 x.s)) ∧ Out.Wr Gm w42 w')
                        (first | exact CS.out _ Out.Wr.drew | exact CS.out _ (Out.Wr.trans Out.Wr.drew (Out.Wr.of_moves v44)) | exact CS.out _ (Out.Wr.trans (CB.out _ (by assumption)) (Out.Wr.of_below k45)))
                        (first
                          | (go_at_call 25; refine (Md.do_ok x z _ (Lib.hid HMd.out.mod) (by omega) M CF fx hxk MW TZ).mono ?_; rintro r w44 ⟨rv2, code2, P2, c2', SM', mark2, L2, cl2, Gm', rfl, hd, hP2, h44, v44, o44⟩; obtain ⟨rfl, rfl, rfl, rfl, rfl, T', hS1, hrest, inv'⟩ := IV.out.asked (x := x) (zz := z) (k := gk cf x.key) rfl MA.out hd HMC.out HKD.out OK31.out (by omega) h44.over HMd.out.mod.over; obtain ⟨A9, n9, c9, rfl⟩ := Md.lit o44; have R44 := Lib.hid (ORd.out.move fun g hg => v44.block g (ORd.out.lt g hg).2 fun q => OFR.out g (.inl hg) q); have O44 := Lib.hid o44; have HP2 := Lib.hid hP2; clear o44 hP2)
                          | (go_at_call 18; refine (Ca.same_ok code code _ _ P P _ (Lib.hid (Out.Rd.own R44.out)) (Lib.hid (Out.Rd.own O44.out)) HP.out HP2.out).mono ?_; rintro r w45 ⟨rfl, k45⟩; rw [show decide (code = code ∧ P = P) = true by simp]))
                      have WD := CB.out _ (by assumption)
                      clear CS CB WD
                      have c16' : c2' ≤ 16 := hd.c16 hz.out
                      have hm44 := HMd.out.model h44 v44 (Nat.le_add_right _ _)
                      rw [part_upd hS1 hrest] at hm44
                      have HL : Hid (out.length + O.length ≤ 1048576) := Lib.hid (by have h1 := inv'.len; have h2 := hm44.few; rw [List.length_append] at h1; omega)
                      have HM45 := Lib.hid ((hm44.more (show 32 * i + c + c2' ≤ 32 * (i + 1) by omega)).next k45)
                      have IV' := Lib.hid inv'
                      have DG45 := Lib.hid ((DGd.out.model v44).next k45)
                      have OO45 := Lib.hid ((OOd.out.move fun g hg => v44.block g (OOd.out.lt g hg).2 fun q => OFR.out g (.inr hg) q).next k45)
                      clear hd h44 v44 hm44 hS1 hrest inv' HMd ORd R44 O44 HP2 DGd OOd HM42 DG42 OR42 OO42 YG42 c16' k45
                      have d14 := DG45.out.1.cell (i := 14) rfl
                      obtain ⟨bO, -, iO⟩ := OO45.out.is
                      have IO := Lib.hid iO
                      have SB : Hid (w.heap.size ≤ w45.heap.size) := Lib.hid HM45.out.fam.below.size
                      clear iO
                      go_wp2_with (at_builtin; refine wpList_plain rfl fun K' hK' => Sl.wp_append Pn.ok (.tmp 240) (.tmp 242) rfl (base := w.heap.size) (l := out) (l2 := O) (b2 := bO) HM45.out.out IO.out HL.out SB.out (fun u w99 z1 z2 z3 => hK' _ _ ?_))
                      obtain ⟨bu, -, iu⟩ := z1.is
                      obtain ⟨Au, cu, rfl⟩ := iu.len
                      have HM99 := Lib.hid (HM45.out.put z1 z2 z3)
                      exact ⟨⟨i + 1, T', SM', _, _, out ++ O, qa2, qb2, _, _, _, _, _, Au, cu, by have := HLT.out; omega, by go_num, rfl, rfl, HM99, IV', PR2, MW⟩, by have := HLT.out; simp [intOf]; omega⟩
                  · have HAD := Lib.hid had
                    clear had
                    as_aux_lemma =>
                      have GR31 := HM30.out.grp (k := gk cf x.key) (ad := ad) (by rw [← HM30.out.subA _ (by rw [HAD.out]; simp)]; exact HAD.out)
                      go_wp2_with fail
                      refine (step_has 0 x 0 none mark false w30 (Lib.hid HM30.out.a) (by decide) CF fx HKD HMC WGX (a := ad) (Lib.hid (by rw [GX.out]; exact HAD.out)) rfl z (Lib.hid GR31) (Lib.hid fun b hb q => HM30.out.apA b hb ⟨gk cf x.key, by rw [HAD.out]; simp, q⟩) hNi M BC MW hxk TZ).mono ?_
                      rintro r w31 ⟨rv, ov, code, P, O, c, S1, n1, F31, Fg31, rfl, ma31, hn31, hP31, hi31, G31, ha31, hv31, or31, oo31⟩
                      obtain ⟨hm31, V31⟩ := HM30.out.askA HAD.out hi31 G31 ha31 hv31
                      obtain ⟨Av, nv, cv, rfl⟩ := Md.lit or31
                      obtain ⟨Bv, mvv, ev, rfl⟩ := Md.lit oo31
                      have HM31 := Lib.hid hm31
                      have OK31 := Lib.hid G31.ok
                      have MA := Lib.hid ma31
                      have HP := Lib.hid hP31
                      have OR31 := Lib.hid or31
                      have OO31 := Lib.hid oo31
                      have OFR : Hid (∀ g, ((Value.slice Av nv cv).ownBlock = some g ∨ (Value.slice Bv mvv ev).ownBlock = some g) → ¬ Gm g) := Lib.hid fun g hg q => by
                        have h0 := HM30.out.fam.in_ 0 g q
                        rcases hg with h | h
                        · have := (or31.lt g h).1; omega
                        · have := (oo31.lt g h).1; omega
                      have YG31 := Lib.hid (YG30.out.allA V31)
                      clear hm31 V31 ma31 hn31 hP31 hi31 G31 ha31 hv31 or31 oo31 GR31 HM30 YG30

                      go_upto_region 37 with (first
                        | (refine wpList_plain rfl fun K' hK' => wp_store_did (cs' := dcl ⟨1, 0, x, 0, none⟩ false code (.slice Av nv cv) (.slice Bv mvv ev) none) _ _ rfl rfl rfl (Lies.new _ _ zd) rfl rfl (one_did _ _ _ _ _ _ _ _ _ _ _ _ _ _) (fun w32 z1 z2 => hK' _ _ ?_))
                        | fail)
                      have k32 := Ms.below_over (below1 w31 _) z2 (Nat.le_refl _)
                      have DG32 := Lib.hid (OG.new (TT := 49) w31 HM31.out.fam z1)
                      have HM32 := Lib.hid (HM31.out.next k32)
                      have YG32 := Lib.hid (YG31.out.next k32)
                      have OR32 := Lib.hid (OR31.out.next k32)
                      have OO32 := Lib.hid (OO31.out.next k32)
                      clear z1 z2 k32 HM31 YG31 OR31 OO31
                      generalize w31.heap.size = g32 at DG32 ⊢
                      have d11 := DG32.out.1.cell (i := 11) rfl
                      go_upto_region 41 with fail
                      clear d11
                      have c16 : c ≤ 16 := by
                        rcases MA.out with ⟨-, -, S0, -, -, tk⟩ | ⟨-, -, rfl, -⟩
                        · exact (Gr.taken16 tk hz.out).1
                        · omega
                      have CS : Hid (∀ w', Out.Wr Gm w32 w' → (w'.cell? ⟨g32, 11, none⟩ = some (.bool false) ∧ w'.cell? ⟨g32, 12, none⟩ = some (.int .i64 code) ∧ w'.cell? ⟨g32, 13, none⟩ = some (.slice Av nv cv) ∧ w'.cell? ⟨gx, 0, none⟩ = some (.int .i64 x.op) ∧ w'.cell? ⟨gx, 1, none⟩ = some (.string x.key) ∧ w'.cell? ⟨gx, 2, none⟩ = some (.int .i64 x.t) ∧ w'.cell? ⟨gx, 3, none⟩ = some (.int .i64 x.v) ∧ w'.cell? ⟨gx, 4, none⟩ = some (.int .i64 x.e) ∧ w'.cell? ⟨gx, 5, none⟩ = some (.int .i64 x.u) ∧ w'.cell? ⟨gx, 6, none⟩ = some (.int .i64 x.s)) ∧ Out.Wr Gm w32 w') := Lib.hid fun w' hB => ⟨⟨(hB.lies (DG32.out.2 0) DG32.out.1).cell (i := 11) rfl, (hB.lies (DG32.out.2 0) DG32.out.1).cell (i := 12) rfl, (hB.lies (DG32.out.2 0) DG32.out.1).cell (i := 13) rfl, (hB.lies (YG32.out.2 0) YG32.out.1).cell (i := 0) rfl, (hB.lies (YG32.out.2 0) YG32.out.1).cell (i := 1) rfl, (hB.lies (YG32.out.2 0) YG32.out.1).cell (i := 2) rfl, (hB.lies (YG32.out.2 0) YG32.out.1).cell (i := 3) rfl, (hB.lies (YG32.out.2 0) YG32.out.1).cell (i := 4) rfl, (hB.lies (YG32.out.2 0) YG32.out.1).cell (i := 5) rfl, (hB.lies (YG32.out.2 0) YG32.out.1).cell (i := 6) rfl⟩, hB⟩
                      have CB : Hid (∀ w', (w'.cell? ⟨g32, 11, none⟩ = some (.bool false) ∧ w'.cell? ⟨g32, 12, none⟩ = some (.int .i64 code) ∧ w'.cell? ⟨g32, 13, none⟩ = some (.slice Av nv cv) ∧ w'.cell? ⟨gx, 0, none⟩ = some (.int .i64 x.op) ∧ w'.cell? ⟨gx, 1, none⟩ = some (.string x.key) ∧ w'.cell? ⟨gx, 2, none⟩ = some (.int .i64 x.t) ∧ w'.cell? ⟨gx, 3, none⟩ = some (.int .i64 x.v) ∧ w'.cell? ⟨gx, 4, none⟩ = some (.int .i64 x.e) ∧ w'.cell? ⟨gx, 5, none⟩ = some (.int .i64 x.u) ∧ w'.cell? ⟨gx, 6, none⟩ = some (.int .i64 x.s)) ∧ Out.Wr Gm w32 w' → Out.Wr Gm w32 w') := Lib.hid fun w' h => h.2
                      have hD : Below w32.heap.size w32 w32.drew := (Below.refl _ _).drew
                      have HMd := Lib.hid (HM32.out.next hD)
                      have ORd := Lib.hid (OR32.out.next hD)
                      have DGd := Lib.hid (DG32.out.next hD)
                      have OOd := Lib.hid (OO32.out.next hD)
                      clear hD
                      go_region_held3 (fun w' => (w'.cell? ⟨g32, 11, none⟩ = some (.bool false) ∧ w'.cell? ⟨g32, 12, none⟩ = some (.int .i64 code) ∧ w'.cell? ⟨g32, 13, none⟩ = some (.slice Av nv cv) ∧ w'.cell? ⟨gx, 0, none⟩ = some (.int .i64 x.op) ∧ w'.cell? ⟨gx, 1, none⟩ = some (.string x.key) ∧ w'.cell? ⟨gx, 2, none⟩ = some (.int .i64 x.t) ∧ w'.cell? ⟨gx, 3, none⟩ = some (.int .i64 x.v) ∧ w'.cell? ⟨gx, 4, none⟩ = some (.int .i64 x.e) ∧ w'.cell? ⟨gx, 5, none⟩ = some (.int .i64 x.u) ∧ w'.cell? ⟨gx, 6, none⟩ = some (.int .i64 x.s)) ∧ Out.Wr Gm w32 w')
                        (first | exact CS.out _ Out.Wr.drew | exact CS.out _ (Out.Wr.trans Out.Wr.drew (Out.Wr.of_moves v44)) | exact CS.out _ (Out.Wr.trans (CB.out _ (by assumption)) (Out.Wr.of_below k45)))
                        (first
                          | (go_at_call 25; refine (Md.do_ok x z _ (Lib.hid HMd.out.mod) (by omega) M CF fx hxk MW TZ).mono ?_; rintro r w44 ⟨rv2, code2, P2, c2', SM', mark2, L2, cl2, Gm', rfl, hd, hP2, h44, v44, o44⟩; obtain ⟨rfl, rfl, rfl, rfl, rfl, T', hS1, hrest, inv'⟩ := IV.out.asked (x := x) (zz := z) (k := gk cf x.key) rfl MA.out hd HMC.out HKD.out OK31.out (by omega) h44.over HMd.out.mod.over; obtain ⟨A9, n9, c9, rfl⟩ := Md.lit o44; have R44 := Lib.hid (ORd.out.move fun g hg => v44.block g (ORd.out.lt g hg).2 fun q => OFR.out g (.inl hg) q); have O44 := Lib.hid o44; have HP2 := Lib.hid hP2; clear o44 hP2)
                          | (go_at_call 18; refine (Ca.same_ok code code _ _ P P _ (Lib.hid (Out.Rd.own R44.out)) (Lib.hid (Out.Rd.own O44.out)) HP.out HP2.out).mono ?_; rintro r w45 ⟨rfl, k45⟩; rw [show decide (code = code ∧ P = P) = true by simp]))
                      have WD := CB.out _ (by assumption)
                      clear CS CB WD
                      have c16' : c2' ≤ 16 := hd.c16 hz.out
                      have hm44 := HMd.out.model h44 v44 (Nat.le_add_right _ _)
                      rw [part_upd hS1 hrest] at hm44
                      have HL : Hid (out.length + O.length ≤ 1048576) := Lib.hid (by have h1 := inv'.len; have h2 := hm44.few; rw [List.length_append] at h1; omega)
                      have HM45 := Lib.hid ((hm44.more (show 32 * i + c + c2' ≤ 32 * (i + 1) by omega)).next k45)
                      have IV' := Lib.hid inv'
                      have DG45 := Lib.hid ((DGd.out.model v44).next k45)
                      have OO45 := Lib.hid ((OOd.out.move fun g hg => v44.block g (OOd.out.lt g hg).2 fun q => OFR.out g (.inr hg) q).next k45)
                      clear hd h44 v44 hm44 hS1 hrest inv' HMd ORd R44 O44 HP2 DGd OOd HM32 DG32 OR32 OO32 YG32 c16' k45
                      have d14 := DG45.out.1.cell (i := 14) rfl
                      obtain ⟨bO, -, iO⟩ := OO45.out.is
                      have IO := Lib.hid iO
                      have SB : Hid (w.heap.size ≤ w45.heap.size) := Lib.hid HM45.out.fam.below.size
                      clear iO
                      go_wp2_with (at_builtin; refine wpList_plain rfl fun K' hK' => Sl.wp_append Pn.ok (.tmp 240) (.tmp 242) rfl (base := w.heap.size) (l := out) (l2 := O) (b2 := bO) HM45.out.out IO.out HL.out SB.out (fun u w99 z1 z2 z3 => hK' _ _ ?_))
                      obtain ⟨bu, -, iu⟩ := z1.is
                      obtain ⟨Au, cu, rfl⟩ := iu.len
                      have HM99 := Lib.hid (HM45.out.put z1 z2 z3)
                      exact ⟨⟨i + 1, T', SM', _, _, out ++ O, qa2, qb2, _, _, _, _, _, Au, cu, by have := HLT.out; omega, by go_num, rfl, rfl, HM99, IV', PR2, MW⟩, by have := HLT.out; simp [intOf]; omega⟩

                · have m0 : ¬ (i : Int) < mn := by omega
                  clear hmi
                  go_wp2_with fail

                  go_upto_region 35 with fail
                  obtain ⟨mP, bxP, bvP, qP, eP⟩ := HM10.out.a
                  have QP := Lib.hid qP
                  have EP := Lib.hid (funext fun k => propext (eP k))
                  have BX := box_later QP
                  have l0 := Later.cell (YG10.out.1.cell (i := 0) rfl)
                  have l1 := Later.cell (YG10.out.1.cell (i := 1) rfl)
                  have l2 := Later.cell (YG10.out.1.cell (i := 2) rfl)
                  have l3 := Later.cell (YG10.out.1.cell (i := 3) rfl)
                  have l4 := Later.cell (YG10.out.1.cell (i := 4) rfl)
                  have l5 := Later.cell (YG10.out.1.cell (i := 5) rfl)
                  have l6 := Later.cell (YG10.out.1.cell (i := 6) rfl)
                  have hbm := fun u : Later w10 => bm2 u.w 1 x
                  clear qP eP
                  refine wp_region_later_tail 4 (by kernel_rfl) (by kernel_rfl) ?_
                  simp only [List.take_succ_cons, List.take_zero, List.drop_succ_cons, List.drop_zero]
                  repeat (go_big_quiet_step (first
                    | (go_at_call 9; with_reducible exact Later.call_same _ (BX.out _))))
                  refine wpQuiet_nil ?_
                  rintro _ ⟨u4, rfl⟩
                  have B4 := u4.below
                  have HM10' := Lib.hid (HM10.out.next B4)
                  have YG10' := Lib.hid (YG10.out.next B4)
                  have QP' := Lib.hid (QP.out.next B4)
                  clear l0 l1 l2 l3 l4 l5 l6 BX hbm QP HM10 YG10
                  generalize u4.w = w10' at B4 QP' HM10' YG10' ⊢
                  clear B4
                  go_wp2_with fail
                  refine (Ms.put_ok bxP cf.c bvP [] ⟨1, 0, x, 0, none⟩ w10' (Lib.hid QP'.out.box) (by have := r16.out; simp; omega) (by have := r16.out; omega)).mono ?_
                  rintro r w30 ⟨bw30, rfl, b30, v30⟩
                  obtain ⟨h30, mv30⟩ := QP'.out.put b30 v30
                  rw [← EP.out] at mv30
                  have HM30 := Lib.hid (HM10'.out.onA h30 mv30 HM10'.out.subA)
                  have YG30 := Lib.hid (YG10'.out.onA mv30)
                  clear b30 v30 h30 mv30 QP' EP HM10' YG10'
                  obtain ⟨had⟩ | ⟨ad, had⟩ : qa (gk cf x.key) = none ∨ ∃ ad, qa (gk cf x.key) = some ad := by
                    cases h : qa (gk cf x.key) with
                    | none => exact .inl rfl
                    | some ad => exact .inr ⟨ad, rfl⟩
                  · have HN := Lib.hid had
                    obtain ⟨ad, had2⟩ : ∃ ad, qb (gk cf x.key) = some ad := by
                      have he := (EV.out (gk cf x.key)).2 GKI.out
                      rcases PR.out (gk cf x.key) with h | h
                      · exact absurd (h.1 ▸ had) he
                      · exact Option.ne_none_iff_exists'.1 (h.2 ▸ he)
                    have HAD := Lib.hid had2
                    clear had had2
                    go_wp2_with fail
                    refine (step_moved 0 x 0 none mark false w30 (Lib.hid HM30.out.a) (by decide) CF fx HKD HMC WGX (Lib.hid (by rw [GX.out]; exact HN.out))).mono ?_
                    rintro r w31 ⟨rfl, F31, h31, v31⟩
                    have HM31 := Lib.hid (HM30.out.onA h31 v31 HM30.out.subA)
                    have YG31 := Lib.hid (YG30.out.onA v31)
                    have NX : Hid (gx < w31.heap.size ∧ w.heap.size ≤ w31.heap.size) := Lib.hid ⟨YG31.out.1.lt, HM31.out.fam.below.size⟩
                    clear h31 v31 HM30 YG30 HN

                    go_upto_region 37 with (first
                      | (refine wpList_plain rfl fun K' hK' => wp_store_did (cs' := dcl ⟨1, 0, x, 0, none⟩ true 0 (.slice none 0 0) (.slice none 0 0) none) _ _ rfl rfl rfl (Lies.new _ _ zd) rfl rfl (one_did _ _ _ _ _ _ _ _ _ _ _ _ _ _) (fun w32 z1 z2 => hK' _ _ ?_))
                      | fail)
                    have k32 := Ms.below_over (below1 w31 _) z2 (Nat.le_refl _)
                    have DG32 := Lib.hid (OG.new (TT := 49) w31 HM31.out.fam z1)
                    have HM32 := Lib.hid (HM31.out.next k32)
                    have YG32 := Lib.hid (YG31.out.next k32)
                    clear z1 z2 k32 HM31 YG31 
                    generalize w31.heap.size = g32 at DG32 NX ⊢
                    have d11 := DG32.out.1.cell (i := 11) rfl

                    go_upto_region 39 with fail
                    clear d11
                    obtain ⟨mR, bxR, bvR, qR, eR⟩ := HM32.out.b
                    have QR := Lib.hid qR
                    have ER := Lib.hid (funext fun k => propext (eR k))
                    have BX := box_later QR
                    have l0 := Later.cell (YG32.out.1.cell (i := 0) rfl)
                    have l1 := Later.cell (YG32.out.1.cell (i := 1) rfl)
                    have l2 := Later.cell (YG32.out.1.cell (i := 2) rfl)
                    have l3 := Later.cell (YG32.out.1.cell (i := 3) rfl)
                    have l4 := Later.cell (YG32.out.1.cell (i := 4) rfl)
                    have l5 := Later.cell (YG32.out.1.cell (i := 5) rfl)
                    have l6 := Later.cell (YG32.out.1.cell (i := 6) rfl)
                    have hbm := fun u : Later w32 => bm2 u.w 1 x
                    clear qR eR
                    refine wp_region_later_tail 4 (by kernel_rfl) (by kernel_rfl) ?_
                    simp only [List.take_succ_cons, List.take_zero, List.drop_succ_cons, List.drop_zero]
                    repeat (go_big_quiet_step (first
                      | (go_at_call 9; with_reducible exact Later.call_same _ (BX.out _))))
                    refine wpQuiet_nil ?_
                    rintro _ ⟨u4, rfl⟩
                    have B4 := u4.below
                    have HM32' := Lib.hid (HM32.out.next B4)
                    have YG32' := Lib.hid (YG32.out.next B4)
                    have DG32' := Lib.hid (DG32.out.next B4)
                    have QR' := Lib.hid (QR.out.next B4)
                    clear l0 l1 l2 l3 l4 l5 l6 BX hbm QR HM32 YG32 DG32
                    generalize u4.w = w32' at B4 QR' HM32' YG32' DG32' ⊢
                    clear B4
                    go_wp2_with fail
                    refine (Ms.put_ok bxR cf.c bvR [] ⟨1, 0, x, 0, none⟩ w32' (Lib.hid QR'.out.box) (by have := r16.out; simp; omega) (by have := r16.out; omega)).mono ?_
                    rintro r w40 ⟨bw40, rfl, b40, v40⟩
                    obtain ⟨h40, mv40⟩ := QR'.out.put b40 v40
                    rw [← ER.out] at mv40
                    have HM40 := Lib.hid (HM32'.out.onB h40 mv40 HM32'.out.subB)
                    have YG40 := Lib.hid (YG32'.out.onB mv40)
                    have DG40 := Lib.hid (DG32'.out.onB mv40)
                    clear b40 v40 h40 mv40 QR' ER HM32' YG32' DG32'
                    as_aux_lemma =>
                      have GR41 := HM40.out.grp (k := gk cf x.key) (ad := ad) (by rw [← HM40.out.subB _ (by rw [HAD.out]; simp)]; exact HAD.out)
                      go_wp2_with fail
                      refine (step_has 0 x 0 none mark false w40 (Lib.hid HM40.out.b) (by decide) CF fx HKD HMC WGX (a := ad) (Lib.hid (by rw [GX.out]; exact HAD.out)) rfl z (Lib.hid GR41) (Lib.hid fun b hb q => HM40.out.apB b hb ⟨gk cf x.key, by rw [HAD.out]; simp, q⟩) hNi M BC MW hxk TZ).mono ?_
                      rintro r w41 ⟨rv, ov, code, P, O, c, S1, n1, F41, Fg41, rfl, ma41, hn41, hP41, hi41, G41, ha41, hv41, or41, oo41⟩
                      obtain ⟨hm41, V41⟩ := HM40.out.askB HAD.out hi41 G41 ha41 hv41
                      obtain ⟨Av, nv, cv, rfl⟩ := Md.lit or41
                      obtain ⟨Bv, mvv, ev, rfl⟩ := Md.lit oo41
                      have HM41 := Lib.hid hm41
                      have OK41 := Lib.hid G41.ok
                      have MA := Lib.hid ma41
                      have HP := Lib.hid hP41
                      have OR41 := Lib.hid or41
                      have OO41 := Lib.hid oo41
                      have OFR : Hid (∀ g, ((Value.slice Av nv cv).ownBlock = some g ∨ (Value.slice Bv mvv ev).ownBlock = some g) → ¬ Gm g) := Lib.hid fun g hg q => by
                        have h0 := HM40.out.fam.in_ 0 g q
                        rcases hg with h | h
                        · have := (or41.lt g h).1; omega
                        · have := (oo41.lt g h).1; omega
                      have YG41 := Lib.hid (YG40.out.allB V41)
                      have DG41 := Lib.hid (DG40.out.allB V41)
                      have ONE : Hid ((∀ i, (Value.slice Av nv cv).ownBlock = some i → w40.heap.size ≤ i) ∧ ∀ i, (Value.slice Bv mvv ev).ownBlock = some i → w40.heap.size ≤ i) := Lib.hid ⟨fun i hi => (or41.lt i hi).1, fun i hi => (oo41.lt i hi).1⟩
                      have DL : Hid (g32 < w40.heap.size) := Lib.hid DG40.out.1.lt
                      clear hm41 V41 ma41 hn41 hP41 hi41 G41 ha41 hv41 or41 oo41 GR41 HM40 YG40 DG40
                      go_upto_region 41 with (first
                        | (refine wpList_plain rfl fun K' hK' => wp_store_did (cs' := dcl ⟨1, 0, x, 0, none⟩ false code (.slice Av nv cv) (.slice Bv mvv ev) none) _ _ rfl rfl rfl DG41.out.1 rfl rfl (one_did _ _ _ _ _ _ _ _ _ _ _ _ _ _) (fun w42 z1 z2 => hK' _ _ ?_))
                        | fail)
                      have HM42 := Lib.hid (HM41.out.far z2 DG41.out.2 (by have := NX.out; omega))
                      have DG42 := Lib.hid (DG41.out.set z1)
                      have YG42 := Lib.hid (YG41.out.far z2 (by have := NX.out; omega))
                      have OR42 := Lib.hid (OR41.out.move fun i hi => z2.block i (OR41.out.lt i hi).2 fun e => by have := Option.some.inj e; have := ONE.out.1 i hi; have := DL.out; omega)
                      have OO42 := Lib.hid (OO41.out.move fun i hi => z2.block i (OO41.out.lt i hi).2 fun e => by have := Option.some.inj e; have := ONE.out.2 i hi; have := DL.out; omega)
                      have OK31 := OK41
                      clear z1 z2 HM41 DG41 YG41 OR41 OO41 ONE DL
                      have d11 := DG42.out.1.cell (i := 11) rfl
                      go_upto_region 41 with fail
                      clear d11
                      have c16 : c ≤ 16 := by
                        rcases MA.out with ⟨-, -, S0, -, -, tk⟩ | ⟨-, -, rfl, -⟩
                        · exact (Gr.taken16 tk hz.out).1
                        · omega
                      have CS : Hid (∀ w', Out.Wr Gm w42 w' → (w'.cell? ⟨g32, 11, none⟩ = some (.bool false) ∧ w'.cell? ⟨g32, 12, none⟩ = some (.int .i64 code) ∧ w'.cell? ⟨g32, 13, none⟩ = some (.slice Av nv cv) ∧ w'.cell? ⟨gx, 0, none⟩ = some (.int .i64 x.op) ∧ w'.cell? ⟨gx, 1, none⟩ = some (.string x.key) ∧ w'.cell? ⟨gx, 2, none⟩ = some (.int .i64 x.t) ∧ w'.cell? ⟨gx, 3, none⟩ = some (.int .i64 x.v) ∧ w'.cell? ⟨gx, 4, none⟩ = some (.int .i64 x.e) ∧ w'.cell? ⟨gx, 5, none⟩ = some (.int .i64 x.u) ∧ w'.cell? ⟨gx, 6, none⟩ = some (.int .i64 x.s)) ∧ Out.Wr Gm w42 w') := Lib.hid fun w' hB => ⟨⟨(hB.lies (DG42.out.2 0) DG42.out.1).cell (i := 11) rfl, (hB.lies (DG42.out.2 0) DG42.out.1).cell (i := 12) rfl, (hB.lies (DG42.out.2 0) DG42.out.1).cell (i := 13) rfl, (hB.lies (YG42.out.2 0) YG42.out.1).cell (i := 0) rfl, (hB.lies (YG42.out.2 0) YG42.out.1).cell (i := 1) rfl, (hB.lies (YG42.out.2 0) YG42.out.1).cell (i := 2) rfl, (hB.lies (YG42.out.2 0) YG42.out.1).cell (i := 3) rfl, (hB.lies (YG42.out.2 0) YG42.out.1).cell (i := 4) rfl, (hB.lies (YG42.out.2 0) YG42.out.1).cell (i := 5) rfl, (hB.lies (YG42.out.2 0) YG42.out.1).cell (i := 6) rfl⟩, hB⟩
                      have CB : Hid (∀ w', (w'.cell? ⟨g32, 11, none⟩ = some (.bool false) ∧ w'.cell? ⟨g32, 12, none⟩ = some (.int .i64 code) ∧ w'.cell? ⟨g32, 13, none⟩ = some (.slice Av nv cv) ∧ w'.cell? ⟨gx, 0, none⟩ = some (.int .i64 x.op) ∧ w'.cell? ⟨gx, 1, none⟩ = some (.string x.key) ∧ w'.cell? ⟨gx, 2, none⟩ = some (.int .i64 x.t) ∧ w'.cell? ⟨gx, 3, none⟩ = some (.int .i64 x.v) ∧ w'.cell? ⟨gx, 4, none⟩ = some (.int .i64 x.e) ∧ w'.cell? ⟨gx, 5, none⟩ = some (.int .i64 x.u) ∧ w'.cell? ⟨gx, 6, none⟩ = some (.int .i64 x.s)) ∧ Out.Wr Gm w42 w' → Out.Wr Gm w42 w') := Lib.hid fun w' h => h.2
                      have hD : Below w42.heap.size w42 w42.drew := (Below.refl _ _).drew
                      have HMd := Lib.hid (HM42.out.next hD)
                      have ORd := Lib.hid (OR42.out.next hD)
                      have DGd := Lib.hid (DG42.out.next hD)
                      have OOd := Lib.hid (OO42.out.next hD)
                      clear hD
                      go_region_held3 (fun w' => (w'.cell? ⟨g32, 11, none⟩ = some (.bool false) ∧ w'.cell? ⟨g32, 12, none⟩ = some (.int .i64 code) ∧ w'.cell? ⟨g32, 13, none⟩ = some (.slice Av nv cv) ∧ w'.cell? ⟨gx, 0, none⟩ = some (.int .i64 x.op) ∧ w'.cell? ⟨gx, 1, none⟩ = some (.string x.key) ∧ w'.cell? ⟨gx, 2, none⟩ = some (.int .i64 x.t) ∧ w'.cell? ⟨gx, 3, none⟩ = some (.int .i64 x.v) ∧ w'.cell? ⟨gx, 4, none⟩ = some (.int .i64 x.e) ∧ w'.cell? ⟨gx, 5, none⟩ = some (.int .i64 x.u) ∧ w'.cell? ⟨gx, 6, none⟩ = some (.int .i64 x.s)) ∧ Out.Wr Gm w42 w')
                        (first | exact CS.out _ Out.Wr.drew | exact CS.out _ (Out.Wr.trans Out.Wr.drew (Out.Wr.of_moves v44)) | exact CS.out _ (Out.Wr.trans (CB.out _ (by assumption)) (Out.Wr.of_below k45)))
                        (first
                          | (go_at_call 25; refine (Md.do_ok x z _ (Lib.hid HMd.out.mod) (by omega) M CF fx hxk MW TZ).mono ?_; rintro r w44 ⟨rv2, code2, P2, c2', SM', mark2, L2, cl2, Gm', rfl, hd, hP2, h44, v44, o44⟩; obtain ⟨rfl, rfl, rfl, rfl, rfl, T', hS1, hrest, inv'⟩ := IV.out.asked (x := x) (zz := z) (k := gk cf x.key) rfl MA.out hd HMC.out HKD.out OK31.out (by omega) h44.over HMd.out.mod.over; obtain ⟨A9, n9, c9, rfl⟩ := Md.lit o44; have R44 := Lib.hid (ORd.out.move fun g hg => v44.block g (ORd.out.lt g hg).2 fun q => OFR.out g (.inl hg) q); have O44 := Lib.hid o44; have HP2 := Lib.hid hP2; clear o44 hP2)
                          | (go_at_call 18; refine (Ca.same_ok code code _ _ P P _ (Lib.hid (Out.Rd.own R44.out)) (Lib.hid (Out.Rd.own O44.out)) HP.out HP2.out).mono ?_; rintro r w45 ⟨rfl, k45⟩; rw [show decide (code = code ∧ P = P) = true by simp]))
                      have WD := CB.out _ (by assumption)
                      clear CS CB WD
                      have c16' : c2' ≤ 16 := hd.c16 hz.out
                      have hm44 := HMd.out.model h44 v44 (Nat.le_add_right _ _)
                      rw [part_upd hS1 hrest] at hm44
                      have HL : Hid (out.length + O.length ≤ 1048576) := Lib.hid (by have h1 := inv'.len; have h2 := hm44.few; rw [List.length_append] at h1; omega)
                      have HM45 := Lib.hid ((hm44.more (show 32 * i + c + c2' ≤ 32 * (i + 1) by omega)).next k45)
                      have IV' := Lib.hid inv'
                      have DG45 := Lib.hid ((DGd.out.model v44).next k45)
                      have OO45 := Lib.hid ((OOd.out.move fun g hg => v44.block g (OOd.out.lt g hg).2 fun q => OFR.out g (.inr hg) q).next k45)
                      clear hd h44 v44 hm44 hS1 hrest inv' HMd ORd R44 O44 HP2 DGd OOd HM42 DG42 OR42 OO42 YG42 c16' k45
                      have d14 := DG45.out.1.cell (i := 14) rfl
                      obtain ⟨bO, -, iO⟩ := OO45.out.is
                      have IO := Lib.hid iO
                      have SB : Hid (w.heap.size ≤ w45.heap.size) := Lib.hid HM45.out.fam.below.size
                      clear iO
                      go_wp2_with (at_builtin; refine wpList_plain rfl fun K' hK' => Sl.wp_append Pn.ok (.tmp 240) (.tmp 242) rfl (base := w.heap.size) (l := out) (l2 := O) (b2 := bO) HM45.out.out IO.out HL.out SB.out (fun u w99 z1 z2 z3 => hK' _ _ ?_))
                      obtain ⟨bu, -, iu⟩ := z1.is
                      obtain ⟨Au, cu, rfl⟩ := iu.len
                      have HM99 := Lib.hid (HM45.out.put z1 z2 z3)
                      exact ⟨⟨i + 1, T', SM', _, _, out ++ O, qa, qb, _, _, _, _, _, Au, cu, by have := HLT.out; omega, by go_num, rfl, rfl, HM99, IV', PR, MW⟩, by have := HLT.out; simp [intOf]; omega⟩
                  · have HAD := Lib.hid had
                    clear had
                    as_aux_lemma =>
                      have GR31 := HM30.out.grp (k := gk cf x.key) (ad := ad) (by rw [← HM30.out.subA _ (by rw [HAD.out]; simp)]; exact HAD.out)
                      go_wp2_with fail
                      refine (step_has 0 x 0 none mark false w30 (Lib.hid HM30.out.a) (by decide) CF fx HKD HMC WGX (a := ad) (Lib.hid (by rw [GX.out]; exact HAD.out)) rfl z (Lib.hid GR31) (Lib.hid fun b hb q => HM30.out.apA b hb ⟨gk cf x.key, by rw [HAD.out]; simp, q⟩) hNi M BC MW hxk TZ).mono ?_
                      rintro r w31 ⟨rv, ov, code, P, O, c, S1, n1, F31, Fg31, rfl, ma31, hn31, hP31, hi31, G31, ha31, hv31, or31, oo31⟩
                      obtain ⟨hm31, V31⟩ := HM30.out.askA HAD.out hi31 G31 ha31 hv31
                      obtain ⟨Av, nv, cv, rfl⟩ := Md.lit or31
                      obtain ⟨Bv, mvv, ev, rfl⟩ := Md.lit oo31
                      have HM31 := Lib.hid hm31
                      have OK31 := Lib.hid G31.ok
                      have MA := Lib.hid ma31
                      have HP := Lib.hid hP31
                      have OR31 := Lib.hid or31
                      have OO31 := Lib.hid oo31
                      have OFR : Hid (∀ g, ((Value.slice Av nv cv).ownBlock = some g ∨ (Value.slice Bv mvv ev).ownBlock = some g) → ¬ Gm g) := Lib.hid fun g hg q => by
                        have h0 := HM30.out.fam.in_ 0 g q
                        rcases hg with h | h
                        · have := (or31.lt g h).1; omega
                        · have := (oo31.lt g h).1; omega
                      have YG31 := Lib.hid (YG30.out.allA V31)
                      clear hm31 V31 ma31 hn31 hP31 hi31 G31 ha31 hv31 or31 oo31 GR31 HM30 YG30

                      go_upto_region 37 with (first
                        | (refine wpList_plain rfl fun K' hK' => wp_store_did (cs' := dcl ⟨1, 0, x, 0, none⟩ false code (.slice Av nv cv) (.slice Bv mvv ev) none) _ _ rfl rfl rfl (Lies.new _ _ zd) rfl rfl (one_did _ _ _ _ _ _ _ _ _ _ _ _ _ _) (fun w32 z1 z2 => hK' _ _ ?_))
                        | fail)
                      have k32 := Ms.below_over (below1 w31 _) z2 (Nat.le_refl _)
                      have DG32 := Lib.hid (OG.new (TT := 49) w31 HM31.out.fam z1)
                      have HM32 := Lib.hid (HM31.out.next k32)
                      have YG32 := Lib.hid (YG31.out.next k32)
                      have OR32 := Lib.hid (OR31.out.next k32)
                      have OO32 := Lib.hid (OO31.out.next k32)
                      clear z1 z2 k32 HM31 YG31 OR31 OO31
                      generalize w31.heap.size = g32 at DG32 ⊢
                      have d11 := DG32.out.1.cell (i := 11) rfl
                      go_upto_region 41 with fail
                      clear d11
                      have c16 : c ≤ 16 := by
                        rcases MA.out with ⟨-, -, S0, -, -, tk⟩ | ⟨-, -, rfl, -⟩
                        · exact (Gr.taken16 tk hz.out).1
                        · omega
                      have CS : Hid (∀ w', Out.Wr Gm w32 w' → (w'.cell? ⟨g32, 11, none⟩ = some (.bool false) ∧ w'.cell? ⟨g32, 12, none⟩ = some (.int .i64 code) ∧ w'.cell? ⟨g32, 13, none⟩ = some (.slice Av nv cv) ∧ w'.cell? ⟨gx, 0, none⟩ = some (.int .i64 x.op) ∧ w'.cell? ⟨gx, 1, none⟩ = some (.string x.key) ∧ w'.cell? ⟨gx, 2, none⟩ = some (.int .i64 x.t) ∧ w'.cell? ⟨gx, 3, none⟩ = some (.int .i64 x.v) ∧ w'.cell? ⟨gx, 4, none⟩ = some (.int .i64 x.e) ∧ w'.cell? ⟨gx, 5, none⟩ = some (.int .i64 x.u) ∧ w'.cell? ⟨gx, 6, none⟩ = some (.int .i64 x.s)) ∧ Out.Wr Gm w32 w') := Lib.hid fun w' hB => ⟨⟨(hB.lies (DG32.out.2 0) DG32.out.1).cell (i := 11) rfl, (hB.lies (DG32.out.2 0) DG32.out.1).cell (i := 12) rfl, (hB.lies (DG32.out.2 0) DG32.out.1).cell (i := 13) rfl, (hB.lies (YG32.out.2 0) YG32.out.1).cell (i := 0) rfl, (hB.lies (YG32.out.2 0) YG32.out.1).cell (i := 1) rfl, (hB.lies (YG32.out.2 0) YG32.out.1).cell (i := 2) rfl, (hB.lies (YG32.out.2 0) YG32.out.1).cell (i := 3) rfl, (hB.lies (YG32.out.2 0) YG32.out.1).cell (i := 4) rfl, (hB.lies (YG32.out.2 0) YG32.out.1).cell (i := 5) rfl, (hB.lies (YG32.out.2 0) YG32.out.1).cell (i := 6) rfl⟩, hB⟩
                      have CB : Hid (∀ w', (w'.cell? ⟨g32, 11, none⟩ = some (.bool false) ∧ w'.cell? ⟨g32, 12, none⟩ = some (.int .i64 code) ∧ w'.cell? ⟨g32, 13, none⟩ = some (.slice Av nv cv) ∧ w'.cell? ⟨gx, 0, none⟩ = some (.int .i64 x.op) ∧ w'.cell? ⟨gx, 1, none⟩ = some (.string x.key) ∧ w'.cell? ⟨gx, 2, none⟩ = some (.int .i64 x.t) ∧ w'.cell? ⟨gx, 3, none⟩ = some (.int .i64 x.v) ∧ w'.cell? ⟨gx, 4, none⟩ = some (.int .i64 x.e) ∧ w'.cell? ⟨gx, 5, none⟩ = some (.int .i64 x.u) ∧ w'.cell? ⟨gx, 6, none⟩ = some (.int .i64 x.s)) ∧ Out.Wr Gm w32 w' → Out.Wr Gm w32 w') := Lib.hid fun w' h => h.2
                      have hD : Below w32.heap.size w32 w32.drew := (Below.refl _ _).drew
                      have HMd := Lib.hid (HM32.out.next hD)
                      have ORd := Lib.hid (OR32.out.next hD)
                      have DGd := Lib.hid (DG32.out.next hD)
                      have OOd := Lib.hid (OO32.out.next hD)
                      clear hD
                      go_region_held3 (fun w' => (w'.cell? ⟨g32, 11, none⟩ = some (.bool false) ∧ w'.cell? ⟨g32, 12, none⟩ = some (.int .i64 code) ∧ w'.cell? ⟨g32, 13, none⟩ = some (.slice Av nv cv) ∧ w'.cell? ⟨gx, 0, none⟩ = some (.int .i64 x.op) ∧ w'.cell? ⟨gx, 1, none⟩ = some (.string x.key) ∧ w'.cell? ⟨gx, 2, none⟩ = some (.int .i64 x.t) ∧ w'.cell? ⟨gx, 3, none⟩ = some (.int .i64 x.v) ∧ w'.cell? ⟨gx, 4, none⟩ = some (.int .i64 x.e) ∧ w'.cell? ⟨gx, 5, none⟩ = some (.int .i64 x.u) ∧ w'.cell? ⟨gx, 6, none⟩ = some (.int .i64 x.s)) ∧ Out.Wr Gm w32 w')
                        (first | exact CS.out _ Out.Wr.drew | exact CS.out _ (Out.Wr.trans Out.Wr.drew (Out.Wr.of_moves v44)) | exact CS.out _ (Out.Wr.trans (CB.out _ (by assumption)) (Out.Wr.of_below k45)))
                        (first
                          | (go_at_call 25; refine (Md.do_ok x z _ (Lib.hid HMd.out.mod) (by omega) M CF fx hxk MW TZ).mono ?_; rintro r w44 ⟨rv2, code2, P2, c2', SM', mark2, L2, cl2, Gm', rfl, hd, hP2, h44, v44, o44⟩; obtain ⟨rfl, rfl, rfl, rfl, rfl, T', hS1, hrest, inv'⟩ := IV.out.asked (x := x) (zz := z) (k := gk cf x.key) rfl MA.out hd HMC.out HKD.out OK31.out (by omega) h44.over HMd.out.mod.over; obtain ⟨A9, n9, c9, rfl⟩ := Md.lit o44; have R44 := Lib.hid (ORd.out.move fun g hg => v44.block g (ORd.out.lt g hg).2 fun q => OFR.out g (.inl hg) q); have O44 := Lib.hid o44; have HP2 := Lib.hid hP2; clear o44 hP2)
                          | (go_at_call 18; refine (Ca.same_ok code code _ _ P P _ (Lib.hid (Out.Rd.own R44.out)) (Lib.hid (Out.Rd.own O44.out)) HP.out HP2.out).mono ?_; rintro r w45 ⟨rfl, k45⟩; rw [show decide (code = code ∧ P = P) = true by simp]))
                      have WD := CB.out _ (by assumption)
                      clear CS CB WD
                      have c16' : c2' ≤ 16 := hd.c16 hz.out
                      have hm44 := HMd.out.model h44 v44 (Nat.le_add_right _ _)
                      rw [part_upd hS1 hrest] at hm44
                      have HL : Hid (out.length + O.length ≤ 1048576) := Lib.hid (by have h1 := inv'.len; have h2 := hm44.few; rw [List.length_append] at h1; omega)
                      have HM45 := Lib.hid ((hm44.more (show 32 * i + c + c2' ≤ 32 * (i + 1) by omega)).next k45)
                      have IV' := Lib.hid inv'
                      have DG45 := Lib.hid ((DGd.out.model v44).next k45)
                      have OO45 := Lib.hid ((OOd.out.move fun g hg => v44.block g (OOd.out.lt g hg).2 fun q => OFR.out g (.inr hg) q).next k45)
                      clear hd h44 v44 hm44 hS1 hrest inv' HMd ORd R44 O44 HP2 DGd OOd HM32 DG32 OR32 OO32 YG32 c16' k45
                      have d14 := DG45.out.1.cell (i := 14) rfl
                      obtain ⟨bO, -, iO⟩ := OO45.out.is
                      have IO := Lib.hid iO
                      have SB : Hid (w.heap.size ≤ w45.heap.size) := Lib.hid HM45.out.fam.below.size
                      clear iO
                      go_wp2_with (at_builtin; refine wpList_plain rfl fun K' hK' => Sl.wp_append Pn.ok (.tmp 240) (.tmp 242) rfl (base := w.heap.size) (l := out) (l2 := O) (b2 := bO) HM45.out.out IO.out HL.out SB.out (fun u w99 z1 z2 z3 => hK' _ _ ?_))
                      obtain ⟨bu, -, iu⟩ := z1.is
                      obtain ⟨Au, cu, rfl⟩ := iu.len
                      have HM99 := Lib.hid (HM45.out.put z1 z2 z3)
                      exact ⟨⟨i + 1, T', SM', _, _, out ++ O, qa, qb, _, _, _, _, _, Au, cu, by have := HLT.out; omega, by go_num, rfl, rfl, HM99, IV', PR, MW⟩, by have := HLT.out; simp [intOf]; omega⟩
        · as_aux_lemma =>
            obtain rfl : n = i := by omega
            have i1 : ¬ ((n : Int) < (n : Int)) := by omega
            have HM19 := HM
            clear HM hlt hi
            go_upto_region 44 with fail
            generalize wr = w19 at HM19 ⊢
            clear i1
            have hNi : 32 * n ≤ 8880 := by omega
            go_wp2_with fail

            refine (Sh.box_ok w19 (Lib.hid HM19.out.a)).mono ?_
            rintro r _ ⟨rfl, m20, bx20, bv20, rfl, q20, e20⟩
            have Q20 := Lib.hid q20
            have E20 := Lib.hid e20
            clear q20 e20
            go_wp2_with (first
              | (refine wpList_plain rfl fun K' hK' => wp_bm1 rfl (hK' _ _ ?_))
              | fail)
            refine (Ms.put_ok bx20 cf.c bv20 [] ⟨2, 0, c00, 0, none⟩ w19 (Lib.hid Q20.out.box) (by have := r16.out; simp; omega) (by have := r16.out; omega)).mono ?_
            rintro r w20 ⟨bw20, rfl, b20, v20⟩
            obtain ⟨h20, mv20⟩ := Q20.out.put b20 v20
            rw [← E20.out] at mv20
            have HM20 := Lib.hid (HM19.out.onA h20 mv20 HM19.out.subA)
            clear b20 v20 h20 mv20 Q20 E20 HM19 
            go_wp2_with fail

            refine (Sh.box_ok w20 (Lib.hid HM20.out.b)).mono ?_
            rintro r _ ⟨rfl, m21, bx21, bv21, rfl, q21, e21⟩
            have Q21 := Lib.hid q21
            have E21 := Lib.hid e21
            clear q21 e21
            go_wp2_with (first
              | (refine wpList_plain rfl fun K' hK' => wp_bm1 rfl (hK' _ _ ?_))
              | fail)
            refine (Ms.put_ok bx21 cf.c bv21 [] ⟨2, 0, c00, 0, none⟩ w20 (Lib.hid Q21.out.box) (by have := r16.out; simp; omega) (by have := r16.out; omega)).mono ?_
            rintro r w21 ⟨bw21, rfl, b21, v21⟩
            obtain ⟨h21, mv21⟩ := Q21.out.put b21 v21
            rw [← E21.out] at mv21
            have HM21 := Lib.hid (HM20.out.onB h21 mv21 HM20.out.subB)
            clear b21 v21 h21 mv21 Q21 E21 HM20 
            have NB := Lib.hid (fun g (hg : w21.heap.size ≤ g) q => Nat.not_lt.2 hg (HM21.out.fam.in_ 2 g q))
            have NU := Lib.hid (fun g (hg : w21.heap.size ≤ g) y (hy : qb y ≠ none) (q : FG y g) => Nat.not_lt.2 hg (HM21.out.fam.in_ 3 g ⟨y, by rw [← HM21.out.subB y hy]; exact hy, q⟩))
            go_wp2_with fail
            refine (step_mark 0 c00 0 none mark false w21 (Lib.hid HM21.out.a) (by decide) (Lib.hid (HM21.out.pool.sub HM21.out.subA)) (Lib.hid HM21.out.apA) hNi fz MW).mono ?_
            rintro r w22 ⟨ov22, ks, O1, S22, n22, F22, FF22, rfl, hks, hmk, hO, hi22, hp22, ha22, hv22, o22⟩
            obtain ⟨T1, FG1, nn1, hm22, iv22, t22, u22, V22, e22⟩ := HM21.out.markA' IV.out hks hmk hi22 hp22 ha22 hv22
            have HM22 := Lib.hid hm22
            have IV22 := Lib.hid iv22
            have TT22 := Lib.hid (And.intro t22 u22)
            have EE22 := Lib.hid e22
            obtain ⟨A22, m22, c22, rfl⟩ := Md.lit o22
            have OO22 := Lib.hid o22
            have NO22 : Hid (∀ g, (Value.slice A22 m22 c22).ownBlock = some g → w21.heap.size ≤ g) := Lib.hid fun g hg => (o22.lt g hg).1
            clear hks hmk hO hi22 hp22 ha22 hv22 hm22 iv22 t22 u22 V22 e22 o22 HM21 IV

            go_upto_region 47 with (first
              | (refine wpList_plain rfl fun K' hK' => wp_store_did (cs' := dcl ⟨2, 0, c00, 0, none⟩ false 0 (.slice none 0 0) (.slice A22 m22 c22) none) _ _ rfl rfl rfl (Lies.new _ _ zd) rfl rfl (one_did _ _ _ _ _ _ _ _ _ _ _ _ _ _) (fun w23 z1 z2 => hK' _ _ ?_))
              | fail)
            have k23 := Ms.below_over (below1 w22 _) z2 (Nat.le_refl _)
            have DG23 := Lib.hid (OG.new (TT := 49) w22 HM22.out.fam z1)
            have HM23 := Lib.hid (HM22.out.next k23)
            have OO23 := Lib.hid (OO22.out.next k23)
            clear z1 z2 k23 HM22  OO22
            generalize w22.heap.size = g23 at DG23 ⊢
            go_wp2_with fail
            refine (step_mark 0 c00 0 none mark false w23 (Lib.hid HM23.out.b) (by decide) (Lib.hid (HM23.out.pool.sub HM23.out.subB)) (Lib.hid HM23.out.apB) hNi fz MW).mono ?_
            rintro r w24 ⟨ov24, ks, O2, S24, n24, F24, FF24, rfl, hks, hmk, hO, hi24, hp24, ha24, hv24, o24⟩
            have OO24 := Lib.hid (OO23.out.move fun g hg => hv24.block g (OO23.out.lt g hg).2 fun q => by
              rcases q with q | ⟨y, hy, q⟩
              · exact NB.out g (NO22.out g hg) q
              · have hq : qa y = none := by
                  rcases PR.out y with h | h
                  · exact absurd h.2 hy
                  · exact h.1
                rw [EE22.out y hq] at q
                exact NU.out g (NO22.out g hg) y hy q)
            obtain ⟨T2, FG2, nn2, hm24, iv24, t24, u24, V24⟩ := HM23.out.markB' IV22.out hks hmk hi24 hp24 ha24 hv24
            have HM24 := Lib.hid hm24
            have DG24 := Lib.hid (DG23.out.allB V24)
            obtain ⟨A24, m24, c24, rfl⟩ := Md.lit o24
            have NV : Hid (∀ g, (Value.slice A2 out.length c2).ownBlock = some g → g < w23.heap.size) := Lib.hid fun g h => HM23.out.fam.in_ 5 g h
            have NQ : Hid (∀ g, (Value.slice A24 m24 c24).ownBlock = some g → w23.heap.size ≤ g) := Lib.hid fun g h => (o24.lt g h).1
            have QQ24 := Lib.hid o24
            have OV : Hid ((∀ x, ofK x ((out ++ O1) ++ O2) = ofK x L) ∧ ((out ++ O1) ++ O2).length = L.length) := Lib.hid (iv24.over (fun x => by
              have gi : 0 ≤ gk cf x ∧ gk cf x < cf.r := by have := Fnv.grp_in (Fnv.num x.data.toList) cf.r; exact ⟨this.1, this.2 r16.out.1⟩
              have he := (EV.out (gk cf x)).2 gi
              rcases PR.out (gk cf x) with h | h
              · rw [u24 x h.2]; exact TT22.out.1 x (by rw [h.1]; exact he)
              · exact t24 x (by rw [h.2]; exact he)) hm24.mod.over)
            clear hks hmk hO hi24 hp24 ha24 hv24 hm24 iv24 t24 u24 V24 o24 HM23 IV22 TT22 EE22 NB NU NO22 OO23 DG23 PR EV

            go_upto_region 48 with (first
              | (refine wpList_plain rfl fun K' hK' => wp_store_did (cs' := dcl ⟨2, 0, c00, 0, none⟩ false 0 (.slice none 0 0) (.slice A24 m24 c24) none) _ _ rfl rfl rfl (Lies.new _ _ zd) rfl rfl (one_did _ _ _ _ _ _ _ _ _ _ _ _ _ _) (fun w25 z1 z2 => hK' _ _ ?_))
              | fail)
            have k25 := Ms.below_over (below1 w24 _) z2 (Nat.le_refl _)
            have DH25 := Lib.hid (OG.new (TT := 49) w24 HM24.out.fam z1)
            have HM25 := Lib.hid (HM24.out.next k25)
            have DG25 := Lib.hid (DG24.out.next k25)
            have OO25 := Lib.hid (OO24.out.next k25)
            have QQ25 := Lib.hid (QQ24.out.next k25)
            clear z1 z2 k25 HM24 DG24 OO24 QQ24
            generalize w24.heap.size = g25 at DH25 ⊢
            have hD : Below w25.heap.size w25 w25.drew := (Below.refl _ _).drew
            have HL1 : Hid (out.length + O1.length ≤ 1048576) := Lib.hid (by have h1 := OV.out.2; have h2 := HM25.out.few; rw [List.length_append, List.length_append] at h1; omega)
            have HL2 : Hid ((out ++ O1).length + O2.length ≤ 1048576) := Lib.hid (by have h1 := OV.out.2; have h2 := HM25.out.few; rw [List.length_append] at h1; omega)
            have LW : Hid (((out ++ O1) ++ O2).length ≤ 1600) := Lib.hid (by have h1 := OV.out.2; have h2 := HM25.out.few; omega)
            have HMd := Lib.hid (HM25.out.next hD)
            have DGd := Lib.hid (DG25.out.next hD)
            have DHd := Lib.hid (DH25.out.next hD)
            have OOd := Lib.hid (OO25.out.next hD)
            have QQd := Lib.hid (QQ25.out.next hD)
            have SB : Hid (w.heap.size ≤ w25.drew.heap.size) := Lib.hid HMd.out.fam.below.size
            obtain ⟨bO, -, iO⟩ := OOd.out.is
            have IO := Lib.hid iO
            clear iO hD HM25 DG25 DH25 OO25 QQ25
            go_upto_region 48 with fail
            go_region_held3 (fun w' => w'.cell? ⟨g23, 14, none⟩ = some (.slice A22 m22 c22) ∧ w'.cell? ⟨g25, 14, none⟩ = some (.slice A24 m24 c24))
              (first | exact ⟨DGd.out.1.cell (i := 14) rfl, DHd.out.1.cell (i := 14) rfl⟩ | exact ⟨DG27.out.cell (i := 14) rfl, DH27.out.cell (i := 14) rfl⟩ | exact ⟨DG26.out.cell (i := 14) rfl, DH26.out.cell (i := 14) rfl⟩)
              (first
                | (refine step_append_pn rfl (.tmp 264) (.tmp 266) rfl (.slice A2 out.length c2) (.slice A22 m22 c22) (by simp [Act.eval]) (by simp [Act.eval]) (base := w.heap.size) (l := out) (l2 := O1) (b2 := bO) HMd.out.out IO.out HL1.out SB.out (fun A26 m26 c26 w26 z0 z1 z2 z3 => ?_); have DG26 := Lib.hid (lies_app DGd.out.1 z2 (DGd.out.2 5)); have DH26 := Lib.hid (lies_app DHd.out.1 z2 (DHd.out.2 5)); have DN26 := Lib.hid (And.intro (ne_app z3 (DGd.out.2 5) DGd.out.1.lt) (ne_app z3 (DHd.out.2 5) DHd.out.1.lt)); have QQ26 := Lib.hid (QQd.out.move fun g hg => z2.block g (QQd.out.lt g hg).2 fun e => by have := NV.out g e.symm; have := NQ.out g hg; omega); have HM26 := Lib.hid (HMd.out.put z1 z2 z3); clear z0 z1 z2 z3)
                | (obtain ⟨bQ, -, iQ⟩ := QQ26.out.is; refine step_append_pn rfl (.tmp 267) (.tmp 269) rfl (.slice A26 m26 c26) (.slice A24 m24 c24) (by simp [Act.eval]) (by simp [Act.eval]) (base := w.heap.size) (l := out ++ O1) (l2 := O2) (b2 := bQ) HM26.out.out iQ HL2.out HM26.out.fam.below.size (fun A27 m27 c27 w27 M27 z1 z2 z3 => ?_); have DG27 := Lib.hid (lies_app DG26.out z2 DN26.out.1); have DH27 := Lib.hid (lies_app DH26.out z2 DN26.out.2); have HM27 := Lib.hid (HM26.out.put z1 z2 z3); clear z1 z2 z3 iQ))
            clear DG26 DH26 DN26 QQ26 HM26 DG27 DH27 HMd DGd DHd OOd QQd IO HL1 HL2 NV NQ
            obtain ⟨b27, -, i27⟩ := HM27.out.out.is
            have I27 := Lib.hid i27
            clear i27
            have e1 : ofK key ((out ++ O1) ++ O2) = ofK key L := OV.out.1 key
            have EK := Lib.hid e1
            have HLEN : Hid (L.length ≤ 1600) := Lib.hid (by have := OV.out.2; have := LW.out; omega)
            clear e1
            go_wp2_with fail
            refine (Out.rof_ok _ ((out ++ O1) ++ O2) b27 key w27 I27 (by have := LW.out; omega)).mono ?_
            rintro r w28 ⟨v28, rfl, o28, k28⟩
            have HM28 := Lib.hid (HM27.out.next k28)
            have O28 := Lib.hid o28
            clear o28 k28 HM27 I27
            go_wp2_with fail
            refine (Md.out_ok w28 (Lib.hid HM28.out.mod) hNi).mono ?_
            rintro r w29 ⟨v29, rfl, o29, k29⟩
            have HM29 := Lib.hid (HM28.out.next k29)
            have O29 := Lib.hid (O28.out.next k29)
            obtain ⟨b29, -, i29⟩ := o29.is
            have I29 := Lib.hid i29
            clear o29 k29 HM28 O28 i29
            go_wp2_with fail
            refine (Out.rof_ok _ L b29 key w29 I29 (by have := HLEN.out; omega)).mono ?_
            rintro r w30 ⟨v30, rfl, o30, k30⟩
            have HM30 := Lib.hid (HM29.out.next k30)
            obtain ⟨b30, -, i30⟩ := o30.is
            have O30 := O29.out.next k30
            rw [show Out.ofKey key ((out ++ O1) ++ O2) = Out.ofKey key L from EK.out] at O30
            obtain ⟨b31, -, i31⟩ := O30.is
            have I30 := Lib.hid i30
            have I31 := Lib.hid i31
            have LK : Hid ((Out.ofKey key L).length ≤ 9000) := Lib.hid (by have h1 : (Out.ofKey key L).length ≤ L.length := List.length_filter_le _ _; have := HLEN.out; omega)
            clear o30 k30 i30 i31 O30 O29 I29 HM29
            go_wp2_with fail
            refine (Pane.same_yes _ _ (Out.ofKey key L) b31 b30 w30 I31 I30 LK.out).mono ?_
            rintro r w31 ⟨rfl, k31⟩
            have HM31 := Lib.hid (HM30.out.next k31)
            clear k31 HM30 I30 I31 LK
            go_wp2_with fail
            refine (Md.out_ok w31 (Lib.hid HM31.out.mod) hNi).mono ?_
            rintro r w32 ⟨v32, rfl, o32, k32⟩
            have K32 := Lib.hid (after HM31.out.fam.below k32)
            obtain ⟨A32, n32, c32, rfl⟩ := Md.lit o32
            obtain rfl : n32 = m27 := by rw [Md.lit_len o32, M27.out, OV.out.2]
            clear o32 k32 HM31
            have qn : ((n32 : Int) == (n32 : Int)) = true := by simp
            go_wp2
            go_ret
            exact ⟨rfl, K32.out⟩
end shardModel
end Go.Proofs.YtdnigpkdnkbfbaaGreat
