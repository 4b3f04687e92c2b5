/-
  GroupPlays: both groups side by side, as they lie between two calls: what keeps each where the other goes on.
-/
import Derived.Test.YtbdocnkpjlpfmaaGreatRgMath
import Derived.Test.YtbdocnkpjlpfmaaGreatGrpDeeds
import Derived.Test.YtbdocnkpjlpfmaaGreatGrpLen
import Derived.Test.YtbdocnkpjlpfmaaGreatGrpPanes
import Derived.Test.YtbdocnkpjlpfmaaGreatUp08
import Derived.Test.YtbdocnkpjlpfmaaGreatWhen
namespace Go.Proofs.YtbdocnkpjlpfmaaGreat.groupPlays
open Go.ChangeShapes Go.WideShapes Go.ChangeAt Go.RowKit Small Foot Pane Grp Rg Rel RelA RelJ
set_option linter.unusedVariables false

/-- the group at g, the document's at gr, a deed at gx; w0: the world ahead of all of them -/
structure BX (w0 wr : World) (g m tg gr gx : Nat) (cf : C8) (x : Deed) (N : Nat) (S : Lists) (n cnt : Nat) (fm : ByteArray → Option Value) (FT Bk : Nat → Prop) (lv : Value) (R : List Pn) (b : Nat) : Prop where
  q : Gq wr g m tg cf S (duesOf S) n cnt fm FT Bk
  ok : Ok cf.k S N
  n : n ≤ N
  cnt : cnt ≤ N
  from_ : From w0.heap.size (Fp g m FT)
  bk : ∀ k, Bk k → k < wr.heap.size
  below : Below w0.heap.size w0 wr
  rg : Rg.Rg wr gr cf lv R b
  low : w0.heap.size ≤ gr
  gf : ¬ Fp g m FT gr ∧ ¬ Bk gr
  bf : b < wr.heap.size ∧ ¬ Fp g m FT b
  xl : Lies wr gx 38 (dl x)
  xf : ¬ Fp g m FT gx
  xr : gx ≠ gr
section
variable {w0 wr w' : World} {g m tg gr gx N n cnt n' cnt' c b b' : Nat} {cf : C8} {x y : Deed} {S S' : Lists} {fm f' : ByteArray → Option Value} {FT Bk FT' Bk' : Nat → Prop} {lv lv' sv : Value} {R R' O : List Pn}
theorem BX.next (h : BX w0 wr g m tg gr gx cf x N S n cnt fm FT Bk lv R b) (k : Below wr.heap.size wr w') : BX w0 w' g m tg gr gx cf x N S n cnt fm FT Bk lv R b :=
  ⟨h.q.next k, h.ok, h.n, h.cnt, h.from_, fun i hi => Nat.lt_of_lt_of_le (h.bk i hi) k.size, h.below.trans (k.mono h.below.size), h.rg.next k, h.low, h.gf, ⟨Nat.lt_of_lt_of_le h.bf.1 k.size, h.bf.2⟩, h.xl.next k, h.xf, h.xr⟩
/-- the group went on -/
theorem BX.mine (h : BX w0 wr g m tg gr gx cf x N S n cnt fm FT Bk lv R b) (t : TE wr g m tg cf n cnt N FT Bk sv O c S' n' cnt' f' FT' Bk' w') : BX w0 w' g m tg gr gx cf x (N + c) S' n' cnt' f' FT' Bk' lv R b := by
  have hB := h.below.size
  have hfr := t.v.from h.from_ hB
  have hgr := h.rg.lies.lt
  have keep : ∀ k, k < wr.heap.size → ¬ Fp g m FT k → ¬ Fp g m FT' k := fun k hk hn q => by
    rcases (t.v.new k q).1 with r | r
    · exact hn r
    · omega
  have hs := t.v.size
  refine ⟨t.q, t.ok, by have := t.n; have := h.n; omega, by have := t.cnt; have := h.cnt; omega, hfr, fun k hk => (t.bk k hk).2, h.below.trans (t.v.below h.from_ hB), ⟨t.v.lies h.gf.1 h.rg.lies, h.rg.list.keep (t.v.block b h.bf.1 h.bf.2) t.v.size, h.rg.ne⟩, h.low, ⟨keep gr hgr h.gf.1, fun q => ?_⟩, ⟨by have := h.bf.1; omega, keep b h.bf.1 h.bf.2⟩, t.v.lies h.xf h.xl, keep gx h.xl.lt h.xf, h.xr⟩
  rcases (t.bk gr q).1 with r | r
  · exact h.gf.2 r
  · omega
/-- the document's went on -/
theorem BX.theirs (h : BX w0 wr g m tg gr gx cf x N S n cnt fm FT Bk lv R b) (k : wr.grownBy w' (some gr)) (r : Rg.Rg w' gr cf lv' R' b') (fr : b' = b ∨ wr.heap.size ≤ b') : ∃ b2, BX w0 w' g m tg gr gx cf x N S n cnt fm FT Bk lv' R' b2 := by
  have hgr := h.rg.lies.lt
  have hs := k.size
  have base : ∀ b2, Rg.Rg w' gr cf lv' R' b2 → b2 < w'.heap.size ∧ ¬ Fp g m FT b2 → BX w0 w' g m tg gr gx cf x N S n cnt fm FT Bk lv' R' b2 := fun b2 r2 hb2 =>
    ⟨h.q.grown k (fun a e => by cases e; exact h.gf), h.ok, h.n, h.cnt, h.from_, fun i hi => Nat.lt_of_lt_of_le (h.bk i hi) hs, h.below.grown k h.below.size (fun a e => by cases e; exact h.low), r2, h.low, h.gf, hb2,
      (k.block gx h.xl.lt fun e => h.xr (Option.some.inj e)).trans h.xl, h.xf, h.xr⟩
  rcases r.list with ⟨e1, e2⟩ | ⟨off, cap, e1, e2, e3, e4, e5⟩
  · subst e1 e2
    exact ⟨gr, base gr ⟨r.lies, Sl.Is.nil _ _ _, fun q => absurd rfl q⟩ ⟨by omega, h.gf.1⟩⟩
  · refine ⟨b', base b' r ⟨e4, fun q => ?_⟩⟩
    rcases fr with e | e
    · exact h.bf.2 (e ▸ q)
    · have := h.q.in _ q
      omega
/-- all timers lie within 64 bits: so do the document's panes -/
theorem ends {w : World} (h : Rep S R) (H : Gq w g m tg cf S (duesOf S) n cnt fm FT Bk) (F : Fine S) : ∀ p ∈ R, (Lit.int .i64 p.e).wf = true := fun p hp => by
  obtain ⟨m', r, hf, hr, t, v, p', q, hh, hm⟩ := H.ts
  have hd : duesOf S (tmOf p) := ⟨p, h.mem.1 hp, rfl, rfl⟩
  obtain ⟨k, hk, e⟩ := (hm _).1 hd
  have := (q.fits k hk).2.2
  rw [e] at this
  exact this
theorem keyfit {w : World} (H : Gq w g m tg cf S (duesOf S) n cnt fm FT Bk) {x : ByteArray} {p : Pn} (F : Fine S) (hp : p ∈ S x) : x.size ≤ maxLen := by
  obtain ⟨m', r, hf, hr, t, v, p', q, hh, hm⟩ := H.ts
  have hk := F.key x p hp
  have hd : duesOf S (tmOf p) := ⟨p, by rw [show (tmOf p).key = x from hk]; exact hp, rfl, rfl⟩
  obtain ⟨k, hk', e⟩ := (hm _).1 hd
  have := (q.fits k hk').1
  rw [e] at this
  rw [← hk]
  exact this
/-- a told list that the document's call leaves -/
theorem told_m {B : Nat} (o : Sl.Own Pn.k B wr sv O) (hB : gr < B) (k : wr.grownBy w' (some gr)) : Sl.Own Pn.k B w' sv O :=
  o.move fun a ha => k.block a (o.lt a ha).2 fun e => by have := (o.lt a ha).1; have := Option.some.inj e; omega
end

/-- in the midst of the statement that settles both -/
def GM (w0 : World) (B g m tg gr gx : Nat) (cf : C8) (x : Deed) (N : Nat) (S : Lists) (R : List Pn) (mark : Int) (d3 d7 : Bool) (u3 u7 : Value) (w : World) : Prop :=
  ∃ S' n cnt f FT Bk lv R' b, BX w0 w g m tg gr gx cf x N S' n cnt f FT Bk lv R' b ∧ B ≤ w.heap.size ∧ (d3 = false → S' = S) ∧ (d3 = true → ∃ O, Outs cf.z mark S O S' ∧ NoneOver cf.z mark S' ∧ Sl.Own Pn.k B w u3 O) ∧
    (d7 = false → R' = R) ∧ (d7 = true → ∃ O, O.length ≤ R.length ∧ ROuts cf.z mark R O R' ∧ (∀ q, q ∈ R' → ¬ q.e + cf.z ≤ mark) ∧ Sl.Own Pn.k B w u7 O ∧ ∀ a, u7.ownBlock = some a → ¬ Fp g m FT a)
section
variable {w0 w w' : World} {B g m tg gr gx N : Nat} {cf : C8} {x : Deed} {S : Lists} {R : List Pn} {mark : Int} {d3 d7 : Bool} {u3 u7 v : Value}
theorem GM.next (h : GM w0 B g m tg gr gx cf x N S R mark d3 d7 u3 u7 w) (k : Below w.heap.size w w') : GM w0 B g m tg gr gx cf x N S R mark d3 d7 u3 u7 w' := by
  obtain ⟨S', n, cnt, f, FT, Bk, lv, R', b, hb, hs, h1, h2, h3, h4⟩ := h
  refine ⟨S', n, cnt, f, FT, Bk, lv, R', b, hb.next k, Nat.le_trans hs k.size, h1, fun e => ?_, h3, fun e => ?_⟩
  · obtain ⟨O, a1, a2, a3⟩ := h2 e
    exact ⟨O, a1, a2, a3.next k⟩
  · obtain ⟨O, a0, a1, a2, a3, a4⟩ := h4 e
    exact ⟨O, a0, a1, a2, a3.next k, a4⟩
theorem GM.settle (h : GM w0 B g m tg gr gx cf x N S R mark false d7 u3 u7 w) (hN : N ≤ 880) (fz : Hid ((Lit.int .i64 cf.z).wf = true)) (fk : Hid ((Lit.int .i64 mark).wf = true)) :
    Calls Tryz.prog 8 #[gp g, .int .i64 mark] w fun r w' => ∃ v, r = .returned v ∧ GM w0 B g m tg gr gx cf x N S R mark true d7 v u7 w' := by
  obtain ⟨S', n, cnt, f, FT, Bk, lv, R', b, hb, hs, h1, -, h3, h4⟩ := h
  obtain rfl := h1 rfl
  refine (Grp.settle_ok mark w (Lib.hid hb.q) (Lib.hid (hb.ok.fine (by omega))) (Lib.hid hb.bk) (by have := hb.cnt; omega) fz fk).mono ?_
  rintro r w1 ⟨sv, O, S1, n1, cnt1, f1, FT1, Bk1, rfl, Q1, NO⟩
  have te := Q1.te hb.ok
  have hv := te.v.size
  refine ⟨_, rfl, S1, n1, cnt1, f1, FT1, Bk1, lv, R', b, hb.mine te, by omega, (fun e => by cases e), fun _ => ⟨O, Q1.outs, NO, Rg.own_any te.out hs⟩, h3, fun e => ?_⟩
  obtain ⟨O', a0, a1, a2, a3, a4⟩ := h4 e
  refine ⟨O', a0, a1, a2, a3.move fun a ha => te.v.block a (a3.lt a ha).2 (a4 a ha), fun a ha q => ?_⟩
  rcases (te.v.new a q).1 with r | r
  · exact a4 a ha r
  · have := (a3.lt a ha).2
    omega
theorem GM.rsettle (h : GM w0 B g m tg gr gx cf x N S R mark d3 false u3 u7 w) (hR : R.length ≤ 880) (hB : gr < B) (fe : Hid (∀ p ∈ R, (Lit.int .i64 p.e).wf = true)) (fz : Hid ((Lit.int .i64 cf.z).wf = true)) (fk : Hid ((Lit.int .i64 mark).wf = true)) :
    Calls Tryz.prog 9 #[gp gr, .int .i64 mark] w fun r w' => ∃ v, r = .returned v ∧ GM w0 B g m tg gr gx cf x N S R mark d3 true u3 v w' := by
  obtain ⟨S', n, cnt, f, FT, Bk, lv, R', b, hb, hs, h1, h2, h3, -⟩ := h
  obtain rfl := h3 rfl
  refine (Rg.settle_ok gr cf lv R' b mark w (Lib.hid hb.rg) (by omega) fz fk fe).mono ?_
  rintro r w1 ⟨sv, O, R1, lv1, b1, rfl, ho, hno, out1, rg1, gr1, hlen, fr1⟩
  obtain ⟨b2, hb2⟩ := hb.theirs gr1 rg1 fr1
  have hgs := gr1.size
  refine ⟨_, rfl, S', n, cnt, f, FT, Bk, lv1, R1, b2, hb2, by omega, h1, fun e => ?_, (fun e => by cases e), fun _ => ⟨O, by omega, ho, hno, Rg.own_any out1 hs, fun a ha q => ?_⟩⟩
  · obtain ⟨O', a1, a2, a3⟩ := h2 e
    exact ⟨O', a1, a2, told_m a3 hB gr1⟩
  · have := hb.q.in _ q
    have := (out1.lt a ha).1
    omega
/-- both have settled, and told one list -/
theorem GM.both (h : GM w0 B g m tg gr gx cf x N S R mark true true u3 u7 w) (rp : Rep S R) (F : Fine S) : ∃ S' n cnt f FT Bk lv R' b O, BX w0 w g m tg gr gx cf x N S' n cnt f FT Bk lv R' b ∧ Rep S' R' ∧ O.length ≤ R.length ∧ Sl.Own Pn.k B w u3 O ∧ Sl.Own Pn.k B w u7 O := by
  obtain ⟨S', n, cnt, f, FT, Bk, lv, R', b, hb, hs, -, h2, -, h4⟩ := h
  obtain ⟨O, a1, a2, a3⟩ := h2 rfl
  obtain ⟨O', c0, c1, c2, c3, c4⟩ := h4 rfl
  obtain ⟨rfl, rp'⟩ := settled rp F a1 c1 a2 c2
  exact ⟨S', n, cnt, f, FT, Bk, lv, R', b, O, hb, rp', c0, a3, c3⟩
end
section
variable {w0 w : World} {g m tg gr gx N n cnt b : Nat} {cf : C8} {x : Deed} {S : Lists} {fm : ByteArray → Option Value} {FT Bk : Nat → Prop} {lv : Value} {R : List Pn}
theorem gpanes (h : BX w0 w g m tg gr gx cf x N S n cnt fm FT Bk lv R b) (hN : N ≤ 880) (key : ByteArray) (hk : key.size ≤ maxLen) :
    Calls Tryz.prog 16 #[gp g, .string key] w fun r w' => ∃ v, r = .returned v ∧ Sl.Own Pn.k w.heap.size w' v (S key) ∧ Below w.heap.size w w' :=
  Grp.panes_ok key w (Lib.hid h.q) ((h.ok.fine (by omega)).few key) hk
theorem rpanes (h : BX w0 w g m tg gr gx cf x N S n cnt fm FT Bk lv R b) (rp : Hid (Rep S R)) (hN : N ≤ 880) (key : ByteArray) :
    Calls Tryz.prog 17 #[gp gr, .string key] w fun r w' => ∃ v, r = .returned v ∧ Sl.Own Pn.k w.heap.size w' v (S key) ∧ Below w.heap.size w w' := by
  have F := h.ok.fine (by omega)
  have hn := rp.out.count h.q F
  have := h.n
  refine (Rg.panes_ok gr cf lv R b key w (Lib.hid h.rg) (by omega) (Lib.hid (rp.out.apart F key))).mono ?_
  rintro r w1 ⟨v, P, rfl, h1, h2, h3, h4⟩
  obtain rfl := rp.out.panes F h1 h2
  exact ⟨v, rfl, h3, h4⟩
end
/-- both groups, one of the other -/
def Bo (w0 w : World) (g m tg gr gx : Nat) (cf : C8) (x : Deed) (N : Nat) : Prop := ∃ S n cnt f FT Bk lv R b, BX w0 w g m tg gr gx cf x N S n cnt f FT Bk lv R b ∧ Rep S R
/-- between two rounds: whatever box the next deed lies in -/
def Bn (w0 wr : World) (g m tg gr : Nat) (cf : C8) (N : Nat) : Prop :=
  Below w0.heap.size w0 wr ∧ ∃ S n cnt f FT Bk lv R b, Rep S R ∧ ∀ w' gx x, Below wr.heap.size wr w' → Lies w' gx 38 (dl x) → wr.heap.size ≤ gx → BX w0 w' g m tg gr gx cf x N S n cnt f FT Bk lv R b
section
variable {w0 wr w' : World} {g m tg gr gx gy N N' n cnt b : Nat} {cf : C8} {x y : Deed} {S : Lists} {fm : ByteArray → Option Value} {FT Bk : Nat → Prop} {lv : Value} {R : List Pn}
theorem BX.again (h : BX w0 wr g m tg gr gx cf x N S n cnt fm FT Bk lv R b) (hN : N ≤ N') (k : Below wr.heap.size wr w') (l : Lies w' gy 38 (dl y)) (lo : wr.heap.size ≤ gy) : BX w0 w' g m tg gr gy cf y N' S n cnt fm FT Bk lv R b := by
  have H := h.next k
  have hr := h.rg.lies.lt
  refine ⟨H.q, ⟨fun z => ?_, H.ok.key, H.ok.apart⟩, Nat.le_trans H.n hN, Nat.le_trans H.cnt hN, H.from_, H.bk, H.below, H.rg, H.low, H.gf, H.bf, l, fun q => ?_, by omega⟩
  · obtain ⟨i, c, q⟩ := H.ok.cnt z
    exact ⟨i, c, by omega⟩
  · have := h.q.in _ q
    omega
theorem BX.bn (h : BX w0 wr g m tg gr gx cf x N S n cnt fm FT Bk lv R b) (hN : N ≤ N') (rp : Rep S R) : Bn w0 wr g m tg gr cf N' :=
  ⟨h.below, S, n, cnt, fm, FT, Bk, lv, R, b, rp, fun _ _ _ k l lo => h.again hN k l lo⟩
theorem BX.bo (h : BX w0 wr g m tg gr gx cf x N S n cnt fm FT Bk lv R b) (hN : N ≤ N') (rp : Rep S R) : Bo w0 wr g m tg gr gx cf x N' :=
  ⟨S, n, cnt, fm, FT, Bk, lv, R, b, ⟨h.q, ⟨fun z => by obtain ⟨i, c, q⟩ := h.ok.cnt z; exact ⟨i, c, by omega⟩, h.ok.key, h.ok.apart⟩, Nat.le_trans h.n hN, Nat.le_trans h.cnt hN, h.from_, h.bk, h.below, h.rg, h.low, h.gf, h.bf, h.xl, h.xf, h.xr⟩, rp⟩
theorem Bo.more (h : Bo w0 wr g m tg gr gx cf x N) (hN : N ≤ N') : Bo w0 wr g m tg gr gx cf x N' := by
  obtain ⟨S, n, cnt, fm, FT, Bk, lv, R, b, h, rp⟩ := h
  exact h.bo hN rp
/-- ahead of the first one -/
theorem start {w1 w2 : World} (q : Gq w1 g m tg cf (fun _ => []) (fun _ => False) 0 0 fm FT (fun _ => False)) (fr : From w0.heap.size (Fp g m FT)) (k : Below w0.heap.size w0 w1) (l : Lies w2 gr 36 (rcl cf (.slice none 0 0))) (lo : w1.heap.size ≤ gr) (k2 : Below w1.heap.size w1 w2) : Bn w0 w2 g m tg gr cf 0 := by
  have hs := k.size
  have nf : ¬ Fp g m FT gr := fun h => by have := q.in _ h; omega
  have q2 := (q.dues dues_empty).next k2
  refine ⟨k.trans (k2.mono hs), fun _ => [], 0, 0, fm, FT, fun _ => False, .slice none 0 0, [], gr, fun x => List.Perm.refl _, fun w' gx x k3 l3 lo3 => ?_⟩
  have hr := l.lt
  exact ⟨q2.next k3, ok_empty _ _, Nat.le_refl _, Nat.le_refl _, fr, fun _ h => h.elim, (k.trans (k2.mono hs)).trans (k3.mono (Nat.le_trans hs k2.size)), ⟨l.next k3, Sl.Is.nil _ _ _, fun h => absurd rfl h⟩, by omega, ⟨nf, fun h => h⟩, ⟨Nat.lt_of_lt_of_le hr k3.size, nf⟩, l3, fun h => by have := q2.in _ h; omega, by omega⟩
/-- both take a record: one code, one list is told -/
theorem taken_both {kind v late mark code code' : Int} {key : ByteArray} {z : Option (Nat × Int × Int × Int)} {S S1 S' : Lists} {R R1 R' O O' : List Pn} {c : Nat} (rp : Rep S R) (ok : Ok kind S N) (hN : N ≤ 880) (ho : Outs late mark S O S1) (hno : NoneOver late mark S1) (htk : Taken kind key v late mark z S1 code c S')
    (ro : ROuts late mark R O' R1) (rno : ∀ q, q ∈ R1 → ¬ q.e + late ≤ mark) (rtk : RTaken kind key v late mark z R1 code' R') (hz : ∀ nn a d l, z = some (nn, a, d, l) → nn ≤ 16 ∧ 1 ≤ l) : O = O' ∧ code = code' ∧ Rep S' R' ∧ c ≤ 16 := by
  obtain ⟨rfl, rp1⟩ := settled rp (ok.fine (by omega)) ho ro hno rno
  have ok1 := ok.outs ho
  cases z with
  | none =>
    obtain ⟨rfl, rfl, rfl⟩ := htk
    obtain ⟨rfl, rfl⟩ := rtk
    exact ⟨rfl, rfl, rp1, by omega⟩
  | some y =>
    obtain ⟨nn, a, d, l⟩ := y
    obtain ⟨h1, h2⟩ := hz nn a d l rfl
    obtain ⟨tk, rfl⟩ := htk
    obtain ⟨rfl, rfl⟩ := rtk
    have hl := tk.live
    have hle := tk.le
    exact ⟨rfl, by rw [hl], rp1.taken ok1 h2 nn (by omega) tk, by omega⟩
end
/-- region n of a text -/
def rgn (n : Nat) : Code → Option Code
  | .region id ops u => if id = n then some (.region id ops u) else none
  | .block _ c => rgn n c
  | .seq a b => match rgn n a with
    | some c => some c
    | none => rgn n b
  | .loop c => rgn n c
  | .scope c => rgn n c
  | .cond _ a b => match rgn n a with
    | some c => some c
    | none => rgn n b
  | _ => none
end Go.Proofs.YtbdocnkpjlpfmaaGreat.groupPlays
