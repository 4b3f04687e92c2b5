/-
  A client in memory: its calls, its replies, how far the call that is next has come; all that its steps reach: mailboxes, the table, the control, a handoff, each of blocks of its own.
-/
import Derived.Test.YtjncogjafljbiaaFam
import Derived.Test.YtjncogjafljbiaaShMsgs
import Derived.Test.YtjncogjafljbiaaCtl
import Derived.Test.YtjncogjafljbiaaOwn
import Derived.Test.YtjncogjafljbiaaHands
import Derived.Test.YtjncogjafljbiaaOutLogs
namespace Go.Proofs.Ytjncogjafljbiaa
open Go.ChangeShapes Go.WideShapes Go.ChangeAt Go.RowKit
set_option linter.unusedVariables false
set_option maxRecDepth 100000
namespace Cn
open Small Foot Fm Ca
abbrev gp (g : Nat) : Value := .pointer (some ⟨g, 0, none⟩)
abbrev stv (s : Option Nat) : Value := .pointer (s.map fun g => ⟨g, 0, none⟩)
/-- a reply: its code, its list, what that reads as -/
structure Rp where
  code : Int
  a : Option Addr
  n : Nat
  c : Nat
  P : List Pn
instance : Inhabited Rp := ⟨⟨0, none, 0, 0, []⟩⟩
abbrev Rp.pv (x : Rp) : Value := .slice x.a x.n x.c
abbrev Rp.cl (x : Rp) : List Value := [.int .i64 x.code, .slice x.a x.n x.c]
abbrev Rp.v (x : Rp) : Value := .agg #[.int .i64 x.code, .slice x.a x.n x.c]
abbrev r0 : Rp := ⟨0, none, 0, 0, []⟩
abbrev Rk : Kind Rp := ⟨57, 43, 2, 32, .agg #[.int .i64 0, .slice none 0 0], Rp.cl⟩
theorem rok : Rk.Ok where
  under := Try.underlying57
  elem := by kernel_rfl
  info := by kernel_rfl
  zs := rfl
  pos := by decide
  len := fun _ => rfl
  one := by
    intro x u hu
    simp only [Rp.cl, List.mem_cons, List.not_mem_nil, or_false] at hu
    rcases hu with rfl | rfl <;> rfl
  small := by decide
abbrev Ck : Kind Cl := ⟨38, 25, 7, 64, .agg #[.int .i64 0, .string ⟨#[]⟩, .int .i64 0, .int .i64 0, .int .i64 0, .int .i64 0, .int .i64 0], Cl.cl⟩
theorem cok : Ck.Ok where
  under := Try.underlying38
  elem := by kernel_rfl
  info := by kernel_rfl
  zs := rfl
  pos := by decide
  len := fun _ => rfl
  one := by
    intro x u hu
    simp only [Cl.cl, List.mem_cons, List.not_mem_nil, or_false] at hu
    rcases hu with rfl | rfl | rfl | rfl | rfl | rfl | rfl <;> rfl
  small := by decide
abbrev Pk : Kind Nat := ⟨30, 48, 1, 8, .pointer none, fun x => [gp x]⟩
theorem pok : Pk.Ok where
  under := Try.underlying30
  elem := by kernel_rfl
  info := by kernel_rfl
  zs := rfl
  pos := by decide
  len := fun _ => rfl
  one := by
    intro x u hu
    simp at hu
    subst hu
    rfl
  small := by decide
/-- how far a call has come -/
structure Pg where
  b : Bool
  ask : Int
  r : Rp
  held : Option Nat
  put : Int
  due : Int
  hand : Option Nat
abbrev g0 : Pg := ⟨false, 0, r0, none, 0, 0, none⟩
abbrev ccl (num : Int) (cv rv : Value) (g : Pg) : List Value := [.int .i64 num, cv, rv, .bool g.b, .int .i64 g.ask, .int .i64 g.r.code, .slice g.r.a g.r.n g.r.c, stv g.held, .int .i64 g.put, .int .i64 g.due, stv g.hand]
/-- a client at x -/
structure Q (w : World) (x : Nat) (num : Int) (cv : Value) (cs : List Cl) (rv : Value) (rs : List Rp) (g : Pg) : Prop where
  lies : Lies w x 86 (ccl num cv rv g)
  calls : Sl.Own Ck 0 w cv cs
  reps : Sl.Own Rk 0 w rv rs
  n1 : cv.ownBlock ≠ some x
  n2 : rv.ownBlock ≠ some x
  n3 : ∀ a, cv.ownBlock = some a → rv.ownBlock ≠ some a
def CF (x : Nat) (cv rv : Value) : Nat → Prop := fun i => i = x ∨ cv.ownBlock = some i ∨ rv.ownBlock = some i
section
variable {w w' : World} {x : Nat} {num : Int} {cv rv : Value} {cs : List Cl} {rs : List Rp} {g g' : Pg}
theorem Q.keep (h : Q w x num cv cs rv rs g) (k : ∀ i, CF x cv rv i → w'.heap[i]? = w.heap[i]?) : Q w' x num cv cs rv rs g :=
  ⟨(k x (.inl rfl)).trans h.lies, h.calls.move fun a ha => k a (.inr (.inl ha)), h.reps.move fun a ha => k a (.inr (.inr ha)), h.n1, h.n2, h.n3⟩
theorem Q.in (h : Q w x num cv cs rv rs g) : In w (CF x cv rv) := fun i hi => by
  rcases hi with rfl | hi | hi
  · exact h.lies.lt
  · exact (h.calls.lt i hi).2
  · exact (h.reps.lt i hi).2
theorem Q.next (h : Q w x num cv cs rv rs g) (k : Below w.heap.size w w') : Q w' x num cv cs rv rs g := h.keep fun i hi => k.block i (h.in i hi)
theorem Q.lits (h : Q w x num cv cs rv rs g) : ∃ A c B d, cv = .slice A cs.length c ∧ rv = .slice B rs.length d := by
  obtain ⟨_, _, h1⟩ := h.calls.is
  obtain ⟨_, _, h2⟩ := h.reps.is
  obtain ⟨A, c, e⟩ := h1.len
  obtain ⟨B, d, e2⟩ := h2.len
  exact ⟨A, c, B, d, e, e2⟩
/-- a cell of the client's own block is written -/
theorem Q.put (h : Q w x num cv cs rv rs g) (j : Nat) (v : Value) (e : (ccl num cv rv g).set j v = ccl num cv rv g') : Q (w.setCell ⟨x, j, none⟩ v) x num cv cs rv rs g' ∧ Moves (CF x cv rv) (CF x cv rv) w (w.setCell ⟨x, j, none⟩ v) := by
  have nx : ∀ i, i ≠ x → (w.setCell ⟨x, j, none⟩ v).heap[i]? = w.heap[i]? := fun i hi => Below.heap_setCell w ⟨x, j, none⟩ v i (by exact hi)
  refine ⟨⟨by rw [← e]; exact h.lies.put j v, h.calls.move fun a ha => nx a fun q => h.n1 (q ▸ ha), h.reps.move fun a ha => nx a fun q => h.n2 (q ▸ ha), h.n1, h.n2, h.n3⟩, rfl, rfl, rfl, by simp, fun i hi hn => nx i fun q => hn (.inl q), fun i hi => ⟨.inl hi, by simpa using h.in i hi⟩⟩
/-- another list of replies -/
theorem Q.rep {w1 : World} {rv' : Value} {rs' : List Rp} (h : Q w x num cv cs rv rs g) (k : w.grownBy w1 rv.ownBlock) (o : Sl.Own Rk 0 w1 rv' rs') (e : rv'.ownBlock = rv.ownBlock ∨ rv'.ownBlock = some w.heap.size) :
    Q (w1.setCell ⟨x, 2, none⟩ rv') x num cv cs rv' rs' g ∧ Moves (CF x cv rv) (CF x cv rv') w (w1.setCell ⟨x, 2, none⟩ rv') := by
  have nx : ∀ i, i ≠ x → (w1.setCell ⟨x, 2, none⟩ rv').heap[i]? = w1.heap[i]? := fun i hi => Below.heap_setCell w1 ⟨x, 2, none⟩ rv' i (by exact hi)
  have l1 : Lies w1 x 86 (ccl num cv rv g) := (k.block x h.lies.lt fun e => h.n2 e.symm).trans h.lies
  have n2 : rv'.ownBlock ≠ some x := fun q => by
    rcases e with e | e
    · exact h.n2 (e ▸ q)
    · have := h.lies.lt; rw [e] at q; have := Option.some.inj q; omega
  have n3 : ∀ a, cv.ownBlock = some a → rv'.ownBlock ≠ some a := fun a ha q => by
    rcases e with e | e
    · exact h.n3 a ha (e ▸ q)
    · have := (h.calls.lt a ha).2; rw [e] at q; have := Option.some.inj q; omega
  refine ⟨⟨l1.put 2 rv', (h.calls.move fun a ha => k.block a (h.calls.lt a ha).2 fun q => h.n3 a ha q.symm).move fun a ha => nx a fun q => h.n1 (q ▸ ha), o.move fun a ha => nx a fun q => n2 (q ▸ ha), h.n1, n2, n3⟩, k.os, k.tape, k.output, Nat.le_trans k.size (by simp), fun i hi hn => ?_, fun i hi => ?_⟩
  · rw [nx i fun q => hn (.inl q)]
    exact k.block i hi fun q => hn (.inr (.inr q.symm))
  · have s := k.size
    rcases hi with rfl | hi | hi
    · exact ⟨.inl (.inl rfl), by have := h.lies.lt; simp; omega⟩
    · exact ⟨.inl (.inr (.inl hi)), by have := (h.calls.lt i hi).2; simp; omega⟩
    · refine ⟨?_, by have := (o.lt i hi).2; simpa using this⟩
      rcases e with e | e
      · exact .inl (.inr (.inr (e ▸ hi)))
      · rw [e] at hi; exact .inr (by have := Option.some.inj hi; omega)
end
/-- a list of panes that lies beside all parts -/
def VB (w0 : World) (R : Nat → Nat → Prop) (w : World) (v : Value) (X : List Pn) : Prop := Sl.Own Pn.k w0.heap.size w v X ∧ ∀ a, v.ownBlock = some a → ∀ i, ¬ R i a
section
variable {T : Nat → Prop} {w0 w w' : World} {R R' : Nat → Nat → Prop} {v : Value} {X : List Pn}
theorem VB.on (h : VB w0 R w v X) (k : On T R w R' w') : VB w0 R' w' v X :=
  ⟨h.1.move fun a ha => (k.free a (h.1.lt a ha).2 (h.2 a ha)).1, fun a ha => (k.free a (h.1.lt a ha).2 (h.2 a ha)).2⟩
theorem VB.nil : VB w0 R w (.slice none 0 0) [] := ⟨Sl.Own.nil _ _ _, fun a h => by cases h⟩
theorem VB.new (f : Fam w0 w R) (k : Below w.heap.size w w') (h : Sl.Own Pn.k w.heap.size w' v X) : VB w0 R w' v X :=
  ⟨⟨h.1, by
    rcases h.2 with q | ⟨g, cap, cur, h1, h2, q⟩
    · exact .inl q
    · exact .inr ⟨g, cap, cur, h1, Nat.le_trans f.below.size h2, q⟩⟩, fun a ha i q => by have := (h.lt a ha).1; have := f.in_ i a q; omega⟩
theorem VB.is (h : VB w0 R w v X) : ∃ b, Sl.Is Pn.k w v X b := by
  obtain ⟨b, _, q⟩ := h.1.is
  exact ⟨b, q⟩
end
/-- what stays as it is from step to step -/
structure Ev where
  cf : Cf
  gc : Nat
  b : Nat
  ba : Option Addr
  bn : Nat
  bc : Nat
  bs : List Nat
  x : Nat
  num : Int
  cs : List Cl
abbrev Ev.cl (E : Ev) : List Value := [.int .i64 E.cf.k, .int .i64 E.cf.s, .int .i64 E.cf.l, .int .i64 E.cf.g, .int .i64 E.cf.z, .int .i64 E.cf.h, .int .i64 E.cf.r, .int .i64 E.cf.c, gp E.gc, gp (E.b + 1), .slice E.ba E.bn E.bc]
abbrev Ev.v (E : Ev) : Value := .agg #[.int .i64 E.cf.k, .int .i64 E.cf.s, .int .i64 E.cf.l, .int .i64 E.cf.g, .int .i64 E.cf.z, .int .i64 E.cf.h, .int .i64 E.cf.r, .int .i64 E.cf.c, gp E.gc, gp (E.b + 1), .slice E.ba E.bn E.bc]
/-- .. and what may change: owners; watermark, holder, held, shut; messages by mailbox, whether it is closed; replies; how far the call is; the handoff -/
structure St where
  M : List Ow.O
  wm : Int
  hk : Int
  hd : Bool
  sd : Bool
  L : Nat → List Ms.M
  sb : Nat → Bool
  rs : List Rp
  g : Pg
  hg : Int
  ht : Int
  hkd : Int
  hs : Bool
  hst : Option Nat
/-- the parts that a client's steps change -/
def TT : Nat → Prop := fun j => j < 8 ∨ (16 ≤ j ∧ j ≤ 19)
/-- R: the mailboxes' blocks (0 ..), the table's (16), the control's (17), the client's (18), the handoff's (19), the list of mailboxes' (21) -/
structure CM (w0 : World) (E : Ev) (s : St) (R : Nat → Nat → Prop) (w : World) : Prop where
  fam : Fam w0 w R
  few : E.bs.length ≤ 8
  box : ∀ (i g : Nat), E.bs[i]? = some g → ∃ v, Ms.Box w g E.cf.c (s.sb i) v (s.L i) ∧ R i = Bx.Fp g v
  table : Ow.Is w E.b E.cf.h s.M
  r16 : R 16 = Ow.Fp E.b
  ctl : Ct.Is w E.gc s.wm s.hk s.hd s.sd
  r17 : R 17 = Ct.Fp E.gc
  client : ∃ cv rv, Q w E.x E.num cv E.cs rv s.rs s.g ∧ R 18 = CF E.x cv rv
  reps : ∀ r ∈ s.rs, VB w0 R w r.pv r.P
  now : VB w0 R w s.g.r.pv s.g.r.P
  hand : ∀ h, s.g.hand = some h → Hd.Is w h E.b s.hg s.ht s.hkd s.hs s.hst ∧ R 19 = Hd.At h
  list : Sl.Own Pk w0.heap.size w (.slice E.ba E.bn E.bc) E.bs
  r21 : R 21 = fun j => (Value.slice E.ba E.bn E.bc).ownBlock = some j
section
variable {w0 w w' : World} {E : Ev} {s s' : St} {R R' : Nat → Nat → Prop} {F' G' : Nat → Prop} {i g : Nat}
theorem CM.kbox (h : CM w0 E s R w) (k : Kp R R' w w' i) : ∀ g, E.bs[i]? = some g → ∃ v, Ms.Box w' g E.cf.c (s.sb i) v (s.L i) ∧ R' i = Bx.Fp g v := fun g e => by
  obtain ⟨v, b, r⟩ := h.box i g e
  have kk : ∀ j, Bx.Fp g v j → w'.heap[j]? = w.heap[j]? := fun j hj => k.2 j (by rw [r]; exact hj)
  exact ⟨v, ⟨(kk g (.inl rfl)).trans b.lies, b.own.move fun a ha => kk a (.inr ha)⟩, k.1.trans r⟩
theorem CM.ktable (h : CM w0 E s R w) (k : Kp R R' w w' 16) : Ow.Is w' E.b E.cf.h s.M ∧ R' 16 = Ow.Fp E.b :=
  ⟨⟨(k.2 _ (by rw [h.r16]; exact .inr rfl)).trans h.table.lies, (k.2 _ (by rw [h.r16]; exact .inl rfl)).trans h.table.rows⟩, k.1.trans h.r16⟩
theorem CM.kctl (h : CM w0 E s R w) (k : Kp R R' w w' 17) : Ct.Is w' E.gc s.wm s.hk s.hd s.sd ∧ R' 17 = Ct.Fp E.gc :=
  ⟨(k.2 _ (by rw [h.r17])).trans h.ctl, k.1.trans h.r17⟩
theorem CM.kclient (h : CM w0 E s R w) (k : Kp R R' w w' 18) : ∃ cv rv, Q w' E.x E.num cv E.cs rv s.rs s.g ∧ R' 18 = CF E.x cv rv := by
  obtain ⟨cv, rv, q, r⟩ := h.client
  exact ⟨cv, rv, q.keep fun j hj => k.2 j (by rw [r]; exact hj), k.1.trans r⟩
theorem CM.khand (h : CM w0 E s R w) (k : Kp R R' w w' 19) : ∀ hh, s.g.hand = some hh → Hd.Is w' hh E.b s.hg s.ht s.hkd s.hs s.hst ∧ R' 19 = Hd.At hh := fun hh e => by
  obtain ⟨l, r⟩ := h.hand hh e
  exact ⟨(k.2 hh (by rw [r])).trans l, k.1.trans r⟩
theorem CM.klist (h : CM w0 E s R w) (k : Kp R R' w w' 21) : Sl.Own Pk w0.heap.size w' (.slice E.ba E.bn E.bc) E.bs ∧ R' 21 = fun j => (Value.slice E.ba E.bn E.bc).ownBlock = some j :=
  ⟨h.list.move fun a ha => k.2 a (by rw [h.r21]; exact ha), k.1.trans h.r21⟩
theorem CM.kreps (h : CM w0 E s R w) (k : On TT R w R' w') : (∀ r ∈ s.rs, VB w0 R' w' r.pv r.P) ∧ VB w0 R' w' s.g.r.pv s.g.r.P := ⟨fun r hr => (h.reps r hr).on k, h.now.on k⟩
theorem CM.next (h : CM w0 E s R w) (k : Below w.heap.size w w') : CM w0 E s R w' := by
  have o : On TT R w R w' := On.below h.fam k
  have K : ∀ i, Kp R R w w' i := fun i => ⟨rfl, fun b hb => k.block b (h.fam.in_ i b hb)⟩
  exact ⟨h.fam.next k, h.few, fun i => h.kbox (K i), (h.ktable (K 16)).1, h.r16, (h.kctl (K 17)).1, h.r17, h.kclient (K 18), (h.kreps o).1, (h.kreps o).2, h.khand (K 19), (h.klist (K 21)).1, h.r21⟩
theorem one_kp (h : Fam w0 w R) (k : Moves (R i) F' w w') : ∀ j, j ≠ i → Kp R (rset R i F') w w' j := fun j hj => ⟨rset_ne _ _ hj, h.kept k hj⟩
theorem two_kp {j : Nat} (h : Fam w0 w R) (k : Moves (Or2 (R i) (R j)) (Or2 F' G') w w') : ∀ l, l ≠ i → l ≠ j → Kp R (rset (rset R i F') j G') w w' l := fun l h1 h2 => ⟨by rw [rset_ne _ _ h2, rset_ne _ _ h1], h.kept2 k h1 h2⟩
/-- the client alone: what may be said of its replies comes with it -/
theorem CM.on18 {cv rv : Value} {rs' : List Rp} {g' : Pg} (h : CM w0 E s R w) (q : Q w' E.x E.num cv E.cs rv rs' g') (k : Moves (R 18) (CF E.x cv rv) w w') (hr : ∀ r ∈ rs', r ∈ s.rs ∨ VB w0 R w r.pv r.P) (hn : g'.r = s.g.r ∨ VB w0 R w g'.r.pv g'.r.P) (hh : g'.hand = none ∨ g'.hand = s.g.hand) :
    ∃ R', CM w0 E { s with rs := rs', g := g' } R' w' ∧ On TT R w R' w' := by
  have o : On TT R w (rset R 18 (CF E.x cv rv)) w' := On.one h.fam k (.inr (by decide))
  have K := one_kp h.fam k
  refine ⟨_, ⟨h.fam.one k, h.few, fun i g e => h.kbox (K i (by have := (List.getElem?_eq_some_iff.1 e).1; have := h.few; omega)) g e, (h.ktable (K 16 (by decide))).1, (h.ktable (K 16 (by decide))).2, (h.kctl (K 17 (by decide))).1, (h.kctl (K 17 (by decide))).2, ⟨cv, rv, q, rset_same _ _ _⟩, fun r hm => ?_, ?_, fun hh' e => ?_, (h.klist (K 21 (by decide))).1, (h.klist (K 21 (by decide))).2⟩, o⟩
  · rcases hr r hm with q | q
    · exact (h.reps r q).on o
    · exact q.on o
  · rcases hn with q | q
    · show VB w0 _ w' g'.r.pv g'.r.P
      rw [q]; exact h.now.on o
    · exact q.on o
  · rcases hh with q | q
    · rw [show ({ s with rs := rs', g := g' } : St).g.hand = g'.hand from rfl, q] at e; cases e
    · exact h.khand (K 19 (by decide)) hh' (by rw [← q]; exact e)
/-- the control alone -/
theorem CM.on17 {wm hk : Int} {hd sd : Bool} (h : CM w0 E s R w) (q : Ct.Is w' E.gc wm hk hd sd) (k : Moves (Ct.Fp E.gc) (Ct.Fp E.gc) w w') : ∃ R', CM w0 E { s with wm := wm, hk := hk, hd := hd, sd := sd } R' w' ∧ On TT R w R' w' := by
  rw [← h.r17] at k
  have o : On TT R w (rset R 17 (R 17)) w' := On.one h.fam k (.inr (by decide))
  have K := one_kp h.fam k
  exact ⟨_, ⟨h.fam.one k, h.few, fun i g e => h.kbox (K i (by have := (List.getElem?_eq_some_iff.1 e).1; have := h.few; omega)) g e, (h.ktable (K 16 (by decide))).1, (h.ktable (K 16 (by decide))).2, q, by rw [rset_same]; exact h.r17, h.kclient (K 18 (by decide)), (h.kreps o).1, (h.kreps o).2, h.khand (K 19 (by decide)), (h.klist (K 21 (by decide))).1, (h.klist (K 21 (by decide))).2⟩, o⟩
/-- the table alone -/
theorem CM.on16 {M' : List Ow.O} (h : CM w0 E s R w) (q : Ow.Is w' E.b E.cf.h M') (k : Moves (Ow.Fp E.b) (Ow.Fp E.b) w w') : ∃ R', CM w0 E { s with M := M' } R' w' ∧ On TT R w R' w' := by
  rw [← h.r16] at k
  have o : On TT R w (rset R 16 (R 16)) w' := On.one h.fam k (.inr (by decide))
  have K := one_kp h.fam k
  exact ⟨_, ⟨h.fam.one k, h.few, fun i g e => h.kbox (K i (by have := (List.getElem?_eq_some_iff.1 e).1; have := h.few; omega)) g e, q, by rw [rset_same]; exact h.r16, (h.kctl (K 17 (by decide))).1, (h.kctl (K 17 (by decide))).2, h.kclient (K 18 (by decide)), (h.kreps o).1, (h.kreps o).2, h.khand (K 19 (by decide)), (h.klist (K 21 (by decide))).1, (h.klist (K 21 (by decide))).2⟩, o⟩
/-- a mailbox alone -/
theorem CM.onBox {v v' : Value} {L' : List Ms.M} {c' : Bool} (h : CM w0 E s R w) (e : E.bs[i]? = some g) (r : R i = Bx.Fp g v) (q : Ms.Box w' g E.cf.c c' v' L') (k : Moves (Bx.Fp g v) (Bx.Fp g v') w w') :
    ∃ R', CM w0 E { s with L := fun j => if j = i then L' else s.L j, sb := fun j => if j = i then c' else s.sb j } R' w' ∧ On TT R w R' w' ∧ R' = rset R i (Bx.Fp g v') := by
  have hi : i < 8 := by have := (List.getElem?_eq_some_iff.1 e).1; have := h.few; omega
  rw [← r] at k
  have o : On TT R w (rset R i (Bx.Fp g v')) w' := On.one h.fam k (.inl hi)
  have K := one_kp h.fam k
  refine ⟨_, ⟨h.fam.one k, h.few, fun j g' e' => ?_, (h.ktable (K 16 (by omega))).1, (h.ktable (K 16 (by omega))).2, (h.kctl (K 17 (by omega))).1, (h.kctl (K 17 (by omega))).2, h.kclient (K 18 (by omega)), (h.kreps o).1, (h.kreps o).2, h.khand (K 19 (by omega)), (h.klist (K 21 (by omega))).1, (h.klist (K 21 (by omega))).2⟩, o, rfl⟩
  by_cases hj : j = i
  · subst hj
    rw [e] at e'
    cases e'
    simp only [if_true]
    exact ⟨v', q, rset_same _ _ _⟩
  · simp only [hj, if_false]
    exact h.kbox (K j hj) g' e'
end
end Cn
end Go.Proofs.Ytjncogjafljbiaa
