/-
  GroupOnce: what its round keeps.
-/
import Derived.Test.YtbdocnkpjlpfmaaGrpMath
import Derived.Test.YtbdocnkpjlpfmaaUp08
import Derived.Test.YtbdocnkpjlpfmaaGrpPanes
import Derived.Test.YtbdocnkpjlpfmaaGrpDeeds
import Derived.Test.YtbdocnkpjlpfmaaRefAsg
import Derived.Test.YtbdocnkpjlpfmaaLaid
import Derived.Deep.DeepCutAuto
namespace Go.Proofs.Ytbdocnkpjlpfmaa.groupOnce
open Go.ChangeShapes Go.WideShapes Go.ChangeAt Go.RowKit Small Foot Pane Grp
set_option linter.unusedVariables false

abbrev kk : ByteArray := ⟨#[107]⟩
/-- what is kept, of numbers and lists -/
structure MO (cf : C8) (i : Nat) (mark many : Int) (O : List Pn) (S : Lists) : Prop where
  ok : Ok cf.k S (16 * i)
  only : Only kk S
  cnt : sumC O + sumC (S kk) = many
  few : many ≤ 16 * i
  fine : O.Pairwise FineTwo
  mem : ∀ p ∈ O, p.key = kk ∧ 1 ≤ p.c ∧ p.e + cf.z ≤ mark
  none_ : NoneOver cf.z mark S
theorem MO.start (cf : C8) (mark : Int) : MO cf 0 mark 0 [] (fun _ => []) :=
  ⟨ok_empty _ _, fun _ _ => rfl, rfl, by omega, List.Pairwise.nil, fun p hp => (by cases hp), fun x q hq => (by cases hq)⟩
theorem MO.len {cf : C8} {i : Nat} {mark many : Int} {O : List Pn} {S : Lists} (h : MO cf i mark many O S) : (O.length : Int) + (S kk).length ≤ 16 * i := by
  obtain ⟨n, c, hn⟩ := h.ok.cnt kk
  have h1 := (sum_pos fun p hp => (h.mem p hp).2.1).1
  have h2 := (sum_pos c.pos).1
  have := h.cnt
  have := h.few
  omega
/-- a round -/
theorem MO.step {cf : C8} {i : Nat} {mark mark' many v code : Int} {O O1 : List Pn} {S S1 S' : Lists} {c : Nat} {x : Option (Nat × Int × Int × Int)} (h : MO cf i mark many O S) (hi : i < 50) (hm : mark ≤ mark') (o : Outs cf.z mark' S O1 S1) (hn : NoneOver cf.z mark' S1)
    (hx : ∀ nn a d l, x = some (nn, a, d, l) → nn ≤ 16 ∧ 1 ≤ l) (t : Taken cf.k kk v cf.z mark' x S1 code c S') : MO cf (i + 1) mark' (many + c) (O ++ O1) S' ∧ c ≤ 16 := by
  have F : Fine S := h.ok.fine (by omega)
  have ok1 := h.ok.outs o
  have on1 := o.only h.only
  have c1 := o.count (key := kk) h.only
  have hO1 : ∀ p ∈ O1, p.key = kk ∧ 1 ≤ p.c ∧ p.e + cf.z ≤ mark' := fun p hp => by
    obtain ⟨h1, h2⟩ := o.mem F p hp
    have hk : p.key = kk := by
      by_cases e : p.key = kk
      · exact e
      · rw [h.only _ e] at h1; cases h1
    obtain ⟨n, c, hn⟩ := h.ok.cnt p.key
    exact ⟨hk, c.pos p h1, h2⟩
  have fine : (O ++ O1).Pairwise FineTwo := List.pairwise_append.2 ⟨h.fine, o.fine F, fun a ha b hb _ => by
    have h1 := (h.mem a ha).2.2
    have h2 := h.none_ _ b (o.mem F b hb).1
    exact ⟨by omega, fun e => by omega⟩⟩
  have mem : ∀ p ∈ O ++ O1, p.key = kk ∧ 1 ≤ p.c ∧ p.e + cf.z ≤ mark' := fun p hp => by
    rcases List.mem_append.1 hp with hp | hp
    · obtain ⟨h1, h2, h3⟩ := h.mem p hp
      exact ⟨h1, h2, by omega⟩
    · exact hO1 p hp
  have hcnt := h.cnt
  have hfew := h.few
  cases x with
  | none =>
    obtain ⟨-, rfl, rfl⟩ := t
    exact ⟨⟨⟨fun y => by obtain ⟨n, c, q⟩ := ok1.cnt y; exact ⟨n, c, by omega⟩, ok1.key, ok1.apart⟩, on1, by rw [sumC_app]; simp only [Int.natCast_zero]; omega, by simp only [Int.natCast_zero]; omega, fine, mem, hn⟩, by omega⟩
  | some y =>
    obtain ⟨nn, a, d, l⟩ := y
    obtain ⟨n16, l1⟩ := hx _ _ _ _ rfl
    obtain ⟨tk, -⟩ := t
    have hle := tk.le
    have ok2 := tk.ok ok1 l1 (by omega)
    have c2 := tk.count ok1 l1 (by omega)
    exact ⟨⟨⟨fun y => by obtain ⟨n, c, q⟩ := ok2.cnt y; exact ⟨n, c, by omega⟩, ok2.key, ok2.apart⟩, tk.only on1, by rw [sumC_app]; omega, by omega, fine, mem, tk.noneOver ok1 l1 (by omega) hn⟩, by omega⟩

/-- what lies in memory between two rounds; w0: the world with the config's box gc -/
structure OS (w0 wr : World) (gc g m tg : Nat) (cf : C8) (i : Nat) (S : Lists) (n cnt : Nat) (fm : ByteArray → Option Value) (FT Bk : Nat → Prop) (sv : Value) (O : List Pn) : Prop where
  q : Gq wr g m tg cf S (duesOf S) n cnt fm FT Bk
  n : n ≤ 16 * i
  cnt : cnt ≤ 16 * i
  from_ : From w0.heap.size (Fp g m FT)
  bk : ∀ b, Bk b → w0.heap.size ≤ b ∧ b < wr.heap.size
  below : Below w0.heap.size w0 wr
  out : Sl.Own Pn.k w0.heap.size wr sv O
  ap : ∀ b, sv.ownBlock = some b → ¬ Fp g m FT b ∧ ¬ Bk b
section
variable {w0 wr w' : World} {gc g m tg n cnt i : Nat} {cf : C8} {S : Lists} {fm : ByteArray → Option Value} {FT Bk : Nat → Prop} {sv : Value} {O : List Pn}
theorem OS.next (h : OS w0 wr gc g m tg cf i S n cnt fm FT Bk sv O) (k : Below wr.heap.size wr w') : OS w0 w' gc g m tg cf i S n cnt fm FT Bk sv O :=
  ⟨h.q.next k, h.n, h.cnt, h.from_, fun b hb => ⟨(h.bk b hb).1, Nat.lt_of_lt_of_le (h.bk b hb).2 k.size⟩, h.below.trans (k.mono h.below.size), h.out.next k, h.ap⟩
/-- a record was taken -/
theorem OS.take {c N : Nat} {S' : Lists} {n' cnt' : Nat} {f' : ByteArray → Option Value} {FT' Bk' : Nat → Prop} {sv1 : Value} {O1 : List Pn} (h : OS w0 wr gc g m tg cf i S n cnt fm FT Bk sv O) (t : TE wr g m tg cf n cnt N FT Bk sv1 O1 c S' n' cnt' f' FT' Bk' w') (hc : c ≤ 16) :
    OS w0 w' gc g m tg cf (i + 1) S' n' cnt' f' FT' Bk' sv O ∧ ∃ b, Sl.Is Pn.k w' sv1 O1 b ∧ (O1 ≠ [] → ∀ a, sv.ownBlock = some a → a ≠ b) := by
  have hB := h.below.size
  have hfr := t.v.from h.from_ hB
  have keep : ∀ b, b < wr.heap.size → ¬ Fp g m FT b → ¬ Fp g m FT' b := fun b hb hn q => by
    rcases (t.v.new b q).1 with r | r
    · exact hn r
    · omega
  refine ⟨⟨t.q, by have := t.n; have := h.n; omega, by have := t.cnt; have := h.cnt; omega, hfr, fun b hb => ⟨?_, (t.bk b hb).2⟩, h.below.trans (t.v.below h.from_ hB), h.out.move fun b hb => t.v.block b (h.out.lt b hb).2 (h.ap b hb).1, fun b hb => ⟨keep b (h.out.lt b hb).2 (h.ap b hb).1, fun q => ?_⟩⟩, ?_⟩
  · rcases (t.bk b hb).1 with r | r
    · exact (h.bk b r).1
    · omega
  · have hl := (h.out.lt b hb).2
    rcases (t.bk b q).1 with r | r
    · exact (h.ap b hb).2 r
    · omega
  · obtain ⟨b, hb, hi⟩ := t.out.is
    exact ⟨b, hi, fun _ a ha e => by have := (h.out.lt a ha).2; omega⟩
/-- what is told was put behind what went out -/
theorem OS.more {v' : Value} {O1 : List Pn} (h : OS w0 wr gc g m tg cf i S n cnt fm FT Bk sv O) (x1 : Sl.Own Pn.k w0.heap.size w' v' (O ++ O1)) (x2 : wr.grownBy w' sv.ownBlock) (x3 : v'.ownBlock = sv.ownBlock ∨ v'.ownBlock = some wr.heap.size) : OS w0 w' gc g m tg cf i S n cnt fm FT Bk v' (O ++ O1) := by
  refine ⟨h.q.grown x2 h.ap, h.n, h.cnt, h.from_, fun b hb => ⟨(h.bk b hb).1, Nat.lt_of_lt_of_le (h.bk b hb).2 x2.size⟩, h.below.grown x2 h.below.size (fun b hb => (h.out.lt b hb).1), x1, fun b hb => ?_⟩
  rcases x3 with e | e
  · exact h.ap b (e ▸ hb)
  · rw [e] at hb
    obtain rfl := Option.some.inj hb
    exact ⟨fun q => by have := h.q.in _ q; omega, fun q => by have := (h.bk _ q).2; omega⟩
end
/-- a slice of windows, none at all too -/
def WIs (w : World) (v : Value) (nn : Nat) (a d l : Int) : Prop := ∃ AW cap, v = .slice AW nn cap ∧ (0 < nn → ∃ gw, AW = some ⟨gw, 0, none⟩ ∧ Asg.Wins w gw nn a d l)
/-- what is told of the windows, and of the code, in one -/
theorem uni {cf : C8} {t v mark code : Int} {x : Option (Nat × Int × Int × Int)} {S1 S' : Lists} {c : Nat} {u y : Value} {w : World} (M : Asg.may cf.k cf.s cf.l cf.g cf.z cf.h cf.r cf.c) (t0 : -9223372036854775808 ≤ t) (s1 : cf.s ≤ 9223372036854775807) (g1 : cf.g ≤ 9223372036854775807)
    (T : Asg.Told cf.k cf.s cf.l cf.g cf.z t x) (tk : Taken cf.k kk v cf.z mark x S1 code c S') (r : RefAsg.refR x u y w) :
    ∃ (nn : Nat) (a d l : Int) (ok : Bool), WIs w u nn a d l ∧ y = .bool ok ∧ nn ≤ 16 ∧ (∀ i : Nat, i < nn → -9223372036854775808 ≤ a + i * d ∧ a + i * d + l ≤ 9223372036854775807 ∧ -9223372036854775808 ≤ a + i * d + l) ∧ c = live a d l cf.z mark nn ∧ (ok = false → code = 4 ∧ c = 0) ∧ (ok = true → code = if c = 0 then 1 else 0) := by
  cases x with
  | none =>
    obtain ⟨rfl, rfl⟩ := r
    obtain ⟨rfl, rfl, -⟩ := tk
    exact ⟨0, 0, 0, 0, false, ⟨none, 0, rfl, fun h => absurd h (by omega)⟩, rfl, by omega, fun i hi => absurd hi (by omega), rfl, fun _ => ⟨rfl, rfl⟩, fun h => (by cases h)⟩
  | some q =>
    obtain ⟨nn, a, d, l⟩ := q
    obtain ⟨gw, cap, rfl, rfl, hw⟩ := r
    obtain ⟨h1, h2, h3, -, h4⟩ := told_fits M t0 s1 g1 T
    have z0 := M.2.1
    exact ⟨nn, a, d, l, true, ⟨_, cap, rfl, fun _ => ⟨gw, rfl, hw⟩⟩, rfl, h1, fun i hi => by have := h4 i hi; omega, tk.1.live, fun h => (by cases h), fun _ => tk.2⟩
theorem live_le (a d l z mark : Int) (i : Nat) : live a d l z mark i ≤ i := by
  induction i with
  | zero => exact Nat.le_refl _
  | succ i ih => simp only [live]; split <;> omega
end Go.Proofs.Ytbdocnkpjlpfmaa.groupOnce
