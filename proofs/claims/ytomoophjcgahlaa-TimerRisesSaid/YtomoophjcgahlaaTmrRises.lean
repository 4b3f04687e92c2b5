/-
  TimerRises holds: for any timers, any int64 lateness and any int64 watermark the law answers true (no conditions).
-/
import Derived.Test.YtomoophjcgahlaaUp06
import Derived.Test.YtomoophjcgahlaaTmrOpen
import Derived.Test.YtomoophjcgahlaaRefSpan
import Derived.Test.YtomoophjcgahlaaLaid
import Derived.Laws.StructEq
namespace Go.Proofs.Ytomoophjcgahlaa.timerRises
open Go.ChangeShapes Go.WideShapes Go.ChangeAt Go.RowKit Small Foot Tmr
set_option linter.unusedVariables false

/-- two of the call's own timers; nothing of B has turned -/
def St (B : World) (g h p q : Nat) (M N : Tm → Prop) (w : World) : Prop :=
  ∃ F G, Ts w g p M F ∧ Ts w h q N G ∧ Apart F G ∧ From B.heap.size F ∧ From B.heap.size G ∧ Below B.heap.size B w
section
variable {B w w' : World} {g h p p' q q' : Nat} {M M' N N' : Tm → Prop} {F F' G G' : Nat → Prop}
theorem St.next (s : St B g h p q M N w) (k : Below w.heap.size w w') : St B g h p q M N w' := by
  obtain ⟨F, G, a, b, c, d, e, f⟩ := s
  exact ⟨F, G, a.next k, b.next k, c, d, e, after f k⟩
theorem St.below (s : St B g h p q M N w) : Below B.heap.size B w := by
  obtain ⟨F, G, a, b, c, d, e, f⟩ := s
  exact f
theorem St.congr (s : St B g h p q M N w) (e1 : ∀ y, M y ↔ M' y) (e2 : ∀ y, N y ↔ N' y) : St B g h p q M' N' w := by
  obtain ⟨F, G, a, b, c, d, e, f⟩ := s
  exact ⟨F, G, a.congr e1, b.congr e2, c, d, e, f⟩
theorem St.left (a : Ts w h q N G) (c : Apart F G) (d : From B.heap.size F) (e : From B.heap.size G) (f : Below B.heap.size B w) (t : Ts w' g p' M' F') (v : Moves F F' w w') : St B g h p' q M' N w' :=
  ⟨F', G, t, a.moved v c, v.apart c a.in, v.from d f.size, e, f.trans (v.below d f.size)⟩
theorem St.right (a : Ts w g p M F) (c : Apart F G) (d : From B.heap.size F) (e : From B.heap.size G) (f : Below B.heap.size B w) (t : Ts w' h q' N' G') (v : Moves G G' w w') : St B g h p q' M N' w' :=
  ⟨F, G', a.moved v c.symm, t, (v.apart c.symm a.in).symm, d, v.from e f.size, f.trans (v.below e f.size)⟩
end

theorem cell_at {B w : World} (K : Below B.heap.size B w) {b off n : Nat} {f : Nat → Tm} (hc : ∀ i, i < n → ∀ j v, (tl (f i))[j]? = some v → B.cell? ⟨b, off + (i * 3 + j), none⟩ = some v) {i : Nat} (hi : i < n) {j : Nat} {v : Value} (hv : (tl (f i))[j]? = some v) :
    w.cell? ⟨b, off + i * 3 + j, none⟩ = some v := by rw [Nat.add_assoc]; exact cell_keep K (hc i hi j v hv)
theorem more (f : Nat → Tm) (i : Nat) (y : Tm) : (y = f i ∨ ∃ j, j < i ∧ f j = y) ↔ ∃ j, j < i + 1 ∧ f j = y := by
  constructor
  · rintro (rfl | ⟨j, hj, rfl⟩)
    · exact ⟨i, by omega, rfl⟩
    · exact ⟨j, by omega, rfl⟩
  · rintro ⟨j, hj, rfl⟩
    by_cases e : j = i
    · exact .inl (by rw [e])
    · exact .inr ⟨j, by omega, rfl⟩

theorem turn (f : Nat → Tm) (n : Nat) (y : Tm) : (∃ j, j < n ∧ f (n - 1 - j) = y) ↔ ∃ j, j < n ∧ f j = y := by
  constructor
  · rintro ⟨j, hj, rfl⟩
    exact ⟨n - 1 - j, by omega, rfl⟩
  · rintro ⟨j, hj, rfl⟩
    exact ⟨n - 1 - j, by omega, by rw [show n - 1 - (n - 1 - j) = j by omega]⟩

set_option maxRecDepth 100000 in
set_option maxHeartbeats 8000000 in
theorem walk_on (A : Option Addr) (n cp : Nat) (f : Nat → Tm) (late mark : Int) (w : World) (n1 : n ≤ 100) (hf : Hid (∀ i, i < n → Fits (f i))) (hl : Hid ((Lit.int .i64 late).wf = true)) (hm : Hid ((Lit.int .i64 mark).wf = true))
    (hc : Hid (0 < n → ∃ b off, A = some ⟨b, off, none⟩ ∧ ∀ i, i < n → ∀ j v, (tl (f i))[j]? = some v → w.cell? ⟨b, off + (i * 3 + j), none⟩ = some v)) :
    Calls Try.prog 4 #[.slice A n cp, .int .i64 late, .int .i64 mark] w fun r w' => r = .returned (.bool true) ∧ Below w.heap.size w w' := by
  have q1 : decide (100 < (n : Int)) = false := by simp; omega
  go_enter Try.func4, Try.ntmps4
  go_wp2_with fail
  refine (head_ok _).mono ?_
  rintro e w1 ⟨rfl, k1⟩
  have K1 := Lib.hid k1
  clear k1
  go_wp2_with fail
  refine (new_foot _).mono ?_
  rintro e w2 ⟨g, F, rfl, T0, F0, k2⟩
  have T0 := Lib.hid T0
  have F0 := Lib.hid F0
  have K2 := Lib.hid k2
  clear k2
  go_wp2_with fail
  refine (new_foot _).mono ?_
  rintro e w3 ⟨h, G, rfl, U0, G0, k3⟩
  have S0 : Hid (St w g h 0 0 (fun _ => False) (fun _ => False) w3) := Lib.hid (by
    have s1 := K1.out.size
    have s2 := K2.out.size
    exact ⟨F, G, T0.out.next k3, U0, fun k hk q => by have := T0.out.in k hk; have := G0 k q; omega, fun k hk => by have := F0.out k hk; omega, fun k hk => by have := G0 k hk; omega, after K1.out (after K2.out k3)⟩)
  clear T0 F0 K2 K1 U0 G0 k3
  go_wp2_with fail
  go_loopw [10] (fun si wr => ∃ i : Nat, i ≤ n ∧ si = .int .i64 i ∧ Hid (∃ p q, p ≤ i ∧ q ≤ i ∧ St w g h p q (fun y => ∃ j, j < i ∧ f j = y) (fun y => ∃ j, j < i ∧ f (n - 1 - j) = y) wr)) (fun si _ => n - (intOf si).toNat)
  case atStart => exact ⟨0, Nat.zero_le _, rfl, Lib.hid ⟨0, 0, Nat.le_refl _, Nat.le_refl _, S0.out.congr (fun y => by simp) (fun y => by simp)⟩⟩
  case round =>
    obtain ⟨i, hin, rfl, S⟩ := hrel
    clear S0
    by_cases hlt : i < n
    · obtain ⟨b, off, rfl, hcell⟩ := hc.out (by omega)
      obtain ⟨p, q, pi, qi, FF, GG, T, U, AP, FA, GA, K⟩ := S.out
      have HC := Lib.hid hcell
      have fa := Lib.hid (hf.out i hlt)
      have fb := Lib.hid (hf.out (n - 1 - i) (by omega))
      have c0 := cell_at K hcell hlt (j := 0) rfl
      have c1 := cell_at K hcell hlt (j := 1) rfl
      have c2 := cell_at K hcell hlt (j := 2) rfl
      rw [Nat.add_zero] at c0
      have T := Lib.hid T
      have U := Lib.hid U
      have AP := Lib.hid AP
      have FA := Lib.hid FA
      have GA := Lib.hid GA
      have K := Lib.hid K
      clear hcell S
      have t0 : p < 1048576 := by omega
      have t00 : q < 1048576 := by omega
      go_wp2_with fail
      refine (put_foot _ (f i) T fa t0).mono ?_
      rintro e w4 ⟨b1, p', F', rfl, -, hp', T', V'⟩
      have S1 : Hid (St w g h p' q (fun y => y = f i ∨ ∃ j, j < i ∧ f j = y) (fun y => ∃ j, j < i ∧ f (n - 1 - j) = y) w4) := Lib.hid (St.left U.out AP.out FA.out GA.out K.out T' V')
      have pi' : p' ≤ i + 1 := by cases b1 <;> simp at hp' <;> omega
      clear T' V' hp' T U AP FA GA K c0 c1 c2 t0 pi
      obtain ⟨F1, G1, T, U, AP, FA, GA, K⟩ := S1.out
      have c0 := cell_at K HC.out (show n - 1 - i < n by omega) (j := 0) rfl
      have c1 := cell_at K HC.out (show n - 1 - i < n by omega) (j := 1) rfl
      have c2 := cell_at K HC.out (show n - 1 - i < n by omega) (j := 2) rfl
      rw [Nat.add_zero] at c0
      have T := Lib.hid T
      have U := Lib.hid U
      have AP := Lib.hid AP
      have FA := Lib.hid FA
      have GA := Lib.hid GA
      have K := Lib.hid K
      have t1 : IntKind.i64.wrap ((n : Int) - 1) = (n : Int) - 1 := IntWalk.i64_in _ (by omega)
      have t2 : IntKind.i64.wrap ((n : Int) - 1 - i) = (n : Int) - 1 - i := IntWalk.i64_in _ (by omega)
      have t3 : 0 ≤ (n : Int) - 1 - i := by omega
      have t4 : (n : Int) - 1 - i < n := by omega
      have t5 : ((n : Int) - 1 - i).toNat = n - 1 - i := by omega
      go_wp2_with fail
      refine (put_foot _ (f (n - 1 - i)) U fb t00).mono ?_
      rintro e w5 ⟨b2, q', G', rfl, -, hq', U', V'⟩
      have S2 : Hid (St w g h p' q' (fun y => y = f i ∨ ∃ j, j < i ∧ f j = y) (fun y => y = f (n - 1 - i) ∨ ∃ j, j < i ∧ f (n - 1 - j) = y) w5) := Lib.hid (St.right T.out AP.out FA.out GA.out K.out U' V')
      have qi' : q' ≤ i + 1 := by cases b2 <;> simp at hq' <;> omega
      clear U' V' hq' T U AP FA GA K c0 c1 c2 t1 t2 t3 t4 t5
      go_wp2_with fail
      refine ⟨⟨i + 1, by omega, by go_num, Lib.hid ⟨p', q', pi', qi', S2.out.congr (fun y => more f i y) (fun y => more (fun j => f (n - 1 - j)) i y)⟩⟩, by simp [intOf]; omega⟩
    · obtain rfl : i = n := by omega
      obtain ⟨p, q, pi, qi, s0⟩ := S.out
      have S1 : Hid (St w g h p q (fun y => ∃ j, j < i ∧ f j = y) (fun y => ∃ j, j < i ∧ f j = y) wr) := Lib.hid (s0.congr (fun y => Iff.rfl) (fun y => turn f i y))
      clear s0 S qi hc
      obtain ⟨FF, GG, T, -⟩ := S1.out
      have T := Lib.hid T
      have t1 : ((p : Nat) : Int) ≤ 100 := by omega
      go_wp2_with fail
      refine (len_foot _ T).mono ?_
      rintro e w4 ⟨rfl, rfl⟩
      clear hlt hin q1
      have ll : (∀ x, (∃ j, j < i ∧ f j = x) → (-9223372036854775808 : Int) ≤ x.e) := by
        rintro x ⟨j, hj, rfl⟩
        exact (fit (hf.out j hj).2.2).1
      have L0 : Hid (∃ c p' q' : Nat, ∃ (M : Tm → Prop) (en : Int), (0 : Int) = c ∧ (-9223372036854775808 : Int) = en ∧ c + p' = p ∧ (∀ x, M x → en ≤ x.e) ∧ St w g h p' q' M M wr) := Lib.hid ⟨0, p, q, _, _, rfl, rfl, by omega, ll, S1.out⟩
      clear ll S1 hf
      go_wp2_with fail
      go_loopw [12, 13] (fun sn se wr => ∃ (c p' q' : Nat) (M : Tm → Prop) (en : Int), sn = .int .i64 c ∧ se = .int .i64 en ∧ c + p' = p ∧ Hid (∀ x, M x → en ≤ x.e) ∧ Hid (St w g h p' q' M M wr)) (fun sn se _ => 200 - (intOf sn).toNat)
      case atStart =>
        obtain ⟨c, p', q', M, en, h1, h2, h3, h4, h5⟩ := L0.out
        exact ⟨c, p', q', M, en, by rw [← h1], by rw [← h2], h3, Lib.hid h4, Lib.hid h5⟩
      case round =>
        obtain ⟨c, p', q', M, en, rfl, rfl, hcp, LL, S⟩ := hrel
        clear L0
        obtain ⟨F1, G1, T, U, AP, FA, GA, K⟩ := S.out
        have T := Lib.hid T
        have U := Lib.hid U
        have AP := Lib.hid AP
        have FA := Lib.hid FA
        have GA := Lib.hid GA
        have K := Lib.hid K
        clear S
        go_wp2_with fail
        refine (pop_foot _ T hl hm).mono ?_
        rintro e w5 ⟨b1, x1, p1, M1, F2, rfl, hp1, T1, V1⟩
        have U1 := Lib.hid (U.out.moved V1 AP.out)
        have A1 := Lib.hid (V1.apart AP.out U.out.in)
        have F1 := Lib.hid (V1.from FA.out K.out.size)
        have K1 := Lib.hid (K.out.trans (V1.below FA.out K.out.size))
        have T1 := Lib.hid T1
        have hp1 := Lib.hid hp1
        clear V1 T U AP FA K
        have B5 := Lib.hid (below1 w5 (Obj.cells #[.string x1.key, .int .i64 x1.s, .int .i64 x1.e] 30))
        go_wp2_with fail
        refine (pop_foot _ (Lib.hid (U1.out.next B5.out)) hl hm).mono ?_
        rintro e w6 ⟨b2, x2, p2, M2, G2, rfl, hp2, T2, V2⟩
        have X : Lies w6 w5.heap.size 30 [.string x1.key, .int .i64 x1.s, .int .i64 x1.e] := V2.lies (fun k => by have := U1.out.in _ k; omega) (Lies.new w5 30 _)
        have S2 : Hid (St w g h p1 p2 M1 M2 w6) := Lib.hid (St.right (T1.out.next B5.out) A1.out F1.out GA.out (after K1.out B5.out) T2 V2)
        have Y : Lies (w6.alloc (Obj.cells #[.string x2.key, .int .i64 x2.s, .int .i64 x2.e] 30)) w5.heap.size 30 [.string x1.key, .int .i64 x1.s, .int .i64 x1.e] := X.alloc _
        have Z := Lies.new w6 30 [.string x2.key, .int .i64 x2.s, .int .i64 x2.e]
        have S3 := Lib.hid (S2.out.next (below1 w6 (Obj.cells #[.string x2.key, .int .i64 x2.s, .int .i64 x2.e] 30)))
        have y0 := Y.cell (i := 0) rfl
        have y1 := Y.cell (i := 1) rfl
        have y2 := Y.cell (i := 2) rfl
        have z0 := Z.cell (i := 0) rfl
        have z1 := Z.cell (i := 1) rfl
        have z2 := Z.cell (i := 2) rfl
        clear V2 T2 T1 U1 A1 F1 K1 B5 X S2
        have Y := Lib.hid Y
        rcases hp1.out with ⟨rfl, ha1, ha2, ha3, ha4⟩ | ⟨rfl, rfl, ha3, ha4, rfl⟩ <;> rcases hp2 with ⟨rfl, hb1, hb2, hb3, hb4⟩ | ⟨rfl, rfl, hb3, hb4, rfl⟩
        case inl.inl =>
          obtain rfl := ha1.one hb1
          have fx := Lib.hid (T.fits ha1.1)
          have le1 : en ≤ x1.e := LL.out _ ha1.1
          have d1 : decide (x1.e < en) = false := by simp; omega
          have d2 : decide ((i : Int) < (c : Int) + 1) = false := by simp; omega
          have d3 : decide (x1.e + late ≤ mark) = true := by simpa using ha2
          have d4 : IntKind.i64.wrap ((c : Int) + 1) = (c : Int) + 1 := IntWalk.i64_in _ (by omega)
          have LL' : Hid (∀ x, M1 x → x1.e ≤ x.e) := Lib.hid (fun x hx => le_end (ha1.2 x ((ha4 x).1 hx).2))
          have S4 : Hid (St w g h p1 p2 M1 M1 (w6.alloc (Obj.cells #[.string x1.key, .int .i64 x1.s, .int .i64 x1.e] 30))) := Lib.hid (S3.out.congr (fun y => Iff.rfl) (fun y => (hb4 y).trans (ha4 y).symm))
          clear ha1 hb1 ha4 hb4 S3 hb3 hb2 ha2 hp1 LL
          go_wp2_with fail
          refine (RefSpan.over_ok x1.s x1.e late mark _ (fit fx.out.2.2).1 (fit fx.out.2.2).2 (fit hl.out).1 (fit hl.out).2 (fit hm.out).1 (fit hm.out).2).mono ?_
          rintro e w8 ⟨rfl, k8⟩
          rw [d3]
          have S5 := Lib.hid (S4.out.next k8)
          have Y := Y.out.next k8
          clear S4 k8 y0 y1 y2 z0 z1 z2 Z
          have y0 := Y.cell (i := 0) rfl
          have y1 := Y.cell (i := 1) rfl
          have y2 := Y.cell (i := 2) rfl
          go_wp2_with fail
          exact ⟨⟨c + 1, p1, p2, M1, x1.e, by go_num, rfl, by omega, LL', S5⟩, by simp [intOf]; omega⟩
        case inl.inr => exact absurd ha2 (hb4 _ ha1)
        case inr.inl => exact absurd hb2 (ha4 _ hb1)
        case inr.inr =>
          have hb4 := Lib.hid hb4
          clear ha4 hp1 LL
          go_wp2_with fail
          obtain ⟨FF, GG, T, U, -⟩ := S3.out
          have T := Lib.hid T
          clear y0 y1 y2 z0 z1 z2
          refine (next_foot _ T).mono ?_
          rintro e w8 ⟨⟨b, x, rfl, hb⟩, k8⟩
          have S4 := Lib.hid (S3.out.next k8)
          have hpc : (((p : Nat) : Int) - (c : Int)) = (p1 : Int) := by omega
          have hpw : IntKind.i64.wrap ((p : Int) - (c : Int)) = (p : Int) - (c : Int) := IntWalk.i64_in _ (by omega)
          clear k8 S3 Y
          rcases hb with ⟨rfl, hb1, hb2⟩ | ⟨rfl, hb1, rfl⟩
          · have fx := Lib.hid (T.out.fits hb2.1)
            have hov := hb4.out _ hb2
            have d3 : decide (x.e + late ≤ mark) = false := by simpa using hov
            have Z := Lies.new w8 30 [.string x.key, .int .i64 x.s, .int .i64 x.e]
            have S5 := Lib.hid (S4.out.next (below1 w8 (Obj.cells #[.string x.key, .int .i64 x.s, .int .i64 x.e] 30)))
            clear hov hb2 hb4
            go_wp2_with fail
            refine (RefSpan.over_ok x.s x.e late mark _ (fit fx.out.2.2).1 (fit fx.out.2.2).2 (fit hl.out).1 (fit hl.out).2 (fit hm.out).1 (fit hm.out).2).mono ?_
            rintro e w9 ⟨rfl, k9⟩
            rw [d3]
            have S6 := Lib.hid (S5.out.next k9)
            clear S5 k9 Z
            obtain ⟨F3, G3, T3, -⟩ := S6.out
            have T3 := Lib.hid T3
            go_wp2_with fail
            refine (len_foot _ T3).mono ?_
            rintro e w10 ⟨rfl, rfl⟩
            go_wp2
            go_ret
            exact ⟨rfl, S6.out.below⟩
          · have S5 := Lib.hid (S4.out.next (below1 w8 (Obj.cells #[.string ⟨#[]⟩, .int .i64 0, .int .i64 0] 30)))
            obtain ⟨F3, G3, T3, -⟩ := S5.out
            have T3 := Lib.hid T3
            clear S4 hb4
            go_wp2_with fail
            refine (len_foot _ T3).mono ?_
            rintro e w10 ⟨rfl, rfl⟩
            go_wp2
            go_ret
            exact ⟨rfl, S5.out.below⟩

set_option maxHeartbeats 1000000 in
theorem walk_off (A : Option Addr) (n cp : Nat) (late mark : Int) (w : World) (hm : n ≤ maxLen) (n1 : 100 < n) :
    Calls Try.prog 4 #[.slice A n cp, .int .i64 late, .int .i64 mark] w fun r w' => r = .returned (.bool true) ∧ Below w.heap.size w w' := by
  unfold maxLen at hm
  have q1 : decide (100 < (n : Int)) = true := by simp; omega
  go_enter Try.func4, Try.ntmps4
  go_wp2_with fail
  refine (head_ok _).mono ?_
  rintro e w1 ⟨rfl, k1⟩
  have K1 := Lib.hid k1
  clear k1
  go_wp2_with fail
  refine (new_foot _).mono ?_
  rintro e w2 ⟨g, F, rfl, T0, F0, k2⟩
  have K2 := Lib.hid k2
  clear k2 T0 F0
  go_wp2_with fail
  refine (new_foot _).mono ?_
  rintro e w3 ⟨h, G, rfl, U0, G0, k3⟩
  have K3 := Lib.hid k3
  clear k3 U0 G0
  go_wp2
  go_ret
  exact ⟨rfl, after K1.out (after K2.out K3.out)⟩

theorem walk (x : Option Addr × Nat × Nat × (Nat → Tm)) (w : World) (hx : Opens.IsRows tl 3 Fits w x) (late : Int) (wl : (Lit.int .i64 late).wf = true) (mark : Int) (wm : (Lit.int .i64 mark).wf = true) :
    Calls Try.prog 4 #[.slice x.1 x.2.1 x.2.2.1, .int .i64 late, .int .i64 mark] w fun r w' => r = .returned (.bool true) ∧ Below w.heap.size w w' := by
  obtain ⟨A, n, cp, f⟩ := x
  obtain ⟨hm, hf, hc⟩ := hx
  simp only at hm hf hc ⊢
  by_cases h : n ≤ 100
  · exact walk_on A n cp f late mark w h (Lib.hid hf) (Lib.hid wl) (Lib.hid wm) (Lib.hid hc)
  · exact walk_off A n cp late mark w hm (by omega)

theorem own : ownKnob Try.prog.godebug = none := by kernel_rfl

set_option maxRecDepth 100000 in
theorem lifted (os : Os) (started : os.Started) (H : Type) (enc : TypeId × Value → H) :
    ReturnsInHanded {} Try.checked os 4 .any (Rows.timerRisesSpec.pre6 enc Try.prog Try.f4 Rows.timerRisesRow.domain false) (Rows.timerRisesSpec.post enc Try.prog Try.f4 false true false false) := by
  refine returnsInHanded_of_change (C := Try.checked) own started (by kernel_rfl) Try.func4
    (ChangeSpec.witness6 (enc := enc) (C := Try.checked) false ⟨#[], #[.slice none 0 0, .int .i64 0, .int .i64 0], []⟩ 8 (by kernel_rfl) (by kernel_rfl) (by kernel_rfl) (by kernel_rfl)) ?_
  intro W base args ds gs before hval0 hW hcnd _
  have hval : ∀ (j : Nat) t v, Try.f4.params[j]? = some t → args[j]? = some v → Value.okWide Try.prog W .any base t v := hval0
  have hW' := hW
  obtain ⟨p, q, hA0, hV, rfl, hfz, hnd⟩ := hW
  have hA : DataW.TrodAll enc Try.prog W 0 (fun _ => true) true Try.f4.params.toList args.toList ds p := hA0
  rw [Try.params4] at hA hval
  obtain ⟨v0, vs0, d0, ds0, p0, q0, hargs, rfl, rfl, h0, r0⟩ := trodAll_cons hA
  obtain ⟨v1, vs1, d1, ds1, p1, q1, rfl, rfl, rfl, h1, r1⟩ := trodAll_cons r0
  obtain ⟨v2, vs2, d2, ds2, p2, q2, rfl, rfl, rfl, h2, r2⟩ := trodAll_cons r1
  obtain ⟨rfl, rfl, rfl⟩ := trodAll_nil r2
  obtain rfl : args = #[v0, v1, v2] := by cases args; simp_all
  obtain ⟨rfl, rfl⟩ := trodVars_none hV
  obtain ⟨a0, rfl, w0⟩ := Tmr.open_timers (hval 0 46 v0 rfl rfl) h0
  obtain ⟨a1, rfl, rfl, rfl, w1⟩ := open_int Try.underlying2 (hval 1 2 v1 rfl rfl) h1
  obtain ⟨a2, rfl, rfl, rfl, w2⟩ := open_int Try.underlying2 (hval 2 2 v2 rfl rfl) h2
  clear hA0 hval0
  refine (walk a0 W w0 a1 w1 a2 w2).mono fun e W' ⟨he, hg⟩ => ?_
  subst he
  exact ⟨_, rfl, Laid.post Laid.laidOut (by kernel_rfl) rfl (by kernel_rfl) Try.underlying4 hW' ⟨rfl, rfl, rfl⟩ hg⟩

theorem over : Rows.timerRisesRow.holds Try.pinned (OpenSpec.ofChange Rows.timerRisesSpec) :=
  OpenClaim.holds_of_wide 4 Try.f4 rfl rfl rfl rfl rfl rfl rfl ⟨rfl, rfl, rfl, rfl, rfl⟩ rfl rfl rfl rfl rfl (by kernel_rfl) Try.func4 (by kernel_rfl)
    (of_decide_eq_true (by kernel_rfl)) (by unfold Func.isWrapper; first | (rw [if_pos (by decide +kernel)]; kernel_rfl) | (rw [if_neg (by decide +kernel)]; exact ⟨rfl, rfl⟩))
    (fun os started H enc _ => lifted os started H enc)

/-- ████ THE STATEMENT ████ -/
theorem proved : Rows.TimerRisesSaid :=
  over
#print axioms proved
end Go.Proofs.Ytomoophjcgahlaa.timerRises
