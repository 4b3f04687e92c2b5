/-
  BoxKeeps: whatever is put, as texts, and taken, so many ahead of each: it is taken as it was put, in order, and there is never more than there is room for.
  (No premise: at every room, every list of texts and every list of numbers.)
-/
import Derived.Test.YtijoloeemomjbaaUp10
import Derived.Test.YtijoloeemomjbaaLaid
namespace Go.Proofs.Ytijoloeemomjbaa
open Go.RowKit Go.WideShapes Go.ChangeShapes
namespace Opens
set_option linter.unusedVariables false
theorem cellsStr : Try.prog.cellsOf 9 = 1 := by kernel_rfl
theorem cellsInt : Try.prog.cellsOf 3 = 1 := by kernel_rfl
abbrev sl (x : ByteArray) : List Value := [.string x]
abbrev il (x : Int) : List Value := [.int .i64 x]
def IFits (x : Int) : Prop := (Lit.int .i64 x).wf = true
theorem open_strs {H : Type} {enc : TypeId × Value → H} {w : World} {base : Nat} {held : Bool} {spare : Nat → Bool} {r : Reach} {b0 : Nat} {v : Value} {d : DataW H} {p : List MemPlace}
    (hv : Value.okWide Try.prog w r b0 40 v) (h : DataW.Trod enc Try.prog w base spare held 40 v d p) :
    ∃ x : Option Addr × Nat × Nat × (Nat → ByteArray), v = .slice x.1 x.2.1 x.2.2.1 ∧ IsRows sl 1 (fun _ => True) w x :=
  open_rows sl (fun _ => True) Try.underlying40 cellsStr (by omega) (fun m cs y h => by
    obtain ⟨s, e0, -, -⟩ := DataW.trod_string Try.underlying9 h
    exact ⟨s, e0, trivial⟩) hv h
theorem open_nums {H : Type} {enc : TypeId × Value → H} {w : World} {base : Nat} {held : Bool} {spare : Nat → Bool} {r : Reach} {b0 : Nat} {v : Value} {d : DataW H} {p : List MemPlace}
    (hv : Value.okWide Try.prog w r b0 30 v) (h : DataW.Trod enc Try.prog w base spare held 30 v d p) :
    ∃ x : Option Addr × Nat × Nat × (Nat → Int), v = .slice x.1 x.2.1 x.2.2.1 ∧ IsRows il 1 IFits w x :=
  open_rows il IFits Try.underlying30 cellsInt (by omega) (fun m cs y h => by
    obtain ⟨a, e0, -, w0⟩ := DataW.trod_int Try.underlying3 h
    exact ⟨a, e0, w0⟩) hv h
end Opens
end Go.Proofs.Ytijoloeemomjbaa

namespace Go.Proofs.Ytijoloeemomjbaa.boxKeeps
open Go.ChangeShapes Go.WideShapes Go.ChangeAt Go.RowKit Small Foot Bx
set_option linter.unusedVariables false
set_option maxRecDepth 100000

/-- the mailbox at g, whose list is vb, and the law's own list, vm -/
structure St (w0 : World) (g : Nat) (room : Int) (vb vm : Value) (N M : List ByteArray) (w : World) : Prop where
  box : Tt.Box w g room false vb N
  own : Sl.Own Tt.k (g + 1) w vm M
  apart : ∀ a, vm.ownBlock = some a → ¬ Fp g vb a
  far : w0.heap.size ≤ g
  below : Below w0.heap.size w0 w
section
variable {w0 w w' : World} {g : Nat} {room : Int} {vb vb' vm vm' : Value} {N N' M M' : List ByteArray}
theorem St.next (h : St w0 g room vb vm N M w) (k : Below w.heap.size w w') : St w0 g room vb vm N M w' := ⟨h.box.next k, h.own.next k, h.apart, h.far, after h.below k⟩
theorem St.call (h : St w0 g room vb vm N M w) (b : Tt.Box w' g room false vb' N') (k : Moves (Fp g vb) (Fp g vb') w w') : St w0 g room vb' vm N' M w' :=
  ⟨b, h.own.move fun a ha => k.block a (h.own.lt a ha).2 (h.apart a ha), fun a ha q => by
    rcases (k.new a q).1 with f | f
    · exact h.apart a ha f
    · have := (h.own.lt a ha).2; omega, h.far, h.below.trans (k.below (fun i hi => Nat.le_trans h.far (h.box.from i hi)) h.below.size)⟩
theorem St.app (h : St w0 g room vb vm N M w) (o : Sl.Own Tt.k (g + 1) w' vm' M') (k : w.grownBy w' vm.ownBlock) (e : vm'.ownBlock = vm.ownBlock ∨ vm'.ownBlock = some w.heap.size) : St w0 g room vb vm' N M' w' := by
  have nf : ∀ i, Fp g vb i → i < w.heap.size ∧ some i ≠ vm.ownBlock := fun i hi => ⟨h.box.in i hi, fun q => h.apart i q.symm hi⟩
  refine ⟨⟨(k.block g (nf g (.inl rfl)).1 (nf g (.inl rfl)).2).trans h.box.lies, h.box.own.move fun a ha => k.block a (nf a (.inr ha)).1 (nf a (.inr ha)).2⟩, o, fun a ha q => ?_, h.far, h.below.grown k h.below.size fun a ha => ?_⟩
  · rcases e with e | e
    · exact h.apart a (e ▸ ha) q
    · rw [e] at ha
      have := (nf a q).1
      have := Option.some.inj ha
      omega
  · have := (h.own.lt a ha).1
    have := h.far
    omega
end
theorem drop_some {P : List ByteArray} {k : Nat} (h : k < P.length) : ∃ z, P[k]? = some z ∧ P.drop k = z :: P.drop (k + 1) := ⟨P[k], by simp [h], List.drop_eq_getElem_cons h⟩

set_option maxHeartbeats 16000000 in
theorem walk (room : Int) (hroom : (Lit.int .i64 room).wf = true) (x : Option Addr × Nat × Nat × (Nat → ByteArray)) (y : Option Addr × Nat × Nat × (Nat → Int)) (w : World) (hx : Opens.IsRows Opens.sl 1 (fun _ => True) w x) (hy : Opens.IsRows Opens.il 1 Opens.IFits w y) :
    Calls Try.prog 4 #[.int .i64 room, .slice x.1 x.2.1 x.2.2.1, .slice y.1 y.2.1 y.2.2.1] w fun r w' => r = .returned (.bool true) ∧ Below w.heap.size w w' := by
  obtain ⟨A, n, cp, f⟩ := x
  obtain ⟨A2, n2, cp2, f2⟩ := y
  obtain ⟨hm, -, hc⟩ := hx
  obtain ⟨hm2, hf2, hc2⟩ := hy
  simp only at hm hc hm2 hf2 hc2 ⊢
  have HF := Lib.hid hf2
  have HC := Lib.hid hc
  have HC2 := Lib.hid hc2
  clear hf2 hc hc2
  go_enter Try.func4, Try.ntmps4
  go_wp2_with fail
  refine (up_ok w).mono ?_
  rintro r w1 ⟨rfl, k1⟩
  have K1 := Lib.hid k1
  clear k1
  go_wp2_with fail
  by_cases hr : room < 1 ∨ 16 < room
  · refine (Tt.new_no room w1 hr).mono ?_
    rintro r w2 ⟨rfl, k2⟩
    have K2 := Lib.hid (after K1.out k2)
    clear k2
    go_wp2
    go_ret
    exact ⟨rfl, K2.out⟩
  refine (Tt.new_ok room w1 (by omega) (by omega)).mono ?_
  rintro r w2 ⟨rfl, b2, k2⟩
  have S2 : Hid (St w w1.heap.size room (.slice none 0 0) (.slice none 0 0) [] [] w2) := Lib.hid ⟨b2, Sl.Own.nil _ _ _, fun a ha => (by simp [Value.ownBlock] at ha), K1.out.size, after K1.out k2⟩
  generalize w1.heap.size = g at *
  have R1 : Hid (1 ≤ room ∧ room ≤ 16) := Lib.hid (by omega)
  clear b2 k2 K1 hr
  by_cases hn : 100 < n
  · have hnz : (100 : Int) < (n : Int) := by omega
    go_wp2
    go_ret
    exact ⟨rfl, S2.out.below⟩
  have hnz : ¬ (100 : Int) < (n : Int) := by omega
  by_cases hn2 : n2 < n
  · have hnz2 : (n2 : Int) < (n : Int) := by omega
    go_wp2
    go_ret
    exact ⟨rfl, S2.out.below⟩
  have hnz2 : ¬ (n2 : Int) < (n : Int) := by omega
  have hle : n ≤ 100 := by omega
  have hnn2 : decide (n2 < n) = false := by simp; omega
  have hnn1 : decide ((100 : Int) < (n : Int)) = false := by simp; omega
  have hle2 : n ≤ n2 := by omega
  clear hn
  go_wp2_with fail
  go_loopw [10, 11, 12] (fun sx sp si wr => ∃ (jx nx : Nat) (P : List ByteArray) (vb vm : Value), jx ≤ n ∧ si = .int .i64 jx ∧ sx = .int .i64 nx ∧ sp = vm ∧ nx ≤ P.length ∧ P.length ≤ jx ∧ Hid (((P.drop nx).length : Int) ≤ room) ∧ Hid (St w g room vb vm (P.drop nx) P wr)) (fun _ _ si _ => n - (intOf si).toNat)
  case atStart => exact ⟨0, 0, [], _, _, by omega, rfl, rfl, rfl, by simp, by simp, Lib.hid (by have := R1.out; simp; omega), S2⟩
  case round =>
    clear S2
    obtain ⟨jx, nx, P, vb, vm, hi, rfl, rfl, rfl, hnP, hPj, hR, T⟩ := hrel
    by_cases hlt : jx < n
    · obtain ⟨lb, lo, rfl, hcell⟩ := HC.out (by omega)
      obtain ⟨mb, mo, rfl, hcell2⟩ := HC2.out (by omega)
      have c0 := hcell jx hlt 0 _ rfl
      have a0 := hcell2 jx (by omega) 0 _ rfl
      simp only [Nat.mul_one, Nat.add_zero] at c0 a0
      have HC0 := Lib.hid c0
      have HA0 := Lib.hid a0
      obtain ⟨s, hs⟩ : ∃ s, s = f jx := ⟨_, rfl⟩
      obtain ⟨a, ha⟩ : ∃ a, a = f2 jx := ⟨_, rfl⟩
      rw [← hs] at HC0
      rw [← ha] at HA0
      have i0 : (jx : Int) < (n : Int) := by omega
      have i1 : (jx : Int) < (n2 : Int) := by omega
      clear c0 a0 hcell hcell2 hs ha
      obtain ⟨bm, -, im⟩ := T.out.own.is
      obtain ⟨AM, cM, rfl⟩ := im.len
      clear im
      go_wp2_with fail
      go_loopw [10, 13] (fun sx sk wr => ∃ (kx nx : Nat) (vb : Value), kx ≤ 20 ∧ sk = .int .i64 kx ∧ sx = .int .i64 nx ∧ nx ≤ P.length ∧ Hid (((P.drop nx).length : Int) ≤ room) ∧ Hid (St w g room vb (.slice AM P.length cM) (P.drop nx) P wr)) (fun _ sk _ => 20 - (intOf sk).toNat)
      case atStart => exact ⟨0, nx, vb, by omega, rfl, rfl, hnP, hR, T⟩
      case round =>
        clear T hnP hR
        obtain ⟨kx, nx, vb, hk, rfl, rfl, hnP, hR, T⟩ := hrel
        have a0 := cell_keep T.out.below HA0.out
        by_cases hgo : (kx : Int) < a ∧ (kx : Int) < 20
        · obtain ⟨g1, g2⟩ := hgo
          go_wp2_with fail
          by_cases hnx : nx < P.length
          · obtain ⟨z, hz, hd⟩ := drop_some hnx
            refine (Tt.take_ok g room false _ z (P.drop (nx + 1)) _ (Lib.hid (by rw [← hd]; exact T.out.box)) (by rw [List.length_drop]; omega)).mono ?_
            rintro e w6 ⟨v6, rfl, b6, m6⟩
            have T6 := Lib.hid (T.out.call b6 m6)
            obtain ⟨bm2, -, im⟩ := T6.out.own.is
            obtain ⟨off, cp3, he, h2, h3, h4, hcell⟩ := im.some_ Tt.ok (by omega)
            obtain ⟨rfl, rfl⟩ : AM = some ⟨bm2, off, none⟩ ∧ cM = cp3 := by simpa using he
            have d0 := hcell nx z hz 0 _ rfl
            simp only [Nat.mul_one, Nat.add_zero] at d0
            have hR2 : Hid (((P.drop (nx + 1)).length : Int) ≤ room) := Lib.hid (by have := hR.out; rw [List.length_drop] at *; omega)
            have q9 : (nx : Int) < (P.length : Int) := by omega
            have hnxz : Hid (nx < P.length) := Lib.hid hnx
            have hPz : Hid (P.length ≤ 100) := Lib.hid (by omega)
            clear b6 m6 T im he hcell h2 h3 h4 hz hd hnx hR
            go_wp2_with fail
            exact ⟨⟨kx + 1, nx + 1, v6, by omega, by go_num, by go_num, by have := hnxz.out; omega, hR2, T6⟩, by simp [intOf]; omega⟩
          · have hd : P.drop nx = [] := by rw [List.drop_eq_nil_iff]; omega
            have q9 : ¬ (nx : Int) < (P.length : Int) := by omega
            refine (Tt.take_none g room false _ _ (Lib.hid (by have := T.out.box; rw [hd] at this; exact this))).mono ?_
            rintro e w6 ⟨rfl, k6⟩
            have T6 := Lib.hid (T.out.next k6)
            clear k6 T hd
            go_wp2_with fail
            exact ⟨⟨kx + 1, nx, vb, by omega, by go_num, rfl, hnP, hR, T6⟩, by simp [intOf]; omega⟩
        · have hstop : ¬ (kx : Int) < a ∨ ¬ (kx : Int) < 20 := by omega
          have c0 := cell_keep T.out.below HC0.out
          clear hgo
          by_cases g1 : (kx : Int) < a
          · have g2 : ¬ (kx : Int) < 20 := by omega
            go_wp2_with fail
            by_cases hfull : ((P.drop nx).length : Int) < room
            · refine (Tt.put_ok g room _ (P.drop nx) s _ (Lib.hid T.out.box) hfull R1.out.2).mono ?_
              rintro e w6 ⟨v6, rfl, b6, m6⟩
              have T6 := Lib.hid (T.out.call b6 m6)
              have c0 := cell_keep T6.out.below HC0.out
              have hq : P.drop nx ++ [s] = (P ++ [s]).drop nx := by rw [List.drop_append_of_le_length hnP]
              rw [hq] at T6
              have hR8 : Hid ((((P ++ [s]).drop nx).length : Int) ≤ room) := Lib.hid (by rw [← hq, List.length_append]; simp only [List.length_singleton]; omega)
              have hj8 : Hid ((P ++ [s]).length ≤ jx + 1) := Lib.hid (by simp; omega)
              have hn8 : Hid (nx ≤ (P ++ [s]).length) := Lib.hid (by simp; omega)
              have hPz : Hid (P.length ≤ 100) := Lib.hid (by omega)
              clear b6 m6 T hq hfull hR
              go_wp2_with (at_builtin
                           refine wpList_plain rfl fun K' hK' => Sl.wp_append Tt.ok (.tmp 93) (.tmp 98) rfl (base := g + 1) (l := P) (l2 := [s]) (by exact T6.out.own.next (below1 _ _)) (by exact Sl.Is.one Tt.ok (x := s) (Lies.new _ _ _)) (by have := hPz.out; simp; omega) (by have := T6.out.box.lies.lt; simp; omega) (fun u w8 x1 x2 x3 => hK' _ _ ?_)
                           have T8 := Lib.hid ((T6.out.next (below1 w6 (Obj.cells #[.string s] 9))).app x1 x2 x3)
                           obtain ⟨b9, -, i9⟩ := (T8.out.own).is
                           obtain ⟨A9, c9, rfl⟩ := i9.len
                           clear i9 x1 x2 x3 T6
                           generalize P ++ [s] = P8 at *)
              obtain ⟨q, hq⟩ : ∃ q, q = (P8.drop nx).length := ⟨_, rfl⟩
              have LC0 := Tt.len_ok g room false _ (P8.drop nx) _ (Lib.hid T8.out.box)
              rw [← hq] at LC0
              have LC := Lib.hid LC0
              clear LC0
              have q1 : ¬ room < (q : Int) := by have := hR8.out; omega
              have q3 : (q : Int) ≤ 16 := by have := R1.out; omega
              have q2 : ((P8.length : Nat) : Int) - nx = q := by rw [hq, List.length_drop]; have := hn8.out; omega
              clear hq
              refine LC.out.mono ?_
              rintro r w9 ⟨rfl, rfl⟩
              go_wp2_with fail
              refine LC.out.mono ?_
              rintro r w9 ⟨rfl, rfl⟩
              clear LC
              go_wp2_with fail
              exact ⟨⟨jx + 1, nx, P8, _, _, by omega, by go_num, rfl, rfl, hn8.out, hj8.out, hR8, T8⟩, by simp [intOf]; omega⟩
            · refine (Tt.put_full g room _ (P.drop nx) s _ (Lib.hid T.out.box) (by omega)).mono ?_
              rintro e w6 ⟨rfl, k6⟩
              have T6 := Lib.hid (T.out.next k6)
              have hR8 := hR
              have hn8 : Hid (nx ≤ P.length) := Lib.hid hnP
              have hj8 : Hid (P.length ≤ jx + 1) := Lib.hid (by omega)
              clear T k6 hfull hR
              go_wp2_with fail
              obtain ⟨q, hq⟩ : ∃ q, q = (P.drop nx).length := ⟨_, rfl⟩
              have LC0 := Tt.len_ok g room false _ (P.drop nx) _ (Lib.hid T6.out.box)
              rw [← hq] at LC0
              have LC := Lib.hid LC0
              clear LC0
              have q1 : ¬ room < (q : Int) := by have := hR8.out; omega
              have q3 : (q : Int) ≤ 16 := by have := R1.out; omega
              have q2 : ((P.length : Nat) : Int) - nx = q := by rw [hq, List.length_drop]; have := hn8.out; omega
              clear hq
              refine LC.out.mono ?_
              rintro r w9 ⟨rfl, rfl⟩
              go_wp2_with fail
              refine LC.out.mono ?_
              rintro r w9 ⟨rfl, rfl⟩
              clear LC
              go_wp2_with fail
              exact ⟨⟨jx + 1, nx, P, _, _, by omega, by go_num, rfl, rfl, hn8.out, hj8.out, hR8, T6⟩, by simp [intOf]; omega⟩
          · go_wp2_with fail
            by_cases hfull : ((P.drop nx).length : Int) < room
            · refine (Tt.put_ok g room _ (P.drop nx) s _ (Lib.hid T.out.box) hfull R1.out.2).mono ?_
              rintro e w6 ⟨v6, rfl, b6, m6⟩
              have T6 := Lib.hid (T.out.call b6 m6)
              have c0 := cell_keep T6.out.below HC0.out
              have hq : P.drop nx ++ [s] = (P ++ [s]).drop nx := by rw [List.drop_append_of_le_length hnP]
              rw [hq] at T6
              have hR8 : Hid ((((P ++ [s]).drop nx).length : Int) ≤ room) := Lib.hid (by rw [← hq, List.length_append]; simp only [List.length_singleton]; omega)
              have hj8 : Hid ((P ++ [s]).length ≤ jx + 1) := Lib.hid (by simp; omega)
              have hn8 : Hid (nx ≤ (P ++ [s]).length) := Lib.hid (by simp; omega)
              have hPz : Hid (P.length ≤ 100) := Lib.hid (by omega)
              clear b6 m6 T hq hfull hR
              go_wp2_with (at_builtin
                           refine wpList_plain rfl fun K' hK' => Sl.wp_append Tt.ok (.tmp 93) (.tmp 98) rfl (base := g + 1) (l := P) (l2 := [s]) (by exact T6.out.own.next (below1 _ _)) (by exact Sl.Is.one Tt.ok (x := s) (Lies.new _ _ _)) (by have := hPz.out; simp; omega) (by have := T6.out.box.lies.lt; simp; omega) (fun u w8 x1 x2 x3 => hK' _ _ ?_)
                           have T8 := Lib.hid ((T6.out.next (below1 w6 (Obj.cells #[.string s] 9))).app x1 x2 x3)
                           obtain ⟨b9, -, i9⟩ := (T8.out.own).is
                           obtain ⟨A9, c9, rfl⟩ := i9.len
                           clear i9 x1 x2 x3 T6
                           generalize P ++ [s] = P8 at *)
              obtain ⟨q, hq⟩ : ∃ q, q = (P8.drop nx).length := ⟨_, rfl⟩
              have LC0 := Tt.len_ok g room false _ (P8.drop nx) _ (Lib.hid T8.out.box)
              rw [← hq] at LC0
              have LC := Lib.hid LC0
              clear LC0
              have q1 : ¬ room < (q : Int) := by have := hR8.out; omega
              have q3 : (q : Int) ≤ 16 := by have := R1.out; omega
              have q2 : ((P8.length : Nat) : Int) - nx = q := by rw [hq, List.length_drop]; have := hn8.out; omega
              clear hq
              refine LC.out.mono ?_
              rintro r w9 ⟨rfl, rfl⟩
              go_wp2_with fail
              refine LC.out.mono ?_
              rintro r w9 ⟨rfl, rfl⟩
              clear LC
              go_wp2_with fail
              exact ⟨⟨jx + 1, nx, P8, _, _, by omega, by go_num, rfl, rfl, hn8.out, hj8.out, hR8, T8⟩, by simp [intOf]; omega⟩
            · refine (Tt.put_full g room _ (P.drop nx) s _ (Lib.hid T.out.box) (by omega)).mono ?_
              rintro e w6 ⟨rfl, k6⟩
              have T6 := Lib.hid (T.out.next k6)
              have hR8 := hR
              have hn8 : Hid (nx ≤ P.length) := Lib.hid hnP
              have hj8 : Hid (P.length ≤ jx + 1) := Lib.hid (by omega)
              clear T k6 hfull hR
              go_wp2_with fail
              obtain ⟨q, hq⟩ : ∃ q, q = (P.drop nx).length := ⟨_, rfl⟩
              have LC0 := Tt.len_ok g room false _ (P.drop nx) _ (Lib.hid T6.out.box)
              rw [← hq] at LC0
              have LC := Lib.hid LC0
              clear LC0
              have q1 : ¬ room < (q : Int) := by have := hR8.out; omega
              have q3 : (q : Int) ≤ 16 := by have := R1.out; omega
              have q2 : ((P.length : Nat) : Int) - nx = q := by rw [hq, List.length_drop]; have := hn8.out; omega
              clear hq
              refine LC.out.mono ?_
              rintro r w9 ⟨rfl, rfl⟩
              go_wp2_with fail
              refine LC.out.mono ?_
              rintro r w9 ⟨rfl, rfl⟩
              clear LC
              go_wp2_with fail
              exact ⟨⟨jx + 1, nx, P, _, _, by omega, by go_num, rfl, rfl, hn8.out, hj8.out, hR8, T6⟩, by simp [intOf]; omega⟩
    · obtain rfl : jx = n := by omega
      have KB := Lib.hid T.out.below
      go_wp2
      go_ret
      exact ⟨rfl, KB.out⟩

theorem own : ownKnob Try.prog.godebug = none := by kernel_rfl

set_option maxRecDepth 100000 in
theorem lifted (os : Os) (started : os.Started) (H : Type) (enc : TypeId × Value → H) :
    ReturnsInHanded {} Try.checked os 4 .any (Rows.boxKeepsSpec.pre6 enc Try.prog Try.f4 Rows.boxKeepsRow.domain false) (Rows.boxKeepsSpec.post enc Try.prog Try.f4 false true false false) := by
  refine returnsInHanded_of_change (C := Try.checked) own started (by kernel_rfl) Try.func4
    (ChangeSpec.witness6 (enc := enc) (C := Try.checked) false ⟨#[], #[.int .i64 0, .slice none 0 0, .slice none 0 0], []⟩ 8 (by kernel_rfl) (by kernel_rfl) (by kernel_rfl) (by kernel_rfl)) ?_
  intro W base args ds gs before hval0 hW hcnd _
  have hval : ∀ (j : Nat) t v, Try.f4.params[j]? = some t → args[j]? = some v → Value.okWide Try.prog W .any base t v := hval0
  have hW' := hW
  obtain ⟨p, q, hA0, hV, rfl, hfz, hnd⟩ := hW
  have hA : DataW.TrodAll enc Try.prog W 0 (fun _ => true) true Try.f4.params.toList args.toList ds p := hA0
  rw [Try.params4] at hA hval
  obtain ⟨v0, vs0, d0, ds0, p0, q0, hargs, rfl, rfl, h0, r0⟩ := trodAll_cons hA
  obtain ⟨v1, vs1, d1, ds1, p1, q1, rfl, rfl, rfl, h1, r1⟩ := trodAll_cons r0
  obtain ⟨v2, vs2, d2, ds2, p2, q2, rfl, rfl, rfl, h2, r2⟩ := trodAll_cons r1
  obtain ⟨rfl, rfl, rfl⟩ := trodAll_nil r2
  obtain rfl : args = #[v0, v1, v2] := by cases args; simp_all
  obtain ⟨rfl, rfl⟩ := trodVars_none hV
  obtain ⟨a0, rfl, rfl, rfl, w0⟩ := open_int Try.underlying3 (hval 0 3 v0 rfl rfl) h0
  obtain ⟨a1, rfl, w1⟩ := Opens.open_strs (hval 1 40 v1 rfl rfl) h1
  obtain ⟨a2, rfl, w2⟩ := Opens.open_nums (hval 2 30 v2 rfl rfl) h2
  clear hA0 hval0
  refine (walk a0 w0 a1 a2 W w1 w2).mono fun e W' ⟨he, hg⟩ => ?_
  subst he
  exact ⟨_, rfl, Laid.post Laid.laidOut (by kernel_rfl) rfl (by kernel_rfl) Try.underlying4 hW' ⟨rfl, rfl, rfl⟩ hg⟩

theorem over : Rows.boxKeepsRow.holds Try.pinned (OpenSpec.ofChange Rows.boxKeepsSpec) :=
  OpenClaim.holds_of_wide 4 Try.f4 rfl rfl rfl rfl rfl rfl rfl ⟨rfl, rfl, rfl, rfl, rfl⟩ rfl rfl rfl rfl rfl (by kernel_rfl) Try.func4 (by kernel_rfl)
    (of_decide_eq_true (by kernel_rfl)) (by unfold Func.isWrapper; first | (rw [if_pos (by decide +kernel)]; kernel_rfl) | (rw [if_neg (by decide +kernel)]; exact ⟨rfl, rfl⟩))
    (fun os started H enc _ => lifted os started H enc)

/-- ████ THE STATEMENT ████ -/
theorem proved : Rows.BoxKeepsSaid :=
  over
#print axioms proved
end Go.Proofs.Ytijoloeemomjbaa.boxKeeps
