/-
  A row of panes that is being sorted, and the contract of slices.swapRangeCmpFunc: two parts of it, of one length, change places.
-/
import Derived.Test.YtomdgeenmmgmaaaSrtMath
import Derived.Test.YtomdgeenmmgmaaaLists
import Derived.ChangeAt
import Derived.Shelf.SlSortCmp.Insertion1
import Derived.Deep.LoopGhost
namespace Go.Proofs.Ytomdgeenmmgmaaa
open Go.ChangeShapes Go.WideShapes Go.ChangeAt Go.RowKit Go.Sort Go.Lib Go.Shelf
namespace Si
open Srt
set_option linter.unusedVariables false

/-- what is asked of a program that has the sort's functions: they are walked in whatever program, so that the size of an element is a letter -/
structure SP (P : Program) : Prop where
  mixed : P.follows .mixedOrders = true
  fSwap : P.funcs[28]? = some Try.f28
  eSwap : ∀ args w, (callFunc 28 args).run P w = .ok (.enter 28 args) w
  fRot : P.funcs[27]? = some Try.f27
  eRot : ∀ args w, (callFunc 27 args).run P w = .ok (.enter 27 args) w
  fSym : P.funcs[26]? = some Try.f26
  eSym : ∀ args w, (callFunc 26 args).run P w = .ok (.enter 26 args) w
  fIns : P.funcs[25]? = some Try.f25
  eIns : ∀ args w, (callFunc 25 args).run P w = .ok (.enter 25 args) w
  fStab : P.funcs[23]? = some Try.f23
  eStab : ∀ args w, (callFunc 23 args).run P w = .ok (.enter 23 args) w
  t0 : P.underlying 0 = some (TypeDesc.tuple #[])
  a0 : ∀ w, (isAgg 0).run P w = .ok false w
  z0 : ∀ w, (Go.sizeOf 0).run P w = .ok 1 w
  v0 : ∀ w, (zeroValue 0).run P w = .ok (Value.tuple #[]) w
  t3 : P.underlying 3 = some (TypeDesc.int IntKind.i64)
  a3 : ∀ w, (isAgg 3).run P w = .ok false w
  z3 : ∀ w, (Go.sizeOf 3).run P w = .ok 1 w
  v3 : ∀ w, (zeroValue 3).run P w = .ok (Value.int IntKind.i64 0) w
  t4 : P.underlying 4 = some (TypeDesc.bool)
  a4 : ∀ w, (isAgg 4).run P w = .ok false w
  z4 : ∀ w, (Go.sizeOf 4).run P w = .ok 1 w
  v4 : ∀ w, (zeroValue 4).run P w = .ok (Value.bool false) w
  t26 : P.underlying 25 = some (TypeDesc.slice 3)
  a26 : ∀ w, (isAgg 25).run P w = .ok false w
  z26 : ∀ w, (Go.sizeOf 25).run P w = .ok 1 w
  v26 : ∀ w, (zeroValue 25).run P w = .ok (Value.slice none 0 0) w
  t51 : P.underlying 38 = some (TypeDesc.func #[3, 3] #[3] false)
  a51 : ∀ w, (isAgg 38).run P w = .ok false w
  z51 : ∀ w, (Go.sizeOf 38).run P w = .ok 1 w
  v51 : ∀ w, (zeroValue 38).run P w = .ok (Value.nilFunc) w
  t62 : P.underlying 46 = some (TypeDesc.int IntKind.u64)
  a62 : ∀ w, (isAgg 46).run P w = .ok false w
  z62 : ∀ w, (Go.sizeOf 46).run P w = .ok 1 w
  v62 : ∀ w, (zeroValue 46).run P w = .ok (Value.int IntKind.u64 0) w
theorem sp : SP Try.prog where
  mixed := by kernel_rfl
  fSwap := Try.func28
  eSwap := fun args w => by kernel_rfl
  fRot := Try.func27
  eRot := fun args w => by kernel_rfl
  fSym := Try.func26
  eSym := fun args w => by kernel_rfl
  fIns := Try.func25
  eIns := fun args w => by kernel_rfl
  fStab := Try.func23
  eStab := fun args w => by kernel_rfl
  t0 := Try.underlying0
  a0 := Try.isAgg0
  z0 := Try.sizeOf0
  v0 := Try.zeroValue0
  t3 := Try.underlying3
  a3 := Try.isAgg3
  z3 := Try.sizeOf3
  v3 := Try.zeroValue3
  t4 := Try.underlying4
  a4 := Try.isAgg4
  z4 := Try.sizeOf4
  v4 := Try.zeroValue4
  t26 := Try.underlying25
  a26 := Try.isAgg25
  z26 := Try.sizeOf25
  v26 := Try.zeroValue25
  t51 := Try.underlying38
  a51 := Try.isAgg38
  z51 := Try.sizeOf38
  v51 := Try.zeroValue38
  t62 := Try.underlying46
  a62 := Try.isAgg46
  z62 := Try.sizeOf46
  v62 := Try.zeroValue46

variable {P : Program} {α : Type} [Inhabited α] {enc : α → Value}
/-- the row at b, off, of the world w0, is l in w; else w0 has gone on by draws and new blocks alone -/
def Rw (enc : α → Value) (w0 : World) (b off : Nat) (l : List α) (w : World) : Prop := SW enc w0 b off l.toArray w
/-- what is told of it, once -/
structure Rk (enc : α → Value) (w0 : World) (b off N : Nat) : Prop where
  row : ∃ d0 : Array α, d0.size = N ∧ Row1 enc w0 b off d0
/-- what is asked of the function that compares, wherever the row stands -/
def Cmps (P : Program) (g : Nat) (cb : Array Value) (enc : α → Value) (cf : α → α → Int) (w0 : World) (b off N : Nat) : Prop := CmpLays1 P g cb enc cf b off N w0
theorem Rk.cells {w0 : World} {b off N : Nat} (R : Rk enc w0 b off N) : ∀ x, (enc x).cells = #[enc x] := by
  obtain ⟨d0, h0, R0⟩ := R.row
  exact R0.hO.cells
theorem Rk.hO {w0 : World} {b off N : Nat} (R : Rk enc w0 b off N) : OneCell enc := by
  obtain ⟨d0, h0, R0⟩ := R.row
  exact R0.hO
theorem Rw.cl {w0 w : World} {b off N : Nat} {l : List α} (h : Rw enc w0 b off l w) (R : Rk enc w0 b off N) (hN : l.length = N) {U V : List α} {x : α} (e : l = U ++ x :: V) (i : Nat) (hi : i = U.length) (n : Nat) (os : Array Obj) :
    (grow (w.drewN n) os).cell? ⟨b, off + i, none⟩ = some (enc x) := by
  obtain ⟨d0, h0, R0⟩ := R.row
  have := SW.cl h R0 (by simp [hN, h0]) i (by subst e hi; simp) n os
  rw [at_of l U V x i e hi] at this
  exact this
theorem Rw.c1 {w0 w : World} {b off N : Nat} {l : List α} (h : Rw enc w0 b off l w) (R : Rk enc w0 b off N) (hN : l.length = N) {U V : List α} {x : α} (e : l = U ++ x :: V) (i : Nat) (hi : i = U.length) :
    w.cell? ⟨b, off + i, none⟩ = some (enc x) ∧ w.frozen? ⟨b, off + i, none⟩ = false := by
  obtain ⟨d0, h0, R0⟩ := R.row
  have := SW.c1 h R0 (by simp [hN, h0]) i (by subst e hi; simp)
  rw [at_of l U V x i e hi] at this
  exact ⟨this, SW.f1 h R0 (by simp [hN, h0]) i (by subst e hi; simp)⟩
theorem Rw.c2 {w0 w : World} {b off N : Nat} {l : List α} (h : Rw enc w0 b off l w) (R : Rk enc w0 b off N) (hN : l.length = N) (i j : Nat) (hi : i < N) (hj : j < N) (v : Value) :
    ∃ u, (w.setCell ⟨b, off + i, none⟩ v).cell? ⟨b, off + j, none⟩ = some u := by
  obtain ⟨d0, h0, R0⟩ := R.row
  exact SW.c2 h R0 (by simp [hN, h0]) i j (by simp; omega) (by simp; omega) v
theorem Rw.cmp {w0 w : World} {b off N : Nat} {l : List α} {g : Nat} {cb : Array Value} {cf : α → α → Int} (h : Rw enc w0 b off l w) (hC : Cmps P g cb enc cf w0 b off N) (hN : l.length = N) (x y : α) (n : Nat) (os : Array Obj) :
    Calls P g (#[enc x, enc y] ++ cb) (grow (w.drewN n) os) fun e w' => e = .returned (.int .i64 (cf x y)) ∧ ∃ q os', w' = grow ((grow (w.drewN n) os).drewN q) os' :=
  SW.cmp h hC (by simp [hN]) x y n os
theorem Rw.swapped {w0 w : World} {b off N : Nat} {l l' : List α} (h : Rw enc w0 b off l w) (R : Rk enc w0 b off N) (i j : Nat) (x y : α) (hx : l.toArray[i]! = x) (hy : l.toArray[j]! = y) (hi : i < l.length) (hj : j < l.length) (hl : swp l.toArray i j = l'.toArray) :
    Rw enc w0 b off l' ((w.setCell ⟨b, off + i, none⟩ (enc y)).setCell ⟨b, off + j, none⟩ (enc x)).drew := by
  obtain ⟨d0, h0, R0⟩ := R.row
  have := SW.swapped h R0 i j (by simpa using hi) (by simpa using hj)
  rw [hx, hy, hl] at this
  exact this
theorem Rw.grown {w0 w : World} {b off : Nat} {l : List α} (h : Rw enc w0 b off l w) (n : Nat) (os : Array Obj) : Rw enc w0 b off l (grow (w.drewN n) os) := SW.grown h n os

set_option maxHeartbeats 4000000 in
set_option maxRecDepth 1000000 in
theorem swapRange_ok (L : SP P) {w0 w : World} {b off N cap : Nat} (R : Rk enc w0 b off N) (fv : Value) (hsz : N < 4611686018427387904) (C A M B Q : List α) (hAB : B.length = A.length) (hN : (C ++ (A ++ (M ++ (B ++ Q)))).length = N)
    (p q n : Nat) (hp : p = C.length) (hq : q = p + A.length + M.length) (hn : n = A.length) (S : Rw enc w0 b off (C ++ (A ++ (M ++ (B ++ Q)))) w) :
    Calls P 28 #[.slice (some ⟨b, off, none⟩) N cap, .int .i64 p, .int .i64 q, .int .i64 n, fv] w fun e w' =>
      e = .returned (.tuple #[]) ∧ Rw enc w0 b off (C ++ (B ++ (M ++ (A ++ Q)))) w' := by
  have mixed := L.mixed; have t0 := L.t0; have a0 := L.a0; have z0 := L.z0; have v0 := L.v0; have t3 := L.t3; have a3 := L.a3; have z3 := L.z3; have v3 := L.v3; have t4 := L.t4; have a4 := L.a4; have z4 := L.z4; have v4 := L.v4; have t26 := L.t26; have a26 := L.a26; have z26 := L.z26; have v26 := L.v26; have u26 := run_underlying L.t26; have FG := L.fSwap
  have hcl0 := R.cells
  simp only [Value.cells] at hcl0
  have hst := R.hO.store P
  have S0 : Aside _ := S
  have HR : Hid (Rk enc w0 b off N) := R
  have HN : Hid (C.length + A.length + M.length + B.length + Q.length = N) := Lib.hid (by simp at hN; omega)
  have HP : Hid (p = C.length ∧ q = p + A.length + M.length ∧ n = A.length) := ⟨hp, hq, hn⟩
  have HAB : Hid (B.length = A.length) := hAB
  clear S hN R hp hq hn hAB
  clear L
  go_enter FG, Try.ntmps28
  go_wp2
  go_loopg [10] n (fun g s10 wr => ∃ (i : Nat) (A1 A2 B1 B2 : List α), s10 = .int .i64 i ∧ Hid (A = A1 ++ A2 ∧ B = B1 ++ B2) ∧ A1.length = i ∧ B1.length = i ∧ i ≤ n ∧ n - i ≤ g ∧ Aside (Rw enc w0 b off (C ++ (B1 ++ (A2 ++ (M ++ (A1 ++ (B2 ++ Q)))))) wr))
  case atStart => exact ⟨0, [], A, [], B, rfl, ⟨rfl, rfl⟩, rfl, rfl, Nat.zero_le _, Nat.le_refl _, S0⟩
  case round =>
    obtain ⟨i, A1, A2, B1, B2, rfl, HE, h1, h2, hin, hg, S1⟩ := hrel
    clear S0
    have l1 := congrArg List.length HE.out.1
    have l2 := congrArg List.length HE.out.2
    simp only [List.length_append] at l1 l2
    have hN := HN.out
    obtain ⟨hp, hq, hn⟩ := HP.out
    have hAB := HAB.out
    by_cases hlt : i < n
    · have hltz : (i : Int) < (n : Int) := by omega
      obtain ⟨x, A3, rfl⟩ : ∃ x A3, A2 = x :: A3 := by
        cases A2 with
        | nil => simp at l1; omega
        | cons x A3 => exact ⟨x, A3, rfl⟩
      obtain ⟨y, B3, rfl⟩ : ∃ y B3, B2 = y :: B3 := by
        cases B2 with
        | nil => simp at l2; omega
        | cons x A3 => exact ⟨x, A3, rfl⟩
      simp only [List.length_cons] at l1 l2
      have e1 : C ++ (B1 ++ (x :: A3 ++ (M ++ (A1 ++ (y :: B3 ++ Q))))) = (C ++ B1) ++ x :: ((A3 ++ M ++ A1) ++ y :: (B3 ++ Q)) := by simp
      have e2 : C ++ (B1 ++ (x :: A3 ++ (M ++ (A1 ++ (y :: B3 ++ Q))))) = (C ++ B1 ++ x :: (A3 ++ M ++ A1)) ++ y :: (B3 ++ Q) := by simp
      have i1 : p + i = (C ++ B1).length := by simp; omega
      have i2 : q + i = (C ++ B1 ++ x :: (A3 ++ M ++ A1)).length := by simp; omega
      have i3 : q + i = (C ++ B1).length + 1 + (A3 ++ M ++ A1).length := by simp; omega
      have ll : (C ++ (B1 ++ (x :: A3 ++ (M ++ (A1 ++ (y :: B3 ++ Q)))))).length = N := by simp; omega
      obtain ⟨s1, hs1⟩ : ∃ s1, s1 = p + i := ⟨_, rfl⟩
      obtain ⟨s2, hs2⟩ : ∃ s2, s2 = q + i := ⟨_, rfl⟩
      have S2 : Aside (Rw enc w0 b off (C ++ ((B1 ++ [y]) ++ (A3 ++ (M ++ ((A1 ++ [x]) ++ (B3 ++ Q)))))) ((wr.setCell ⟨b, off + s1, none⟩ (enc y)).setCell ⟨b, off + s2, none⟩ (enc x)).drew) :=
        S1.out.swapped HR.out s1 s2 x y (at_of _ _ _ x _ e1 (hs1.trans i1)) (at_of _ _ _ y _ e2 (hs2.trans i2)) (by rw [ll]; omega) (by rw [ll]; omega) (by rw [e1, swp_mid _ _ _ x y _ _ (hs1.trans i1) (hs2.trans i3)]; simp)
      obtain ⟨la, fa⟩ := S1.out.c1 HR.out ll e1 s1 (hs1.trans i1)
      obtain ⟨lb, fb⟩ := S1.out.c1 HR.out ll e2 s2 (hs2.trans i2)
      obtain ⟨u, lc⟩ := S1.out.c2 HR.out ll s1 s2 (by omega) (by omega) (enc y)
      have HE2 : Hid (A = (A1 ++ [x]) ++ A3 ∧ B = (B1 ++ [y]) ++ B3) := Lib.hid (by simpa using HE.out)
      clear e1 e2 i1 i2 i3 ll HE S1
      have ea : ((p : Int) + (i : Int)).toNat = s1 := by omega
      have pa : (0 : Int) ≤ (p : Int) + (i : Int) := by omega
      have ba : (p : Int) + (i : Int) < (N : Int) := by omega
      have ra : IntKind.i64.wrap ((p : Int) + (i : Int)) = (p : Int) + (i : Int) := by rw [IntKind.wrap_i64]; omega
      have eb : ((q : Int) + (i : Int)).toNat = s2 := by omega
      have pb : (0 : Int) ≤ (q : Int) + (i : Int) := by omega
      have bb : (q : Int) + (i : Int) < (N : Int) := by omega
      have rb : IntKind.i64.wrap ((q : Int) + (i : Int)) = (q : Int) + (i : Int) := by rw [IntKind.wrap_i64]; omega
      have LL : Hid ((A1 ++ [x]).length = i + 1 ∧ (B1 ++ [y]).length = i + 1) := Lib.hid (by simp; omega)
      clear l1 l2 hN hp hq hn hAB h1 h2 hs1 hs2
      go_wp2_with fail
      go_big_region_o
      clear la lb lc fa fb ea eb
      generalize ((wr.setCell ⟨b, off + s1, none⟩ (enc y)).setCell ⟨b, off + s2, none⟩ (enc x)).drew = w4 at S2 ⊢
      go_wp2
      go_roundg (n - (i + 1))
      case measure => omega
      case rel => exact ⟨i + 1, A1 ++ [x], A3, B1 ++ [y], B3, by go_num, HE2, LL.out.1, LL.out.2, by omega, Nat.le_refl _, S2⟩
    · have hltz : ¬ (i : Int) < (n : Int) := by omega
      have hA : A2 = [] := List.length_eq_zero_iff.1 (by omega)
      have hB : B2 = [] := List.length_eq_zero_iff.1 (by omega)
      subst hA hB
      simp only [List.append_nil, List.nil_append] at S1 HE
      have HE1 := HE.out
      have S2 : Aside (Rw enc w0 b off (C ++ (B ++ (M ++ (A ++ Q)))) wr) := by rw [HE1.1, HE1.2]; exact S1
      clear S1 HE HE1 l1 l2 hN hp hq hn hAB h1 h2
      go_wp2
      go_end0
      exact ⟨rfl, S2.out⟩
end Si
end Go.Proofs.Ytomdgeenmmgmaaa
