/-
  Lists of numbers, and of texts; slices.Delete(list, 0, 1): the first one is gone, the others lie where they are read.
-/
import Derived.Shelf.SlicesE.Delete
import Derived.Test.YtijoloeemomjbaaLists
namespace Go.Proofs.Ytijoloeemomjbaa
open Go.ChangeShapes Go.WideShapes Go.ChangeAt Go.RowKit Go.Shelf Go.Sort Small
set_option linter.unusedVariables false

namespace Nu
abbrev k : Kind Int := ⟨30, 3, 1, 8, .int .i64 0, fun x => [.int .i64 x]⟩
theorem ok : k.Ok where
  under := Try.underlying30
  elem := by kernel_rfl
  info := by kernel_rfl
  zs := rfl
  pos := by decide
  len := fun _ => rfl
  one := by
    intro x u hu
    simp at hu
    subst hu
    rfl
  small := by decide
theorem flat_map (l : List Int) : Sl.flat k l = l.map (Value.int .i64) := by
  simp [Sl.flat, List.flatMap_def]
  induction l with
  | nil => rfl
  | cons x l ih => simp [ih]

def ren : Go.Shelf.Ren := ⟨fun | 45 => 18 | n => n, fun | 0 => 0 | 3 => 3 | 4 => 4 | 22 => 30 | 23 => 3 | n => n, fun n => n⟩
theorem lays : SlLaysE.n45 Try.prog ren where
  mixed := by kernel_rfl
  f45 := ⟨Try.f18.name, by decide, Try.func18.trans (congrArg some (by kernel_rfl))⟩
  t0 := Try.underlying0
  a0 := Try.isAgg0
  z0 := Try.sizeOf0
  v0 := Try.zeroValue0
  t3 := Try.underlying3
  a3 := Try.isAgg3
  z3 := Try.sizeOf3
  v3 := Try.zeroValue3
  t4 := Try.underlying4
  a4 := Try.isAgg4
  z4 := Try.sizeOf4
  v4 := Try.zeroValue4
  t22 := Try.underlying30
  a22 := Try.isAgg30
  z22 := Try.sizeOf30
  v22 := Try.zeroValue30
  a23 := Try.isAgg3
  z23 := Try.sizeOf3

theorem del_ok (v : Value) (x : Int) (L : List Int) (base : Nat) (w : World) (H : Sl.Own k base w v (x :: L)) (hn : L.length ≤ 1000) :
    Calls Try.prog 18 #[v, .int .i64 0, .int .i64 1] w fun r w' => ∃ A c, r = .returned (.slice A L.length c) ∧ Sl.Own k base w' (.slice A L.length c) L ∧ w.grownBy w' v.ownBlock ∧ (Value.slice A L.length c).ownBlock = v.ownBlock := by
  rcases H.2 with ⟨_, h0⟩ | ⟨g, cap, cur, rfl, hbase, hb, h1, h2, h3, h4⟩
  · simp at h0
  have hcur : cur.toList.take (L.length + 1) = (x :: L).map (Value.int .i64) := by
    rw [← flat_map]
    simpa using h4
  have hsz : (x :: L).length ≤ cur.size := by rw [h3]; simpa using h1
  have hH : Holds (Value.int .i64) w g 0 (x :: L).toArray := by
    intro j hj
    have hj' : j < L.length + 1 := by simpa using hj
    refine ⟨?_, by simp [World.frozen?, hb]⟩
    have e1 : (cur.toList.take (L.length + 1))[j]? = ((x :: L).map (Value.int .i64))[j]? := by rw [hcur]
    rw [List.getElem?_take_of_lt hj'] at e1
    simp only [World.cell?, hb, Nat.zero_add]
    simp only [Option.isSome_none, Bool.false_eq_true, if_false]
    rw [← Array.getElem?_toList, e1, List.getElem?_map, List.getElem?_eq_getElem (by simpa using hj'), getElem!_pos (x :: L).toArray j hj]
    simp
  obtain ⟨i0, hi, hz0, hz1, hz2⟩ := info_parts ok.info
  have h := AnyE.slices_Delete lays (Value.int .i64) (fun _ => rfl) 0 Try.zeroValue3 i0 hi hz1 g 0 cap 0 1 (x :: L).toArray w hH (by simpa using h1) (by unfold maxLen at h2; omega) (by omega) (by simp)
  have e45 : ren.f 45 = 18 := rfl
  rw [e45] at h
  refine Calls.mono (by simpa using h) ?_
  rintro r w' ⟨rfl, q, rfl⟩
  have hblock : (putRow (Value.int .i64) (Sort.ahead w q) g 0 (L ++ [0]).toArray).heap[g]? = some (.cells (putCells (Value.int .i64) 0 (L ++ [0]).toArray cur) 3 (0, 0)) := by
    simp [putRow, mapBlock, Sort.ahead, Array.getElem?_modify, hb, onCells]
  refine ⟨some ⟨g, 0, none⟩, cap, rfl, ⟨?_, .inr ⟨g, cap, _, rfl, hbase, by simpa using hblock, by simp at h1; omega, h2, by simp [putCells, h3], ?_⟩⟩, ⟨rfl, rfl, rfl, by simp, fun i hi hne => ?_⟩, rfl⟩
  · rw [Sl.flat_len ok]
  · rw [flat_map, Nat.mul_one]
    apply List.ext_getElem?
    intro j
    by_cases hj : j < L.length
    · rw [List.getElem?_take_of_lt hj, Array.getElem?_toList]
      have : j < cur.size := by simp at hsz; omega
      simp [putCells, hj, this, show j < L.length + 1 by omega, List.getElem?_append]
    · rw [List.getElem?_take_eq_none (by omega), List.getElem?_eq_none (by simp; omega)]
  · have : g ≠ i := fun e => hne (by rw [e]; rfl)
    simp [putRow, mapBlock, Sort.ahead, Array.getElem?_modify, this]
end Nu

namespace Tt
abbrev k : Kind ByteArray := ⟨40, 9, 1, 16, .string ⟨#[]⟩, fun x => [.string x]⟩
theorem ok : k.Ok where
  under := Try.underlying40
  elem := by kernel_rfl
  info := by kernel_rfl
  zs := rfl
  pos := by decide
  len := fun _ => rfl
  one := by
    intro x u hu
    simp at hu
    subst hu
    rfl
  small := by decide
theorem flat_map (l : List ByteArray) : Sl.flat k l = l.map Value.string := by
  simp [Sl.flat, List.flatMap_def]
  induction l with
  | nil => rfl
  | cons x l ih => simp [ih]

def ren : Go.Shelf.Ren := ⟨fun | 45 => 19 | n => n, fun | 0 => 0 | 3 => 3 | 4 => 4 | 22 => 40 | 23 => 9 | n => n, fun n => n⟩
theorem lays : SlLaysE.n45 Try.prog ren where
  mixed := by kernel_rfl
  f45 := ⟨Try.f19.name, by decide, Try.func19.trans (congrArg some (by kernel_rfl))⟩
  t0 := Try.underlying0
  a0 := Try.isAgg0
  z0 := Try.sizeOf0
  v0 := Try.zeroValue0
  t3 := Try.underlying3
  a3 := Try.isAgg3
  z3 := Try.sizeOf3
  v3 := Try.zeroValue3
  t4 := Try.underlying4
  a4 := Try.isAgg4
  z4 := Try.sizeOf4
  v4 := Try.zeroValue4
  t22 := Try.underlying40
  a22 := Try.isAgg40
  z22 := Try.sizeOf40
  v22 := Try.zeroValue40
  a23 := Try.isAgg9
  z23 := Try.sizeOf9

theorem del_ok (v : Value) (x : ByteArray) (L : List ByteArray) (base : Nat) (w : World) (H : Sl.Own k base w v (x :: L)) (hn : L.length ≤ 1000) :
    Calls Try.prog 19 #[v, .int .i64 0, .int .i64 1] w fun r w' => ∃ A c, r = .returned (.slice A L.length c) ∧ Sl.Own k base w' (.slice A L.length c) L ∧ w.grownBy w' v.ownBlock ∧ (Value.slice A L.length c).ownBlock = v.ownBlock := by
  rcases H.2 with ⟨_, h0⟩ | ⟨g, cap, cur, rfl, hbase, hb, h1, h2, h3, h4⟩
  · simp at h0
  have hcur : cur.toList.take (L.length + 1) = (x :: L).map Value.string := by
    rw [← flat_map]
    simpa using h4
  have hsz : (x :: L).length ≤ cur.size := by rw [h3]; simpa using h1
  have hH : Holds Value.string w g 0 (x :: L).toArray := by
    intro j hj
    have hj' : j < L.length + 1 := by simpa using hj
    refine ⟨?_, by simp [World.frozen?, hb]⟩
    have e1 : (cur.toList.take (L.length + 1))[j]? = ((x :: L).map Value.string)[j]? := by rw [hcur]
    rw [List.getElem?_take_of_lt hj'] at e1
    simp only [World.cell?, hb, Nat.zero_add]
    simp only [Option.isSome_none, Bool.false_eq_true, if_false]
    rw [← Array.getElem?_toList, e1, List.getElem?_map, List.getElem?_eq_getElem (by simpa using hj'), getElem!_pos (x :: L).toArray j hj]
    simp
  obtain ⟨i0, hi, hz0, hz1, hz2⟩ := info_parts ok.info
  have h := AnyE.slices_Delete lays Value.string (fun _ => rfl) (⟨#[]⟩ : ByteArray) Try.zeroValue9 i0 hi hz1 g 0 cap 0 1 (x :: L).toArray w hH (by simpa using h1) (by unfold maxLen at h2; omega) (by omega) (by simp)
  have e45 : ren.f 45 = 19 := rfl
  rw [e45] at h
  refine Calls.mono (by simpa using h) ?_
  rintro r w' ⟨rfl, q, rfl⟩
  have hblock : (putRow Value.string (Sort.ahead w q) g 0 (L ++ [(⟨#[]⟩ : ByteArray)]).toArray).heap[g]? = some (.cells (putCells Value.string 0 (L ++ [(⟨#[]⟩ : ByteArray)]).toArray cur) 9 (0, 0)) := by
    simp [putRow, mapBlock, Sort.ahead, Array.getElem?_modify, hb, onCells]
  refine ⟨some ⟨g, 0, none⟩, cap, rfl, ⟨?_, .inr ⟨g, cap, _, rfl, hbase, by simpa using hblock, by simp at h1; omega, h2, by simp [putCells, h3], ?_⟩⟩, ⟨rfl, rfl, rfl, by simp, fun i hi hne => ?_⟩, rfl⟩
  · rw [Sl.flat_len ok]
  · rw [flat_map, Nat.mul_one]
    apply List.ext_getElem?
    intro j
    by_cases hj : j < L.length
    · rw [List.getElem?_take_of_lt hj, Array.getElem?_toList]
      have : j < cur.size := by simp at hsz; omega
      simp [putCells, hj, this, show j < L.length + 1 by omega, List.getElem?_append]
    · rw [List.getElem?_take_eq_none (by omega), List.getElem?_eq_none (by simp; omega)]
  · have : g ≠ i := fun e => hne (by rw [e]; rfl)
    simp [putRow, mapBlock, Sort.ahead, Array.getElem?_modify, this]
end Tt

end Go.Proofs.Ytijoloeemomjbaa
