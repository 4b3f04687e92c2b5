/- A part of the proof. -/
import Derived.Test.YtfjlnniahfbdfaaGreatPac
import Derived.Test.YtfjlnniahfbdfaaGreatPae
import Derived.Test.YtfjlnniahfbdfaaGreatPaf
import Derived.Test.YtfjlnniahfbdfaaGreatPad
import Derived.Test.YtfjlnniahfbdfaaGreatPaa
set_option linter.unusedVariables false
set_option maxHeartbeats 4000000
namespace Go.Proofs.YtfjlnniahfbdfaaGreat
open Go.ChangeShapes Go.WideShapes Go.ChangeAt Go.RowKit Small
namespace Pane
theorem own_base2{base base':Nat}{w:World}{v:Value}{L:List Pn}(h:Sl.Own Pn.k base w v L)(hb:base'≤base):Sl.Own Pn.k base' w v L:=by
 refine⟨h.1,?_⟩
 rcases h.2 with q|⟨g,cap,cur,h1,h2,h3⟩
 ·exact .inl q
 ·exact .inr ⟨g,cap,cur,h1,by omega,h3⟩
def sumC(L:List Pn):Int:=(L.map (·.c)).sum
def sumM(L:List Pn):Int:=(L.map (·.m)).sum
theorem wrap_add(a b:Int):wrap64 (wrap64 a+b)=wrap64 (a+b):=by unfold wrap64;omega
end Pane
namespace Foot
structure Moves(F F':Nat→Prop)(w w':World):Prop where
 os:w'.os=w.os
 tape:w'.tape=w.tape
 output:w'.output=w.output
 size:w.heap.size≤w'.heap.size
 block:∀ k,k<w.heap.size→¬F k→w'.heap[k]?=w.heap[k]?
 new:∀ k,F' k→(F k∨w.heap.size≤k)∧k<w'.heap.size
def Apart(F G:Nat→Prop):Prop:=∀ k,F k→¬G k
theorem Apart.symm{F G:Nat→Prop}(h:Apart F G):Apart G F:=fun k a b=>h k b a
def From(B:Nat)(F:Nat→Prop):Prop:=∀ k,F k→B≤k
def In(w:World)(F:Nat→Prop):Prop:=∀ k,F k→k<w.heap.size
section
variable {F F' F'' G:Nat→Prop} {w w' w'':World} {B:Nat}
theorem Moves.refl(h:In w F):Moves F F w w:=⟨rfl,rfl,rfl,Nat.le_refl _,fun _ _ _=>rfl,fun k hk=>⟨.inl hk,h k hk⟩⟩
theorem Moves.trans(a:Moves F F' w w')(b:Moves F' F'' w' w''):Moves F F'' w w'':=
 ⟨b.os.trans a.os,b.tape.trans a.tape,b.output.trans a.output,Nat.le_trans a.size b.size,
  fun k hk hf=>(b.block k (Nat.lt_of_lt_of_le hk a.size) fun h=>by rcases (a.new k h).1 with q|q;exact hf q;omega).trans (a.block k hk hf),
  fun k hk=>⟨by have s:=a.size;rcases (b.new k hk).1 with q|q;exact (a.new k q).1;exact .inr (by omega),(b.new k hk).2⟩⟩
theorem Moves.of_below(h:Below w.heap.size w w')(hf:In w F):Moves F F w w':=
 ⟨h.os,h.tape,h.output,h.size,fun k hk _=>h.block k hk,fun k hk=>⟨.inl hk,Nat.lt_of_lt_of_le (hf k hk) h.size⟩⟩
theorem Moves.below(h:Moves F F' w w')(hf:From B F)(hB:B≤w.heap.size):Below B w w':=
 ⟨h.os,h.tape,h.output,h.size,fun k hk=>h.block k (by omega) fun q=>by have:=hf k q;omega⟩
theorem Moves.from(h:Moves F F' w w')(hf:From B F)(hB:B≤w.heap.size):From B F':=fun k hk=>by
 rcases (h.new k hk).1 with q|q
 ·exact hf k q
 ·omega
theorem Moves.in(h:Moves F F' w w'):In w' F':=fun k hk=>(h.new k hk).2
theorem Moves.apart(h:Moves F F' w w')(a:Apart F G)(hg:In w G):Apart F' G:=fun k hk q=>by
 rcases (h.new k hk).1 with f|f
 ·exact a k f q
 ·have:=hg k q;omega
theorem Moves.kept(h:Moves F F' w w')(a:Apart F G)(hg:In w G):∀ k,G k→w'.heap[k]?=w.heap[k]?:=fun k hk=>h.block k (hg k hk) fun f=>a k f hk
theorem Moves.lies(h:Moves F F' w w'){g:Nat}{t:TypeId}{cs:List Value}(hf:¬F g)(l:Small.Lies w g t cs):Small.Lies w' g t cs:=(h.block g l.lt hf).trans l
theorem In.next(h:In w F)(k:w.heap.size≤w'.heap.size):In w' F:=fun i hi=>Nat.lt_of_lt_of_le (h i hi) k
end
end Foot
end Go.Proofs.YtfjlnniahfbdfaaGreat
