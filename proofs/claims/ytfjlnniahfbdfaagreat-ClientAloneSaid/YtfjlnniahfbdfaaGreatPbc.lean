/- A part of the proof. -/
import Derived.Test.YtfjlnniahfbdfaaGreatPag
import Derived.OwnWalk
import Derived.BigQuiet
import Derived.Test.YtfjlnniahfbdfaaGreatPab
import Derived.Test.YtfjlnniahfbdfaaGreatPaf
set_option linter.unusedVariables false
set_option maxHeartbeats 4000000
namespace Go.Proofs.YtfjlnniahfbdfaaGreat
open Lib (hid)
open Go.ChangeShapes Go.WideShapes Go.ChangeAt Go.RowKit Small Foot
set_option maxRecDepth 100000
namespace Ct
theorem below_drewN(w:World)(n:Nat):Below w.heap.size w (w.drewN n):=by
 induction n with
 |zero=>exact Below.refl _ _
 |succ n ih=>exact ih.drew
abbrev gp(g:Nat):Value:=.pointer (some ⟨g,0,none⟩)
abbrev cl(m k:Int)(h c:Bool):List Value:=[.int .i64 m,.int .i64 k,.bool h,.bool c]
abbrev Is(w:World)(g:Nat)(m k:Int)(h c:Bool):Prop:=Lies w g 127 (cl m k h c)
abbrev Fp(g:Nat):Nat→Prop:=fun i=>i=g
section
variable {w w':World} {g:Nat} {m k:Int} {h c:Bool}
theorem Is.in(H:Is w g m k h c):In w (Fp g):=fun i hi=>by rw[hi];exact H.lt
theorem moved{w w':World}{g:Nat}(hg:g<w.heap.size)(k:∀ i,i≠g→w'.heap[i]?=w.heap[i]?)(o:w'.os=w.os)(t:w'.tape=w.tape)(u:w'.output=w.output)(z:w'.heap.size=w.heap.size):Moves (Fp g) (Fp g) w w':=
 ⟨o,t,u,by omega,fun i hi hf=>k i hf,fun i hi=>⟨.inl hi,by rw[z,hi];exact hg⟩⟩
end
section
variable {w:World} {g:Nat} {m k x:Int} {h c:Bool}
theorem new_ok(w:World):Calls Tryz.prog 40 #[] w fun r w'=>r=.returned (gp w.heap.size)∧Is w' w.heap.size (-9223372036854775808) 0 false false∧Below w.heap.size w w':=by
 go_enter Tryz.func40,Tryz.ntmps40
 go_wp2
 go_ret
 exact⟨rfl,Lies.new _ _ _,below1 _ _⟩
theorem hold_free(H:Hid (Is w g m k false c))(x:Int):Calls Tryz.prog 125 #[gp g,.int .i64 x] w fun r w'=>r=.returned (.bool true)∧Is w' g m x true c∧Moves (Fp g) (Fp g) w w':=by
 have c2:=H.out.cell (i:=2) rfl
 have f1:=H.out.open_ 1
 have f2:=H.out.open_ 2
 have c1:=H.out.cell (i:=1) rfl
 go_enter Tryz.func125,Tryz.ntmps125
 go_wp2
 go_ret
 exact⟨rfl,(H.out.put 1 (.int .i64 x)).put 2 (.bool true),moved H.out.lt (fun j hj=>by rw[Below.heap_setCell _ _ _ _ (by exact hj),Below.heap_setCell _ _ _ _ (by exact hj)]) rfl rfl rfl (by simp)⟩
theorem drop_ok(H:Hid (Is w g m k true c)):Calls Tryz.prog 128 #[gp g,.int .i64 k] w fun r w'=>r=.returned (.bool true)∧Is w' g m 0 false c∧Moves (Fp g) (Fp g) w w':=by
 have c2:=H.out.cell (i:=2) rfl
 have c1:=H.out.cell (i:=1) rfl
 have f1:=H.out.open_ 1
 have f2:=H.out.open_ 2
 go_enter Tryz.func128,Tryz.ntmps128
 go_wp2
 go_ret
 exact⟨rfl,(H.out.put 1 (.int .i64 0)).put 2 (.bool false),moved H.out.lt (fun j hj=>by rw[Below.heap_setCell _ _ _ _ (by exact hj),Below.heap_setCell _ _ _ _ (by exact hj)]) rfl rfl rfl (by simp)⟩
theorem holder_ok(H:Hid (Is w g m k h c)):Calls Tryz.prog 22 #[gp g] w fun r w'=>r=.returned (.tuple #[.int .i64 k,.bool h])∧Below w.heap.size w w':=by
 have c1:=H.out.cell (i:=1) rfl
 have c2:=H.out.cell (i:=2) rfl
 go_enter Tryz.func22,Tryz.ntmps22
 go_wp2_with fail
 go_quiet (fail)
 go_wp2_with fail
 go_ret2
 exact⟨rfl,below_drewN _ _⟩
theorem raise_ok(H:Hid (Is w g m k h c))(hx:m<x):Calls Tryz.prog 91 #[gp g,.int .i64 x] w fun r w'=>r=.returned (.bool true)∧Is w' g x k h c∧Moves (Fp g) (Fp g) w w':=by
 have c0:=H.out.cell (i:=0) rfl
 have f0:=H.out.open_ 0
 have q:¬x≤m:=by omega
 go_enter Tryz.func91,Tryz.ntmps91
 go_wp2
 go_ret
 exact⟨rfl,H.out.put 0 (.int .i64 x),moved H.out.lt (fun j hj=>Below.heap_setCell _ _ _ _ hj) rfl rfl rfl (by simp)⟩
theorem raise_no(H:Hid (Is w g m k h c))(hx:x≤m):Calls Tryz.prog 91 #[gp g,.int .i64 x] w fun r w'=>r=.returned (.bool false)∧w=w':=by
 have c0:=H.out.cell (i:=0) rfl
 go_enter Tryz.func91,Tryz.ntmps91
 go_wp2
 go_ret
 exact⟨rfl,rfl⟩
theorem mark_ok(H:Hid (Is w g m k h c)):Calls Tryz.prog 18 #[gp g] w fun r w'=>r=.returned (.int .i64 m)∧w=w':=by
 have c0:=H.out.cell (i:=0) rfl
 go_enter Tryz.func18,Tryz.ntmps18
 go_wp2
 go_ret
 exact⟨rfl,rfl⟩
theorem shut_ok(H:Hid (Is w g m k h c)):Calls Tryz.prog 129 #[gp g] w fun r w'=>r=.returned (.bool (!c))∧Is w' g m k h true∧Moves (Fp g) (Fp g) w w':=by
 have c3:=H.out.cell (i:=3) rfl
 have f3:=H.out.open_ 3
 go_enter Tryz.func129,Tryz.ntmps129
 go_wp2
 go_ret
 exact⟨rfl,H.out.put 3 (.bool true),moved H.out.lt (fun j hj=>Below.heap_setCell _ _ _ _ hj) rfl rfl rfl (by simp)⟩
theorem closed_ok(H:Hid (Is w g m k h c)):Calls Tryz.prog 19 #[gp g] w fun r w'=>r=.returned (.bool c)∧w=w':=by
 have c3:=H.out.cell (i:=3) rfl
 go_enter Tryz.func19,Tryz.ntmps19
 go_wp2
 go_ret
 exact⟨rfl,rfl⟩
end
end Ct
namespace Ow
structure O where
 s:Int
 v:Int
 m:Bool
abbrev cl(x:O):List Value:=[.int .i64 x.s,.int .i64 x.v,.bool x.m]
abbrev av(x:O):Value:=.agg #[.int .i64 x.s,.int .i64 x.v,.bool x.m]
abbrev fl(M:List O):List Value:=M.flatMap cl
theorem fl_len(M:List O):(fl M).length=M.length*3:=by
 induction M with
 |nil=>rfl
 |cons x M ih=>simp only[fl,List.flatMap_cons,List.length_append,List.length_cons] at ih ⊢;rw[ih];simp;omega
theorem fl_at{M:List O}{i:Nat}{x:O}(h:M[i]?=some x):(fl M)[i*3]?=some (.int .i64 x.s)∧(fl M)[i*3+1]?=some (.int .i64 x.v)∧(fl M)[i*3+2]?=some (.bool x.m):=by
 induction M generalizing i with
 |nil=>simp at h
 |cons y M ih=>
  cases i with
  |zero=>simp at h;subst h;simp[fl]
  |succ i=>
   simp at h;obtain⟨h0,h1,h2⟩:=ih h;refine⟨?_,?_,?_⟩<;>simp only[fl,List.flatMap_cons]
   ·rw[show (i+1)*3=i*3+3 by omega];simpa using h0
   ·rw[show (i+1)*3+1=i*3+1+3 by omega];simpa using h1
   ·rw[show (i+1)*3+2=i*3+2+3 by omega];simpa using h2
theorem fl_set{M:List O}{i:Nat}{x:O}(h:M[i]?=some x)(s v:Int)(m:Bool):
  (fl M).set (i*3) (.int .i64 s)=fl (M.set i ⟨s,x.v,x.m⟩)∧(fl M).set (i*3+1) (.int .i64 v)=fl (M.set i ⟨x.s,v,x.m⟩)∧(fl M).set (i*3+2) (.bool m)=fl (M.set i ⟨x.s,x.v,m⟩):=by
 induction M generalizing i with
 |nil=>simp at h
 |cons y M ih=>
  cases i with
  |zero=>simp at h;subst h;simp[fl]
  |succ i=>
   simp at h;obtain⟨h0,h1,h2⟩:=ih h;refine⟨?_,?_,?_⟩<;>simp only[fl,List.flatMap_cons,List.set_cons_succ]
   ·rw[show (i+1)*3=i*3+3 by omega];simpa using h0
   ·rw[show (i+1)*3+1=i*3+1+3 by omega];simpa using h1
   ·rw[show (i+1)*3+2=i*3+2+3 by omega];simpa using h2
def ini(s:Int)(k n:Nat):List O:=(List.range n).map fun (i:Nat)=>⟨if i<k then (i:Int)%s else 0,0,false⟩
theorem ini_len(s:Int)(k n:Nat):(ini s k n).length=n:=by simp[ini]
theorem ini_at(s:Int)(k:Nat){i n:Nat}(h:i<n):(ini s k n)[i]?=some ⟨if i<k then (i:Int)%s else 0,0,false⟩:=by simp[ini,h]
theorem ini_set(s:Int){k n:Nat}(h:k<n):(ini s k n).set k ⟨(k:Int)%s,0,false⟩=ini s (k+1) n:=by
 apply List.ext_getElem?
 intro i
 rw[List.getElem?_set]
 by_cases e:k=i
 ·subst e;simp[ini,h]
 ·rw[if_neg e]
  by_cases hi:i<n
  ·rw[ini_at _ _ hi,ini_at _ _ hi]
   have:i<k↔i<k+1:=by omega
   simp[this]
  ·simp[ini,hi]
theorem made(s:Int)(n:Nat):(madeCells (av ⟨0,0,false⟩).cells (n*3)).toList=fl (ini s 0 n):=by
 apply List.ext_getElem?
 intro j
 by_cases hj:j<n*3
 ·have hi:j / 3<n:=by omega
  obtain⟨q0,q1,q2⟩:=fl_at (ini_at s 0 hi);have e:j%3=0∨j%3=1∨j%3=2:=by omega
  have hm:(madeCells (av ⟨0,0,false⟩).cells (n*3)).toList[j]?=some ((av ⟨0,0,false⟩).cells[j%3]!):=by simp[madeCells,hj,Value.cells]
  rw[hm];rcases e with e|e|e
  ·rw[show j=j / 3*3 by omega,q0,←show j=j / 3*3 by omega,e];simp[Value.cells]
  ·rw[show j=j / 3*3+1 by omega,q1,←show j=j / 3*3+1 by omega,e];simp[Value.cells]
  ·rw[show j=j / 3*3+2 by omega,q2,←show j=j / 3*3+2 by omega,e];simp[Value.cells]
 ·have:=fl_len (ini s 0 n)
  rw[ini_len] at this;rw[List.getElem?_eq_none (by simp[madeCells];omega),List.getElem?_eq_none (by omega)]
theorem wpList_make_lies{P:Program}(w:World){ops:Array Oper}{rest:List Oper}{o:Oper}{a:Act}{Q:Exit→Act→World→Prop}
  (hg:o.guard=none) (l c:Operand) (t:TypeId) (hop:o.op=Op.makeSlice t l c)
  (e:TypeId) (i:TypeInfo) (z:Value) (size bytes:Nat) (h1:P.underlying t=some (.slice e)) (h2:P.info? e=some i) (h3:i.zero=some z) (h4:i.size=size) (h5:i.bytes=bytes)
  (n:Nat) (hl:a.eval l=.int .i64 n) (hc:a.eval c=.int .i64 n) (b2:bytes*n≤281474976710656) (b3:n≤maxLen)
  (hK:∀ w',Lies w' w.heap.size e (madeCells z.cells (n*size)).toList→Below w.heap.size w w'→w'.heap.size=w.heap.size+1→wpList P ops Q rest (a.put o.dst (.slice (some ⟨w.heap.size,0,none⟩) n n)) w'):
  wpList P ops Q (o::rest) a w:=by
 refine wpList_plain hg fun K hK'=>?_
 subst h4 h5
 have hb':(i.bytes:Int)*(n:Int)≤281474976710656:=by
  have h:((i.bytes*n:Nat):Int)≤281474976710656:=by omega
  rwa [Int.natCast_mul] at h
 have hrun:=run_make (P:=P) w t e i z h1 h2 h3 .i64 .i64 n n (by omega) (by omega) hb' (by simp[maxLen] at b3;omega)
 simp only[Int.toNat_natCast] at hrun
 unfold Oper.wp
 simp[execOp,hop,hl,hc,hrun,Result.andThen]
 exact hK' _ _ (hK _ (by have:=Lies.new w e (madeCells z.cells (n*i.size)).toList;simpa using this) (below1 _ _) (by simp))
abbrev gp(b:Nat):Value:=.pointer (some ⟨b,0,none⟩)
def Fp(b:Nat):Nat→Prop:=fun i=>i=b∨i=b+1
abbrev Rows(w:World)(b:Nat)(M:List O):Prop:=Lies w b 154 (fl M)
structure Is(w:World)(b:Nat)(shards:Int)(M:List O):Prop where
 lies:Lies w (b+1) 156 [.int .i64 shards,.slice (some ⟨b,0,none⟩) M.length M.length]
 rows:Rows w b M
section
variable {w w':World} {b i:Nat} {s:Int} {M:List O} {x:O}
theorem Rows.at(h:Rows w b M)(hx:M[i]?=some x):w.cell? ⟨b,i*3,none⟩=some (.int .i64 x.s)∧w.cell? ⟨b,i*3+1,none⟩=some (.int .i64 x.v)∧w.cell? ⟨b,i*3+2,none⟩=some (.bool x.m):=by
 obtain⟨h0,h1,h2⟩:=fl_at hx
 exact⟨h.cell h0,h.cell h1,h.cell h2⟩
theorem Rows.open'(h:Rows w b M)(i:Nat):w.frozen? ⟨b,i*3,none⟩=false∧w.frozen? ⟨b,i*3+1,none⟩=false∧w.frozen? ⟨b,i*3+2,none⟩=false:=⟨h.open_ _,h.open_ _,h.open_ _⟩
theorem Rows.put0(h:Rows w b M)(hx:M[i]?=some x)(s:Int):Rows (w.setCell ⟨b,i*3,none⟩ (.int .i64 s)) b (M.set i ⟨s,x.v,x.m⟩):=by
 have:=Lies.put h (i*3) (.int .i64 s)
 rw[(fl_set hx s 0 false).1] at this
 exact this
theorem Rows.put1(h:Rows w b M)(hx:M[i]?=some x)(v:Int):Rows (w.setCell ⟨b,i*3+1,none⟩ (.int .i64 v)) b (M.set i ⟨x.s,v,x.m⟩):=by
 have:=Lies.put h (i*3+1) (.int .i64 v)
 rw[(fl_set hx 0 v false).2.1] at this
 exact this
theorem Rows.put2(h:Rows w b M)(hx:M[i]?=some x)(m:Bool):Rows (w.setCell ⟨b,i*3+2,none⟩ (.bool m)) b (M.set i ⟨x.s,x.v,m⟩):=by
 have:=Lies.put h (i*3+2) (.bool m)
 rw[(fl_set hx 0 0 m).2.2] at this
 exact this
theorem Rows.put(h:Rows w b M)(hi:i<M.length)(y:O):Rows (((w.setCell ⟨b,i*3,none⟩ (.int .i64 y.s)).setCell ⟨b,i*3+1,none⟩ (.int .i64 y.v)).setCell ⟨b,i*3+2,none⟩ (.bool y.m)) b (M.set i y):=by
 have h0:=h.put0 (i:=i) (x:=M[i]) (by rw[List.getElem?_eq_getElem hi]) y.s
 have h1:=h0.put1 (i:=i) (x:=⟨y.s,M[i].v,M[i].m⟩) (by simp[hi]) y.v
 have h2:=h1.put2 (i:=i) (x:=⟨y.s,y.v,M[i].m⟩) (by simp[hi]) y.m
 simpa using h2
theorem Is.next(h:Is w b s M)(k:Below w.heap.size w w'):Is w' b s M:=⟨h.lies.next k,h.rows.next k⟩
theorem Is.in(h:Is w b s M):In w (Fp b):=fun i hi=>by
 rcases hi with rfl|rfl
 ·exact h.rows.lt
 ·exact h.lies.lt
theorem Is.keep{F F':Nat→Prop}(h:Is w b s M)(k:Moves F F' w w')(a:Apart F (Fp b)):Is w' b s M:=
 ⟨(k.kept a h.in _ (.inr rfl)).trans h.lies,(k.kept a h.in _ (.inl rfl)).trans h.rows⟩
theorem Is.put{M':List O}(h:Is w b s M)(hl:M'.length=M.length)(r:Rows w' b M')(k:∀ i,i≠b→w'.heap[i]?=w.heap[i]?)(o:w'.os=w.os)(t:w'.tape=w.tape)(u:w'.output=w.output)(z:w'.heap.size=w.heap.size):
  Is w' b s M'∧Moves (Fp b) (Fp b) w w':=by
 refine⟨⟨?_,r⟩,o,t,u,by omega,fun i hi hf=>k i fun e=>hf (.inl e),fun i hi=>⟨.inl hi,by rw[z];exact h.in i hi⟩⟩
 rw[hl]
 exact (k _ (by omega)).trans h.lies
end
set_option maxRecDepth 100000
theorem infoOwn:(Tryz.prog.info? 154).map (fun i=>(i.zero,i.size,i.bytes))=some (some (av ⟨0,0,false⟩),3,24):=by kernel_rfl
theorem new_ok(n:Nat)(shards:Int)(w:World)(h1:1≤n)(h2:n≤16)(h3:1≤shards)(h4:shards≤8):
  Calls Tryz.prog 39 #[.int .i64 n,.int .i64 shards] w fun r w'=>r=.returned (.tuple #[gp (w.heap.size+1),.nilIface])∧Is w' w.heap.size shards (ini shards n n)∧Below w.heap.size w w':=by
 obtain⟨i0,hi,hz0,hz1,hz2⟩:=info_parts infoOwn
 have q1:¬(n:Int)<1:=by omega
 have q2:¬16<(n:Int):=by omega
 have q3:¬shards<1:=by omega
 have q4:¬8<shards:=by omega
 go_enter Tryz.func39,Tryz.ntmps39
 go_wp2_with (at_make;refine wpList_make_lies _ rfl _ _ 152 rfl 154 i0 (av ⟨0,0,false⟩) 3 24 Tryz.underlying152 hi hz0 hz1 hz2 n rfl rfl (by omega) (by unfold maxLen;omega) ?_)
 intro w1 l1 k1 z1
 have L1:Hid (Rows w1 w.heap.size (ini shards 0 n)):=hid (by unfold Rows;rw[←made];exact l1)
 have K1:=hid k1
 have Z1:=hid z1
 clear l1 k1 z1
 go_wp2_with fail
 go_loopw [27] (fun si wr=>∃ k:Nat,k≤n∧si=.int .i64 k∧Hid (Rows wr w.heap.size (ini shards k n))∧Hid (Below w.heap.size w wr)∧Hid (wr.heap.size=w.heap.size+1))
  (fun si _=>n-(intOf si).toNat)
 case atStart=>exact⟨0,by omega,rfl,L1,K1,Z1⟩
 case round=>
  obtain⟨k,hk,rfl,L,K,Z⟩:=hrel;by_cases hlt:k<n
  ·have i0:(k:Int)<(n:Int):=by omega
   have c0:=(L.out.at (ini_at shards k hlt)).1;have fz:=(L.out.open' k).1;go_wp2_with fail
   refine⟨⟨k+1,by omega,by go_num,hid ?_,hid ?_,hid ?_⟩,by simp[intOf];omega⟩
   ·have:=L.out.put0 (ini_at shards k hlt) ((k:Int)%shards)
    rw[ini_set shards hlt] at this;exact this
   ·exact K.out.setCell (Nat.le_refl _) _
   ·simpa using Z.out
  ·obtain rfl:k=n:=by omega
   go_wp2;go_ret2;have z:=Z.out;rw[z];refine⟨rfl,⟨?_,L.out.next (below1 _ _)⟩,after K.out (below1 _ _)⟩
   have:=Lies.new wr 156 [.int .i64 shards,.slice (some ⟨w.heap.size,0,none⟩) k k];rw[z] at this;rw[ini_len];exact this
section
variable {b i:Nat} {s x y:Int} {M:List O} {o:O} {w:World}
theorem has_yes(H:Hid (Is w b s M))(hi:i<M.length):Calls Tryz.prog 142 #[gp (b+1),.int .i64 i] w fun r w'=>r=.returned (.bool true)∧w=w':=by
 have c1:=H.out.lies.cell (i:=1) rfl
 have q0:(0:Int)≤(i:Int):=by omega
 have q1:(i:Int)<(M.length:Int):=by omega
 go_enter Tryz.func142,Tryz.ntmps142
 go_wp2
 go_ret
 exact⟨rfl,rfl⟩
theorem of_yes(H:Hid (Is w b s M))(hx:M[i]?=some o):Calls Tryz.prog 126 #[gp (b+1),.int .i64 i] w fun r w'=>r=.returned (.tuple #[av o,.bool true])∧Below w.heap.size w w':=by
 have c0:=H.out.lies.cell (i:=0) rfl
 have c1:=H.out.lies.cell (i:=1) rfl
 obtain⟨d0,d1,d2⟩:=H.out.rows.at hx
 obtain⟨f0,f1,f2⟩:=H.out.rows.open' i
 have hi:i<M.length:=(List.getElem?_eq_some_iff.1 hx).1
 have q1:(i:Int)<(M.length:Int):=by omega
 have K:=below1 w (Obj.cells #[.int .i64 0,.int .i64 0,.bool false] 154)
 have e1:=cell_keep K c1
 have e2:=cell_keep K d0
 have e3:=cell_keep K d1
 have e4:=cell_keep K d2
 clear c0 c1 d0 d1 d2 f0 f1 f2 K
 go_enter Tryz.func126,Tryz.ntmps126
 go_wp2_with fail
 refine (has_yes (hid (H.out.next (below1 w _))) hi).mono ?_
 rintro r w1 ⟨rfl,rfl⟩
 go_wp2_with fail
 exact bodyPost_ret (v:=.tuple #[av o,.bool true]) (by simp[results,Tryz.results126,go_sem]) rfl ⟨rfl,below1 _ _⟩
theorem freeze_ok(H:Hid (Is w b s M))(hx:M[i]?=some o)(hm:o.m=false):Calls Tryz.prog 127 #[gp (b+1),.int .i64 i] w fun r w'=>r=.returned .nilIface∧Is w' b s (M.set i ⟨o.s,o.v,true⟩)∧Moves (Fp b) (Fp b) w w':=by
 have c0:=H.out.lies.cell (i:=0) rfl
 have c1:=H.out.lies.cell (i:=1) rfl
 obtain⟨d0,d1,d2⟩:=H.out.rows.at hx
 obtain⟨f0,f1,f2⟩:=H.out.rows.open' i
 have hi:i<M.length:=(List.getElem?_eq_some_iff.1 hx).1
 have q1:(i:Int)<(M.length:Int):=by omega
 rw[hm] at d2
 go_enter Tryz.func127,Tryz.ntmps127
 go_wp2_with fail
 refine (has_yes H hi).mono ?_
 rintro r w1 ⟨rfl,rfl⟩
 go_wp2_with fail
 go_ret
 exact⟨rfl,H.out.put (by simp) (H.out.rows.put2 hx true) (fun j hj=>Below.heap_setCell _ _ _ _ hj) rfl rfl rfl (by simp)⟩
theorem publish_ok(H:Hid (Is w b s M))(hx:M[i]?=some o)(hm:o.m=true)(y0:0≤y)(y1:y<s)(v0:0≤o.v)(v1:o.v≤1000000):Calls Tryz.prog 103 #[gp (b+1),.int .i64 i,.int .i64 y] w fun r w'=>r=.returned .nilIface∧Is w' b s (M.set i ⟨y,o.v+1,false⟩)∧Moves (Fp b) (Fp b) w w':=by
 have c0:=H.out.lies.cell (i:=0) rfl
 have c1:=H.out.lies.cell (i:=1) rfl
 obtain⟨d0,d1,d2⟩:=H.out.rows.at hx
 obtain⟨f0,f1,f2⟩:=H.out.rows.open' i
 have hi:i<M.length:=(List.getElem?_eq_some_iff.1 hx).1
 have q1:(i:Int)<(M.length:Int):=by omega
 rw[hm] at d2
 have y2:¬y<0:=by omega
 have y3:¬s≤y:=by omega
 have t1:IntKind.i64.wrap (o.v+1)=o.v+1:=IntWalk.i64_in _ (by omega)
 go_enter Tryz.func103,Tryz.ntmps103
 go_wp2_with fail
 refine (has_yes H hi).mono ?_
 rintro r w1 ⟨rfl,rfl⟩
 go_wp2_with fail
 have g1:=Later.cell c1
 have g2:=Later.cell d1
 clear c0 c1 d0 d1 d2 f0 f1 f2
 refine wp_region_later_tail 17 (by kernel_rfl) (by kernel_rfl) ?_
 simp only[List.take_succ_cons,List.take_zero,List.drop_succ_cons,List.drop_zero]
 repeat (go_big_quiet_step (fail))
 refine wpQuiet_nil ?_
 rintro _ ⟨u,rfl⟩
 clear g1 g2
 have H1:=hid (H.out.next u.below)
 have U:=hid u.below
 generalize u.w=w1 at *
 obtain⟨d0,d1,d2⟩:=H1.out.rows.at hx
 obtain⟨f0,f1,f2⟩:=H1.out.rows.open' i
 go_wp2
 go_ret
 have:=H1.out.put (M':=M.set i ⟨y,o.v+1,false⟩) (by simp) (H1.out.rows.put hi ⟨y,o.v+1,false⟩) (fun j hj=>by rw[Below.heap_setCell _ _ _ _ (by exact hj),Below.heap_setCell _ _ _ _ (by exact hj),Below.heap_setCell _ _ _ _ (by exact hj)]) rfl rfl rfl (by simp)
 exact⟨rfl,this.1,(Moves.of_below U.out H.out.in).trans this.2⟩
theorem shards_ok(H:Hid (Is w b s M)):Calls Tryz.prog 65 #[gp (b+1)] w fun r w'=>r=.returned (.int .i64 s)∧w=w':=by
 have c0:=H.out.lies.cell (i:=0) rfl
 go_enter Tryz.func65,Tryz.ntmps65
 go_wp2
 go_ret
 exact⟨rfl,rfl⟩
end
abbrev Gk:Kind Nat:=⟨70,3,1,8,.int .i64 0,fun x=>[.int .i64 (x:Int)]⟩
theorem gok:Gk.Ok where
 under:=Tryz.underlying70
 elem:=by kernel_rfl
 info:=by kernel_rfl
 zs:=rfl
 pos:=by decide
 len:=fun _=>rfl
 one:=by
  intro x u hu;simp at hu;subst hu;rfl
 small:=by decide
def own(M:List O)(t:Int)(k:Nat):List Nat:=(List.range k).filter fun i=>M[i]?.any (·.s == t)
theorem own_yes{M:List O}{t:Int}{k:Nat}{o:O}(h:M[k]?=some o)(e:o.s=t):own M t (k+1)=own M t k++[k]:=by
 simp[own,List.range_succ,List.filter_append,h,e]
theorem own_no{M:List O}{t:Int}{k:Nat}{o:O}(h:M[k]?=some o)(e:¬o.s=t):own M t (k+1)=own M t k:=by
 simp[own,List.range_succ,List.filter_append,h,e]
theorem own_len(M:List O)(t:Int)(k:Nat):(own M t k).length≤k:=by
 have:=List.length_filter_le (fun i=>M[i]?.any (·.s == t)) (List.range k)
 simpa [own] using this
theorem groups_ok{b:Nat}{s t:Int}{M:List O}{w:World}(H:Hid (Is w b s M))(hn:M.length≤16):Calls Tryz.prog 42 #[gp (b+1),.int .i64 t] w fun r w'=>∃ A c,r=.returned (.slice A (own M t M.length).length c)∧Sl.Own Gk w.heap.size w' (.slice A (own M t M.length).length c) (own M t M.length)∧Below w.heap.size w w':=by
 have c1:=H.out.lies.cell (i:=1) rfl
 go_enter Tryz.func42,Tryz.ntmps42
 go_wp2_with fail
 clear c1
 obtain⟨n,hnn⟩:∃ n,n=M.length:=⟨_,rfl⟩
 rw[←hnn] at hn ⊢
 have HN:=hid hnn
 clear hnn
 go_loopw [5,13] (fun sl si wr=>∃ k:Nat,k≤n∧si=.int .i64 k∧Hid (Sl.Own Gk w.heap.size wr sl (own M t k))∧Hid (Below w.heap.size w wr)) (fun _ si _=>n-(intOf si).toNat)
 case atStart=>exact⟨0,by omega,rfl,hid (Sl.Own.nil _ _ _),hid (Below.refl _ _)⟩
 case round=>
  obtain⟨k,hk,rfl,L,K⟩:=hrel;by_cases hlt:k<n
  ·have i0:(k:Int)<(n:Int):=by omega
   obtain⟨o,ho⟩:∃ o,M[k]?=some o:=⟨_,List.getElem?_eq_getElem (by have:=HN.out;omega)⟩
   have H1:=hid (H.out.next K.out);obtain⟨d0,d1,d2⟩:=H1.out.rows.at ho;by_cases ht:o.s=t
   ·have OY:=hid (own_yes ho ht)
    have KL:=hid (own_len M t k);have S0:=hid K.out.size;go_wp2_with (at_builtin;refine wpList_plain rfl fun K' hK'=>Sl.wp_append (K:=Gk) gok (.tmp 22) (.tmp 24) rfl (base:=w.heap.size) (l:=own M t k) (l2:=[k]) (b2:=wr.heap.size+1) (by exact L.out.next (below2 wr _ _)) (by exact Sl.Is.one gok (x:=k) (by have:=Lies.new (wr.alloc (Obj.cells #[.int .i64 t,.int .i64 o.v,.bool o.m] 154)) 3 [.int .i64 (k:Int)];simpa using this)) (by have:=KL.out;simp only[List.length_singleton];omega) (by have:=S0.out;simp;omega) (fun v' w3 x1 x2 x3=>hK' _ _ ?_))
    clear d0 d1 d2;have L3:Hid (Sl.Own Gk w.heap.size w3 v' (own M t (k+1))):=hid (by rw[OY.out];exact x1)
    have K3:Hid (Below w.heap.size w w3):=hid ((after K.out (below2 wr _ _)).grown x2 (by have:=S0.out;simp;omega) (fun j hj=>(L.out.lt j hj).1))
    clear x1 x2 x3;go_wp2_with fail
    exact⟨⟨k+1,by omega,by go_num,L3,K3⟩,by simp[intOf];omega⟩
   ·have OY:=hid (own_no ho ht)
    have hz:(o.s == t)=false:=by simpa using ht
    go_wp2_with fail
    exact⟨⟨k+1,by omega,by go_num,hid (by rw[OY.out];exact L.out.next (below1 _ _)),hid (after K.out (below1 _ _))⟩,by simp[intOf];omega⟩
  ·obtain rfl:k=n:=by omega
   obtain⟨bl,-,il⟩:=L.out.is;obtain⟨A,c,rfl⟩:=il.len;go_wp2;go_ret;refine⟨A,c,?_⟩
   rw[←HN.out];exact⟨rfl,L.out,K.out⟩
end Ow
end Go.Proofs.YtfjlnniahfbdfaaGreat
