/- A part of the proof. -/
import Derived.Test.YtfjlnniahfbdfaaGreatRows
import Derived.Below
import Derived.Laws.Strings
import Derived.WalkKit
import Derived.ProofKit
import Derived.BigQuiet
import Derived.IntWalk
import Derived.Lib.Hide
set_option linter.unusedVariables false
set_option maxHeartbeats 4000000
namespace Go.Proofs.YtfjlnniahfbdfaaGreat
namespace Tmr
theorem bl_irrefl:∀ x:List UInt8,Op.bytesLess x x=false
 |[]=>rfl
 |a::x=>by simp[Op.bytesLess,bl_irrefl x]
theorem bl_trans:∀ x y z:List UInt8,Op.bytesLess x y=true→Op.bytesLess y z=true→Op.bytesLess x z=true
 |[],[],z,h,_=>by simp[Op.bytesLess] at h
 |[],b::y,[],_,h=>by simp[Op.bytesLess] at h
 |[],b::y,c::z,_,_=>by simp[Op.bytesLess]
 |a::x,[],z,h,_=>by simp[Op.bytesLess] at h
 |a::x,b::y,[],_,h=>by simp[Op.bytesLess] at h
 |a::x,b::y,c::z,h,k=>by
  simp only[Op.bytesLess,Bool.or_eq_true,Bool.and_eq_true,decide_eq_true_eq,beq_iff_eq,UInt8.lt_iff_toNat_lt] at h k ⊢;rcases h with h|⟨rfl,h⟩
  ·rcases k with k|⟨rfl,k⟩
   ·exact .inl (by omega)
   ·exact .inl h
  ·rcases k with k|⟨rfl,k⟩
   ·exact .inl k
   ·exact .inr ⟨rfl,bl_trans x y z h k⟩
theorem bl_total:∀ x y:List UInt8,Op.bytesLess x y=false→Op.bytesLess y x=false→x=y
 |[],[],_,_=>rfl
 |[],b::y,h,_=>by simp[Op.bytesLess] at h
 |a::x,[],_,h=>by simp[Op.bytesLess] at h
 |a::x,b::y,h,k=>by
  simp only[Op.bytesLess,Bool.or_eq_false_iff,Bool.and_eq_false_iff,decide_eq_false_iff_not,beq_eq_false_iff_ne,UInt8.lt_iff_toNat_lt] at h k;have e:a=b:=UInt8.toNat_inj.1 (by omega)
  subst e;rw[bl_total x y (by rcases h.2 with h|h;exact absurd rfl h;exact h) (by rcases k.2 with h|h;exact absurd rfl h;exact h)]
structure Tm where
 key:ByteArray
 s:Int
 e:Int
theorem Tm.ext'{a b:Tm}(hk:a.key.toList=b.key.toList)(hs:a.s=b.s)(he:a.e=b.e):a=b:=by
 obtain⟨⟨⟨ka⟩⟩,sa,ea⟩:=a
 obtain⟨⟨⟨kb⟩⟩,sb,eb⟩:=b
 simp only at hs he
 subst hs;subst he
 have:ka=kb:=by simpa [ByteArray.toList_eq] using hk
 rw[this]
def lt(a b:Tm):Bool:=if a.e=b.e then (if a.s=b.s then Op.bytesLess a.key.toList b.key.toList else decide (a.s<b.s)) else decide (a.e<b.e)
def le(a b:Tm):Prop:=lt b a=false
theorem lt_irrefl(a:Tm):lt a a=false:=by simp[lt,bl_irrefl]
theorem lt_trans{a b c:Tm}(h:lt a b=true)(k:lt b c=true):lt a c=true:=by
 unfold lt at *
 by_cases e1:a.e=b.e
 ·by_cases e2:b.e=c.e
  ·rw[if_pos e1] at h;rw[if_pos e2] at k;rw[if_pos (e1.trans e2)]
   by_cases s1:a.s=b.s
   ·by_cases s2:b.s=c.s
    ·rw[if_pos s1] at h;rw[if_pos s2] at k;rw[if_pos (s1.trans s2)]
     exact bl_trans _ _ _ h k
    ·rw[if_neg s2] at k;rw[if_neg (by omega)];simp at k ⊢;omega
   ·rw[if_neg s1] at h
    simp at h;by_cases s2:b.s=c.s
    ·rw[if_neg (by omega)];simp;omega
    ·rw[if_neg s2] at k;simp at k;rw[if_neg (by omega)];simp;omega
  ·rw[if_neg e2] at k;simp at k;rw[if_neg (by omega)];simp;omega
 ·rw[if_neg e1] at h
  simp at h;by_cases e2:b.e=c.e
  ·rw[if_neg (by omega)];simp;omega
  ·rw[if_neg e2] at k;simp at k;rw[if_neg (by omega)];simp;omega
theorem lt_total{a b:Tm}(h:lt a b=false)(k:lt b a=false):a=b:=by
 unfold lt at *
 by_cases e1:a.e=b.e
 ·rw[if_pos e1] at h;rw[if_pos e1.symm] at k
  by_cases s1:a.s=b.s
  ·rw[if_pos s1] at h;rw[if_pos s1.symm] at k
   exact Tm.ext' (bl_total _ _ h k) s1 e1
  ·rw[if_neg s1] at h;rw[if_neg (Ne.symm s1)] at k;simp at h k;omega
 ·rw[if_neg e1] at h;rw[if_neg (Ne.symm e1)] at k;simp at h k;omega
theorem lt_asymm{a b:Tm}(h:lt a b=true):lt b a=false:=by
 cases hb:lt b a with
 |false=>rfl
 |true=>have:=lt_trans h hb;rw[lt_irrefl] at this;cases this
theorem le_refl(a:Tm):le a a:=lt_irrefl a
theorem le_of_lt{a b:Tm}(h:lt a b=true):le a b:=lt_asymm h
theorem le_trans{a b c:Tm}(h:le a b)(k:le b c):le a c:=by
 unfold le at *
 cases hc:lt c a with
 |false=>rfl
 |true=>
  cases hb:lt a b with
  |true=>have:=lt_trans hc hb;rw[k] at this;cases this
  |false=>rw[lt_total hb h] at hc;rw[k] at hc;cases hc
theorem le_antisymm{a b:Tm}(h:le a b)(k:le b a):a=b:=lt_total k h
theorem le_end{a b:Tm}(h:le a b):a.e≤b.e:=by
 unfold le lt at h
 by_cases e:b.e=a.e
 ·omega
 ·rw[if_neg e] at h;simp at h;omega
def Heap(f:Nat→Tm)(n:Nat):Prop:=∀ k,0<k→k<n→le (f ((k-1) / 2)) (f k)
def UpAt(f:Nat→Tm)(n j:Nat):Prop:=
 (∀ k,0<k→k<n→k≠j→le (f ((k-1) / 2)) (f k))∧(∀ k,0<k→k<n→(k-1) / 2=j→0<j→le (f ((j-1) / 2)) (f k))
def DownAt(f:Nat→Tm)(n i0 i:Nat):Prop:=
 (∀ k,0<k→k<n→(k≠i0∨i≠i0)→(k-1) / 2≠i→le (f ((k-1) / 2)) (f k))∧(∀ k,0<k→k<n→(k-1) / 2=i→0<i→le (f ((i-1) / 2)) (f k))
def sw(f:Nat→Tm)(i j:Nat):Nat→Tm:=fun k=>if k=i then f j else if k=j then f i else f k
theorem sw_left(f:Nat→Tm)(i j:Nat):sw f i j i=f j:=by simp[sw]
theorem sw_right(f:Nat→Tm)(i j:Nat):sw f i j j=f i:=by
 unfold sw
 by_cases h:j=i
 ·rw[if_pos h,h]
 ·rw[if_neg h,if_pos rfl]
theorem sw_other(f:Nat→Tm){i j k:Nat}(h1:k≠i)(h2:k≠j):sw f i j k=f k:=by simp[sw,h1,h2]
def Same(n:Nat)(f f':Nat→Tm):Prop:=(∀ k,n≤k→f' k=f k)∧∀ x,(∃ k,k<n∧f' k=x)↔∃ k,k<n∧f k=x
theorem Same.refl(n:Nat)(f:Nat→Tm):Same n f f:=⟨fun _ _=>rfl,fun _=>Iff.rfl⟩
theorem Same.trans{n:Nat}{f g h:Nat→Tm}(a:Same n f g)(b:Same n g h):Same n f h:=⟨fun k hk=>(b.1 k hk).trans (a.1 k hk),fun x=>(b.2 x).trans (a.2 x)⟩
theorem same_sw{n i j:Nat}(f:Nat→Tm)(hi:i<n)(hj:j<n):Same n f (sw f i j):=by
 refine⟨fun k hk=>sw_other f (by omega) (by omega),fun x=>⟨?_,?_⟩⟩
 ·rintro⟨k,hk,rfl⟩
  by_cases h1:k=i
  ·subst h1;exact⟨j,hj,(sw_left f k j).symm⟩
  ·by_cases h2:k=j
   ·subst h2;exact⟨i,hi,(sw_right f i k).symm⟩
   ·exact⟨k,hk,(sw_other f h1 h2).symm⟩
 ·rintro⟨k,hk,rfl⟩
  by_cases h1:k=i
  ·subst h1;exact⟨j,hj,sw_right f k j⟩
  ·by_cases h2:k=j
   ·subst h2;exact⟨i,hi,sw_left f i k⟩
   ·exact⟨k,hk,sw_other f h1 h2⟩
theorem up_step{f:Nat→Tm}{n j:Nat}(h:UpAt f n j)(hj:0<j)(hn:j<n)(hl:lt (f j) (f ((j-1) / 2))=true):UpAt (sw f ((j-1) / 2) j) n ((j-1) / 2):=by
 obtain⟨h1,h2⟩:=h
 generalize hp:(j-1) / 2=p at *
 have hpj:p<j:=by omega
 have hf:=le_of_lt hl
 refine⟨fun k k0 k1 kp=>?_,fun k k0 k1 kp p0=>?_⟩
 ·by_cases kj:k=j
  ·subst kj;rw[hp,sw_left,sw_right];exact hf
  ·rw[sw_other f kp kj]
   by_cases a1:(k-1) / 2=j
   ·rw[a1,sw_right]
    have:=h2 k k0 k1 a1 hj;exact this
   ·by_cases a2:(k-1) / 2=p
    ·rw[a2,sw_left];have:=h1 k k0 k1 kj;rw[a2] at this;exact le_trans hf this
    ·rw[sw_other f a2 a1];exact h1 k k0 k1 kj
 ·rw[sw_other f (by omega:(p-1) / 2≠p) (by omega)]
  have hpp:=h1 p p0 (by omega) (by omega)
  by_cases kj:k=j
  ·subst kj;rw[sw_right];exact hpp
  ·rw[sw_other f (by omega) kj]
   have:=h1 k k0 k1 kj;rw[kp] at this;exact le_trans hpp this
theorem up_end{f:Nat→Tm}{n j:Nat}(h:UpAt f n j)(hl:j=0∨lt (f j) (f ((j-1) / 2))=false):Heap f n:=by
 intro k k0 k1
 by_cases e:k=j
 ·subst e
  rcases hl with h0|hl
  ·omega
  ·exact hl
 ·exact h.1 k k0 k1 e
theorem down_step{f:Nat→Tm}{n i0 i j:Nat}(h:DownAt f n i0 i)(hi:i0≤i)(hj:j=2*i+1∨j=2*i+2)(hn:j<n)(hl:lt (f j) (f i)=true)
  (ho:∀ k,k=2*i+1∨k=2*i+2→k<n→le (f j) (f k)):DownAt (sw f i j) n i0 j:=by
 obtain⟨h1,h2⟩:=h
 have hij:i<j:=by omega
 have hf:=le_of_lt hl
 refine⟨fun k k0 k1 _ kp=>?_,fun k k0 k1 kp j0=>?_⟩
 ·by_cases kj:k=j
  ·subst kj
   rw[show (k-1) / 2=i by omega,sw_left,sw_right];exact hf
  ·by_cases ki:k=i
   ·subst ki
    rw[sw_left,sw_other f (by omega) (by omega)]
    exact h2 j (by omega) hn (by omega) k0
   ·rw[sw_other f ki kj]
    by_cases a1:(k-1) / 2=i
    ·rw[a1,sw_left];exact ho k (by omega) k1
    ·rw[sw_other f a1 kp]
     exact h1 k k0 k1 (by omega) a1
 ·rw[show (j-1) / 2=i by omega,sw_left,sw_other f (by omega) (by omega)]
  have:=h1 k k0 k1 (by omega) (by omega)
  rw[kp] at this;exact this
theorem down_end{f:Nat→Tm}{n i0 i:Nat}(h:DownAt f n i0 i)(ho:∀ k,k=2*i+1∨k=2*i+2→k<n→le (f i) (f k)):UpAt f n i0∧(i≠i0→Heap f n):=by
 obtain⟨h1,h2⟩:=h
 have all:∀ k,0<k→k<n→(k≠i0∨i≠i0)→le (f ((k-1) / 2)) (f k):=fun k k0 k1 hk=>by
  by_cases e:(k-1) / 2=i
  ·rw[e];exact ho k (by omega) k1
  ·exact h1 k k0 k1 hk e
 refine⟨⟨fun k k0 k1 hk=>all k k0 k1 (.inl hk),fun k k0 k1 kp p0=>?_⟩,fun hne k k0 k1=>all k k0 k1 (.inr hne)⟩
 by_cases e:i=i0
 ·subst e;exact h2 k k0 k1 kp p0
 ·have a:=all i0 p0 (by omega) (.inr e)
  have b:=all k k0 k1 (.inr e);rw[kp] at b;exact le_trans a b
theorem heap_least{f:Nat→Tm}{n:Nat}(h:Heap f n):∀ k,k<n→le (f 0) (f k):=by
 intro k
 induction k using Nat.strongRecOn with
 |_ k ih=>
  intro hk;by_cases e:k=0
  ·subst e;exact le_refl _
  ·exact le_trans (ih ((k-1) / 2) (by omega) (by omega)) (h k (by omega) hk)
theorem heap_push{f:Nat→Tm}{n:Nat}(h:Heap f n):UpAt f (n+1) n:=by
 refine⟨fun k k0 k1 hk=>h k k0 (by omega),fun k k0 k1 kp p0=>by omega⟩
theorem heap_hole{f:Nat→Tm}{n i:Nat}(h:Heap f (n+1))(hi:i<n):DownAt (sw f i n) n i i:=by
 refine⟨fun k k0 k1 hk kp=>?_,fun k k0 k1 kp p0=>?_⟩
 ·rw[sw_other f (by omega) (by omega),sw_other f (by omega) (by omega)]
  exact h k k0 (by omega)
 ·rw[sw_other f (by omega) (by omega),sw_other f (by omega) (by omega)]
  have a:=h i p0 (by omega)
  have b:=h k k0 (by omega)
  rw[kp] at b;exact le_trans a b
theorem heap_shrink{f:Nat→Tm}{n m:Nat}(h:Heap f n)(hm:m≤n):Heap f m:=fun k k0 k1=>h k k0 (by omega)
theorem down_of_zero{f:Nat→Tm}{n:Nat}(h:UpAt f n 0):Heap f n:=up_end h (.inl rfl)
end Tmr
open Go.RowKit
structure Later(w0:World)where
 w:World
 below:Below w0.heap.size w0 w
instance(w0:World):Nonempty (Later w0):=⟨⟨w0,Below.refl _ _⟩⟩
theorem Below.next{a b c:World}(h:Below a.heap.size a b)(k:Below b.heap.size b c):Below a.heap.size a c:=h.trans (k.mono h.size)
theorem Below.held{w w':World}(k:Below w.heap.size w w'){a:Addr}{v:Value}(h:w.cell? a=some v):w'.cell? a=some v:=(k.cell (World.block_lt_of_cell? _ _ h)).trans h
theorem Later.cell{w0:World}{a:Addr}{v:Value}(h:w0.cell? a=some v):∀ u:Later w0,u.w.cell? a=some v:=fun u=>Below.held u.below h
theorem Later.call{w0:World}{f:FuncId}{vs:Array Value}{v:Value}(u:Later w0)(h:Calls Tryz.prog f vs u.w fun e w'=>e=.returned v∧Below u.w.heap.size u.w w'):
  Calls Tryz.prog f vs u.w fun e w'=>e=.returned v∧∃ u':Later w0,w'=u'.w:=
 h.mono fun _ w' ⟨he,k⟩=>⟨he,⟨w',Below.next u.below k⟩,rfl⟩
theorem Later.call_same{w0:World}{f:FuncId}{vs:Array Value}{v:Value}(u:Later w0)(h:Calls Tryz.prog f vs u.w fun e w'=>e=.returned v∧u.w=w'):
  Calls Tryz.prog f vs u.w fun e w'=>e=.returned v∧∃ u':Later w0,w'=u'.w:=
 h.mono fun _ _ ⟨he,k⟩=>⟨he,u,k.symm⟩
theorem wp_region_later{id:Nat}{Q:Exit→Act→World→Prop}{a:Act}{w:World}{l:List Oper}(hm:Tryz.prog.follows .mixedOrders=true)(hB:Region.lexB .any l.toArray=true)
  (h:wpQuiet Tryz.prog l.toArray (fun w'=>∃ u:Later w,w'=u.w) (fun a'=>∀ w',(∃ u:Later w,w'=u.w)→Q .normal a' w') l a):(Code.region id l.toArray true).wp Tryz.prog Q a w:=
 wp_region_quiet (C:=fun w'=>∃ u:Later w,w'=u.w) hm hB ⟨⟨w.drew,(Below.refl _ _).drew⟩,rfl⟩ (by simpa using h)
open Go.ChangeShapes Go.WideShapes Go.ChangeAt
namespace Small
theorem below1(w:World)(a:Obj):Below w.heap.size w (w.alloc a):=(Below.refl _ _).alloc (Nat.le_refl _) _
theorem below2(w:World)(a b:Obj):Below w.heap.size w ((w.alloc a).alloc b):=(below1 w a).alloc (by simp) _
theorem below3(w:World)(a b c:Obj):Below w.heap.size w (((w.alloc a).alloc b).alloc c):=(below2 w a b).alloc (by simp;omega) _
theorem after{a b c:World}(h:Below a.heap.size a b)(k:Below b.heap.size b c):Below a.heap.size a c:=h.trans (k.mono h.size)
theorem ret_int{a b:Int}(h:a=b):Ending.returned (.int .i64 a)=.returned (.int .i64 b):=by rw[h]
theorem ret_bool{a b:Bool}(h:a=b):Ending.returned (.bool a)=.returned (.bool b):=by rw[h]
theorem cell_keep{w w':World}(k:Below w.heap.size w w'){a:Addr}{v:Value}(h:w.cell? a=some v):w'.cell? a=some v:=
 (k.cell (World.block_lt_of_cell? _ _ h)).trans h
theorem fit{a:Int}(h:(Lit.int .i64 a).wf=true):-9223372036854775808≤a∧a≤9223372036854775807:=by
 simp[Lit.wf,IntKind.min,IntKind.max,IntKind.bits,IntKind.signed] at h
 omega
def Lies(w:World)(g:Nat)(t:TypeId)(cs:List Value):Prop:=w.heap[g]?=some (Obj.cells cs.toArray t (0,0))
section
variable {w w':World} {g:Nat} {t:TypeId} {cs:List Value}
theorem Lies.lt(h:Lies w g t cs):g<w.heap.size:=Nat.lt_of_not_le fun k=>by
 have:w.heap[g]?=none:=Array.getElem?_eq_none k
 rw[Lies,this] at h
 cases h
theorem Lies.cell(h:Lies w g t cs){i:Nat}{v:Value}(hv:cs[i]?=some v):w.cell? ⟨g,i,none⟩=some v:=by
 rw[cell_of_row w g i cs.toArray t (0,0) h];simpa using hv
theorem Lies.open_(h:Lies w g t cs)(i:Nat):w.frozen? ⟨g,i,none⟩=false:=by
 unfold Lies at h
 simp[World.frozen?,h]
theorem Lies.new(w:World)(t:TypeId)(cs:List Value):Lies (w.alloc (Obj.cells cs.toArray t)) w.heap.size t cs:=heap_alloc_new w _
theorem Lies.keep(h:Lies w g t cs){B:Nat}(k:Below B w w')(hg:g<B):Lies w' g t cs:=(k.block g hg).trans h
theorem Lies.next(h:Lies w g t cs)(k:Below w.heap.size w w'):Lies w' g t cs:=h.keep k h.lt
theorem Lies.drew(h:Lies w g t cs):Lies w.drew g t cs:=h
theorem Lies.alloc(h:Lies w g t cs)(o:Obj):Lies (w.alloc o) g t cs:=h.next (below1 w o)
theorem Lies.far(h:Lies w g t cs){p:Addr}(hp:g≠p.block)(u:Value):Lies (w.setCell p u) g t cs:=(Below.heap_setCell w p u g hp).trans h
theorem Lies.put(h:Lies w g t cs)(i:Nat)(u:Value):Lies (w.setCell ⟨g,i,none⟩ u) g t (cs.set i u):=by
 unfold Lies at h ⊢
 simp[World.setCell,Array.getElem?_modify,h]
theorem Lies.four{a b c d:Value}(h:Lies w g t [a,b,c,d]):
  w.cell? ⟨g,0,none⟩=some a∧w.cell? ⟨g,1,none⟩=some b∧w.cell? ⟨g,2,none⟩=some c∧w.cell? ⟨g,3,none⟩=some d∧
   w.frozen? ⟨g,0,none⟩=false∧w.frozen? ⟨g,1,none⟩=false∧w.frozen? ⟨g,2,none⟩=false∧w.frozen? ⟨g,3,none⟩=false:=
 ⟨h.cell rfl,h.cell rfl,h.cell rfl,h.cell rfl,h.open_ 0,h.open_ 1,h.open_ 2,h.open_ 3⟩
end
end Small
end Go.Proofs.YtfjlnniahfbdfaaGreat
