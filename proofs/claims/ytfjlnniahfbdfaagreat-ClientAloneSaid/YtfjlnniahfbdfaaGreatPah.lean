/- A part of the proof. -/
import Derived.Test.YtfjlnniahfbdfaaGreatPaa
import Derived.Test.YtfjlnniahfbdfaaGreatPac
import Derived.StillTailTactics
import Derived.Laws.Cover1
import Derived.Maps.OwnSet
import Derived.Maps.Ext
import Derived.DeepKeys4
import Derived.Maps.AppendAt
import Derived.Laws.OwnMore
import Derived.BigRegion
import Derived.BigQuiet
import Derived.Deep.QuietTactic
import Derived.LoopTactic
import Derived.Deep.RegionLaw
import Derived.Test.YtfjlnniahfbdfaaGreatPag
set_option linter.unusedVariables false
set_option maxHeartbeats 4000000
namespace Go.Proofs.YtfjlnniahfbdfaaGreat
open Lib (hid)
open Go.ChangeShapes Go.WideShapes Go.ChangeAt Go.RowKit
namespace Tmr
open Small
set_option maxRecDepth 100000
abbrev tv(x:Tm):Value:=.agg #[.string x.key,.int .i64 x.s,.int .i64 x.e]
abbrev tcells(x:Tm):Array Value:=#[.string x.key,.int .i64 x.s,.int .i64 x.e]
def cmpS(a b:ByteArray):Int:=if Op.bytesLess a.toList b.toList=true then -1 else if a.toList == b.toList then 0 else 1
def cmpT(a b:Tm):Int:=if lt a b=true then -1 else if lt b a=true then 1 else 0
theorem cmpT_neg(a b:Tm):decide (cmpT a b<0)=lt a b:=by
 unfold cmpT
 cases lt a b<;>cases lt b a<;>simp
theorem nanS_ok(a:ByteArray)(w:World):Calls Tryz.prog 254 #[.string a] w fun r w'=>r=.returned (.bool false)∧w=w':=by
 go_enter Tryz.func254,Tryz.ntmps254
 go_wp2
 go_ret
 exact⟨ret_bool (by simp),rfl⟩
theorem compareS_ok(a b:ByteArray)(w:World):Calls Tryz.prog 253 #[.string a,.string b] w fun r w'=>r=.returned (.int .i64 (cmpS a b))∧w=w':=by
 cases hx:Op.bytesLess a.toList b.toList<;>cases hy:(a.toList == b.toList)
 all_goals
  have H:Hid (cmpS a b=if Op.bytesLess a.toList b.toList=true then -1 else if a.toList == b.toList then 0 else 1):=hid rfl
  go_enter Tryz.func253,Tryz.ntmps253;go_wp2_with fail
  refine (nanS_ok _ _).mono ?_
  rintro e w1 ⟨rfl,rfl⟩;go_wp2_with fail
  refine (nanS_ok _ _).mono ?_
  rintro e w1 ⟨rfl,rfl⟩;go_wp2;go_ret;exact⟨ret_int (by rw[H.out,hx,hy];rfl),rfl⟩
theorem or3_ok(a b c d:Int)(p:Nat)(w:World)(h0:w.cell? ⟨p,0,none⟩=some (.int .i64 a))(h1:w.cell? ⟨p,1,none⟩=some (.int .i64 b))(h2:w.cell? ⟨p,2,none⟩=some (.int .i64 c))
  (hd:Hid (d=if a=0 then (if b=0 then c else b) else a)):
  Calls Tryz.prog 216 #[.slice (some ⟨p,0,none⟩) 3 3] w fun r w'=>r=.returned (.int .i64 d)∧w=w':=by
 go_enter Tryz.func216,Tryz.ntmps216
 go_wp2
 go_loop [8] (fun i=>i=.int .i64 0∨(i=.int .i64 1∧a=0)∨(i=.int .i64 2∧a=0∧b=0)∨(i=.int .i64 3∧a=0∧b=0∧c=0)) (fun i=>3-(intOf i).toNat)
 case atStart=>exact .inl rfl
 case round=>
  rcases hrel with rfl|⟨rfl,rfl⟩|⟨rfl,rfl,rfl⟩|⟨rfl,rfl,rfl,rfl⟩
  ·by_cases ha:a=0
   ·subst ha
    go_wp2;go_round
    case rel=>exact .inr (.inl (by simp))
    case measure=>simp[intOf]
   ·have hne:(a != 0)=true:=by simp[ha]
    go_wp2;go_ret;exact⟨ret_int (by rw[hd.out];simp[ha]),rfl⟩
  ·by_cases hb:b=0
   ·subst hb
    go_wp2;go_round
    case rel=>exact .inr (.inr (.inl (by simp)))
    case measure=>simp[intOf]
   ·have hne:(b != 0)=true:=by simp[hb]
    go_wp2;go_ret;exact⟨ret_int (by rw[hd.out];simp[hb]),rfl⟩
  ·by_cases hc:c=0
   ·subst hc
    go_wp2;go_round
    case rel=>exact .inr (.inr (.inr (by simp)))
    case measure=>simp[intOf]
   ·have hne:(c != 0)=true:=by simp[hc]
    go_wp2;go_ret;exact⟨ret_int (by rw[hd.out];simp),rfl⟩
  ·go_wp2
   go_ret;exact⟨ret_int (by rw[hd.out];simp),rfl⟩
theorem cmp_all(a b:Tm):cmpT a b=if Spn.cmp3 a.e b.e=0 then (if Spn.cmp3 a.s b.s=0 then cmpS a.key b.key else Spn.cmp3 a.s b.s) else Spn.cmp3 a.e b.e:=by
 unfold cmpT lt Spn.cmp3 cmpS
 by_cases he:a.e=b.e
 ·by_cases hs:a.s=b.s
  ·simp only[he,hs]
   simp;cases hx:Op.bytesLess a.key.toList b.key.toList with
   |true=>simp
   |false=>
    cases hy:Op.bytesLess b.key.toList a.key.toList with
    |true=>
     have:a.key.toList≠b.key.toList:=fun e=>by rw[e,bl_irrefl] at hy;cases hy
     simp[this]
    |false=>simp[bl_total _ _ hx hy]
  ·have hs':¬b.s=a.s:=fun h=>hs h.symm
   simp only[he,hs,hs',if_false];simp
   repeat' split
   all_goals omega
 ·have he':¬b.e=a.e:=fun h=>he h.symm
  simp only[he,he',if_false];simp
  repeat' split
  all_goals omega
theorem compare_ok(a b:Tm)(w:World):
  Calls Tryz.prog 252 #[tv a,tv b] w fun r w'=>r=.returned (.int .i64 (cmpT a b))∧Below w.heap.size w w':=by
 go_enter Tryz.func252,Tryz.ntmps252
 go_wp2_with fail
 refine wp_region_still_tail 19 (by kernel_rfl) (by kernel_rfl) ?_
 obtain⟨wq,hwq⟩:∃ wq,wq=(((w.alloc (Obj.cells (tcells a) 218)).alloc (Obj.cells (tcells b) 218)).drew):=⟨_,rfl⟩
 change wpStill _ _ (World.drew _) _ _ _
 rw[←hwq]
 have k0:Below w.heap.size w wq:=by rw[hwq];exact (below2 _ _ _).drew
 have c0:wq.cell? ⟨w.heap.size,0,none⟩=some (.string a.key):=by rw[hwq];go_simp
 have c1:wq.cell? ⟨w.heap.size,1,none⟩=some (.int .i64 a.s):=by rw[hwq];go_simp
 have c2:wq.cell? ⟨w.heap.size,2,none⟩=some (.int .i64 a.e):=by rw[hwq];go_simp
 have d0:wq.cell? ⟨w.heap.size+1,0,none⟩=some (.string b.key):=by rw[hwq];go_simp
 have d1:wq.cell? ⟨w.heap.size+1,1,none⟩=some (.int .i64 b.s):=by rw[hwq];go_simp
 have d2:wq.cell? ⟨w.heap.size+1,2,none⟩=some (.int .i64 b.e):=by rw[hwq];go_simp
 clear hwq
 simp only[List.take_succ_cons,List.take_zero,List.drop_succ_cons,List.drop_zero]
 still_step
 still_step
 still_step
 still_step
 still_step
 still_step
 still_call (Spn.turned (Spn.compare_ok a.e b.e wq))
 still_step
 still_step
 still_step
 still_step
 still_step
 still_step
 still_call (Spn.turned (Spn.compare_ok a.s b.s wq))
 still_step
 still_step
 still_step
 still_step
 still_call (Spn.turned (compareS_ok a.key b.key wq))
 refine wpStill_nil ?_
 change wpList _ _ _ _ _ (World.drew _)
 obtain⟨wp,hwp⟩:∃ wp,wp=(((w.alloc (Obj.cells (tcells a) 218)).alloc (Obj.cells (tcells b) 218)).drew):=⟨_,rfl⟩
 rw[←hwp]
 have kp:Below w.heap.size w wp:=by rw[hwp];exact (below2 _ _ _).drew
 clear hwp k0 c0 c1 c2 d0 d1 d2
 go_wp2_with fail
 refine (or3_ok (Spn.cmp3 a.e b.e) (Spn.cmp3 a.s b.s) (cmpS a.key b.key) (cmpT a b) _ _ (by go_simp) (by go_simp) (by go_simp) (hid (cmp_all a b))).mono ?_
 rintro e w1 ⟨rfl,rfl⟩
 go_wp2
 go_ret
 exact⟨rfl,kp.alloc kp.size _⟩
end Tmr
namespace Tmr
open Small
set_option maxRecDepth 100000
theorem laidOut:laidOutB Tryz.prog=true:=by kernel_rfl
theorem rowT:(218:TypeId)<Tryz.prog.types.size:=of_decide_eq_true (by kernel_rfl)
theorem wideT:(match Tryz.prog.underlying 218 with|some (.array _ _)|some (.struct _)=>true|_=>false)=true:=by rw[Tryz.underlying218]
theorem lawT:WideMaps.KeyLaw Tryz.prog 218:=deep_law_laid laidOut (m:=3) (by omega) rowT (by kernel_rfl) wideT
theorem keyed:Maps.Keyed Tryz.prog 218:=Maps.Keyed.of_law lawT
theorem cellsT:Tryz.prog.cellsOf 218=3:=by kernel_rfl
theorem cellsSp:Tryz.prog.cellsOf 129=2:=by kernel_rfl
theorem cellsI:Tryz.prog.cellsOf 2=1:=by kernel_rfl
theorem cellsS:Tryz.prog.cellsOf 9=1:=by kernel_rfl
theorem keyTypeT:Tryz.prog.keyType 218=true:=by kernel_rfl
theorem formedT{a b c:Value}:(Value.agg #[a,b,c]).formed Tryz.prog 218=true:=by simp[Value.formed,Tryz.underlying218,cellsT]
def Fits(x:Tm):Prop:=x.key.size≤maxLen∧(Lit.int .i64 x.s).wf=true∧(Lit.int .i64 x.e).wf=true
theorem lits_ok(d:Nat)(x:Tm)(h:Fits x):∃ l,Tryz.prog.keyLits (d+3) 218 [.string x.key,.int .i64 x.s,.int .i64 x.e]=some l:=by
 obtain⟨h1,h2,h3⟩:=h
 simp[Program.keyLits,Tryz.underlying218,Tryz.underlying129,Tryz.underlying2,Tryz.underlying9,cellsT,cellsSp,cellsI,cellsS,h1,h2,h3]
 rw[if_pos (by intro i hi;match i,hi with|0,_=>simp|1,_=>simp)]
 exact⟨_,rfl⟩
theorem key_ok(x:Tm)(h:Fits x):∃ l,keyOf Tryz.prog 218 (tv x)=some l:=by
 obtain⟨l,hl⟩:=lits_ok (Tryz.prog.types.size-2) x h
 have hs:Tryz.prog.types.size-2+3=Tryz.prog.types.size+1:=by
  have h1:218<Tryz.prog.types.size:=rowT;omega
 rw[hs] at hl
 refine⟨.string (keyBytes l),?_⟩
 unfold keyOf
 rw[Tryz.underlying218]
 simp only[keyTypeT,formedT,Bool.and_self,if_true,Value.cells,hl,Option.map_some]
noncomputable def kl(x:Tm):Lit:=(keyOf Tryz.prog 218 (tv x)).getD (.bool false)
theorem kl_ok{x:Tm}(h:Fits x):keyOf Tryz.prog 218 (tv x)=some (kl x):=by
 obtain⟨l,hl⟩:=key_ok x h
 rw[kl,hl];rfl
theorem tv_inj{x y:Tm}(h:tv x=tv y):x=y:=by
 cases x;cases y;simp[tv] at h;simp[h]
theorem kl_ne{x y:Tm}(hx:Fits x)(hy:Fits y)(h:x≠y):kl x≠kl y:=fun e=>h (tv_inj (keyed.inj (kl_ok hx) (e▸kl_ok hy)))
def Mp(w:World)(m:Nat)(p:Tm→Option Nat)(c:Nat):Prop:=
 ∃ D:DataW Unit,w.ownsMap Tryz.prog 218 (plainElem Tryz.prog 3) m c D∧Maps.size D=c∧
   ∀ x,Fits x→(p x=none→Maps.has D (kl x)=false)∧(∀ i,p x=some i→i≤1048576∧Maps.has D (kl x)=true∧∀ z,D.atKey (kl x) z=.lit (.int .i64 i))
theorem tight{w:World}{P:Program}{k:TypeId}{R:Value→Option (DataW Unit×List MemPlace)}{b n:Nat}{D:DataW Unit}(h:w.ownsMap P k R b n D):w.ownsMap P k R b (Maps.size D) D:=by
 obtain⟨es,clock,hb,F,hs,rfl⟩:=h
 exact⟨es,clock,hb,F,by simp[Maps.size,length_sorted],rfl⟩
theorem zero_int(w:World):(zeroValue 3).run Tryz.prog w=.ok (.int .i64 0) w:=by kernel_rfl
def upd(p:Tm→Option Nat)(x:Tm)(i:Option Nat)(q:Tm→Option Nat):Prop:=q x=i∧∀ y,y≠x→q y=p y
theorem Mp.kept{w w':World}{m c:Nat}{p:Tm→Option Nat}(h:Mp w m p c)(hb:w'.heap[m]?=w.heap[m]?):Mp w' m p c:=by
 obtain⟨D,⟨es,clock,h1,F,hs,hD⟩,h2,h3⟩:=h
 exact⟨D,⟨es,clock,hb.trans h1,F,hs,hD⟩,h2,h3⟩
theorem Mp.lt{w:World}{m c:Nat}{p:Tm→Option Nat}(h:Mp w m p c):m<w.heap.size:=by
 obtain⟨D,h1,_⟩:=h
 exact h1.lt
theorem Mp.made(w:World):Mp (w.alloc (.map #[] 0)) w.heap.size (fun _=>none) 0:=
 ⟨.map [],World.ownsMap_made w _ _ _,rfl,fun x _=>⟨fun _=>rfl,fun i h=>by cases h⟩⟩
theorem Mp.map{w:World}{m c:Nat}{p:Tm→Option Nat}(h:Mp w m p c):∃ es clock,w.heap[m]?=some (.map es clock):=by
 obtain⟨D,⟨es,clock,h1,_⟩,_⟩:=h
 exact⟨es,clock,h1⟩
theorem Mp.look_none{w:World}{m c:Nat}{p:Tm→Option Nat}(h:Mp w m p c){x:Tm}(hx:Fits x)(hp:p x=none):
  (Instr.lookup 225 (.map (some m)) (tv x) true).run Tryz.prog w=.ok (.tuple #[.int .i64 0,.bool false]) w:=by
 obtain⟨D,h1,h2,h3⟩:=h
 have hh:=(h3 x hx).1 hp
 obtain⟨v,ps,hrun,hv⟩:=h1.look_ok keyed Tryz.underlying225 (zero_int w) (plainElem_int Tryz.underlying3 (q:=.i64) (a:=0) (by decide)) (kl_ok hx)
 rw[Maps.atKey_of_not_has hh] at hv
 obtain⟨c',rfl,hc,_⟩:=plainElem_int_inv Tryz.underlying3 hv
 simp only[Prod.mk.injEq,DataW.lit.injEq,Lit.int.injEq,true_and] at hc
 rw[hrun,hh,←hc.1]
theorem Mp.look_some{w:World}{m c:Nat}{p:Tm→Option Nat}(h:Mp w m p c){x:Tm}(hx:Fits x){i:Nat}(hp:p x=some i):
  (Instr.lookup 225 (.map (some m)) (tv x) true).run Tryz.prog w=.ok (.tuple #[.int .i64 i,.bool true]) w:=by
 obtain⟨D,h1,h2,h3⟩:=h
 obtain⟨_,hh,ha⟩:=(h3 x hx).2 i hp
 obtain⟨v,ps,hrun,hv⟩:=h1.look_ok keyed Tryz.underlying225 (zero_int w) (plainElem_int Tryz.underlying3 (q:=.i64) (a:=0) (by decide)) (kl_ok hx)
 rw[ha] at hv
 obtain⟨c',rfl,hc,_⟩:=plainElem_int_inv Tryz.underlying3 hv
 simp only[Prod.mk.injEq,DataW.lit.injEq,Lit.int.injEq,true_and] at hc
 rw[hrun,hh,←hc.1]
theorem wf_small{i:Nat}(h:i≤1048576):(Lit.int .i64 (i:Int)).wf=true:=by
 simp[Lit.wf,IntKind.min,IntKind.max,IntKind.bits,IntKind.signed];omega
theorem Mp.store{w:World}{m c:Nat}{p:Tm→Option Nat}(h:Mp w m p c){x:Tm}(hx:Fits x){i:Nat}(hi:i≤1048576)(hc:c≤1048576){q:Tm→Option Nat}(hq:upd p x (some i) q):
  ∃ w',(Instr.mapUpdate 225 (.map (some m)) (tv x) (.int .i64 i)).run Tryz.prog w=.ok () w'∧Mp w' m q (if p x=none then c+1 else c)∧w.grownBy w' (some m):=by
 obtain⟨D,h1,h2,h3⟩:=h
 obtain⟨w',hrun,ho,hg⟩:=h1.update keyed Tryz.underlying225 (by unfold maxLen;omega) (kl_ok hx) (plainElem_int Tryz.underlying3 (q:=.i64) (a:=i) (wf_small hi))
 have hk:=keyed.key (kl_ok hx)
 have hsz:=Maps.size_put (k:=kl x) (h1.tidy keyed) (.lit (.int .i64 (i:Int)))
 have hs:Maps.size (D.put (kl x) (.lit (.int .i64 (i:Int))))=if p x=none then c+1 else c:=by
  rw[hsz,h2];cases hp:p x with
  |none=>rw[(h3 x hx).1 hp];simp
  |some j=>rw[((h3 x hx).2 j hp).2.1];simp
 have ho':=tight ho
 rw[hs] at ho'
 refine⟨w',hrun,⟨_,ho',hs,fun y hy=>?_⟩,hg⟩
 by_cases e:y=x
 ·subst e
  refine⟨(fun hn=>by rw[hq.1] at hn;cases hn),fun j hj=>?_⟩
  rw[hq.1] at hj;cases hj
  exact⟨hi,Maps.has_put_same h1.isMap hk _,fun z=>Maps.atKey_put_same h1.isMap hk _ z⟩
 ·have hne:=kl_ne hy hx e
  rw[hq.2 y e,Maps.has_put_other hne];refine⟨(h3 y hy).1,fun j hj=>?_⟩
  obtain⟨a,b,cc⟩:=(h3 y hy).2 j hj;exact⟨a,b,fun z=>by rw[Maps.atKey_put_other hne];exact cc z⟩
theorem Mp.drop{w:World}{m c:Nat}{p:Tm→Option Nat}(h:Mp w m p c){x:Tm}(hx:Fits x){i:Nat}(hp:p x=some i){q:Tm→Option Nat}(hq:upd p x none q)(ty:TypeId):
  ∃ w',(Builtin.delete_ #[225,218] ty #[.map (some m),tv x]).run Tryz.prog w=.ok (.tuple #[]) w'∧Mp w' m q (c-1)∧w.grownBy w' (some m):=by
 obtain⟨D,h1,h2,h3⟩:=h
 obtain⟨w',hrun,ho,hg⟩:=h1.drop keyed Tryz.underlying225 (kl_ok hx) ty
 have hsz:=Maps.size_del (k:=kl x) (h1.tidy keyed)
 rw[((h3 x hx).2 i hp).2.1,h2] at hsz
 simp at hsz
 have hs:Maps.size (D.del (kl x))=c-1:=by omega
 have ho':=tight ho
 rw[hs] at ho'
 refine⟨w',hrun,⟨_,ho',hs,fun y hy=>?_⟩,hg.grown⟩
 by_cases e:y=x
 ·subst e
  exact⟨fun _=>Maps.has_del_same,(fun j hj=>by rw[hq.1] at hj;cases hj)⟩
 ·have hne:=kl_ne hy hx e
  rw[hq.2 y e,Maps.has_del_other hne];refine⟨(h3 y hy).1,fun j hj=>?_⟩
  obtain⟨a,b,cc⟩:=(h3 y hy).2 j hj;exact⟨a,b,fun z=>by rw[Maps.atKey_del_other hne];exact cc z⟩
end Tmr
namespace Tmr
open Small
set_option maxRecDepth 100000
def rows(f:Nat→Tm):Nat→List Value
 |0=>[]
 |n+1=>rows f n++[.string (f n).key,.int .i64 (f n).s,.int .i64 (f n).e]
theorem rows_len(f:Nat→Tm)(n:Nat):(rows f n).length=n*3:=by
 induction n with
 |zero=>rfl
 |succ n ih=>simp[rows,ih];omega
theorem rows_at(f:Nat→Tm)(n i:Nat)(h:i<n):(rows f n)[i*3]?=some (.string (f i).key)∧(rows f n)[i*3+1]?=some (.int .i64 (f i).s)∧(rows f n)[i*3+2]?=some (.int .i64 (f i).e):=by
 induction n with
 |zero=>omega
 |succ n ih=>
  have hl:=rows_len f n;by_cases hi:i<n
  ·obtain⟨h0,h1,h2⟩:=ih hi
   rw[rows,List.getElem?_append_left (by omega),List.getElem?_append_left (by omega),List.getElem?_append_left (by omega)]
   exact⟨h0,h1,h2⟩
  ·obtain rfl:i=n:=by omega
   rw[rows,List.getElem?_append_right (by omega),List.getElem?_append_right (by omega),List.getElem?_append_right (by omega),hl]
   refine⟨by simp,?_,?_⟩
   ·rw[show i*3+1-i*3=1 by omega];rfl
   ·rw[show i*3+2-i*3=2 by omega];rfl
theorem rows_eq{f f':Nat→Tm}{n:Nat}(h:∀ k,k<n→f' k=f k):rows f' n=rows f n:=by
 induction n with
 |zero=>rfl
 |succ n ih=>rw[rows,rows,ih (fun k hk=>h k (by omega)),h n (by omega)]
theorem rows_take(f:Nat→Tm){n k:Nat}(h:k≤n):(rows f n).take (k*3)=rows f k:=by
 induction n with
 |zero=>obtain rfl:k=0:=by omega
        rfl
 |succ n ih=>
  by_cases e:k=n+1
  ·subst e;rw[List.take_of_length_le (by rw[rows_len];omega)]
  ·rw[rows,List.take_append_of_le_length (by rw[rows_len];omega),ih (by omega)]
structure Mv(g m r:Nat)(w w':World):Prop where
 os:w'.os=w.os
 tape:w'.tape=w.tape
 output:w'.output=w.output
 size:w.heap.size≤w'.heap.size
 block:∀ k,k<w.heap.size→k≠g→k≠m→k≠r→w'.heap[k]?=w.heap[k]?
section
variable {g m r r':Nat} {w w' w'':World}
theorem Mv.refl(g m r:Nat)(w:World):Mv g m r w w:=⟨rfl,rfl,rfl,Nat.le_refl _,fun _ _ _ _ _=>rfl⟩
theorem Mv.trans(h:Mv g m r w w')(hr:r'=r∨w.heap.size≤r')(k:Mv g m r' w' w''):Mv g m r w w'':=
 ⟨k.os.trans h.os,k.tape.trans h.tape,k.output.trans h.output,Nat.le_trans h.size k.size,fun i hi a b c=>
  (k.block i (Nat.lt_of_lt_of_le hi h.size) a b (by rcases hr with rfl|hr;exact c;omega)).trans (h.block i hi a b c)⟩
theorem Mv.of_below(h:Below w.heap.size w w'):Mv g m r w w':=⟨h.os,h.tape,h.output,h.size,fun k hk _ _ _=>h.block k hk⟩
theorem Mv.then(h:Mv g m r w w')(k:Below w'.heap.size w' w''):Mv g m r w w'':=h.trans (.inl rfl) (Mv.of_below k)
theorem Mv.of_grown{b:Option Nat}(h:w.grownBy w' b)(hb:∀ k,b=some k→k=g∨k=m∨k=r):Mv g m r w w':=
 ⟨h.os,h.tape,h.output,h.size,fun k hk a c d=>h.block k hk (fun e=>by rcases hb k e.symm with x|x|x<;>omega)⟩
end
structure Qu(w:World)(g m r:Nat)(f:Nat→Tm)(n:Nat)(v:Value)(p:Tm→Option Nat):Prop where
 lies:Lies w g 230 [v,.map (some m)]
 row:w.ownsRow 0 218 3 v n (rows f n)
 at_:v.ownBlock=none∨v.ownBlock=some r
 map:Mp w m p n
 place:∀ x i,p x=some i↔i<n∧f i=x
 fits:∀ i,i<n→Fits (f i)
 few:n≤1048576
section
variable {w w':World} {g m r n:Nat} {f:Nat→Tm} {v:Value} {p:Tm→Option Nat}
theorem Qu.some_(h:Qu w g m r f n v p)(hn:0<n):∃ cap cur,v=.slice (some ⟨r,0,none⟩) n cap∧w.heap[r]?=some (.cells cur 218 (0,0))∧n≤cap∧cap≤maxLen∧cur.size=cap*3∧cur.toList.take (n*3)=rows f n:=by
 rcases h.row.2 with ⟨_,h0⟩|⟨r',cap,cur,h1,_,h2,h3,h4,h5,h6⟩
 ·omega
 ·have:=h.at_
  rw[h1] at this;simp[Value.ownBlock] at this;subst this;exact⟨cap,cur,h1,h2,h3,h4,h5,h6⟩
theorem Qu.len(h:Qu w g m r f n v p):∃ a cap,v=.slice a n cap:=by
 rcases h.row.2 with ⟨h1,h0⟩|⟨r',cap,cur,h1,_⟩
 ·exact⟨none,0,by rw[h1,h0]⟩
 ·exact⟨_,_,h1⟩
theorem cells_of_row{w:World}{r n:Nat}{f:Nat→Tm}{cur:Array Value}{e:TypeId}(hb:w.heap[r]?=some (.cells cur e (0,0)))(ht:cur.toList.take (n*3)=rows f n){i:Nat}(hi:i<n):
  w.cell? ⟨r,i*3,none⟩=some (.string (f i).key)∧w.cell? ⟨r,i*3+1,none⟩=some (.int .i64 (f i).s)∧w.cell? ⟨r,i*3+2,none⟩=some (.int .i64 (f i).e):=by
 have key:∀ j u,(rows f n)[j]?=some u→w.cell? ⟨r,j,none⟩=some u:=fun j u hj=>by
  rw[cell_of_row w r j cur e (0,0) hb];rw[←ht,List.getElem?_take] at hj
  split at hj
  ·simpa using hj
  ·cases hj
 obtain⟨a,b,c⟩:=rows_at f n i hi
 exact⟨key _ _ a,key _ _ b,key _ _ c⟩
theorem Qu.ne_gr(h:Qu w g m r f n v p)(hn:0<n):g≠r:=fun e=>by
 obtain⟨cap,cur,_,h2,_⟩:=h.some_ hn
 have h1:=h.lies
 unfold Lies at h1
 rw[e,h2] at h1
 simp at h1
theorem Qu.ne_gm(h:Qu w g m r f n v p):g≠m:=fun e=>by
 obtain⟨es,clock,h2⟩:=h.map.map
 have h1:=h.lies
 unfold Lies at h1
 rw[e,h2] at h1
 cases h1
theorem Qu.ne_rm(h:Qu w g m r f n v p)(hn:0<n):r≠m:=fun e=>by
 obtain⟨es,clock,h2⟩:=h.map.map
 obtain⟨cap,cur,_,h1,_⟩:=h.some_ hn
 rw[e,h2] at h1
 cases h1
theorem own_keep{base:Nat}{e:TypeId}{size:Nat}{v:Value}{n:Nat}{xs:List Value}(h:w.ownsRow base e size v n xs)(k:∀ b,v.ownBlock=some b→w'.heap[b]?=w.heap[b]?):w'.ownsRow base e size v n xs:=by
 refine⟨h.1,?_⟩
 rcases h.2 with h0|⟨g,cap,cur,h1,h2,h3,h4⟩
 ·exact .inl h0
 ·exact .inr ⟨g,cap,cur,h1,h2,(k g (by rw[h1];rfl)).trans h3,h4⟩
theorem Qu.keep(h:Qu w g m r f n v p)(k1:w'.heap[g]?=w.heap[g]?)(k2:w'.heap[m]?=w.heap[m]?)(k3:v.ownBlock=some r→w'.heap[r]?=w.heap[r]?):Qu w' g m r f n v p:=
 ⟨k1.trans h.lies,own_keep h.row (fun b hb=>by
  rcases h.at_ with e|e
  ·rw[e] at hb;cases hb
  ·rw[e] at hb;cases hb;exact k3 e),h.at_,h.map.kept k2,h.place,h.fits,h.few⟩
theorem Qu.lt_r(h:Qu w g m r f n v p)(e:v.ownBlock=some r):r<w.heap.size:=(h.row.lt r e).2
theorem Qu.next(h:Qu w g m r f n v p)(k:Below w.heap.size w w'):Qu w' g m r f n v p:=
 h.keep (k.block _ h.lies.lt) (k.block _ h.map.lt) (fun e=>k.block _ (h.lt_r e))
end
end Tmr
namespace Tmr
open Small
set_option maxRecDepth 100000
theorem len_ok{g m r n:Nat}{f:Nat→Tm}{v:Value}{p:Tm→Option Nat}(w:World)(H:Hid (Qu w g m r f n v p)):
  Calls Tryz.prog 210 #[.pointer (some ⟨g,0,none⟩)] w fun e w'=>e=.returned (.int .i64 n)∧w=w':=by
 obtain⟨a,cap,rfl⟩:=H.out.len
 have c0:=H.out.lies.cell (i:=0) rfl
 go_enter Tryz.func210,Tryz.ntmps210
 go_wp2
 go_ret
 exact⟨rfl,rfl⟩
theorem less_ok{g m r n i j:Nat}{f:Nat→Tm}{v:Value}{p:Tm→Option Nat}(w:World)(H:Hid (Qu w g m r f n v p))(hi:i<n)(hj:j<n):
  Calls Tryz.prog 248 #[.pointer (some ⟨g,0,none⟩),.int .i64 i,.int .i64 j] w fun e w'=>e=.returned (.bool (lt (f i) (f j)))∧Below w.heap.size w w':=by
 obtain⟨cap,cur,rfl,hb,_,_,_,ht⟩:=H.out.some_ (by omega)
 obtain⟨x0,x1,x2⟩:=cells_of_row hb ht hi
 obtain⟨y0,y1,y2⟩:=cells_of_row hb ht hj
 have few:=H.out.few
 have c0:=H.out.lies.cell (i:=0) rfl
 have HN:=hid (cmpT_neg (f i) (f j))
 have i0:(0:Int)≤i:=by omega
 have j0:(0:Int)≤j:=by omega
 have i1:(i:Int)<n:=by omega
 have j1:(j:Int)<n:=by omega
 clear hb ht
 go_enter Tryz.func248,Tryz.ntmps248
 go_wp2_with fail
 go_still_tail 14,(by kernel_rfl)
 go_wp2_with fail
 refine (compare_ok (f i) (f j) _).mono ?_
 rintro e w1 ⟨rfl,k1⟩
 go_wp2
 go_ret
 exact⟨ret_bool HN.out,after (Below.refl _ _).drew k1⟩
def put(f:Nat→Tm)(k:Nat)(x:Tm):Nat→Tm:=fun i=>if i=k then x else f i
theorem sw_put(f:Nat→Tm)(i j:Nat):sw f i j=put (put f i (f j)) j (f i):=by
 funext k
 unfold sw put
 by_cases h1:k=i
 ·by_cases h2:k=j
  ·subst h1;subst h2;simp
  ·subst h1;simp[h2]
 ·by_cases h2:k=j
  ·subst h2;simp[h1]
  ·simp[h1,h2]
theorem rows_put(f:Nat→Tm){n k:Nat}(x:Tm)(h:k<n):(((rows f n).set (k*3) (.string x.key)).set (k*3+1) (.int .i64 x.s)).set (k*3+2) (.int .i64 x.e)=rows (put f k x) n:=by
 induction n with
 |zero=>omega
 |succ n ih=>
  have hl:=rows_len f n;by_cases hk:k<n
  ·rw[rows,rows,List.set_append_left _ _ (by omega),List.set_append_left _ _ (by simp;omega),List.set_append_left _ _ (by simp;omega),ih hk]
   simp[put,show ¬n=k by omega]
  ·obtain rfl:k=n:=by omega
   rw[rows,rows,List.set_append_right _ _ (by omega),List.set_append_right _ _ (by omega),List.set_append_right _ _ (by omega),hl,rows_eq (f':=put f k x) (f:=f) (fun i hi=>by simp[put,show ¬i=k by omega])]
   rw[show k*3-k*3=0 by omega,show k*3+1-k*3=1 by omega,show k*3+2-k*3=2 by omega]
   simp[put]
def Rw(w:World)(r cap n:Nat)(f:Nat→Tm):Prop:=∃ cs,Lies w r 218 cs∧cs.length=cap*3∧cs.take (n*3)=rows f n
section
variable {w w':World} {g m r n cap:Nat} {f:Nat→Tm} {v:Value} {p:Tm→Option Nat}
theorem Qu.rw_(h:Qu w g m r f n v p)(hn:0<n):∃ cap,v=.slice (some ⟨r,0,none⟩) n cap∧n≤cap∧cap≤maxLen∧Rw w r cap n f:=by
 obtain⟨cap,cur,h1,h2,h3,h4,h5,h6⟩:=h.some_ hn
 exact⟨cap,h1,h3,h4,cur.toList,by unfold Lies;simpa using h2,by simpa using h5,h6⟩
theorem Rw.own(h:Rw w r cap n f)(h1:n≤cap)(h2:cap≤maxLen):w.ownsRow 0 218 3 (.slice (some ⟨r,0,none⟩) n cap) n (rows f n):=by
 obtain⟨cs,a,b,c⟩:=h
 exact⟨rows_len f n,.inr ⟨r,cap,cs.toArray,rfl,Nat.zero_le _,a,h1,h2,by simpa using b,by simpa using c⟩⟩
theorem Rw.put3(h:Rw w r cap n f){k:Nat}(x:Tm)(hk:k<n):
  Rw (((w.setCell ⟨r,k*3,none⟩ (.string x.key)).setCell ⟨r,k*3+1,none⟩ (.int .i64 x.s)).setCell ⟨r,k*3+2,none⟩ (.int .i64 x.e)) r cap n (put f k x):=by
 obtain⟨cs,a,b,c⟩:=h
 refine⟨_,((a.put _ _).put _ _).put _ _,by simp[b],?_⟩
 rw[List.take_set,List.take_set,List.take_set,c,rows_put f x hk]
theorem Rw.cells(h:Rw w r cap n f){i:Nat}(hi:i<n):
  w.cell? ⟨r,i*3,none⟩=some (.string (f i).key)∧w.cell? ⟨r,i*3+1,none⟩=some (.int .i64 (f i).s)∧w.cell? ⟨r,i*3+2,none⟩=some (.int .i64 (f i).e):=by
 obtain⟨cs,a,b,c⟩:=h
 exact cells_of_row (cur:=cs.toArray) a (by simpa using c) hi
theorem Rw.frozen(h:Rw w r cap n f)(o:Nat):w.frozen? ⟨r,o,none⟩=false:=by
 obtain⟨cs,a,_⟩:=h
 exact a.open_ o
theorem Rw.kept(h:Rw w r cap n f)(k:w'.heap[r]?=w.heap[r]?):Rw w' r cap n f:=by
 obtain⟨cs,a,b⟩:=h
 exact⟨cs,k.trans a,b⟩
theorem Rw.lt(h:Rw w r cap n f):r<w.heap.size:=by
 obtain⟨cs,a,b⟩:=h
 exact a.lt
theorem put3_other(w:World)(r a b c:Nat)(x y z:Value){k:Nat}(hk:k≠r):(((w.setCell ⟨r,a,none⟩ x).setCell ⟨r,b,none⟩ y).setCell ⟨r,c,none⟩ z).heap[k]?=w.heap[k]?:=by
 rw[Below.heap_setCell _ _ _ _ hk,Below.heap_setCell _ _ _ _ hk,Below.heap_setCell _ _ _ _ hk]
theorem put3_mv(w:World)(g m r a b c:Nat)(x y z:Value):Mv g m r w (((w.setCell ⟨r,a,none⟩ x).setCell ⟨r,b,none⟩ y).setCell ⟨r,c,none⟩ z):=
 ⟨rfl,rfl,rfl,by simp[World.setCell],fun k _ _ _ hk=>put3_other w r a b c x y z hk⟩
end
theorem wpList_store{w:World}{ops:Array Oper}{rest:List Oper}{o:Oper}{a:Act}{Q:Exit→Act→World→Prop}(hg:o.guard=none)(mo xo vo:Operand)(hop:o.op=Op.mapUpdate 225 mo xo vo)
  {m c:Nat} {p:Tm→Option Nat} {x:Tm} {i:Nat} (hm:a.eval mo=.map (some m)) (hx:a.eval xo=tv x) (hv:a.eval vo=.int .i64 i) (h:Mp w m p c) (fx:Fits x) (hi:i≤1048576) (hc:c≤1048576) {q:Tm→Option Nat} (hq:upd p x (some i) q)
  (hK:∀ w',Mp w' m q (if p x=none then c+1 else c)→w.grownBy w' (some m)→wpList Tryz.prog ops Q rest (a.put o.dst undef) w'):wpList Tryz.prog ops Q (o::rest) a w:=by
 refine wpList_plain hg fun K' hK'=>?_
 obtain⟨w',hrun,r1,r2⟩:=h.store fx hi hc hq
 unfold Oper.wp
 simp[execOp,hop,hm,hx,hv,hrun,Result.andThen]
 exact hK' _ _ (hK w' r1 r2)
open Classical in
noncomputable def place1(p:Tm→Option Nat)(x:Tm)(i:Nat):Tm→Option Nat:=fun y=>if y=x then some i else p y
theorem place1_upd(p:Tm→Option Nat)(x:Tm)(i:Nat):upd p x (some i) (place1 p x i):=⟨by simp[place1],fun y hy=>by simp[place1,hy]⟩
theorem place_sw{f:Nat→Tm}{n i j:Nat}{p:Tm→Option Nat}(hp:∀ x k,p x=some k↔k<n∧f k=x)(hi:i<n)(hj:j<n):
  ∀ x k,place1 (place1 p (f j) i) (f i) j x=some k↔k<n∧sw f i j k=x:=by
 have inj:∀ a b,a<n→b<n→f a=f b→a=b:=fun a b ha hb e=>by
  have h1:=(hp (f a) a).2 ⟨ha,rfl⟩;have h2:=(hp (f a) b).2 ⟨hb,e.symm⟩;rw[h1] at h2;exact Option.some.inj h2
 intro x k
 unfold place1
 by_cases h1:x=f i
 ·simp only[h1,if_true]
  constructor
  ·intro e
   obtain rfl:=Option.some.inj e;exact⟨hj,sw_right f i j⟩
  ·rintro⟨hk,e⟩
   congr 1
   by_cases a:k=i
   ·subst a;rw[sw_left] at e;exact inj _ _ hj hk e
   ·by_cases b:k=j
    ·exact b.symm
    ·rw[sw_other f a b] at e;exact absurd (inj _ _ hk hi e) a
 ·simp only[h1,if_false]
  by_cases h2:x=f j
  ·simp only[h2,if_true]
   constructor
   ·intro e
    obtain rfl:=Option.some.inj e;exact⟨hi,sw_left f i j⟩
   ·rintro⟨hk,e⟩
    congr 1
    by_cases a:k=i
    ·exact a.symm
    ·by_cases b:k=j
     ·subst b;rw[sw_right] at e;exact absurd (h2.trans e.symm) h1
     ·rw[sw_other f a b] at e;exact absurd (inj _ _ hk hj e) b
  ·simp only[h2,if_false]
   rw[hp]
   constructor
   ·rintro⟨hk,rfl⟩
    exact⟨hk,sw_other f (fun e=>h1 (by rw[e])) (fun e=>h2 (by rw[e]))⟩
   ·rintro⟨hk,rfl⟩
    refine⟨hk,?_⟩
    by_cases a:k=i
    ·subst a;rw[sw_left] at h2;exact absurd rfl h2
    ·by_cases b:k=j
     ·subst b;rw[sw_right] at h1;exact absurd rfl h1
     ·exact (sw_other f a b).symm
end Tmr
namespace Tmr
open Small
set_option maxRecDepth 100000
abbrev stored(w:World)(r i j:Nat)(a b:Tm):World:=
 ((((((w.setCell ⟨r,i*3,none⟩ (.string b.key)).setCell ⟨r,i*3+1,none⟩ (.int .i64 b.s)).setCell ⟨r,i*3+2,none⟩ (.int .i64 b.e)).setCell ⟨r,j*3,none⟩ (.string a.key)).setCell ⟨r,j*3+1,none⟩ (.int .i64 a.s)).setCell ⟨r,j*3+2,none⟩ (.int .i64 a.e)).drew
def Swapped(g m r n:Nat)(f:Nat→Tm)(w:World)(e:Ending)(w':World):Prop:=e=.returned (.tuple #[])∧∃ v p,Qu w' g m r f n v p∧Mv g m r w w'
theorem stored_ok{g m r n i j cap:Nat}{f:Nat→Tm}{p:Tm→Option Nat}{w W:World}(H:Qu w g m r f n (.slice (some ⟨r,0,none⟩) n cap) p)(hi:i<n)(hj:j<n)(hW:W=stored w r i j (f i) (f j)):
  Lies W g 230 [.slice (some ⟨r,0,none⟩) n cap,.map (some m)]∧Rw W r cap n (sw f i j)∧Mp W m p n∧Mv g m r w W:=by
 obtain⟨cap',he,_,_,R⟩:=H.rw_ (by omega)
 obtain rfl:cap=cap':=by simpa using he
 have ng:=H.ne_gr (by omega)
 have nm:m≠r:=fun e=>H.ne_rm (by omega) e.symm
 obtain⟨W1,h1⟩:∃ W1,W1=((w.setCell ⟨r,i*3,none⟩ (.string (f j).key)).setCell ⟨r,i*3+1,none⟩ (.int .i64 (f j).s)).setCell ⟨r,i*3+2,none⟩ (.int .i64 (f j).e):=⟨_,rfl⟩
 have R1:=R.put3 (f j) hi
 have V1:=put3_mv w g m r (i*3) (i*3+1) (i*3+2) (.string (f j).key) (.int .i64 (f j).s) (.int .i64 (f j).e)
 have B1:∀ k,k≠r→W1.heap[k]?=w.heap[k]?:=fun k hk=>by rw[h1];exact put3_other w r _ _ _ _ _ _ hk
 unfold stored at hW
 rw[←h1] at R1 V1 hW
 clear h1
 obtain⟨W2,h2⟩:∃ W2,W2=((W1.setCell ⟨r,j*3,none⟩ (.string (f i).key)).setCell ⟨r,j*3+1,none⟩ (.int .i64 (f i).s)).setCell ⟨r,j*3+2,none⟩ (.int .i64 (f i).e):=⟨_,rfl⟩
 have R2:=R1.put3 (f i) hj
 have V2:=put3_mv W1 g m r (j*3) (j*3+1) (j*3+2) (.string (f i).key) (.int .i64 (f i).s) (.int .i64 (f i).e)
 have B2:∀ k,k≠r→W2.heap[k]?=W1.heap[k]?:=fun k hk=>by rw[h2];exact put3_other W1 r _ _ _ _ _ _ hk
 rw[←h2] at R2 V2 hW
 clear h2
 rw[←sw_put] at R2
 subst hW
 exact⟨((B2 g ng).trans (B1 g ng)).trans H.lies,R2.kept rfl,H.map.kept ((B2 m nm).trans (B1 m nm)),(V1.trans (.inl rfl) V2).then (Below.refl _ _).drew⟩
theorem swap_tail{g m r n i j cap:Nat}{f:Nat→Tm}{p:Tm→Option Nat}{w W:World}(hi:i<n)(hj:j<n)(H:Hid (Qu w g m r f n (.slice (some ⟨r,0,none⟩) n cap) p))(w1 w2:World)
  (L:Lies W g 230 [.slice (some ⟨r,0,none⟩) n cap,.map (some m)]) (R:Rw W r cap n (sw f i j)) (V:Mv g m r w W) (nm:m≠g) (nr:m≠r)
  (g1:W.grownBy w1 (some m)) (M1:Mp w1 m (place1 p (f j) i) n) (g2:w1.grownBy w2 (some m)) (M2:Mp w2 m (place1 (place1 p (f j) i) (f i) j) n):
  Swapped g m r n (sw f i j) w (.returned (.tuple #[])) w2:=by
 refine⟨rfl,.slice (some ⟨r,0,none⟩) n cap,_,⟨?_,?_,.inr rfl,M2,place_sw H.out.place hi hj,?_,H.out.few⟩,?_⟩
 ·exact ((g2.block _ (Nat.lt_of_lt_of_le L.lt g1.size) (by simpa using nm.symm)).trans (g1.block _ L.lt (by simpa using nm.symm))).trans L
 ·obtain⟨cap',he,a,b,_⟩:=H.out.rw_ (by omega)
  obtain rfl:cap=cap':=by simpa using he
  exact (R.kept ((g2.block _ (Nat.lt_of_lt_of_le R.lt g1.size) (by simpa using nr.symm)).trans (g1.block _ R.lt (by simpa using nr.symm)))).own a b
 ·intro k hk
  obtain⟨k',h1,h2⟩:=((same_sw f hi hj).2 (sw f i j k)).1 ⟨k,hk,rfl⟩;rw[←h2];exact H.out.fits k' h1
 ·exact (V.trans (.inl rfl) (Mv.of_grown g1 (fun k hk=>.inr (.inl (by cases hk;rfl))))).trans (.inl rfl) (Mv.of_grown g2 (fun k hk=>.inr (.inl (by cases hk;rfl))))
theorem upd_count{p:Tm→Option Nat}{x:Tm}{c:Nat}(h:p x≠none):(if p x=none then c+1 else c)=c:=by simp[h]
theorem swap_ok{g m r n i j:Nat}{f:Nat→Tm}{v:Value}{p:Tm→Option Nat}(w:World)(H:Hid (Qu w g m r f n v p))(hi:i<n)(hj:j<n):
  Calls Tryz.prog 251 #[.pointer (some ⟨g,0,none⟩),.int .i64 i,.int .i64 j] w (Swapped g m r n (sw f i j) w):=by
 obtain⟨cap,rfl,_,_,R⟩:=H.out.rw_ (by omega)
 obtain⟨x0,x1,x2⟩:=R.cells hi
 obtain⟨y0,y1,y2⟩:=R.cells hj
 have few:=H.out.few
 have c0:=H.out.lies.cell (i:=0) rfl
 have i0:(0:Int)≤i:=by omega
 have j0:(0:Int)≤j:=by omega
 have i1:(i:Int)<n:=by omega
 have j1:(j:Int)<n:=by omega
 have fz:=R.frozen
 have RH:=hid R
 clear R
 by_cases hij:i=j
 ·obtain rfl:=hij
  go_enter Tryz.func251,Tryz.ntmps251;go_wp2_with fail
  go_region;obtain⟨W,hW⟩:∃ W,W=stored w r i i (f i) (f i):=⟨_,rfl⟩
  change Exit.then _ _ _ _ (stored w r i i (f i) (f i))
  rw[←hW];obtain⟨L,R,M,V⟩:=stored_ok H.out hi hj hW;have nm:m≠g:=fun e=>H.out.ne_gm e.symm
  have nr:m≠r:=fun e=>H.out.ne_rm (by omega) e.symm
  clear hW x0 x1 x2 y0 y1 y2 c0 fz RH;have c0:=L.cell (i:=0) rfl;have c1:=L.cell (i:=1) rfl;obtain⟨x0,x1,x2⟩:=R.cells hi;rw[sw_left] at x0 x1 x2;have L:=hid L;have R:=hid R;have M:=hid M;have V:=hid V;have NM:=hid nm;have NR:=hid nr;clear nm nr;go_wp2_with fail
  go_still_tail 12,(by kernel_rfl)
  have hp1:p (f i)≠none:=by rw[(H.out.place (f i) i).2 ⟨hj,rfl⟩];simp
  have HP:=hid hp1
  have hp2:place1 p (f i) i (f i)≠none:=by
   unfold place1
   split
   ·simp
   ·rw[(H.out.place (f i) i).2 ⟨hi,rfl⟩];simp
  have HP2:=hid hp2;clear hp1 hp2;refine wpList_store rfl _ _ _ rfl (x:=f i) (i:=i) (m:=m) rfl rfl rfl (M.out.kept rfl) (H.out.fits i hj) (by omega) few (place1_upd _ _ _) ?_
  intro w1 M1 g1;rw[upd_count HP.out] at M1;have G1:Hid (W.grownBy w1 (some m)):=hid ⟨g1.os,g1.tape,g1.output,g1.size,g1.block⟩;have M1:=hid M1;clear g1 c0 c1 x0 x1 x2;have c0:=(Lies.cell (w:=w1) (G1.out.block _ L.out.lt (by simpa using NM.out.symm) |>.trans L.out) (i:=0) rfl)
  have c1:=(Lies.cell (w:=w1) (G1.out.block _ L.out.lt (by simpa using NM.out.symm) |>.trans L.out) (i:=1) rfl)
  obtain⟨x0,x1,x2⟩:=(R.out.kept (w':=w1) (G1.out.block _ R.out.lt (by simpa using NR.out.symm))).cells hj
  rw[sw_right] at x0 x1 x2;go_wp2_with fail
  go_still_tail 12,(by kernel_rfl)
  refine wpList_store rfl _ _ _ rfl (x:=f i) (i:=i) (m:=m) rfl rfl rfl (M1.out.kept rfl) (H.out.fits i hi) (by omega) few (place1_upd _ _ _) ?_
  intro w2 M2 g2;rw[upd_count HP2.out] at M2;have G2:Hid (w1.grownBy w2 (some m)):=hid ⟨g2.os,g2.tape,g2.output,g2.size,g2.block⟩;have M2:=hid M2;clear g2 c0 c1 x0 x1 x2;go_wp2;exact bodyPost_ret (v:=.tuple #[]) (by simp[results,Tryz.results251,go_sem]) rfl (swap_tail hi hj H w1 w2 L.out R.out V.out NM.out NR.out G1.out M1.out G2.out M2.out)
 ·have e00:¬j*3=i*3∧¬j*3=i*3+1∧¬j*3=i*3+2∧¬j*3+1=i*3∧¬j=i∧¬j*3+1=i*3+2∧¬j*3+2=i*3∧¬j*3+2=i*3+1:=by omega
  obtain⟨e00,e01,e02,e10,e11,e12,e20,e21⟩:=e00;go_enter Tryz.func251,Tryz.ntmps251;go_wp2_with fail
  go_region;clear e00 e01 e02 e10 e12 e20 e21;obtain⟨W,hW⟩:∃ W,W=stored w r i j (f i) (f j):=⟨_,rfl⟩
  change Exit.then _ _ _ _ (stored w r i j (f i) (f j))
  rw[←hW];obtain⟨L,R,M,V⟩:=stored_ok H.out hi hj hW;have nm:m≠g:=fun e=>H.out.ne_gm e.symm
  have nr:m≠r:=fun e=>H.out.ne_rm (by omega) e.symm
  clear hW x0 x1 x2 y0 y1 y2 c0 fz RH;have c0:=L.cell (i:=0) rfl;have c1:=L.cell (i:=1) rfl;obtain⟨x0,x1,x2⟩:=R.cells hi;rw[sw_left] at x0 x1 x2;have L:=hid L;have R:=hid R;have M:=hid M;have V:=hid V;have NM:=hid nm;have NR:=hid nr;clear nm nr;go_wp2_with fail
  go_still_tail 12,(by kernel_rfl)
  have hp1:p (f j)≠none:=by rw[(H.out.place (f j) j).2 ⟨hj,rfl⟩];simp
  have HP:=hid hp1
  have hp2:place1 p (f j) i (f i)≠none:=by
   unfold place1
   split
   ·simp
   ·rw[(H.out.place (f i) i).2 ⟨hi,rfl⟩];simp
  have HP2:=hid hp2;clear hp1 hp2;refine wpList_store rfl _ _ _ rfl (x:=f j) (i:=i) (m:=m) rfl rfl rfl (M.out.kept rfl) (H.out.fits j hj) (by omega) few (place1_upd _ _ _) ?_
  intro w1 M1 g1;rw[upd_count HP.out] at M1;have G1:Hid (W.grownBy w1 (some m)):=hid ⟨g1.os,g1.tape,g1.output,g1.size,g1.block⟩;have M1:=hid M1;clear g1 c0 c1 x0 x1 x2;have c0:=(Lies.cell (w:=w1) (G1.out.block _ L.out.lt (by simpa using NM.out.symm) |>.trans L.out) (i:=0) rfl)
  have c1:=(Lies.cell (w:=w1) (G1.out.block _ L.out.lt (by simpa using NM.out.symm) |>.trans L.out) (i:=1) rfl)
  obtain⟨x0,x1,x2⟩:=(R.out.kept (w':=w1) (G1.out.block _ R.out.lt (by simpa using NR.out.symm))).cells hj
  rw[sw_right] at x0 x1 x2;go_wp2_with fail
  go_still_tail 12,(by kernel_rfl)
  refine wpList_store rfl _ _ _ rfl (x:=f i) (i:=j) (m:=m) rfl rfl rfl (M1.out.kept rfl) (H.out.fits i hi) (by omega) few (place1_upd _ _ _) ?_
  intro w2 M2 g2;rw[upd_count HP2.out] at M2;have G2:Hid (w1.grownBy w2 (some m)):=hid ⟨g2.os,g2.tape,g2.output,g2.size,g2.block⟩;have M2:=hid M2;clear g2 c0 c1 x0 x1 x2;go_wp2;exact bodyPost_ret (v:=.tuple #[]) (by simp[results,Tryz.results251,go_sem]) rfl (swap_tail hi hj H w1 w2 L.out R.out V.out NM.out NR.out G1.out M1.out G2.out M2.out)
end Tmr
namespace Tmr
open Small
set_option maxRecDepth 100000
abbrev hv(g:Nat):Value:=.iface 253 (.pointer (some ⟨g,0,none⟩))
theorem meth_less (v : Value) (w : World) : (method 200 253 v "Less").run Tryz.prog w = .ok (248, v) w := by kernel_rfl
theorem meth_swap (v : Value) (w : World) : (method 200 253 v "Swap").run Tryz.prog w = .ok (251, v) w := by kernel_rfl
theorem meth_len (v : Value) (w : World) : (method 200 253 v "Len").run Tryz.prog w = .ok (210, v) w := by kernel_rfl
theorem meth_push (v : Value) (w : World) : (method 200 253 v "Push").run Tryz.prog w = .ok (250, v) w := by kernel_rfl
theorem meth_pop (v : Value) (w : World) : (method 200 253 v "Pop").run Tryz.prog w = .ok (249, v) w := by kernel_rfl
def Sorts(g m r n k:Nat)(f:Nat→Tm)(w:World)(f':Nat→Tm)(w':World):Prop:=∃ v p,Qu w' g m r f' n v p∧Same k f f'∧Mv g m r w w'
def UpRel(g m r l n:Nat)(f:Nat→Tm)(w:World)(j:Nat)(w':World):Prop:=∃ f',Sorts g m r l n f w f' w'∧UpAt f' n j
def UpDone(g m r l n:Nat)(f:Nat→Tm)(w:World)(e:Ending)(w':World):Prop:=e=.returned (.tuple #[])∧∃ f',Sorts g m r l n f w f' w'∧Heap f' n
theorem up_ok{g m r l n j:Nat}{f:Nat→Tm}{v:Value}{p:Tm→Option Nat}(w:World)(H:Hid (Qu w g m r f l v p))(hj:j<n)(hn:n≤l)(U:Hid (UpAt f n j)):
  Calls Tryz.prog 214 #[hv g,.int .i64 j] w (UpDone g m r l n f w):=by
 have few:=H.out.few
 go_enter Tryz.func214,Tryz.ntmps214
 go_wp2
 go_loopw [1] (fun sj wr=>∃ j:Nat,j<n∧sj=.int .i64 j∧Hid (UpRel g m r l n f w j wr)) (fun sj _=>(intOf sj).toNat)
 case atStart=>exact⟨j,hj,rfl,hid ⟨f,⟨v,p,H.out,Same.refl _ _,Mv.refl _ _ _ _⟩,U.out⟩⟩
 case round=>
  obtain⟨j,hj,rfl,REL⟩:=hrel;obtain⟨f1,⟨v1,p1,q1,s1,m1⟩,u1⟩:=REL.out;have Q1:=hid q1;have S1:=hid s1;have M1:=hid m1;have U1:=hid u1;clear q1 s1 m1 u1 REL;by_cases j0:j=0
  ·subst j0
   go_wp2;exact bodyPost_end (v:=.tuple #[]) (by simp[results,Tryz.results214,go_sem]) rfl ⟨rfl,f1,⟨v1,p1,Q1.out,S1.out,M1.out⟩,up_end U1.out (.inl rfl)⟩
  ·obtain⟨k,hk⟩:∃ k,k=(j-1) / 2:=⟨_,rfl⟩
   have hq:((j:Int)-1) / 2=(k:Int):=by omega
   have hkj:k<j:=by omega
   have hne:((k:Int) == (j:Int))=false:=by simp;omega
   have j1:(1:Int)≤j:=by omega
   have HK:=hid hk;clear hk;have ml:=meth_less (.pointer (some ⟨g,0,none⟩)) wr;cases hl:lt (f1 j) (f1 k)
   ·go_wp2_with fail
    refine (less_ok (i:=j) (j:=k) wr Q1 (by omega) (by omega)).mono ?_
    rintro e w1 ⟨rfl,k1⟩;rw[hl];go_wp2;exact bodyPost_end (v:=.tuple #[]) (by simp[results,Tryz.results214,go_sem]) rfl ⟨rfl,f1,⟨v1,p1,Q1.out.next k1,S1.out,M1.out.then k1⟩,up_end U1.out (.inr (by rw[←HK.out];exact hl))⟩
   ·go_wp2_with fail
    refine (less_ok (i:=j) (j:=k) wr Q1 (by omega) (by omega)).mono ?_
    rintro e w1 ⟨rfl,k1⟩;rw[hl];have Q2:=hid (Q1.out.next k1);have K1:=hid k1;clear ml k1;have ms:=meth_swap (.pointer (some ⟨g,0,none⟩)) w1;go_wp2_with fail
    refine (swap_ok (i:=k) (j:=j) w1 Q2 (by omega) (by omega)).mono ?_
    rintro e w2 ⟨rfl,v3,p3,q3,m3⟩;have Q3:=hid q3;have M3:=hid m3;have HL:=hid hl;clear q3 m3 ms hl;go_wp2;go_roundw
    case rel=>exact⟨k,by omega,rfl,hid ⟨sw f1 k j,⟨v3,p3,Q3.out,S1.out.trans (same_sw f1 (by omega) hj),(M1.out.then K1.out).trans (.inl rfl) M3.out⟩,by
     have:=up_step U1.out (by omega) hj (by rw[←HK.out];exact HL.out)
     rw[←HK.out] at this;exact this⟩⟩
    case measure=>simp[intOf];omega
end Tmr
namespace Tmr
open Small
set_option maxRecDepth 100000
def DnRel(g m r l n i0:Nat)(f:Nat→Tm)(w:World)(i:Nat)(w':World):Prop:=∃ f',Sorts g m r l n f w f' w'∧DownAt f' n i0 i
def DnDone(g m r l n i0:Nat)(f:Nat→Tm)(w:World)(e:Ending)(w':World):Prop:=∃ b f',e=.returned (.bool b)∧Sorts g m r l n f w f' w'∧UpAt f' n i0∧(b=true→Heap f' n)
theorem down_done{g m r l n i0 i:Nat}{f f':Nat→Tm}{w w':World}(S:Sorts g m r l n f w f' w')(D:DownAt f' n i0 i)(ho:∀ k,k=2*i+1∨k=2*i+2→k<n→le (f' i) (f' k))(b:Bool)(hb:b=true→i≠i0):
  DnDone g m r l n i0 f w (.returned (.bool b)) w':=by
 obtain⟨a,c⟩:=down_end D ho
 exact⟨b,f',rfl,S,a,fun h=>c (hb h)⟩
theorem down_ok{g m r l n i0:Nat}{f:Nat→Tm}{v:Value}{p:Tm→Option Nat}(w:World)(H:Hid (Qu w g m r f l v p))(hn:n≤l)(hi0:i0≤n)(D:Hid (DownAt f n i0 i0)):
  Calls Tryz.prog 180 #[hv g,.int .i64 i0,.int .i64 n] w (DnDone g m r l n i0 f w):=by
 have few:=H.out.few
 go_enter Tryz.func180,Tryz.ntmps180
 go_wp2
 go_loopw [7] (fun si wr=>∃ i:Nat,i0≤i∧i≤n∧si=.int .i64 i∧Hid (DnRel g m r l n i0 f w i wr)) (fun si _=>n-(intOf si).toNat)
 case atStart=>exact⟨i0,Nat.le_refl _,hi0,rfl,hid ⟨f,⟨v,p,H.out,Same.refl _ _,Mv.refl _ _ _ _⟩,D.out⟩⟩
 case round=>
  obtain⟨i,hi,hin,rfl,REL⟩:=hrel;obtain⟨f1,⟨v1,p1,q1,s1,m1⟩,u1⟩:=REL.out;have Q1:=hid q1;have S1:=hid s1;have M1:=hid m1;have U1:=hid u1;clear q1 s1 m1 u1 REL;by_cases h1:2*i+1<n
  ·obtain⟨a,ha⟩:∃ a,a=2*i+1:=⟨_,rfl⟩
   obtain⟨b,hb⟩:∃ b,b=a+1:=⟨_,rfl⟩;have ea:2*(i:Int)+1=(a:Int):=by omega
   have eb:(a:Int)+1=(b:Int):=by omega
   have an:a<n:=by omega
   have a0:¬(a:Int)<0:=by omega
   have i2:a≤2*i+1∧2*i+1≤a∧b≤a+1∧a+1≤b:=by omega
   clear ha hb;by_cases hbn:b<n
   ·cases hl:lt (f1 b) (f1 a)
    ·skip
     have ml:=meth_less (.pointer (some ⟨g,0,none⟩)) wr;go_wp2_with fail
     refine (less_ok (i:=b) (j:=a) wr Q1 (by omega) (by omega)).mono ?_
     rintro e w1 ⟨rfl,k1⟩;rw[hl];have Q2:=hid (Q1.out.next k1);have K1:=hid k1;have HL:=hid hl;clear ml k1 hl;have LST:Hid (∀ k,k=2*i+1∨k=2*i+2→k<n→le (f1 a) (f1 k)):=hid (fun k hk hkn=>by rcases hk with rfl|rfl;(·rw[show 2*i+1=a by omega];exact le_refl _);(·rw[show 2*i+2=b by omega];exact HL.out))
     have ml:=meth_less (.pointer (some ⟨g,0,none⟩)) w1;cases ht:lt (f1 a) (f1 i)
     ·go_wp2_with fail
      refine (less_ok (i:=a) (j:=i) w1 Q2 (by omega) (by omega)).mono ?_
      rintro e w2 ⟨rfl,k2⟩;rw[ht];have K2:=hid k2;have HT:=hid ht;clear ml k2 ht;go_wp2;go_ret;exact down_done ⟨v1,p1,Q2.out.next K2.out,S1.out,(M1.out.then K1.out).then K2.out⟩ U1.out (fun k hk hkn=>le_trans HT.out (LST.out k hk hkn)) _ (fun h=>by simp at h;omega)
     ·go_wp2_with fail
      refine (less_ok (i:=a) (j:=i) w1 Q2 (by omega) (by omega)).mono ?_
      rintro e w2 ⟨rfl,k2⟩;rw[ht];have Q3:=hid (Q2.out.next k2);have K2:=hid k2;have HT:=hid ht;clear ml k2 ht;have ms:=meth_swap (.pointer (some ⟨g,0,none⟩)) w2;go_wp2_with fail
      refine (swap_ok (i:=i) (j:=a) w2 Q3 (by omega) (by omega)).mono ?_
      rintro e w3 ⟨rfl,v4,p4,q4,m4⟩;have Q4:=hid q4;have M4:=hid m4;clear q4 m4 ms;go_wp2;go_roundw
      case rel=>exact⟨a,by omega,by omega,rfl,hid ⟨sw f1 i a,⟨v4,p4,Q4.out,S1.out.trans (same_sw f1 (by omega) (by omega)),((M1.out.then K1.out).then K2.out).trans (.inl rfl) M4.out⟩,down_step U1.out hi (by omega) (by omega) HT.out LST.out⟩⟩
      case measure=>simp[intOf];omega
    ·skip
     have ml:=meth_less (.pointer (some ⟨g,0,none⟩)) wr;go_wp2_with fail
     refine (less_ok (i:=b) (j:=a) wr Q1 (by omega) (by omega)).mono ?_
     rintro e w1 ⟨rfl,k1⟩;rw[hl];have Q2:=hid (Q1.out.next k1);have K1:=hid k1;have HL:=hid hl;clear ml k1 hl;have LST:Hid (∀ k,k=2*i+1∨k=2*i+2→k<n→le (f1 b) (f1 k)):=hid (fun k hk hkn=>by rcases hk with rfl|rfl;(·rw[show 2*i+1=a by omega];exact le_of_lt HL.out);(·rw[show 2*i+2=b by omega];exact le_refl _))
     have ml:=meth_less (.pointer (some ⟨g,0,none⟩)) w1;cases ht:lt (f1 b) (f1 i)
     ·go_wp2_with fail
      refine (less_ok (i:=b) (j:=i) w1 Q2 (by omega) (by omega)).mono ?_
      rintro e w2 ⟨rfl,k2⟩;rw[ht];have K2:=hid k2;have HT:=hid ht;clear ml k2 ht;go_wp2;go_ret;exact down_done ⟨v1,p1,Q2.out.next K2.out,S1.out,(M1.out.then K1.out).then K2.out⟩ U1.out (fun k hk hkn=>le_trans HT.out (LST.out k hk hkn)) _ (fun h=>by simp at h;omega)
     ·go_wp2_with fail
      refine (less_ok (i:=b) (j:=i) w1 Q2 (by omega) (by omega)).mono ?_
      rintro e w2 ⟨rfl,k2⟩;rw[ht];have Q3:=hid (Q2.out.next k2);have K2:=hid k2;have HT:=hid ht;clear ml k2 ht;have ms:=meth_swap (.pointer (some ⟨g,0,none⟩)) w2;go_wp2_with fail
      refine (swap_ok (i:=i) (j:=b) w2 Q3 (by omega) (by omega)).mono ?_
      rintro e w3 ⟨rfl,v4,p4,q4,m4⟩;have Q4:=hid q4;have M4:=hid m4;clear q4 m4 ms;go_wp2;go_roundw
      case rel=>exact⟨b,by omega,by omega,rfl,hid ⟨sw f1 i b,⟨v4,p4,Q4.out,S1.out.trans (same_sw f1 (by omega) (by omega)),((M1.out.then K1.out).then K2.out).trans (.inl rfl) M4.out⟩,down_step U1.out hi (by omega) (by omega) HT.out LST.out⟩⟩
      case measure=>simp[intOf];omega
   ·have hbn':n≤b:=by omega
    have LST:Hid (∀ k,k=2*i+1∨k=2*i+2→k<n→le (f1 a) (f1 k)):=hid (fun k hk hkn=>by rcases hk with rfl|rfl;(·rw[show 2*i+1=a by omega];exact le_refl _);(·omega))
    have ml:=meth_less (.pointer (some ⟨g,0,none⟩)) wr;cases ht:lt (f1 a) (f1 i)
    ·go_wp2_with fail
     refine (less_ok (i:=a) (j:=i) wr Q1 (by omega) (by omega)).mono ?_
     rintro e w2 ⟨rfl,k2⟩;rw[ht];have K2:=hid k2;have HT:=hid ht;clear ml k2 ht;go_wp2;go_ret;exact down_done ⟨v1,p1,Q1.out.next K2.out,S1.out,M1.out.then K2.out⟩ U1.out (fun k hk hkn=>le_trans HT.out (LST.out k hk hkn)) _ (fun h=>by simp at h;omega)
    ·go_wp2_with fail
     refine (less_ok (i:=a) (j:=i) wr Q1 (by omega) (by omega)).mono ?_
     rintro e w2 ⟨rfl,k2⟩;rw[ht];have Q3:=hid (Q1.out.next k2);have K2:=hid k2;have HT:=hid ht;clear ml k2 ht;have ms:=meth_swap (.pointer (some ⟨g,0,none⟩)) w2;go_wp2_with fail
     refine (swap_ok (i:=i) (j:=a) w2 Q3 (by omega) (by omega)).mono ?_
     rintro e w3 ⟨rfl,v4,p4,q4,m4⟩;have Q4:=hid q4;have M4:=hid m4;clear q4 m4 ms;go_wp2;go_roundw
     case rel=>exact⟨a,by omega,by omega,rfl,hid ⟨sw f1 i a,⟨v4,p4,Q4.out,S1.out.trans (same_sw f1 (by omega) (by omega)),(M1.out.then K2.out).trans (.inl rfl) M4.out⟩,down_step U1.out hi (by omega) (by omega) HT.out LST.out⟩⟩
     case measure=>simp[intOf];omega
  ·have h1':(n:Int)≤2*(i:Int)+1:=by omega
   go_wp2;go_ret;exact down_done ⟨v1,p1,Q1.out,S1.out,M1.out⟩ U1.out (fun k hk hkn=>by omega) _ (fun h=>by simp at h;omega)
end Tmr
namespace Tmr
open Small
set_option maxRecDepth 100000
theorem assert_ok(v:Value)(w:World):(Instr.typeAssert (.iface 218 v) 20 218 true).run Tryz.prog w=.ok (.tuple #[v,.bool true]) w:=by kernel_rfl
theorem infoT:(Tryz.prog.info? 218).map (fun i=>(i.zero,i.size,i.bytes))=some (some (.agg #[.string ⟨#[]⟩,.int .i64 0,.int .i64 0]),3,32):=by kernel_rfl
theorem step_append_one{ops:Array Oper}{o:Oper}{a:Act}{w:World}{K:Act→World→Prop}{Q:Exit→Act→World→Prop}{E:Prop}
  (hg:o.guard=none) (s x:Operand) (hop:o.op=Op.call {callee:=Callee.builtin Builtin.append,args:=#[s,x],argTypes:=#[226,226]})
  (v:Value) (n:Nat) (xs:List Value) (hs:a.eval s=v) (hown:w.ownsRow 0 218 3 v n xs) (b:Nat) (y:Tm) (hx:a.eval x=.slice (some ⟨b,0,none⟩) 1 1)
  (hb:Lies w b 218 [.string y.key,.int .i64 y.s,.int .i64 y.e]) (hn:n≤1048576)
  (hK:∀ r' cap' w',w'.ownsRow 0 218 3 (.slice (some ⟨r',0,none⟩) (n+1:Nat) cap') (n+1) (xs++[.string y.key,.int .i64 y.s,.int .i64 y.e])→w.grownBy w' v.ownBlock→(some r'=v.ownBlock∨r'=w.heap.size)→K (a.put o.dst (.slice (some ⟨r',0,none⟩) (n+1:Nat) cap')) w'):
  if Region.wanted o (yielded ops a.tmps)=true then Oper.wp Tryz.prog o a w K Q else E:=by
 have hw:Region.wanted o (yielded ops a.tmps)=true:=by simp[Region.wanted,hg]
 rw[if_pos hw]
 obtain⟨i0,hi,hz0,hz1,hz2⟩:=info_parts infoT
 obtain⟨v',w',hr,h2,h3,_,h5⟩:=run_append_own_at (P:=Tryz.prog) w 0 226 o.type 218 i0 _ 3 32 Tryz.underlying226 hi hz0 hz1 hz2 rfl (by decide) v n xs hown ⟨b,0,none⟩ 1 1
  [.string y.key,.int .i64 y.s,.int .i64 y.e] rfl (fun j u hj=>by rw[Addr.add_lit,Nat.zero_add];exact hb.cell hj) (by simp[Value.oneCell']) (by unfold maxLen;omega) (by omega) (Nat.zero_le _)
 unfold Oper.wp
 simp[execOp,hop,resolve,invoke,builtin,hs,hx,hr,Result.andThen]
 rcases h2.2 with ⟨_,h6⟩|⟨r',cap',cur,h6,_⟩
 ·omega
 ·subst h6
  exact hK r' cap' w' h2 h3 (by simpa [Value.ownBlock] using h5)
def Pushed(g m r n:Nat)(f:Nat→Tm)(w:World)(e:Ending)(w':World):Prop:=e=.returned (.tuple #[])∧∃ r' v p,Qu w' g m r' f n v p∧Mv g m r w w'∧(r'=r∨w.heap.size≤r')
theorem place_push{f:Nat→Tm}{n:Nat}{p:Tm→Option Nat}{x:Tm}(hp:∀ y k,p y=some k↔k<n∧f k=y)(hx:p x=none):∀ y k,place1 p x n y=some k↔k<n+1∧put f n x k=y:=by
 intro y k
 unfold place1 put
 by_cases h:y=x
 ·subst h
  simp only[if_true]
  constructor
  ·intro e;obtain rfl:=Option.some.inj e;exact⟨by omega,by simp⟩
  ·rintro⟨hk,e⟩
   by_cases hk':k=n
   ·rw[hk']
   ·rw[if_neg hk'] at e
    have:=(hp y k).2 ⟨by omega,e⟩
    rw[hx] at this;cases this
 ·simp only[h,if_false]
  rw[hp]
  constructor
  ·rintro⟨hk,rfl⟩;exact⟨by omega,by rw[if_neg (by omega)]⟩
  ·rintro⟨hk,e⟩
   by_cases hk':k=n
   ·rw[if_pos hk'] at e;exact absurd e.symm h
   ·rw[if_neg hk'] at e;exact⟨by omega,e⟩
theorem rows_push(f:Nat→Tm)(n:Nat)(x:Tm):rows f n++[.string x.key,.int .i64 x.s,.int .i64 x.e]=rows (put f n x) (n+1):=by
 rw[rows,rows_eq (f':=put f n x) (f:=f) (fun k hk=>by simp[put,show ¬k=n by omega])]
 simp[put]
theorem set_mv(w:World)(g m r o:Nat)(u:Value):Mv g m r w (w.setCell ⟨g,o,none⟩ u):=
 ⟨rfl,rfl,rfl,by simp[World.setCell],fun k _ hk _ _=>Below.heap_setCell w ⟨g,o,none⟩ u k hk⟩
theorem push_tail{g m r n cap r2 cap2:Nat}{ad:Option Addr}{f:Nat→Tm}{p:Tm→Option Nat}{x:Tm}{w W w1 Wa w2:World}(H:Qu w g m r f n (.slice ad n cap) p)(hx:p x=none)(fx:Fits x)(hn:n<1048576)
  (B0:Below w.heap.size w W) (G1:W.grownBy w1 (some m)) (M1:Mp w1 m (place1 p x n) (n+1)) (gl:g<w1.heap.size) (NG:some g≠(Value.slice ad n cap).ownBlock) (ba:Below w1.heap.size w1 Wa)
  (O2:w2.ownsRow 0 218 3 (.slice (some ⟨r2,0,none⟩) (n+1:Nat) cap2) (n+1) (rows f n++[.string x.key,.int .i64 x.s,.int .i64 x.e])) (G2:Wa.grownBy w2 (Value.slice ad n cap).ownBlock)
  (A2:some r2=(Value.slice ad n cap).ownBlock∨r2=Wa.heap.size) (L2:Lies w2 g 230 [.slice ad n cap,.map (some m)]):
  Pushed g m r (n+1) (put f n x) w (.returned (.tuple #[])) (w2.setCell ⟨g,0,none⟩ (.slice (some ⟨r2,0,none⟩) (n+1:Nat) cap2)):=by
 have s1:=B0.size
 have s2:=G1.size
 have s3:=ba.size
 have nm:m≠g:=fun e=>H.ne_gm e.symm
 have own:∀ k,(Value.slice ad n cap).ownBlock=some k→k=r:=fun k hk=>by
  rcases H.at_ with e|e
  ·rw[e] at hk;cases hk
  ·rw[e] at hk;cases hk;rfl
 have mo:some m≠(Value.slice ad n cap).ownBlock:=fun e=>by
  obtain⟨es,clock,h2⟩:=H.map.map;rcases H.row.2 with ⟨h3,_⟩|⟨g',cap',cur,h3,_,h4,_⟩
  ·rw[h3] at e;cases e
  ·rw[h3] at e;simp[Value.ownBlock] at e;subst e;rw[h2] at h4;cases h4
 have rg:r2≠g:=fun e=>by
  rcases A2 with h|h
  ·exact NG (by rw[←e];exact h)
  ·omega
 have V:Mv g m r w w2:=by
  refine ((((Mv.of_below B0).trans (.inl rfl) (Mv.of_grown G1 (fun k hk=>.inr (.inl (by cases hk;rfl))))).then ba).trans (.inl rfl) (Mv.of_grown G2 (fun k hk=>.inr (.inr (own k hk)))))
 refine⟨rfl,r2,_,_,⟨L2.put 0 _,?_,.inr rfl,?_,place_push H.place hx,?_,by omega⟩,V.trans (.inl rfl) (set_mv _ _ _ _ _ _),?_⟩
 ·rw[←rows_push]
  exact own_keep O2 (fun b hb=>by
   simp[Value.ownBlock] at hb;subst hb;exact Below.heap_setCell w2 _ _ _ rg)
 ·refine M1.kept ((Below.heap_setCell w2 _ _ _ nm).trans ((G2.block m (by have:=M1.lt;omega) mo).trans (ba.block m M1.lt)))
 ·intro k hk
  unfold put
  split
  ·exact fx
  ·exact H.fits k (by omega)
 ·rcases A2 with h|h
  ·exact .inl (own r2 h.symm)
  ·right;omega
theorem push_ok{g m r n:Nat}{f:Nat→Tm}{v:Value}{p:Tm→Option Nat}(w:World)(x:Tm)(H:Hid (Qu w g m r f n v p))(hx:Hid (p x=none))(fx:Hid (Fits x))(hn:n<1048576):
  Calls Tryz.prog 250 #[.pointer (some ⟨g,0,none⟩),.iface 218 (tv x)] w (Pushed g m r (n+1) (put f n x) w):=by
 obtain⟨ad,cap,rfl⟩:=H.out.len
 have c0:=H.out.lies.cell (i:=0) rfl
 have c1:=H.out.lies.cell (i:=1) rfl
 have gl:=H.out.lies.lt
 have ha:=assert_ok (tv x) w
 go_enter Tryz.func250,Tryz.ntmps250
 go_wp2_with fail
 obtain⟨W,hW⟩:∃ W,W=w.alloc (Obj.cells #[.string x.key,.int .i64 x.s,.int .i64 x.e] 218):=⟨_,rfl⟩
 rw[←hW]
 have B0:Below w.heap.size w W:=by rw[hW];exact below1 _ _
 have X:Lies W w.heap.size 218 [.string x.key,.int .i64 x.s,.int .i64 x.e]:=by rw[hW];exact Lies.new _ _ _
 have gr:Hid (¬g=w.heap.size):=hid (by omega)
 clear hW c0 c1 ha
 have Q0:=hid (H.out.next B0)
 have c0:=Q0.out.lies.cell (i:=0) rfl
 have c1:=Q0.out.lies.cell (i:=1) rfl
 have x0:=X.cell (i:=0) rfl
 have x1:=X.cell (i:=1) rfl
 have x2:=X.cell (i:=2) rfl
 have X:=hid X
 have B0:=hid B0
 go_still_tail 10,(by kernel_rfl)
 refine wpList_store rfl _ _ _ rfl (x:=x) (i:=n) (m:=m) rfl rfl rfl (Q0.out.map.kept rfl) fx.out (by omega) (by omega) (place1_upd _ _ _) ?_
 intro w1 M1 g1
 rw[if_pos hx.out] at M1
 have G1:Hid (W.grownBy w1 (some m)):=hid ⟨g1.os,g1.tape,g1.output,g1.size,g1.block⟩
 have M1:=hid M1
 clear g1 c0 c1 x0 x1 x2
 have nm:m≠g:=fun e=>Q0.out.ne_gm e.symm
 have NM:=hid nm
 have nx:m≠w.heap.size:=by have:=H.out.map.lt;omega
 have NX:=hid nx
 clear nm nx
 have L1:Hid (Lies w1 g 230 [.slice ad n cap,.map (some m)]):=hid ((G1.out.block _ Q0.out.lies.lt (by simpa using NM.out.symm)).trans Q0.out.lies)
 have X1:Hid (Lies w1 w.heap.size 218 [.string x.key,.int .i64 x.s,.int .i64 x.e]):=hid ((G1.out.block _ X.out.lt (by simpa using NX.out.symm)).trans X.out)
 have R1:Hid (w1.ownsRow 0 218 3 (.slice ad n cap) n (rows f n)):=hid (own_keep Q0.out.row (fun b hb=>G1.out.block _ (Q0.out.row.lt b hb).2 (fun e=>by
  cases e
  rcases Q0.out.at_ with e|e
  ·rw[e] at hb;cases hb
  ·rw[e] at hb;cases hb
   have h1:=Q0.out.row;obtain⟨es,clock,h2⟩:=Q0.out.map.map;rcases h1.2 with ⟨h3,_⟩|⟨g',cap',cur,h3,_,h4,_⟩
   ·rw[h3] at e;cases e
   ·rw[h3] at e;simp[Value.ownBlock] at e;subst e;rw[h2] at h4;cases h4)))
 have c0:=L1.out.cell (i:=0) rfl
 have f0:=L1.out.open_ 0
 have x0:=X1.out.cell (i:=0) rfl
 have x1:=X1.out.cell (i:=1) rfl
 have x2:=X1.out.cell (i:=2) rfl
 have s1:w.heap.size<w1.heap.size:=X1.out.lt
 have s2:g<w1.heap.size:=L1.out.lt
 have ng:some g≠(Value.slice ad n cap).ownBlock:=fun e=>by
  rcases R1.out.2 with ⟨h3,_⟩|⟨g',cap',cur,h3,_,h4,_⟩
  ·rw[h3] at e;cases e
  ·rw[h3] at e
   simp[Value.ownBlock] at e;subst e;have:=L1.out;unfold Lies at this;rw[h4] at this;simp at this
 have NG:=hid ng
 clear ng
 go_wp2_with fail
 go_region_law (refine step_append_one rfl _ _ rfl (.slice ad n cap) n (rows f n) (by simp[Act.eval]) (R1.out.drew.alloc _) w1.heap.size x (by simp[Act.eval]) (Lies.new _ _ _) (by omega) ?_;intro r2 cap2 w2 o2 g2 a2;have L2:Hid (Lies w2 g 230 [.slice ad n cap,.map (some m)]):=hid ((g2.block g (by simp;omega) NG.out).trans (L1.out.drew.alloc _));have d0:=L2.out.cell (i:=0) rfl;have d1:=L2.out.open_ 0;have O2:=hid o2;have G2:=hid g2;have A2:=hid a2;clear o2 g2 a2)
 all_goals
  go_wp2;exact bodyPost_end (v:=.tuple #[]) (by simp[results,Tryz.results250,go_sem]) rfl (push_tail H.out hx.out fx.out hn B0.out G1.out M1.out s2 NG.out (by first|exact (below1 _ _).drew|exact (below1 _ _)) O2.out G2.out A2.out L2.out)
end Tmr
namespace Tmr
open Small
set_option maxRecDepth 100000
theorem wpList_drop{w:World}{ops:Array Oper}{rest:List Oper}{o:Oper}{a:Act}{Q:Exit→Act→World→Prop}(hg:o.guard=none)(mo xo:Operand)
  (hop:o.op=Op.call {callee:=Callee.builtin Builtin.delete,args:=#[mo,xo],argTypes:=#[225,218]})
  {m c:Nat} {p:Tm→Option Nat} {x:Tm} {i:Nat} (hm:a.eval mo=.map (some m)) (hx:a.eval xo=tv x) (h:Mp w m p c) (fx:Fits x) (hp:p x=some i) {q:Tm→Option Nat} (hq:upd p x none q)
  (hK:∀ w',Mp w' m q (c-1)→w.grownBy w' (some m)→wpList Tryz.prog ops Q rest (a.put o.dst (.tuple #[])) w'):wpList Tryz.prog ops Q (o::rest) a w:=by
 refine wpList_plain hg fun K' hK'=>?_
 obtain⟨w',hrun,r1,r2⟩:=h.drop fx hp hq o.type
 unfold Oper.wp
 simp[execOp,hop,resolve,invoke,builtin,hm,hx,hrun,Result.andThen]
 exact hK' _ _ (hK w' r1 r2)
open Classical in
noncomputable def place0(p:Tm→Option Nat)(x:Tm):Tm→Option Nat:=fun y=>if y=x then none else p y
theorem place0_upd(p:Tm→Option Nat)(x:Tm):upd p x none (place0 p x):=⟨by simp[place0],fun y hy=>by simp[place0,hy]⟩
theorem place_pop{f:Nat→Tm}{k:Nat}{p:Tm→Option Nat}(hp:∀ y i,p y=some i↔i<k+1∧f i=y):∀ y i,place0 p (f k) y=some i↔i<k∧f i=y:=by
 intro y i
 unfold place0
 by_cases h:y=f k
 ·subst h
  simp only[if_true]
  constructor
  ·intro e;cases e
  ·rintro⟨hi,e⟩
   have h1:=(hp (f k) i).2 ⟨by omega,e⟩
   have h2:=(hp (f k) k).2 ⟨by omega,rfl⟩
   rw[h1] at h2;have:=Option.some.inj h2;omega
 ·simp only[h,if_false]
  rw[hp]
  constructor
  ·rintro⟨hi,e⟩
   refine⟨?_,e⟩
   by_cases hk:i=k
   ·subst hk;exact absurd e.symm h
   ·omega
  ·rintro⟨hi,e⟩;exact⟨by omega,e⟩
def Popped(g m r k:Nat)(f:Nat→Tm)(w:World)(e:Ending)(w':World):Prop:=e=.returned (.iface 218 (tv (f k)))∧∃ v p,Qu w' g m r f k v p∧Mv g m r w w'
theorem popq_world{g m r k cap:Nat}{f:Nat→Tm}{p:Tm→Option Nat}{w W:World}(H:Qu w g m r f (k+1) (.slice (some ⟨r,0,none⟩) (k+1:Nat) cap) p)
  (hW:W=((((w.setCell ⟨r,k*3,none⟩ (.string ⟨#[]⟩)).setCell ⟨r,k*3+1,none⟩ (.int .i64 0)).setCell ⟨r,k*3+2,none⟩ (.int .i64 0)).setCell ⟨g,0,none⟩ (.slice (some ⟨r,0,none⟩) k cap)).alloc
   (Obj.cells #[.string (f k).key,.int .i64 (f k).s,.int .i64 (f k).e] 218)):
  Lies W g 230 [.slice (some ⟨r,0,none⟩) k cap,.map (some m)]∧W.ownsRow 0 218 3 (.slice (some ⟨r,0,none⟩) k cap) k (rows f k)∧Mp W m p (k+1)∧Mv g m r w W∧
   Lies W w.heap.size 218 [.string (f k).key,.int .i64 (f k).s,.int .i64 (f k).e]:=by
 obtain⟨cap',he,a,b,R⟩:=H.rw_ (by omega)
 obtain rfl:cap=cap':=by simpa using he
 have ng:g≠r:=H.ne_gr (by omega)
 have nm:m≠r:=fun e=>H.ne_rm (by omega) e.symm
 have mg:m≠g:=fun e=>H.ne_gm e.symm
 have gl:=H.lies.lt
 have rl:=R.lt
 obtain⟨W1,h1⟩:∃ W1,W1=((w.setCell ⟨r,k*3,none⟩ (.string ⟨#[]⟩)).setCell ⟨r,k*3+1,none⟩ (.int .i64 0)).setCell ⟨r,k*3+2,none⟩ (.int .i64 0):=⟨_,rfl⟩
 have R1:=R.put3 ⟨⟨#[]⟩,0,0⟩ (k:=k) (by omega)
 have V1:=put3_mv w g m r (k*3) (k*3+1) (k*3+2) (.string ⟨#[]⟩) (.int .i64 0) (.int .i64 0)
 have B1:∀ i,i≠r→W1.heap[i]?=w.heap[i]?:=fun i hi=>by rw[h1];exact put3_other w r _ _ _ _ _ _ hi
 have S1:W1.heap.size=w.heap.size:=by rw[h1];simp[World.setCell]
 rw[←h1] at R1 V1 hW
 clear h1
 obtain⟨W2,h2⟩:∃ W2,W2=W1.setCell ⟨g,0,none⟩ (.slice (some ⟨r,0,none⟩) k cap):=⟨_,rfl⟩
 have L2:Lies W2 g 230 [.slice (some ⟨r,0,none⟩) k cap,.map (some m)]:=by rw[h2];exact Lies.put (cs:=[_,_]) ((B1 g ng).trans H.lies) 0 _
 have B2:∀ i,i≠g→W2.heap[i]?=W1.heap[i]?:=fun i hi=>by rw[h2];exact Below.heap_setCell W1 _ _ _ hi
 have V2:Mv g m r W1 W2:=by rw[h2];exact⟨rfl,rfl,rfl,by simp[World.setCell],fun i _ hi _ _=>Below.heap_setCell W1 _ _ _ hi⟩
 have S2:W2.heap.size=w.heap.size:=by rw[h2,←S1];simp[World.setCell]
 rw[←h2] at hW
 clear h2
 have B3:Below W2.heap.size W2 W:=by rw[hW];exact below1 _ _
 refine⟨L2.next B3,?_,?_,(V1.trans (.inl rfl) V2).then B3,?_⟩
 ·have R3:=R1.kept (w':=W) ((B3.block r (by omega)).trans (B2 r (fun e=>ng e.symm)))
  obtain⟨cs,q1,q2,q3⟩:=R3;refine⟨rows_len f k,.inr ⟨r,cap,cs.toArray,rfl,Nat.zero_le _,q1,by omega,b,by simpa using q2,?_⟩⟩
  have:=congrArg (List.take (k*3)) q3;rw[rows_take _ (by omega),List.take_take,Nat.min_eq_left (by omega)] at this
  rw[rows_eq (f':=put f k ⟨⟨#[]⟩,0,0⟩) (f:=f) (fun i hi=>by simp[put,show ¬i=k by omega])] at this
  simpa using this
 ·exact H.map.kept ((B3.block m (by have:=H.map.lt;omega)).trans ((B2 m mg).trans (B1 m nm)))
 ·rw[←S2,hW];exact Lies.new _ _ _
theorem popq_tail{g m r k cap:Nat}{f:Nat→Tm}{p:Tm→Option Nat}{w W w1:World}(H:Qu w g m r f (k+1) (.slice (some ⟨r,0,none⟩) (k+1:Nat) cap) p)
  (L:Lies W g 230 [.slice (some ⟨r,0,none⟩) k cap,.map (some m)]) (R:W.ownsRow 0 218 3 (.slice (some ⟨r,0,none⟩) k cap) k (rows f k)) (V:Mv g m r w W)
  (M1:Mp w1 m (place0 p (f k)) (k+1-1)) (G1:W.grownBy w1 (some m)):Popped g m r k f w (.returned (.iface 218 (tv (f k)))) w1:=by
 have nm:m≠r:=fun e=>H.ne_rm (by omega) e.symm
 have mg:m≠g:=fun e=>H.ne_gm e.symm
 refine⟨rfl,_,_,⟨(G1.block _ L.lt (by simpa using mg.symm)).trans L,own_keep R (fun b hb=>?_),.inr rfl,M1,place_pop H.place,fun i hi=>H.fits i (by omega),by have:=H.few;omega⟩,V.trans (.inl rfl) (Mv.of_grown G1 (fun i hi=>.inr (.inl (by cases hi;rfl))))⟩
 have:=(R.lt b hb).2
 simp[Value.ownBlock] at hb
 subst hb
 exact G1.block _ this (by simpa using nm.symm)
theorem popq_ok{g m r k:Nat}{f:Nat→Tm}{v:Value}{p:Tm→Option Nat}(w:World)(H:Hid (Qu w g m r f (k+1) v p)):
  Calls Tryz.prog 249 #[.pointer (some ⟨g,0,none⟩)] w (Popped g m r k f w):=by
 obtain⟨cap,rfl,cap1,cap2,R⟩:=H.out.rw_ (by omega)
 obtain⟨x0,x1,x2⟩:=R.cells (i:=k) (by omega)
 have few:=H.out.few
 have c0:=H.out.lies.cell (i:=0) rfl
 have c1:=H.out.lies.cell (i:=1) rfl
 have z0:=H.out.lies.open_ 0
 have fz:=R.frozen
 have rl:=R.lt
 have gl:=H.out.lies.lt
 have gr:¬g=r:=H.out.ne_gr (by omega)
 have rg:¬r=g:=fun e=>gr e.symm
 have n1:¬r=w.heap.size:=by omega
 have n2:¬g=w.heap.size:=by omega
 have n3:¬w.heap.size=g:=by omega
 have n4:¬w.heap.size=r:=by omega
 unfold maxLen at cap2
 have RH:=hid R
 clear R
 go_enter Tryz.func249,Tryz.ntmps249
 go_wp2_with fail
 obtain⟨W,hW⟩:∃ W,W=((((w.setCell ⟨r,k*3,none⟩ (.string ⟨#[]⟩)).setCell ⟨r,k*3+1,none⟩ (.int .i64 0)).setCell ⟨r,k*3+2,none⟩ (.int .i64 0)).setCell ⟨g,0,none⟩ (.slice (some ⟨r,0,none⟩) k cap)).alloc
  (Obj.cells #[.string (f k).key,.int .i64 (f k).s,.int .i64 (f k).e] 218):=⟨_,rfl⟩
 rw[←hW]
 obtain⟨L,R,M,V,X⟩:=popq_world H.out hW
 have nx:¬m=w.heap.size:=by have:=H.out.map.lt;omega
 have NX:=hid nx
 clear hW x0 x1 x2 c0 c1 z0 fz gr rg n1 n2 n3 n4 RH nx
 have c1:=L.cell (i:=1) rfl
 have x0:=X.cell (i:=0) rfl
 have x1:=X.cell (i:=1) rfl
 have x2:=X.cell (i:=2) rfl
 have L:=hid L
 have R:=hid R
 have M:=hid M
 have V:=hid V
 have X:=hid X
 have P0:Hid (p (f k)=some k):=hid ((H.out.place (f k) k).2 ⟨by omega,rfl⟩)
 go_still_tail 5,(by kernel_rfl)
 refine wpList_drop rfl _ _ rfl (x:=f k) (m:=m) rfl rfl (M.out.kept rfl) (H.out.fits k (by omega)) P0.out (place0_upd _ _) ?_
 intro w1 M1 g1
 have G1:Hid (W.grownBy w1 (some m)):=hid ⟨g1.os,g1.tape,g1.output,g1.size,g1.block⟩
 have M1:=hid M1
 clear g1 c1 x0 x1 x2
 have X1:Hid (Lies w1 w.heap.size 218 [.string (f k).key,.int .i64 (f k).s,.int .i64 (f k).e]):=hid ((G1.out.block _ X.out.lt (fun e=>NX.out (Option.some.inj e).symm)).trans X.out)
 have x0:=X1.out.cell (i:=0) rfl
 have x1:=X1.out.cell (i:=1) rfl
 have x2:=X1.out.cell (i:=2) rfl
 go_wp2
 go_ret
 exact popq_tail H.out L.out R.out V.out M1.out G1.out
end Tmr
namespace Tmr
open Small
set_option maxRecDepth 100000
def Tim(w:World)(g m r n:Nat)(M:Tm→Prop):Prop:=∃ f v p,Qu w g m r f n v p∧Heap f n∧∀ y,M y↔∃ k,k<n∧f k=y
def Turns(g m r n:Nat)(M:Tm→Prop)(w w':World):Prop:=∃ r',Tim w' g m r' n M∧Mv g m r w w'∧(r'=r∨w.heap.size≤r')
def Ends(g m r n:Nat)(M:Tm→Prop)(w:World)(v:Value)(e:Ending)(w':World):Prop:=e=.returned v∧Turns g m r n M w w'
theorem Qu.inj{w:World}{g m r n:Nat}{f:Nat→Tm}{v:Value}{p:Tm→Option Nat}(h:Qu w g m r f n v p){a b:Nat}(ha:a<n)(hb:b<n)(e:f a=f b):a=b:=by
 have h1:=(h.place (f a) a).2 ⟨ha,rfl⟩
 have h2:=(h.place (f a) b).2 ⟨hb,e.symm⟩
 rw[h1] at h2
 exact Option.some.inj h2
theorem hpush_ok{g m r n:Nat}{f:Nat→Tm}{v:Value}{p:Tm→Option Nat}(w:World)(x:Tm)(M:Tm→Prop)(H:Hid (Qu w g m r f n v p))(hh:Hid (Heap f n))(hM:Hid (∀ y,M y↔∃ k,k<n∧f k=y))(hx:Hid (p x=none))(fx:Hid (Fits x))(hn:n<1048576):
  Calls Tryz.prog 189 #[hv g,.iface 218 (tv x)] w (Ends g m r (n+1) (fun y=>y=x∨M y) w (.tuple #[])):=by
 have ml:=meth_push (.pointer (some ⟨g,0,none⟩)) w
 go_enter Tryz.func189,Tryz.ntmps189
 go_wp2_with fail
 refine (push_ok w x H hx fx hn).mono ?_
 rintro e w1 ⟨rfl,r1,v1,p1,q1,m1,c1⟩
 have Q1:=hid q1
 have M1:=hid m1
 have C1:=hid c1
 clear q1 m1 c1 ml
 have ml:=meth_len (.pointer (some ⟨g,0,none⟩)) w1
 go_wp2_with fail
 refine (len_ok w1 Q1).mono ?_
 rintro e w2 ⟨rfl,rfl⟩
 clear ml
 have en:((n+1:Nat):Int)-1=(n:Int):=by omega
 go_wp2_with fail
 refine (up_ok (j:=n) w1 Q1 (by omega) (Nat.le_refl _) (hid (heap_push (n:=n) ?_))).mono ?_
 ·intro k k0 k1
  simp only[put,show ¬k=n by omega,show ¬(k-1) / 2=n by omega,if_false]
  exact hh.out k k0 k1
 rintro e w2 ⟨rfl,f2,⟨v2,p2,q2,s2,m2⟩,h2⟩
 have Q2:=hid q2
 have S2:=hid s2
 have M2:=hid m2
 have H2:=hid h2
 clear q2 s2 m2 h2 en
 go_wp2
 refine bodyPost_end (v:=.tuple #[]) (by simp[results,Tryz.results189,go_sem]) rfl ⟨rfl,r1,⟨f2,v2,p2,Q2.out,H2.out,fun y=>?_⟩,M1.out.trans C1.out M2.out,C1.out⟩
 show (y=x∨M y)↔_
 rw[S2.out.2,hM.out]
 constructor
 ·rintro (rfl|⟨k,hk,rfl⟩)
  ·exact⟨n,by omega,by simp[put]⟩
  ·exact⟨k,by omega,by simp[put,show ¬k=n by omega]⟩
 ·rintro⟨k,hk,rfl⟩
  by_cases e:k=n
  ·left;simp[put,e]
  ·right;exact⟨k,by omega,by simp[put,e]⟩
theorem left_of{w:World}{g m r k i:Nat}{f f':Nat→Tm}{v:Value}{p:Tm→Option Nat}{M:Tm→Prop}(H:Qu w g m r f (k+1) v p)(hi:i<k+1)(hM:∀ y,M y↔∃ j,j<k+1∧f j=y)(S:Same k (sw f i k) f'):
  ∀ y,(y≠f i∧M y)↔∃ j,j<k∧f' j=y:=by
 intro y
 rw[S.2,hM]
 constructor
 ·rintro⟨hne,j,hj,rfl⟩
  by_cases e:j=k
  ·subst e
   have:i≠j:=fun e=>hne (by rw[e])
   exact⟨i,by omega,sw_left f i j⟩
  ·have:j≠i:=fun e=>hne (by rw[e])
   exact⟨j,by omega,sw_other f this e⟩
 ·rintro⟨j,hj,rfl⟩
  by_cases e:j=i
  ·subst e
   rw[sw_left];exact⟨fun h=>by have:=H.inj (by omega) hi h;omega,k,by omega,rfl⟩
  ·rw[sw_other f e (by omega)]
   exact⟨fun h=>e (H.inj (by omega) hi h),j,by omega,rfl⟩
theorem hpop_ok{g m r k:Nat}{f:Nat→Tm}{v:Value}{p:Tm→Option Nat}(w:World)(M:Tm→Prop)(H:Hid (Qu w g m r f (k+1) v p))(hh:Hid (Heap f (k+1)))(hM:Hid (∀ y,M y↔∃ j,j<k+1∧f j=y)):
  Calls Tryz.prog 163 #[hv g] w (Ends g m r k (fun y=>y≠f 0∧M y) w (.iface 218 (tv (f 0)))):=by
 have few:=H.out.few
 have ml:=meth_len (.pointer (some ⟨g,0,none⟩)) w
 have ms:=meth_swap (.pointer (some ⟨g,0,none⟩)) w
 have en:((k+1:Nat):Int)-1=(k:Int):=by omega
 go_enter Tryz.func163,Tryz.ntmps163
 go_wp2_with fail
 refine (len_ok w H).mono ?_
 rintro e w2 ⟨rfl,rfl⟩
 clear ml
 go_wp2_with fail
 refine (swap_ok (i:=0) (j:=k) w H (by omega) (by omega)).mono ?_
 rintro e w1 ⟨rfl,v1,p1,q1,m1⟩
 have Q1:=hid q1
 have M1:=hid m1
 clear q1 m1 ms en
 go_wp2_with fail
 refine (down_ok (i0:=0) (n:=k) w1 Q1 (by omega) (by omega) (hid ?_)).mono ?_
 ·by_cases k0:k=0
  ·subst k0;exact⟨fun _ _ h=>by omega,fun _ _ h=>by omega⟩
  ·exact heap_hole hh.out (by omega)
 rintro e w2 ⟨b2,f2,rfl,⟨v2,p2,q2,s2,m2⟩,u2,h2⟩
 have Q2:=hid q2
 have S2:=hid s2
 have M2:=hid m2
 have U2:=hid u2
 clear q2 s2 m2 h2 u2
 have mp:=meth_pop (.pointer (some ⟨g,0,none⟩)) w2
 go_wp2_with fail
 refine (popq_ok w2 Q2).mono ?_
 rintro e w3 ⟨rfl,v3,p3,q3,m3⟩
 have Q3:=hid q3
 have M3:=hid m3
 clear q3 m3 mp
 go_wp2
 go_ret
 refine⟨?_,r,⟨f2,v3,p3,Q3.out,down_of_zero U2.out,left_of H.out (by omega) hM.out S2.out⟩,(M1.out.trans (.inl rfl) M2.out).trans (.inl rfl) M3.out,.inl rfl⟩
 show Ending.returned (.iface 218 (tv (f2 k)))=_
 rw[S2.out.1 k (Nat.le_refl _),sw_right]
theorem hremove_ok{g m r k i:Nat}{f:Nat→Tm}{v:Value}{p:Tm→Option Nat}(w:World)(M:Tm→Prop)(H:Hid (Qu w g m r f (k+1) v p))(hh:Hid (Heap f (k+1)))(hM:Hid (∀ y,M y↔∃ j,j<k+1∧f j=y))(hi:i<k+1):
  Calls Tryz.prog 195 #[hv g,.int .i64 i] w (Ends g m r k (fun y=>y≠f i∧M y) w (.iface 218 (tv (f i)))):=by
 have few:=H.out.few
 have ml:=meth_len (.pointer (some ⟨g,0,none⟩)) w
 have en:((k+1:Nat):Int)-1=(k:Int):=by omega
 by_cases ik:i=k
 ·obtain rfl:=ik
  have mp:=meth_pop (.pointer (some ⟨g,0,none⟩)) w;have hne:((i:Int) != (i:Int))=false:=by simp
  go_enter Tryz.func195,Tryz.ntmps195;go_wp2_with fail
  refine (len_ok w H).mono ?_
  rintro e w2 ⟨rfl,rfl⟩;clear ml;go_wp2_with fail
  refine (popq_ok w H).mono ?_
  rintro e w3 ⟨rfl,v3,p3,q3,m3⟩;have Q3:=hid q3;have M3:=hid m3;clear q3 m3 mp;go_wp2;go_ret;refine⟨rfl,r,⟨f,v3,p3,Q3.out,heap_shrink hh.out (by omega),left_of H.out (by omega) hM.out ?_⟩,M3.out,.inl rfl⟩
  have:sw f i i=f:=by
   funext j
   unfold sw;by_cases e:j=i<;>simp[e]
  rw[this];exact Same.refl _ _
 ·have hne:((k:Int) != (i:Int))=true:=by simp;omega
  have ms:=meth_swap (.pointer (some ⟨g,0,none⟩)) w;go_enter Tryz.func195,Tryz.ntmps195;go_wp2_with fail
  refine (len_ok w H).mono ?_
  rintro e w2 ⟨rfl,rfl⟩;clear ml;go_wp2_with fail
  refine (swap_ok (i:=i) (j:=k) w H (by omega) (by omega)).mono ?_
  rintro e w1 ⟨rfl,v1,p1,q1,m1⟩;have Q1:=hid q1;have M1:=hid m1;clear q1 m1 ms en;go_wp2_with fail
  refine (down_ok (i0:=i) (n:=k) w1 Q1 (by omega) (by omega) (hid (heap_hole hh.out (by omega)))).mono ?_
  rintro e w2 ⟨b2,f2,rfl,⟨v2,p2,q2,s2,m2⟩,u2,h2⟩;have Q2:=hid q2;have S2:=hid s2;have M2:=hid m2;have U2:=hid u2;have H2:=hid h2;clear q2 s2 m2 h2 u2;cases b2
  ·go_wp2_with fail
   refine (up_ok (j:=i) (n:=k) w2 Q2 (by omega) (by omega) U2).mono ?_
   rintro e w4 ⟨rfl,f4,⟨v4,p4,q4,s4,m4⟩,h4⟩;have Q4:=hid q4;have S4:=hid s4;have M4:=hid m4;have H4:=hid h4;clear q4 s4 m4 h4;have mp:=meth_pop (.pointer (some ⟨g,0,none⟩)) w4;go_wp2_with fail
   refine (popq_ok w4 Q4).mono ?_
   rintro e w3 ⟨rfl,v3,p3,q3,m3⟩;have Q3:=hid q3;have M3:=hid m3;clear q3 m3 mp;go_wp2;go_ret;refine⟨?_,r,⟨f4,v3,p3,Q3.out,H4.out,left_of H.out (by omega) hM.out (S2.out.trans S4.out)⟩,((M1.out.trans (.inl rfl) M2.out).trans (.inl rfl) M4.out).trans (.inl rfl) M3.out,.inl rfl⟩
   show Ending.returned (.iface 218 (tv (f4 k)))=_
   rw[S4.out.1 k (Nat.le_refl _),S2.out.1 k (Nat.le_refl _),sw_right]
  ·have mp:=meth_pop (.pointer (some ⟨g,0,none⟩)) w2
   go_wp2_with fail
   refine (popq_ok w2 Q2).mono ?_
   rintro e w3 ⟨rfl,v3,p3,q3,m3⟩;have Q3:=hid q3;have M3:=hid m3;clear q3 m3 mp;go_wp2;go_ret;refine⟨?_,r,⟨f2,v3,p3,Q3.out,H2.out (by simp),left_of H.out (by omega) hM.out S2.out⟩,(M1.out.trans (.inl rfl) M2.out).trans (.inl rfl) M3.out,.inl rfl⟩
   show Ending.returned (.iface 218 (tv (f2 k)))=_
   rw[S2.out.1 k (Nat.le_refl _),sw_right]
end Tmr
namespace Tmr
open Small
set_option maxRecDepth 100000
abbrev tp(g:Nat):Value:=.pointer (some ⟨g,0,none⟩)
abbrev tz:Value:=.agg #[.string ⟨#[]⟩,.int .i64 0,.int .i64 0]
section
variable {w w' w'':World} {g m r n:Nat} {M:Tm→Prop}
theorem Tim.next(h:Tim w g m r n M)(k:Below w.heap.size w w'):Tim w' g m r n M:=by
 obtain⟨f,v,p,q,hh,hm⟩:=h
 exact⟨f,v,p,q.next k,hh,hm⟩
theorem Turns.of_below(h:Tim w g m r n M)(k:Below w.heap.size w w'):Turns g m r n M w w':=⟨r,h.next k,Mv.of_below k,.inl rfl⟩
theorem Turns.after(k:Below w.heap.size w w')(h:Turns g m r n M w' w''):Turns g m r n M w w'':=by
 obtain⟨r',a,b,c⟩:=h
 exact⟨r',a,(Mv.of_below k).trans (.inl rfl) b,by have:=k.size;omega⟩
end
def Made(w:World)(e:Ending)(w':World):Prop:=∃ g m,e=.returned (tp g)∧Tim w' g m g 0 (fun _=>False)∧Below w.heap.size w w'∧w.heap.size≤g∧w.heap.size≤m
theorem tim_new{w W:World}{g m:Nat}(h1:Lies W g 230 [.slice none 0 0,.map (some m)])(h2:Mp W m (fun _=>none) 0):Tim W g m g 0 (fun _=>False):=
 ⟨fun _=>⟨⟨#[]⟩,0,0⟩,_,_,⟨h1,World.ownsRow_nil _ _ _ _,.inl rfl,h2,fun x i=>⟨fun h=>(by cases h),fun h=>(by omega)⟩,fun i hi=>(by omega),by omega⟩,fun k _ h=>(by omega),fun y=>⟨fun h=>h.elim,fun ⟨k,hk,_⟩=>(by omega)⟩⟩
theorem new_ok(w:World):Calls Tryz.prog 112 #[] w (Made w):=by
 have hm:=run_makeMap (P:=Tryz.prog) 225 w
 go_enter Tryz.func112,Tryz.ntmps112
 go_wp2
 go_ret
 refine⟨w.heap.size+1,w.heap.size,rfl,tim_new (w:=w) ?_ ?_,below2 _ _ _,by omega,by omega⟩
 ·have:=Lies.new (w.alloc (.map #[] 0)) 230 [.slice none 0 0,.map (some w.heap.size)]
  rwa [show (w.alloc (.map #[] 0)).heap.size=w.heap.size+1 by simp] at this
 ·exact (Mp.made w).kept ((below1 _ _).block _ (by simp))
theorem tlen_ok{g m r n:Nat}{M:Tm→Prop}(w:World)(H:Hid (Tim w g m r n M)):
  Calls Tryz.prog 179 #[tp g] w fun e w'=>e=.returned (.int .i64 n)∧w=w':=by
 obtain⟨f,v,p,q,_,_⟩:=H.out
 have Q:=hid q
 clear q
 go_enter Tryz.func179,Tryz.ntmps179
 go_wp2_with fail
 refine (len_ok w Q).mono ?_
 rintro e w1 ⟨rfl,rfl⟩
 go_wp2
 go_ret
 exact⟨rfl,rfl⟩
theorem Tim.fits{w:World}{g m r n:Nat}{M:Tm→Prop}(h:Tim w g m r n M){x:Tm}(hx:M x):Fits x:=by
 obtain⟨f,v,p,q,_,hm⟩:=h
 obtain⟨k,hk,rfl⟩:=(hm x).1 hx
 exact q.fits k hk
theorem look_there{w:World}{g m r n:Nat}{f:Nat→Tm}{v:Value}{p:Tm→Option Nat}(q:Qu w g m r f n v p){x:Tm}{i:Nat}(hi:i<n)(hx:f i=x)(k:Nat):
  (Instr.lookup 225 (.map (some m)) (tv x) true).run Tryz.prog (w.drewN k)=.ok (.tuple #[.int .i64 i,.bool true]) (w.drewN k):=
 Mp.look_some (q.map.kept (w':=w.drewN k) rfl) (by rw[←hx];exact q.fits i hi) ((q.place x i).2 ⟨hi,hx⟩)
theorem look_not{w:World}{g m r n:Nat}{f:Nat→Tm}{v:Value}{p:Tm→Option Nat}(q:Qu w g m r f n v p){x:Tm}(fx:Fits x)(hx:p x=none)(k:Nat):
  (Instr.lookup 225 (.map (some m)) (tv x) true).run Tryz.prog (w.drewN k)=.ok (.tuple #[.int .i64 0,.bool false]) (w.drewN k):=
 Mp.look_none (q.map.kept (w':=w.drewN k) rfl) fx hx
theorem below_drewN(w:World)(n:Nat):Below w.heap.size w (w.drewN n):=by
 induction n with
 |zero=>exact Below.refl _ _
 |succ n ih=>exact ih.drew
theorem put_old{g m r n:Nat}{M:Tm→Prop}(w:World)(x:Tm)(H:Hid (Tim w g m r n M))(hx:Hid (M x)):
  Calls Tryz.prog 172 #[tp g,tv x] w (Ends g m r n M w (.bool false)):=by
 obtain⟨f,v,p,q,hh,hm⟩:=H.out
 obtain⟨i,hi,hfi⟩:=(hm x).1 hx.out
 have B0:=below1 w (Obj.cells #[.string x.key,.int .i64 x.s,.int .i64 x.e] 218)
 have lk:=look_there (q.next B0) hi hfi
 have c1:=q.lies.cell (i:=1) rfl
 have gl:=q.lies.lt
 have gs:¬g=w.heap.size:=by omega
 clear q hh hm hfi
 go_enter Tryz.func172,Tryz.ntmps172
 go_wp2_with fail
 go_quiet (fail)
 go_wp2
 go_ret
 exact⟨rfl,Turns.of_below H.out (after B0 (below_drewN _ _))⟩
theorem put_new{g m r n:Nat}{M:Tm→Prop}(w:World)(x:Tm)(H:Hid (Tim w g m r n M))(hx:Hid (¬M x))(fx:Hid (Fits x))(hn:n<1048576):
  Calls Tryz.prog 172 #[tp g,tv x] w (Ends g m r (n+1) (fun y=>y=x∨M y) w (.bool true)):=by
 obtain⟨f,v,p,q,hh,hm⟩:=H.out
 have px:p x=none:=by
  cases hp:p x with
  |none=>rfl
  |some i=>exact absurd ((hm x).2 ⟨i,(q.place x i).1 hp⟩) hx.out
 have B0:=below1 w (Obj.cells #[.string x.key,.int .i64 x.s,.int .i64 x.e] 218)
 have lk:=look_not (q.next B0) fx.out px
 have c1:=q.lies.cell (i:=1) rfl
 have gl:=q.lies.lt
 have gs:¬g=w.heap.size:=by omega
 have Q:=hid q
 have HH:=hid hh
 have HM:=hid hm
 have PX:=hid px
 have B0:=hid B0
 clear q hh hm px
 go_enter Tryz.func172,Tryz.ntmps172
 go_wp2_with fail
 go_quiet (fail)
 go_wp2_with fail
 have B1:=hid (after B0.out (below_drewN _ nq))
 have X:Lies ((w.alloc (Obj.cells #[.string x.key,.int .i64 x.s,.int .i64 x.e] 218)).drewN nq) w.heap.size 218 [.string x.key,.int .i64 x.s,.int .i64 x.e]:=(Lies.new w 218 _).next (below_drewN _ _)
 obtain⟨W,hW⟩:∃ W,W=(w.alloc (Obj.cells #[.string x.key,.int .i64 x.s,.int .i64 x.e] 218)).drewN nq:=⟨_,rfl⟩
 rw[←hW] at X B1 ⊢
 have x0:=X.cell (i:=0) rfl
 have x1:=X.cell (i:=1) rfl
 have x2:=X.cell (i:=2) rfl
 clear hW X lk c1
 go_still_tail 6,(by kernel_rfl)
 go_wp2_with fail
 have B2:=hid (after B1.out (Below.refl _ W).drew)
 refine (hpush_ok _ x M (hid (Q.out.next B2.out)) HH HM PX fx hn).mono ?_
 rintro e w3 ⟨rfl,t3⟩
 have T3:=hid t3
 clear t3 x0 x1 x2
 go_wp2
 go_ret
 exact⟨rfl,Turns.after B2.out T3.out⟩
theorem drop_not{g m r n:Nat}{M:Tm→Prop}(w:World)(x:Tm)(H:Hid (Tim w g m r n M))(hx:Hid (¬M x))(fx:Hid (Fits x)):
  Calls Tryz.prog 174 #[tp g,tv x] w (Ends g m r n M w (.bool false)):=by
 obtain⟨f,v,p,q,hh,hm⟩:=H.out
 have px:p x=none:=by
  cases hp:p x with
  |none=>rfl
  |some i=>exact absurd ((hm x).2 ⟨i,(q.place x i).1 hp⟩) hx.out
 have B0:=below1 w (Obj.cells #[.string x.key,.int .i64 x.s,.int .i64 x.e] 218)
 have lk:=look_not (q.next B0) fx.out px
 have c1:=q.lies.cell (i:=1) rfl
 have gl:=q.lies.lt
 have gs:¬g=w.heap.size:=by omega
 clear q hh hm px
 go_enter Tryz.func174,Tryz.ntmps174
 go_wp2_with fail
 go_quiet (fail)
 go_wp2
 go_ret
 exact⟨rfl,Turns.of_below H.out (after B0 (below_drewN _ _))⟩
theorem drop_there{g m r k:Nat}{M:Tm→Prop}(w:World)(x:Tm)(H:Hid (Tim w g m r (k+1) M))(hx:Hid (M x)):
  Calls Tryz.prog 174 #[tp g,tv x] w (Ends g m r k (fun y=>y≠x∧M y) w (.bool true)):=by
 obtain⟨f,v,p,q,hh,hm⟩:=H.out
 obtain⟨i,hi,hfi⟩:=(hm x).1 hx.out
 have few:=q.few
 have B0:=below1 w (Obj.cells #[.string x.key,.int .i64 x.s,.int .i64 x.e] 218)
 have lk:=look_there (q.next B0) hi hfi
 have c1:=q.lies.cell (i:=1) rfl
 have gl:=q.lies.lt
 have gs:¬g=w.heap.size:=by omega
 have Q:=hid q
 have HH:=hid hh
 have HM:=hid hm
 have FI:=hid hfi
 have B0:=hid B0
 clear q hh hm hfi
 go_enter Tryz.func174,Tryz.ntmps174
 go_wp2_with fail
 go_quiet (fail)
 go_wp2_with fail
 have B1:=hid (after B0.out (below_drewN _ nq))
 refine (hremove_ok (i:=i) _ M (hid (Q.out.next B1.out)) HH HM hi).mono ?_
 rintro e w3 ⟨rfl,t3⟩
 have T3:=hid t3
 clear t3 lk c1
 go_wp2
 go_ret
 have t:=T3.out
 rw[FI.out] at t
 exact⟨rfl,Turns.after B1.out t⟩
def IsLeast(M:Tm→Prop)(x:Tm):Prop:=M x∧∀ y,M y→le x y
theorem IsLeast.one{M:Tm→Prop}{x y:Tm}(h:IsLeast M x)(k:IsLeast M y):x=y:=le_antisymm (h.2 y k.1) (k.2 x h.1)
theorem Tim.least{w:World}{g m r k:Nat}{M:Tm→Prop}{f:Nat→Tm}(hh:Heap f (k+1))(hm:∀ y,M y↔∃ j,j<k+1∧f j=y):IsLeast M (f 0):=
 ⟨(hm _).2 ⟨0,by omega,rfl⟩,fun y hy=>by obtain⟨j,hj,rfl⟩:=(hm y).1 hy;exact heap_least hh j hj⟩
theorem next_none{g m r:Nat}{M:Tm→Prop}(w:World)(H:Hid (Tim w g m r 0 M)):
  Calls Tryz.prog 162 #[tp g] w fun e w'=>e=.returned (.tuple #[tz,.bool false])∧Below w.heap.size w w':=by
 have B0:=below1 w (Obj.cells #[.string ⟨#[]⟩,.int .i64 0,.int .i64 0] 218)
 go_enter Tryz.func162,Tryz.ntmps162
 go_wp2_with fail
 refine (tlen_ok _ (hid (H.out.next B0))).mono ?_
 rintro e w1 ⟨rfl,rfl⟩
 go_wp2
 exact bodyPost_ret (v:=.tuple #[tz,.bool false]) (by simp[results,Tryz.results162,go_sem]) rfl ⟨rfl,below1 _ _⟩
theorem next_some{g m r k:Nat}{M:Tm→Prop}{x:Tm}(w:World)(H:Hid (Tim w g m r (k+1) M))(L:Hid (IsLeast M x)):
  Calls Tryz.prog 162 #[tp g] w fun e w'=>e=.returned (.tuple #[tv x,.bool true])∧Below w.heap.size w w':=by
 obtain⟨f,v,p,q,hh,hm⟩:=H.out
 have hx:f 0=x:=IsLeast.one (Tim.least (w:=w) (g:=g) (m:=m) (r:=r) hh hm) L.out
 obtain⟨cap,rfl,cap1,cap2,R⟩:=q.rw_ (by omega)
 obtain⟨x0,x1,x2⟩:=R.cells (i:=0) (by omega)
 rw[hx] at x0 x1 x2
 have gl:=q.lies.lt
 have rl:=R.lt
 have few:=q.few
 have c0:=q.lies.cell (i:=0) rfl
 have n1:¬r=w.heap.size:=by omega
 have n2:¬g=w.heap.size:=by omega
 have n3:¬(k:Int)+1=0:=by omega
 have n4:((k:Int)+1 == 0)=false:=by simp;omega
 have B0:=hid (below1 w (Obj.cells #[.string ⟨#[]⟩,.int .i64 0,.int .i64 0] 218))
 clear q hh hm hx R
 go_enter Tryz.func162,Tryz.ntmps162
 go_wp2_with fail
 refine (tlen_ok _ (hid (H.out.next B0.out))).mono ?_
 rintro e w1 ⟨rfl,rfl⟩
 go_wp2
 exact bodyPost_ret (v:=.tuple #[tv x,.bool true]) (by simp[results,Tryz.results162,go_sem]) rfl ⟨rfl,below1 _ _⟩
theorem pop_zero{w w1 W:World}{z:Nat}{a b c:Value}(hz:z=w.heap.size)(k:Below w.heap.size w w1)(X:Lies w1 z 218 [a,b,c])(o:Obj)
  (hW:W=(((w1.setCell ⟨z,0,none⟩ (.string ⟨#[]⟩)).setCell ⟨z,1,none⟩ (.int .i64 0)).setCell ⟨z,2,none⟩ (.int .i64 0)).alloc o):
  Lies W z 218 [.string ⟨#[]⟩,.int .i64 0,.int .i64 0]∧Below w.heap.size w W:=by
 subst hz
 have sz:=k.size
 exact⟨by rw[hW];exact (((X.put 0 _).put 1 _).put 2 _).alloc _,by rw[hW];exact (((k.setCell (Nat.le_refl _) _).setCell (Nat.le_refl _) _).setCell (Nat.le_refl _) _).alloc (by simpa [World.setCell] using sz) _⟩
theorem pop_zero'{w w1 W:World}{z:Nat}{a b c:Value}(hz:z=w.heap.size)(k:Below w.heap.size w w1)(X:Lies w1 z 218 [a,b,c])
  (hW:W=(((w1.setCell ⟨z,0,none⟩ (.string ⟨#[]⟩)).setCell ⟨z,1,none⟩ (.int .i64 0)).setCell ⟨z,2,none⟩ (.int .i64 0))):
  Lies W z 218 [.string ⟨#[]⟩,.int .i64 0,.int .i64 0]∧Below w.heap.size w W:=by
 subst hz
 exact⟨by rw[hW];exact (((X.put 0 _).put 1 _).put 2 _),by rw[hW];exact (((k.setCell (Nat.le_refl _) _).setCell (Nat.le_refl _) _).setCell (Nat.le_refl _) _)⟩
theorem pop_none{g m r:Nat}{late mark:Int}{M:Tm→Prop}(w:World)(H:Hid (Tim w g m r 0 M)):
  Calls Tryz.prog 140 #[tp g,.int .i64 late,.int .i64 mark] w fun e w'=>e=.returned (.tuple #[tz,.bool false])∧Below w.heap.size w w':=by
 have B0:=hid (below1 w (Obj.cells #[.string ⟨#[]⟩,.int .i64 0,.int .i64 0] 218))
 go_enter Tryz.func140,Tryz.ntmps140
 go_wp2_with fail
 refine (next_none _ (hid (H.out.next B0.out))).mono ?_
 rintro e w1 ⟨rfl,k1⟩
 have X:Lies w1 w.heap.size 218 [.string ⟨#[]⟩,.int .i64 0,.int .i64 0]:=(Lies.new w 218 _).next k1
 have x0:=X.cell (i:=0) rfl
 have x1:=X.cell (i:=1) rfl
 have x2:=X.cell (i:=2) rfl
 have f0:=X.open_ 0
 have f1:=X.open_ 1
 have f2:=X.open_ 2
 have sz:=X.lt
 have nn:¬w.heap.size=w1.heap.size:=by omega
 have K1:=hid (after B0.out k1)
 have X:=hid X
 clear k1
 go_wp2
 obtain⟨W,hW⟩:∃ W,W=(((w1.setCell ⟨w.heap.size,0,none⟩ (.string ⟨#[]⟩)).setCell ⟨w.heap.size,1,none⟩ (.int .i64 0)).setCell ⟨w.heap.size,2,none⟩ (.int .i64 0)).alloc
  (Obj.cells #[.string ⟨#[]⟩,.int .i64 0,.int .i64 0] 218):=⟨_,rfl⟩
 rw[←hW]
 obtain⟨Y,K⟩:=pop_zero rfl K1.out X.out _ hW
 have y0:=Y.cell (i:=0) rfl
 have y1:=Y.cell (i:=1) rfl
 have y2:=Y.cell (i:=2) rfl
 exact bodyPost_ret (v:=.tuple #[tz,.bool false]) (by simp[results,Tryz.results140,go_sem,y0,y1,y2]) rfl ⟨rfl,K⟩
theorem pop_not{g m r k:Nat}{late mark:Int}{M:Tm→Prop}{x:Tm}(w:World)(H:Hid (Tim w g m r (k+1) M))(L:Hid (IsLeast M x))(hl:Hid ((Lit.int .i64 late).wf=true))(hm:Hid ((Lit.int .i64 mark).wf=true))(ho:Hid (¬x.e+late≤mark)):
  Calls Tryz.prog 140 #[tp g,.int .i64 late,.int .i64 mark] w fun e w'=>e=.returned (.tuple #[tz,.bool false])∧Below w.heap.size w w':=by
 have B0:=hid (below1 w (Obj.cells #[.string ⟨#[]⟩,.int .i64 0,.int .i64 0] 218))
 have fx:=hid (H.out.fits L.out.1)
 go_enter Tryz.func140,Tryz.ntmps140
 go_wp2_with fail
 refine (next_some _ (hid (H.out.next B0.out)) L).mono ?_
 rintro e w1 ⟨rfl,k1⟩
 have X:Hid (Lies w1 w.heap.size 218 [.string ⟨#[]⟩,.int .i64 0,.int .i64 0]):=hid ((Lies.new w 218 _).next k1)
 have K1:=hid (after B0.out k1)
 clear k1
 go_wp2_with fail
 refine (Spn.over_ok x.s x.e late mark _ (fit fx.out.2.2).1 (fit fx.out.2.2).2 (fit hl.out).1 (fit hl.out).2 (fit hm.out).1 (fit hm.out).2).mono ?_
 rintro e w2 ⟨rfl,k2⟩
 rw[show decide (x.e+late≤mark)=false by simp;have:=ho.out;omega]
 have B2:=hid (after (below1 w1 _) k2)
 have X2:=hid (X.out.next B2.out)
 have x0:=X2.out.cell (i:=0) rfl
 have x1:=X2.out.cell (i:=1) rfl
 have x2:=X2.out.cell (i:=2) rfl
 have f0:=X2.out.open_ 0
 have f1:=X2.out.open_ 1
 have f2:=X2.out.open_ 2
 have sz:=X2.out.lt
 have nn:¬w.heap.size=w2.heap.size:=by omega
 have K2:=hid (after K1.out B2.out)
 clear k2
 go_wp2
 obtain⟨W,hW⟩:∃ W,W=(((w2.setCell ⟨w.heap.size,0,none⟩ (.string ⟨#[]⟩)).setCell ⟨w.heap.size,1,none⟩ (.int .i64 0)).setCell ⟨w.heap.size,2,none⟩ (.int .i64 0)):=⟨_,rfl⟩
 rw[←hW]
 obtain⟨Y,K⟩:=pop_zero' rfl K2.out X2.out hW
 have y0:=Y.cell (i:=0) rfl
 have y1:=Y.cell (i:=1) rfl
 have y2:=Y.cell (i:=2) rfl
 exact bodyPost_ret (v:=.tuple #[tz,.bool false]) (by simp[results,Tryz.results140,go_sem,y0,y1,y2]) rfl ⟨rfl,K⟩
theorem pop_some{g m r k:Nat}{late mark:Int}{M:Tm→Prop}{x:Tm}(w:World)(H:Hid (Tim w g m r (k+1) M))(L:Hid (IsLeast M x))(hl:Hid ((Lit.int .i64 late).wf=true))(hm:Hid ((Lit.int .i64 mark).wf=true))(ho:Hid (x.e+late≤mark)):
  Calls Tryz.prog 140 #[tp g,.int .i64 late,.int .i64 mark] w (Ends g m r k (fun y=>y≠x∧M y) w (.tuple #[tv x,.bool true])):=by
 have B0:=hid (below1 w (Obj.cells #[.string ⟨#[]⟩,.int .i64 0,.int .i64 0] 218))
 have fx:=hid (H.out.fits L.out.1)
 go_enter Tryz.func140,Tryz.ntmps140
 go_wp2_with fail
 refine (next_some _ (hid (H.out.next B0.out)) L).mono ?_
 rintro e w1 ⟨rfl,k1⟩
 have X:Hid (Lies w1 w.heap.size 218 [.string ⟨#[]⟩,.int .i64 0,.int .i64 0]):=hid ((Lies.new w 218 _).next k1)
 have K1:=hid (after B0.out k1)
 clear k1
 go_wp2_with fail
 refine (Spn.over_ok x.s x.e late mark _ (fit fx.out.2.2).1 (fit fx.out.2.2).2 (fit hl.out).1 (fit hl.out).2 (fit hm.out).1 (fit hm.out).2).mono ?_
 rintro e w2 ⟨rfl,k2⟩
 rw[show decide (x.e+late≤mark)=true by simp;have:=ho.out;omega]
 have B2:=hid (after (below1 w1 _) k2)
 have X2:=hid (X.out.next B2.out)
 have F2:Hid (Lies w2 w1.heap.size 218 [.string x.key,.int .i64 x.s,.int .i64 x.e]):=hid ((Lies.new w1 218 _).next k2)
 have K2:=hid (after K1.out B2.out)
 have gl:Hid (g<w.heap.size∧m<w.heap.size∧r<w.heap.size):=hid (by obtain⟨f,v,p,q,_⟩:=H.out;obtain⟨cap,rfl,_,_,R⟩:=q.rw_ (by omega);exact⟨q.lies.lt,q.map.lt,R.lt⟩)
 clear k2
 obtain⟨f,v,p,q,hh,hm'⟩:=H.out.next K2.out
 have hx:Hid (f 0=x):=hid (IsLeast.one (Tim.least (w:=w) (g:=g) (m:=m) (r:=r) hh hm') L.out)
 have Q:=hid q
 have HH:=hid hh
 have HM:=hid hm'
 clear q hh hm'
 go_wp2_with fail
 refine (hpop_ok _ M Q HH HM).mono ?_
 rintro e w3 ⟨rfl,t3⟩
 rw[hx.out]
 rw[hx.out] at t3
 obtain⟨g1,g2,g3⟩:=gl.out
 have s1:=K1.out.size
 have s2:=B2.out.size
 have M3:Mv g m r w2 w3:=by obtain⟨_,_,h,_⟩:=t3;exact h
 have X3:Lies w3 w.heap.size 218 [.string ⟨#[]⟩,.int .i64 0,.int .i64 0]:=(M3.block _ X2.out.lt (by omega) (by omega) (by omega)).trans X2.out
 have F3:Lies w3 w1.heap.size 218 [.string x.key,.int .i64 x.s,.int .i64 x.e]:=(M3.block _ F2.out.lt (by omega) (by omega) (by omega)).trans F2.out
 have T3:=hid t3
 have x0:=F3.cell (i:=0) rfl
 have x1:=F3.cell (i:=1) rfl
 have x2:=F3.cell (i:=2) rfl
 have f0:=X3.open_ 0
 have f1:=X3.open_ 1
 have f2:=X3.open_ 2
 have c0:=X3.cell (i:=0) rfl
 have c1:=X3.cell (i:=1) rfl
 have c2:=X3.cell (i:=2) rfl
 have X3:=hid X3
 have nn:¬w.heap.size=w1.heap.size:=by have:=X.out.lt;omega
 clear M3 F3 t3 s1 s2 g1 g2 g3
 go_wp2
 obtain⟨W,hW⟩:∃ W,W=(((w3.setCell ⟨w.heap.size,0,none⟩ (.string x.key)).setCell ⟨w.heap.size,1,none⟩ (.int .i64 x.s)).setCell ⟨w.heap.size,2,none⟩ (.int .i64 x.e)):=⟨_,rfl⟩
 rw[←hW]
 have Y:Lies W w.heap.size 218 [.string x.key,.int .i64 x.s,.int .i64 x.e]:=by rw[hW];exact (((X3.out.put 0 _).put 1 _).put 2 _)
 have y0:=Y.cell (i:=0) rfl
 have y1:=Y.cell (i:=1) rfl
 have y2:=Y.cell (i:=2) rfl
 refine bodyPost_ret (v:=.tuple #[tv x,.bool true]) (by simp[results,Tryz.results140,go_sem,y0,y1,y2]) rfl ⟨rfl,?_⟩
 obtain⟨r',a,b,c⟩:=T3.out
 obtain⟨g1,g2,g3⟩:=gl.out
 have s2:=K2.out.size
 have X2lt:=X2.out.lt
 have kp:∀ i,i≠w.heap.size→W.heap[i]?=w3.heap[i]?:=fun i hi=>by rw[hW];exact put3_other w3 _ _ _ _ _ _ _ hi
 refine⟨r',?_,⟨?_,?_,?_,?_,fun i hi a1 a2 a3=>?_⟩,by omega⟩
 ·obtain⟨f,v,p,q,hh,hm⟩:=a
  exact⟨f,v,p,q.keep (kp _ (by omega)) (kp _ (by omega)) (fun _=>kp _ (by omega)),hh,hm⟩
 ·rw[hW];exact b.os.trans K2.out.os
 ·rw[hW];exact b.tape.trans K2.out.tape
 ·rw[hW];exact b.output.trans K2.out.output
 ·have:=b.size;rw[hW];simp[World.setCell];omega
 ·rw[kp i (by omega),b.block i (by omega) a1 a2 a3];exact K2.out.block i hi
end Tmr
namespace Tmr
open Small Foot
set_option maxRecDepth 100000
def Ts(w:World)(g n:Nat)(M:Tm→Prop)(F:Nat→Prop):Prop:=∃ m r,(∀ k,F k↔k=g∨k=m∨k=r)∧r<w.heap.size∧Tim w g m r n M
section
variable {w w':World} {g m r n:Nat} {M M':Tm→Prop} {F F' G:Nat→Prop} {f:Nat→Tm} {v:Value} {p:Tm→Option Nat}
theorem Qu.elsewhere(h:Qu w g m r f n v p)(e:v.ownBlock=none)(r':Nat):Qu w g m r' f n v p:=⟨h.lies,h.row,.inl e,h.map,h.place,h.fits,h.few⟩
theorem Ts.in(h:Ts w g n M F):In w F:=fun k hk=>by
 obtain⟨m,r,hf,hr,f,v,p,q,_⟩:=h
 rcases (hf k).1 hk with rfl|rfl|rfl
 ·exact q.lies.lt
 ·exact q.map.lt
 ·exact hr
theorem Ts.congr(h:Ts w g n M F)(e:∀ y,M y↔M' y):Ts w g n M' F:=by
 obtain⟨m,r,hf,hr,f,v,p,q,hh,hm⟩:=h
 exact⟨m,r,hf,hr,f,v,p,q,hh,fun y=>(e y).symm.trans (hm y)⟩
theorem Ts.keep(h:Ts w g n M F)(k:∀ i,F i→w'.heap[i]?=w.heap[i]?)(s:w.heap.size≤w'.heap.size):Ts w' g n M F:=by
 obtain⟨m,r,hf,hr,f,v,p,q,hh,hm⟩:=h
 exact⟨m,r,hf,by omega,f,v,p,q.keep (k _ ((hf _).2 (.inl rfl))) (k _ ((hf _).2 (.inr (.inl rfl)))) (fun _=>k _ ((hf _).2 (.inr (.inr rfl)))),hh,hm⟩
theorem Ts.next(h:Ts w g n M F)(k:Below w.heap.size w w'):Ts w' g n M F:=h.keep (fun i hi=>k.block i (h.in i hi)) k.size
theorem Ts.few(h:Ts w g n M F):n≤1048576:=by
 obtain⟨m,r,hf,hr,f,v,p,q,hh,hm⟩:=h
 exact q.few
theorem Ts.fits(h:Ts w g n M F){x:Tm}(hx:M x):Fits x:=by
 obtain⟨m,r,hf,hr,t⟩:=h
 exact t.fits hx
theorem Ts.none_(h:Ts w g 0 M F)(x:Tm):¬M x:=fun hx=>by
 obtain⟨m,r,hf,hr,f,v,p,q,hh,hm⟩:=h
 obtain⟨k,hk,_⟩:=(hm x).1 hx
 omega
theorem Ts.least(h:Ts w g n M F)(hn:0<n):∃ x,IsLeast M x:=by
 obtain⟨m,r,hf,hr,f,v,p,q,hh,hm⟩:=h
 obtain⟨k,rfl⟩:∃ k,n=k+1:=⟨n-1,by omega⟩
 exact⟨f 0,Tim.least (w:=w) (g:=g) (m:=m) (r:=r) hh hm⟩
theorem Ts.of_turns{n':Nat}{m r:Nat}(hf:∀ k,F k↔k=g∨k=m∨k=r)(hr:r<w.heap.size)(h:Turns g m r n' M' w w'):∃ F',Ts w' g n' M' F'∧Moves F F' w w':=by
 obtain⟨r',⟨f,v,p,q,hh,hm⟩,V,hr'⟩:=h
 have blk:∀ k,k<w.heap.size→¬F k→w'.heap[k]?=w.heap[k]?:=fun k hk hn=>V.block k hk (fun e=>hn ((hf k).2 (.inl e))) (fun e=>hn ((hf k).2 (.inr (.inl e)))) (fun e=>hn ((hf k).2 (.inr (.inr e))))
 rcases q.at_ with e|e
 ·exact⟨fun k=>k=g∨k=m∨k=g,⟨m,g,fun k=>Iff.rfl,q.lies.lt,f,v,p,q.elsewhere e g,hh,hm⟩,⟨V.os,V.tape,V.output,V.size,blk,fun k hk=>⟨.inl ((hf k).2 (by omega)),by
  rcases hk with rfl|rfl|rfl
  ·exact q.lies.lt
  ·exact q.map.lt
  ·exact q.lies.lt⟩⟩⟩
 ·have rl:=q.lt_r e
  exact⟨fun k=>k=g∨k=m∨k=r',⟨m,r',fun k=>Iff.rfl,rl,f,v,p,q,hh,hm⟩,⟨V.os,V.tape,V.output,V.size,blk,fun k hk=>⟨by
   rcases hk with rfl|rfl|rfl
   ·exact .inl ((hf _).2 (.inl rfl))
   ·exact .inl ((hf _).2 (.inr (.inl rfl)))
   ·rcases hr' with rfl|h
    ·exact .inl ((hf _).2 (.inr (.inr rfl)))
    ·exact .inr h,by
   rcases hk with rfl|rfl|rfl
   ·exact q.lies.lt
   ·exact q.map.lt
   ·exact rl⟩⟩⟩
end
theorem new_foot(w:World):Calls Tryz.prog 112 #[] w fun e w'=>∃ g F,e=.returned (tp g)∧Ts w' g 0 (fun _=>False) F∧From w.heap.size F∧Below w.heap.size w w':=by
 refine (new_ok w).mono ?_
 rintro e w' ⟨g,m,rfl,t,k,hg,hm⟩
 refine⟨g,_,rfl,⟨m,g,fun k=>Iff.rfl,?_,t⟩,fun k hk=>?_,k⟩
 ·obtain⟨f,v,p,q,_⟩:=t;exact q.lies.lt
 ·omega
theorem put_foot{g n:Nat}{M:Tm→Prop}{F:Nat→Prop}(w:World)(x:Tm)(H:Hid (Ts w g n M F))(fx:Hid (Fits x))(hn:n<1048576):
  Calls Tryz.prog 172 #[tp g,tv x] w fun e w'=>∃ b n' F',e=.returned (.bool b)∧(b=true↔¬M x)∧n'=(if b then n+1 else n)∧Ts w' g n' (fun y=>y=x∨M y) F'∧Moves F F' w w':=by
 obtain⟨m,r,hf,hr,t⟩:=H.out
 by_cases hx:M x
 ·refine (put_old w x (hid t) (hid hx)).mono ?_
  rintro e w' ⟨rfl,tt⟩;obtain⟨F',T,V⟩:=Ts.of_turns hf hr tt;exact⟨false,n,F',rfl,by simp[hx],rfl,T.congr (fun y=>⟨.inr,fun h=>by rcases h with rfl|h;exact hx;exact h⟩),V⟩
 ·refine (put_new w x (hid t) (hid hx) fx hn).mono ?_
  rintro e w' ⟨rfl,tt⟩;obtain⟨F',T,V⟩:=Ts.of_turns hf hr tt;exact⟨true,n+1,F',rfl,by simp[hx],rfl,T,V⟩
theorem drop_foot{g n:Nat}{M:Tm→Prop}{F:Nat→Prop}(w:World)(x:Tm)(H:Hid (Ts w g n M F))(fx:Hid (Fits x)):
  Calls Tryz.prog 174 #[tp g,tv x] w fun e w'=>∃ b n' F',e=.returned (.bool b)∧(b=true↔M x)∧n=(if b then n'+1 else n')∧Ts w' g n' (fun y=>y≠x∧M y) F'∧Moves F F' w w':=by
 obtain⟨m,r,hf,hr,t⟩:=H.out
 by_cases hx:M x
 ·obtain⟨k,rfl⟩:∃ k,n=k+1:=by
   obtain⟨f,v,p,q,hh,hm⟩:=t;obtain⟨i,hi,_⟩:=(hm x).1 hx;exact⟨n-1,by omega⟩
  refine (drop_there w x (hid t) (hid hx)).mono ?_
  rintro e w' ⟨rfl,tt⟩;obtain⟨F',T,V⟩:=Ts.of_turns hf hr tt;exact⟨true,k,F',rfl,by simp[hx],rfl,T,V⟩
 ·refine (drop_not w x (hid t) (hid hx) fx).mono ?_
  rintro e w' ⟨rfl,tt⟩;obtain⟨F',T,V⟩:=Ts.of_turns hf hr tt;exact⟨false,n,F',rfl,by simp[hx],rfl,T.congr (fun y=>⟨fun h=>⟨fun e=>hx (e▸h),h⟩,fun h=>h.2⟩),V⟩
def Pops(late mark:Int)(n:Nat)(M:Tm→Prop)(b:Bool)(x:Tm)(n':Nat)(M':Tm→Prop):Prop:=
 b=true∧IsLeast M x∧x.e+late≤mark∧n=n'+1∧(∀ y,M' y↔y≠x∧M y)∨b=false∧x=⟨⟨#[]⟩,0,0⟩∧n'=n∧(∀ y,IsLeast M y→¬y.e+late≤mark)∧M'=M
theorem pop_foot{g n:Nat}{M:Tm→Prop}{F:Nat→Prop}{late mark:Int}(w:World)(H:Hid (Ts w g n M F))(hl:Hid ((Lit.int .i64 late).wf=true))(hm:Hid ((Lit.int .i64 mark).wf=true)):
  Calls Tryz.prog 140 #[tp g,.int .i64 late,.int .i64 mark] w fun e w'=>∃ b x n' M' F',e=.returned (.tuple #[tv x,.bool b])∧Pops late mark n M b x n' M'∧Ts w' g n' M' F'∧Moves F F' w w':=by
 obtain⟨m,r,hf,hr,t⟩:=H.out
 match n,H,t with
 |0,H,t=>
  refine (pop_none w (hid t)).mono ?_
  rintro e w' ⟨rfl,k⟩;exact⟨false,_,0,M,F,rfl,.inr ⟨rfl,rfl,rfl,fun y hy=>absurd hy.1 (H.out.none_ y),rfl⟩,H.out.next k,Moves.of_below k H.out.in⟩
 |n+1,H,t=>
  obtain⟨x,hx⟩:=H.out.least (by omega)
  by_cases ho:x.e+late≤mark
  ·refine (pop_some w (hid t) (hid hx) hl hm (hid ho)).mono ?_
   rintro e w' ⟨rfl,tt⟩;obtain⟨F',T,V⟩:=Ts.of_turns hf hr tt;exact⟨true,x,n,_,F',rfl,.inl ⟨rfl,hx,ho,rfl,fun y=>Iff.rfl⟩,T,V⟩
  ·refine (pop_not w (hid t) (hid hx) hl hm (hid ho)).mono ?_
   rintro e w' ⟨rfl,k⟩;exact⟨false,_,n+1,M,F,rfl,.inr ⟨rfl,rfl,rfl,fun y hy=>by rw[hy.one hx];exact ho,rfl⟩,H.out.next k,Moves.of_below k H.out.in⟩
end Tmr
end Go.Proofs.YtfjlnniahfbdfaaGreat
