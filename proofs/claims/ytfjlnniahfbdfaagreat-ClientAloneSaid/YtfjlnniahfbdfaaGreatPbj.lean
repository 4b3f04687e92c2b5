/- A part of the proof. -/
import Derived.Test.YtfjlnniahfbdfaaGreatPaa
import Derived.Test.YtfjlnniahfbdfaaGreatPag
import Derived.Maps.OwnSet
import Derived.Maps.Ext
import Derived.Shelf.SlIterI.Sorted
import Derived.Shelf.SortM.Plain
import Derived.Shelf.SortM.SortNone
import Derived.Test.YtfjlnniahfbdfaaGreatPab
import Derived.Test.YtfjlnniahfbdfaaGreatPbb
import Derived.Test.YtfjlnniahfbdfaaGreatPaf
import Derived.Deep.RegionHeld3
import Derived.Deep.DeepCutAuto
set_option linter.unusedVariables false
set_option maxHeartbeats 4000000
namespace Go.Proofs.YtfjlnniahfbdfaaGreat
open Lib (hid)
open Go.ChangeShapes Go.WideShapes Go.ChangeAt Go.RowKit
namespace Sh
open Small Foot
set_option maxRecDepth 100000
theorem keyed:Maps.Keyed Tryz.prog 3:=Maps.int_keyed Tryz.underlying3
abbrev kl(x:Int):Lit:=.int .i64 x
abbrev Wf(x:Int):Prop:=(Lit.int .i64 x).wf=true
theorem kl_ok{x:Int}(h:Wf x):keyOf Tryz.prog 3 (.int .i64 x)=some (kl x):=Maps.keyOf_int_mk Tryz.underlying3 h
theorem kl_ne{x y:Int}(h:x≠y):kl x≠kl y:=fun e=>h (by injection e)
abbrev gp(g:Nat):Value:=.pointer (some ⟨g,0,none⟩)
abbrev ptr(s:Option Nat):Value:=.pointer (s.map fun g=>⟨g,0,none⟩)
abbrev RV(v:Value):Option (DataW Value×List MemPlace):=some (.held v,[])
def Mi(w:World)(m:Nat)(p:Int→Option Nat)(c:Nat):Prop:=
 ∃ D:DataW Value,w.ownsMap Tryz.prog 3 RV m c D∧Maps.size D=c∧
   ∀ x:Int,Wf x→(p x=none→Maps.has D (kl x)=false)∧(∀ a,p x=some a→Maps.has D (kl x)=true∧∀ z,D.atKey (kl x) z=.held (gp a))
theorem tight{w:World}{P:Program}{k:TypeId}{R:Value→Option (DataW Value×List MemPlace)}{b n:Nat}{D:DataW Value}(h:w.ownsMap P k R b n D):w.ownsMap P k R b (Maps.size D) D:=by
 obtain⟨es,clock,hb,F,hs,rfl⟩:=h
 exact⟨es,clock,hb,F,by simp[Maps.size,length_sorted],rfl⟩
theorem zero_ptr(w:World):(zeroValue 53).run Tryz.prog w=.ok (.pointer none) w:=by kernel_rfl
def upd(p:Int→Option Nat)(x:Int)(v:Option Nat)(q:Int→Option Nat):Prop:=q x=v∧∀ y,y≠x→q y=p y
def updOf(p:Int→Option Nat)(x:Int)(v:Option Nat):Int→Option Nat:=fun y=>if y=x then v else p y
theorem updOf_ok(p:Int→Option Nat)(x:Int)(v:Option Nat):upd p x v (updOf p x v):=⟨by simp[updOf],fun y hy=>by simp[updOf,hy]⟩
section
variable {w w':World} {m c:Nat} {p:Int→Option Nat}
theorem Mi.kept(h:Mi w m p c)(hb:w'.heap[m]?=w.heap[m]?):Mi w' m p c:=by
 obtain⟨D,⟨es,clock,h1,F,hs,hD⟩,h2,h3⟩:=h
 exact⟨D,⟨es,clock,hb.trans h1,F,hs,hD⟩,h2,h3⟩
theorem Mi.lt(h:Mi w m p c):m<w.heap.size:=by
 obtain⟨D,h1,_⟩:=h
 exact h1.lt
theorem Mi.next(h:Mi w m p c)(k:Below w.heap.size w w'):Mi w' m p c:=h.kept (k.block m h.lt)
theorem Mi.made(w:World):Mi (w.alloc (.map #[] 0)) w.heap.size (fun _=>none) 0:=
 ⟨.map [],World.ownsMap_made w _ _ _,rfl,fun x _=>⟨fun _=>rfl,fun i h=>by cases h⟩⟩
theorem Mi.look(h:Mi w m p c){x:Int}(hx:Wf x):
  (Instr.lookup 119 (.map (some m)) (.int .i64 x) false).run Tryz.prog w=.ok (ptr (p x)) w:=by
 obtain⟨D,h1,h2,h3⟩:=h
 obtain⟨v,ps,hrun,hv⟩:=h1.lookup keyed Tryz.underlying119 (zero_ptr w) (R:=RV) rfl (kl_ok hx)
 rw[hrun]
 have hh:=h3 x hx
 cases hp:p x with
 |none=>
  rw[Maps.atKey_of_not_has (hh.1 hp)] at hv;simp only[RV,Option.some.injEq,Prod.mk.injEq,DataW.held.injEq] at hv;rw[hv.1];rfl
 |some u=>
  rw[(hh.2 u hp).2] at hv;simp only[RV,Option.some.injEq,Prod.mk.injEq,DataW.held.injEq] at hv;rw[hv.1];rfl
theorem Mi.look_ok(h:Mi w m p c){x:Int}(hx:Wf x):
  (Instr.lookup 119 (.map (some m)) (.int .i64 x) true).run Tryz.prog w=.ok (.tuple #[ptr (p x),.bool (p x).isSome]) w:=by
 obtain⟨D,h1,h2,h3⟩:=h
 obtain⟨v,ps,hrun,hv⟩:=h1.look_ok keyed Tryz.underlying119 (zero_ptr w) (R:=RV) rfl (kl_ok hx)
 rw[hrun]
 have hh:=h3 x hx
 cases hp:p x with
 |none=>
  rw[Maps.atKey_of_not_has (hh.1 hp)] at hv;simp only[RV,Option.some.injEq,Prod.mk.injEq,DataW.held.injEq] at hv;rw[hv.1,hh.1 hp];rfl
 |some u=>
  rw[(hh.2 u hp).2] at hv;simp only[RV,Option.some.injEq,Prod.mk.injEq,DataW.held.injEq] at hv;rw[hv.1,(hh.2 u hp).1];rfl
theorem Mi.store(h:Mi w m p c){x:Int}(hx:Wf x)(v:Nat)(hc:c≤1048576){q:Int→Option Nat}(hq:upd p x (some v) q):
  ∃ w' c',(Instr.mapUpdate 119 (.map (some m)) (.int .i64 x) (gp v)).run Tryz.prog w=.ok () w'∧Mi w' m q c'∧c'≤c+1∧w.grownBy w' (some m):=by
 obtain⟨D,h1,h2,h3⟩:=h
 obtain⟨w',hrun,ho,hg⟩:=h1.update keyed Tryz.underlying119 (by unfold maxLen;omega) (kl_ok hx) (val:=gp v) (d:=.held (gp v)) (ps:=[]) rfl
 have hk:=keyed.key (kl_ok hx)
 have hsz:=Maps.size_put (k:=kl x) (h1.tidy keyed) (.held (gp v))
 refine⟨w',_,hrun,⟨_,tight ho,rfl,fun y hy=>?_⟩,by rw[hsz,h2];split<;>omega,hg⟩
 by_cases e:y=x
 ·subst e
  refine⟨(fun hn=>by rw[hq.1] at hn;cases hn),fun j hj=>?_⟩
  rw[hq.1] at hj;cases hj
  exact⟨Maps.has_put_same h1.isMap hk _,fun z=>Maps.atKey_put_same h1.isMap hk _ z⟩
 ·have hne:=kl_ne e
  rw[hq.2 y e,Maps.has_put_other hne];refine⟨(h3 y hy).1,fun j hj=>?_⟩
  obtain⟨a,cc⟩:=(h3 y hy).2 j hj;exact⟨a,fun z=>by rw[Maps.atKey_put_other hne];exact cc z⟩
theorem Mi.drop(h:Mi w m p c){x:Int}(hx:Wf x){q:Int→Option Nat}(hq:upd p x none q)(ty:TypeId):
  ∃ w' c',(Builtin.delete_ #[119,3] ty #[.map (some m),.int .i64 x]).run Tryz.prog w=.ok (.tuple #[]) w'∧Mi w' m q c'∧c'≤c∧w.grownBy w' (some m):=by
 obtain⟨D,h1,h2,h3⟩:=h
 obtain⟨w',hrun,ho,hg⟩:=h1.drop keyed Tryz.underlying119 (kl_ok hx) ty
 have hsz:=Maps.size_del (k:=kl x) (h1.tidy keyed)
 refine⟨w',_,hrun,⟨_,tight ho,rfl,fun y hy=>?_⟩,by have:=h2;split at hsz<;>omega,hg.grown⟩
 by_cases e:y=x
 ·subst e
  exact⟨fun _=>Maps.has_del_same,(fun j hj=>by rw[hq.1] at hj;cases hj)⟩
 ·have hne:=kl_ne e
  rw[hq.2 y e,Maps.has_del_other hne];refine⟨(h3 y hy).1,fun j hj=>?_⟩
  obtain⟨a,cc⟩:=(h3 y hy).2 j hj;exact⟨a,fun z=>by rw[Maps.atKey_del_other hne];exact cc z⟩
end
end Sh
open Go.Shelf Go.Maps Go.Sort
def KI.keys_ren:Go.Shelf.Ren:=⟨fun|7=>139|10=>161|n=>n,fun|23=>119|26=>3|3=>53|28=>215|0=>0|27=>214|33=>77|4=>4|n=>n,fun|n=>n⟩
theorem KI.keys:SlLaysZI.n7 Tryz.prog KI.keys_ren:={
 mixed:=by kernel_rfl
 f7:=⟨Tryz.f139.name,by decide,Tryz.func139.trans (congrArg some (by kernel_rfl))⟩
 f10:=⟨Tryz.f161.name,by decide,Tryz.func161.trans (congrArg some (by kernel_rfl))⟩
 t0:=Tryz.underlying0
 a0:=Tryz.isAgg0
 z0:=Tryz.sizeOf0
 v0:=Tryz.zeroValue0
 t4:=Tryz.underlying4
 a4:=Tryz.isAgg4
 z4:=Tryz.sizeOf4
 v4:=Tryz.zeroValue4
 t23:=Tryz.underlying119
 a23:=Tryz.isAgg119
 z23:=Tryz.sizeOf119
 v23:=Tryz.zeroValue119
 t26:=Tryz.underlying3
 a26:=Tryz.isAgg3
 z26:=Tryz.sizeOf3
 v26:=Tryz.zeroValue3
 t27:=Tryz.underlying214
 a27:=Tryz.isAgg214
 z27:=Tryz.sizeOf214
 v27:=Tryz.zeroValue214
 t28:=Tryz.underlying215
 a28:=Tryz.isAgg215
 z28:=Tryz.sizeOf215
 v28:=Tryz.zeroValue215
 t33:=Tryz.underlying77
 a33:=Tryz.isAgg77
 z33:=Tryz.sizeOf77
 v33:=Tryz.zeroValue77}
def KI.sorted_ren:Go.Shelf.Ren:=⟨fun|6=>138|8=>159|9=>160|11=>176|n=>n,fun|24=>70|26=>3|28=>215|0=>0|3=>3|33=>77|4=>4|n=>n,fun|n=>n⟩
theorem KI.sorted:SlLaysZI.n6 Tryz.prog KI.sorted_ren:={
 mixed:=by kernel_rfl
 f6:=⟨Tryz.f138.name,by decide,Tryz.func138.trans (congrArg some (by kernel_rfl))⟩
 f8:=⟨Tryz.f159.name,by decide,Tryz.func159.trans (congrArg some (by kernel_rfl))⟩
 f11:=⟨Tryz.f176.name,by decide,Tryz.func176.trans (congrArg some (by kernel_rfl))⟩
 t0:=Tryz.underlying0
 a0:=Tryz.isAgg0
 z0:=Tryz.sizeOf0
 v0:=Tryz.zeroValue0
 t24:=Tryz.underlying70
 a24:=Tryz.isAgg70
 z24:=Tryz.sizeOf70
 v24:=Tryz.zeroValue70
 t26:=Tryz.underlying3
 a26:=Tryz.isAgg3
 z26:=Tryz.sizeOf3
 v26:=Tryz.zeroValue3
 t28:=Tryz.underlying215
 a28:=Tryz.isAgg215
 z28:=Tryz.sizeOf215
 v28:=Tryz.zeroValue215
 i26:=by kernel_rfl}
def KI.sort_ren:Go.Shelf.Ren:=⟨fun|5=>160|7=>177|8=>178|10=>199|11=>200|12=>201|13=>202|14=>203|15=>204|16=>205|17=>206|18=>207|19=>208|20=>209|30=>218|31=>219|32=>220|33=>221|34=>222|35=>223|40=>226|n=>n,fun|0=>0|3=>3|4=>4|5=>5|9=>9|22=>70|23=>70|25=>3|32=>280|35=>297|36=>298|41=>64|44=>244|46=>243|53=>312|57=>316|63=>318|64=>319|n=>n,fun|n=>n⟩
theorem KI.sort:SlLaysM.n5 Tryz.prog KI.sort_ren:={
 mixed:=by kernel_rfl
 f5:=⟨Tryz.f160.name,by decide,Tryz.func160.trans (congrArg some (by kernel_rfl))⟩
 f7:=⟨Tryz.f177.name,by decide,Tryz.func177.trans (congrArg some (by kernel_rfl))⟩
 f8:=Tryz.func178.trans (congrArg some (by kernel_rfl))
 f10:=⟨Tryz.f199.name,by decide,Tryz.func199.trans (congrArg some (by kernel_rfl))⟩
 f11:=⟨Tryz.f200.name,by decide,Tryz.func200.trans (congrArg some (by kernel_rfl))⟩
 f12:=⟨Tryz.f201.name,by decide,Tryz.func201.trans (congrArg some (by kernel_rfl))⟩
 f13:=⟨Tryz.f202.name,by decide,Tryz.func202.trans (congrArg some (by kernel_rfl))⟩
 f14:=⟨Tryz.f203.name,by decide,Tryz.func203.trans (congrArg some (by kernel_rfl))⟩
 f15:=⟨Tryz.f204.name,by decide,Tryz.func204.trans (congrArg some (by kernel_rfl))⟩
 f16:=⟨Tryz.f205.name,by decide,Tryz.func205.trans (congrArg some (by kernel_rfl))⟩
 f17:=⟨Tryz.f206.name,by decide,Tryz.func206.trans (congrArg some (by kernel_rfl))⟩
 f18:=⟨Tryz.f207.name,by decide,Tryz.func207.trans (congrArg some (by kernel_rfl))⟩
 f19:=Tryz.func208.trans (congrArg some (by kernel_rfl))
 f20:=Tryz.func209.trans (congrArg some (by kernel_rfl))
 f30:=⟨Tryz.f218.name,by decide,Tryz.func218.trans (congrArg some (by kernel_rfl))⟩
 f31:=Tryz.func219.trans (congrArg some (by kernel_rfl))
 f32:=Tryz.func220.trans (congrArg some (by kernel_rfl))
 f33:=⟨Tryz.f221.name,by decide,Tryz.func221.trans (congrArg some (by kernel_rfl))⟩
 f34:=⟨Tryz.f222.name,by decide,Tryz.func222.trans (congrArg some (by kernel_rfl))⟩
 f35:=⟨Tryz.f223.name,by decide,Tryz.func223.trans (congrArg some (by kernel_rfl))⟩
 f40:=⟨Tryz.f226.name,by decide,Tryz.func226.trans (congrArg some (by kernel_rfl))⟩
 t0:=Tryz.underlying0
 a0:=Tryz.isAgg0
 z0:=Tryz.sizeOf0
 v0:=Tryz.zeroValue0
 t3:=Tryz.underlying3
 a3:=Tryz.isAgg3
 z3:=Tryz.sizeOf3
 v3:=Tryz.zeroValue3
 t4:=Tryz.underlying4
 a4:=Tryz.isAgg4
 z4:=Tryz.sizeOf4
 v4:=Tryz.zeroValue4
 t5:=Tryz.underlying5
 a5:=Tryz.isAgg5
 z5:=Tryz.sizeOf5
 v5:=Tryz.zeroValue5
 t9:=Tryz.underlying9
 a9:=Tryz.isAgg9
 z9:=Tryz.sizeOf9
 v9:=Tryz.zeroValue9
 t22:=Tryz.underlying70
 a22:=Tryz.isAgg70
 z22:=Tryz.sizeOf70
 v22:=Tryz.zeroValue70
 t23:=Tryz.underlying70
 a23:=Tryz.isAgg70
 z23:=Tryz.sizeOf70
 v23:=Tryz.zeroValue70
 t25:=Tryz.underlying3
 a25:=Tryz.isAgg3
 z25:=Tryz.sizeOf3
 v25:=Tryz.zeroValue3
 t32:=Tryz.underlying280
 a32:=Tryz.isAgg280
 z32:=Tryz.sizeOf280
 v32:=Tryz.zeroValue280
 t35:=Tryz.underlying297
 a35:=Tryz.isAgg297
 z35:=Tryz.sizeOf297
 v35:=Tryz.zeroValue297
 t36:=Tryz.underlying298
 a36:=Tryz.isAgg298
 z36:=Tryz.sizeOf298
 v36:=Tryz.zeroValue298
 t41:=Tryz.underlying64
 a41:=Tryz.isAgg64
 z41:=Tryz.sizeOf64
 v41:=Tryz.zeroValue64
 t44:=Tryz.underlying244
 a44:=Tryz.isAgg244
 z44:=Tryz.sizeOf244
 v44:=Tryz.zeroValue244
 t46:=Tryz.underlying243
 a46:=Tryz.isAgg243
 z46:=Tryz.sizeOf243
 v46:=Tryz.zeroValue243
 t53:=Tryz.underlying312
 a53:=Tryz.isAgg312
 z53:=Tryz.sizeOf312
 v53:=Tryz.zeroValue312
 t57:=Tryz.underlying316
 a57:=Tryz.isAgg316
 z57:=Tryz.sizeOf316
 v57:=Tryz.zeroValue316
 t63:=Tryz.underlying318
 a63:=Tryz.isAgg318
 z63:=Tryz.sizeOf318
 v63:=Tryz.zeroValue318
 t64:=Tryz.underlying319
 a64:=Tryz.isAgg319
 z64:=Tryz.sizeOf319
 v64:=Tryz.zeroValue319}
namespace KI
theorem sorts(m:Nat):AnyZI.SortsIn Tryz.prog KI.sorted_ren Fence.wide m:=
 ⟨fun blk off cap ss W hH hblk hsz=>callsIn_wide.2 (AnyM.slices_Sort_int KI.sort blk off cap ss W hH hblk hsz),
  fun p cap W=>callsIn_wide.2 (AnyM.slices_Sort_int_none KI.sort p cap W)⟩
theorem keys_call(mb:Option Nat)(W:World):Calls Tryz.prog 139 #[.map mb] W fun e w'=>e=.returned (.func (.func 161) #[] #[.pointer (some ⟨W.heap.size,0,none⟩)])∧w'=W.alloc (.cells #[.map mb] 119):=
 (callsIn_wide (n:=5)).1 (AnyZI.keys_in KI.keys Fence.wide 5 trivial rfl mb W)
theorem sorted_call{H:Type}(b nn:Nat)(D0:DataW H)(R:Value→Option (DataW H×List MemPlace))(w:World)(hown:w.ownsMap Tryz.prog 3 R b nn D0)(hmax:Maps.size D0≤maxLen)(hbytes:Maps.size D0*8≤140737488355328):
  Calls Tryz.prog 138 #[.func (.func 161) #[] #[.pointer (some ⟨w.heap.size,0,none⟩)]] (w.alloc (.cells #[.map (some b)] 119)) fun e w'=>∃ (v:Value) (ss:List Int),e=.returned v∧ss.Perm (intKeys D0)∧
   w'.ownsRow (w.alloc (.cells #[.map (some b)] 119)).heap.size 3 1 v ss.length ((ss.mergeSort (fun x y=>decide (x≤y))).map encZ)∧(v=.slice none 0 0↔ss=[])∧Below (w.alloc (.cells #[.map (some b)] 119)).heap.size (w.alloc (.cells #[.map (some b)] 119)) w':=by
 have hbl:=hown.lt
 have hseq:SeqGives Fence.wide 2 Tryz.prog 161 #[.pointer (some ⟨w.heap.size,0,none⟩)] encZ (fun ss=>ss.Perm (intKeys D0)) (Maps.size D0) (w.alloc (.cells #[.map (some b)] 119)):=
  AnyZI.keys_gives (ρ:=KI.keys_ren) {KI.keys with} Fence.wide _ trivial rfl (by omega) w.heap.size b nn D0 _ (by simp) (by simp) (by
   obtain⟨es,clock,hb,Ft,hs,hD⟩:=hown;exact⟨es,clock,(Below.heap_alloc _ _ b hbl).trans hb,Ft,hs,hD⟩)
 exact (callsIn_wide (n:=5)).1 (AnyZI.sorted_in KI.sorted Fence.wide 5 trivial trivial trivial trivial rfl (by omega) (KI.sorts _) (enters_of Tryz.func160 (by kernel_rfl) rfl) 161 #[.pointer (some ⟨w.heap.size,0,none⟩)] trivial (enters_of Tryz.func161 (by kernel_rfl) rfl) _ _ hmax hbytes _ hseq)
end KI
namespace Ik
abbrev k:Kind Int:=⟨70,3,1,8,.int .i64 0,fun x=>[.int .i64 x]⟩
theorem ok:Ik.k.Ok where
 under:=Tryz.underlying70
 elem:=by kernel_rfl
 info:=by kernel_rfl
 zs:=by kernel_rfl
 pos:=by decide
 len:=fun _=>rfl
 one:=fun x u h=>by simp at h;subst h;rfl
 small:=by decide
theorem flat_enc(ss:List Int):Sl.flat Ik.k ss=ss.map encZ:=by
 induction ss with
 |nil=>rfl
 |cons x ss ih=>simp only[Sl.flat,List.map_cons,List.flatMap_cons] at ih ⊢;rw[ih];rfl
end Ik
namespace Sh
open Small Foot
structure KeysOf(p:Int→Option Nat)(ks:List Int):Prop where
 up:ks.Pairwise (·<·)
 mem:∀ x,x∈ks↔p x≠none
section
variable {w:World} {m c:Nat} {p:Int→Option Nat} {D:DataW Value} {ss:List Int}
theorem keys_nd(hown:w.ownsMap Tryz.prog 3 RV m c D):(intKeys D).Nodup∧(intKeys D).length=Maps.size D∧∀ x,x∈intKeys D↔has D (.int .i64 x)=true:=by
 obtain⟨es,hes,hpw,_⟩:=hown.entries keyed
 obtain⟨es',hes',hko⟩:=hown.keysOf
 obtain rfl:es=es':=by rw[hes] at hes';simpa using hes'
 subst hes
 have hk:∀ p∈es,∃ x,p.1=.int .i64 x:=fun p hp=>by
  obtain⟨v,hv⟩:=hko p hp
  have:∃ x,p.1=.int .i64 x:=by
   cases v<;>simp[keyOf,Tryz.underlying3,mapKey] at hv
   obtain⟨⟨rfl,_⟩,h⟩:=hv;exact⟨_,h.symm⟩
  exact this
 refine⟨?_,?_,fun x=>?_⟩
 ·show (es.map fun p=>Go.intOf p.1).Nodup
  refine List.pairwise_map.2 (hpw.imp_of_mem fun {p q} hp' hq' hne e=>hne ?_)
  obtain⟨a,ha⟩:=hk p hp';obtain⟨b,hb⟩:=hk q hq';rw[ha,hb] at e ⊢;exact congrArg _ e
 ·show (es.map fun p=>Go.intOf p.1).length=_
  rw[List.length_map];rfl
 ·rw[has_eq,List.any_eq_true]
  show x∈es.map (fun p=>Go.intOf p.1)↔_
  rw[List.mem_map]
  constructor
  ·rintro⟨p,hp',rfl⟩
   obtain⟨a,ha⟩:=hk p hp';exact⟨p,hp',by rw[ha];simp[Lit.sameKey,Go.intOf]⟩
  ·rintro⟨p,hp',hs⟩
   obtain⟨a,ha⟩:=hk p hp';rw[ha] at hs;exact⟨p,hp',by rw[ha];simpa [Lit.sameKey,Go.intOf] using hs⟩
theorem keys_fin(hown:w.ownsMap Tryz.prog 3 RV m c D)(hD:∀ x:Int,Wf x→(p x=none→Maps.has D (kl x)=false)∧(∀ a,p x=some a→Maps.has D (kl x)=true∧∀ z,D.atKey (kl x) z=.held (gp a)))
  (hw:∀ x,p x≠none→Wf x) (hp:ss.Perm (intKeys D)):KeysOf p (ss.mergeSort (fun x y=>decide (x≤y))):=by
 have hle:=intKeys_wf hown Tryz.underlying3
 obtain⟨nd,-,hmem⟩:=keys_nd hown
 have perm:=(List.mergeSort_perm ss (fun x y=>decide (x≤y))).trans hp
 have tr:∀ a b c:Int,decide (a≤b)=true→decide (b≤c)=true→decide (a≤c)=true:=fun a b c h1 h2=>by simp only[decide_eq_true_eq] at *;omega
 have ttl:∀ a b:Int,(decide (a≤b)||decide (b≤a))=true:=fun a b=>by simp only[Bool.or_eq_true,decide_eq_true_eq];omega
 have hs:=List.pairwise_mergeSort (le:=fun x y=>decide (x≤y)) tr ttl ss
 have nd2:(ss.mergeSort (fun x y=>decide (x≤y))).Nodup:=perm.symm.nodup nd
 refine⟨(hs.and nd2).imp fun {a b} h=>?_,fun x=>?_⟩
 ·have h1:a≤b:=by simpa using h.1
  have h2:a≠b:=h.2;omega
 ·constructor
  ·intro hy e
   have hy2:=perm.mem_iff.1 hy;have hh:=(hmem x).1 hy2;rw[(hD x (hle x hy2)).1 e] at hh;cases hh
  ·intro hx
   obtain⟨a,ha⟩:=Option.ne_none_iff_exists'.1 hx;exact perm.mem_iff.2 ((hmem _).2 ((hD x (hw x hx)).2 a ha).1)
theorem Mi.small(h:Mi w m p c)(hd:∀ x,p x≠none→0≤x∧x<16):c≤16:=by
 obtain⟨D,h1,h2,h3⟩:=h
 obtain⟨nd,hl,hmem⟩:=keys_nd h1
 have hle:=intKeys_wf h1 Tryz.underlying3
 have:=List.Nodup.length_le_of_subset nd (l₂:=(List.range 16).map fun k:Nat=>(k:Int)) fun x hx=>by
  have hh:=(hmem x).1 hx;have hp:p x≠none:=fun e=>by rw[(h3 x (hle x hx)).1 e] at hh;cases hh
  obtain⟨q1,q2⟩:=hd x hp;exact List.mem_map.2 ⟨x.toNat,List.mem_range.2 (by omega),by omega⟩
 rw[List.length_map,List.length_range,hl,h2] at this
 exact this
end
end Sh
set_option maxRecDepth 100000
namespace Sh
open Small Foot Ca Rel RelG
abbrev wcl(x:Cf)(m bx:Nat):List Value:=[.int .i64 x.k,.int .i64 x.s,.int .i64 x.l,.int .i64 x.g,.int .i64 x.z,.int .i64 x.h,.int .i64 x.r,.int .i64 x.c,.map (some m),.pointer (some ⟨bx,0,none⟩)]
abbrev fcl(x:Cf):List Value:=[.int .i64 x.k,.int .i64 x.s,.int .i64 x.l,.int .i64 x.g,.int .i64 x.z,.int .i64 x.h,.int .i64 x.r,.int .i64 x.c]
theorem wf_small{x:Int}(h:0≤x∧x<16):Wf x:=by
 show (Lit.int .i64 x).wf=true
 simp[Lit.wf,IntKind.min,IntKind.max,IntKind.bits,IntKind.signed]
 omega
theorem timer_new(w:World):Calls Tryz.prog 112 #[] w fun r w'=>∃ g,r=.returned (gp g)∧Below w.heap.size w w':=by
 have hm:=fun w':World=>run_makeMap (P:=Tryz.prog) 225 w'
 go_enter Tryz.func112,Tryz.ntmps112
 go_wp2
 go_ret
 exact⟨_,rfl,below2 _ _ _⟩
theorem group_new(cf:Cf)(w:World)(M:Hid (Asg.may cf.k cf.s cf.l cf.g cf.z cf.h cf.r cf.c))(s1:cf.s≤9223372036854775807):
  Calls Tryz.prog 76 #[cf.val] w fun r w'=>∃ g,r=.returned (.tuple #[gp g,.nilIface])∧Below w.heap.size w w':=by
 have X0:=hid (Lies.new w 23 (fcl cf))
 have K0:=hid (below1 w (Obj.cells #[.int .i64 cf.k,.int .i64 cf.s,.int .i64 cf.l,.int .i64 cf.g,.int .i64 cf.z,.int .i64 cf.h,.int .i64 cf.r,.int .i64 cf.c] 23))
 go_enter Tryz.func76,Tryz.ntmps76
 go_wp2_with fail
 refine (Asg.may_ok cf.k cf.s cf.l cf.g cf.z cf.h cf.r cf.c _ true (hid (by simp[M.out])) s1).mono ?_
 rintro e w1 ⟨rfl,k1⟩
 have X1:=hid (X0.out.next k1)
 have K1:=hid (after K0.out k1)
 clear k1
 go_wp2_with fail
 have hm:=fun w':World=>run_makeMap (P:=Tryz.prog) 186 w'
 have CS:Hid (∀ w',Below w1.heap.size w1 w'→w'.cell? ⟨w.heap.size,0,none⟩=some (.int .i64 cf.k)∧w'.cell? ⟨w.heap.size,1,none⟩=some (.int .i64 cf.s)∧w'.cell? ⟨w.heap.size,2,none⟩=some (.int .i64 cf.l)∧w'.cell? ⟨w.heap.size,3,none⟩=some (.int .i64 cf.g)∧w'.cell? ⟨w.heap.size,4,none⟩=some (.int .i64 cf.z)∧w'.cell? ⟨w.heap.size,5,none⟩=some (.int .i64 cf.h)∧w'.cell? ⟨w.heap.size,6,none⟩=some (.int .i64 cf.r)∧w'.cell? ⟨w.heap.size,7,none⟩=some (.int .i64 cf.c)∧Below w1.heap.size w1 w'):=hid fun w' hB=>
  ⟨(X1.out.next hB).cell (i:=0) rfl,(X1.out.next hB).cell (i:=1) rfl,(X1.out.next hB).cell (i:=2) rfl,(X1.out.next hB).cell (i:=3) rfl,(X1.out.next hB).cell (i:=4) rfl,(X1.out.next hB).cell (i:=5) rfl,(X1.out.next hB).cell (i:=6) rfl,(X1.out.next hB).cell (i:=7) rfl,hB⟩
 have CB:Hid (∀ w',w'.cell? ⟨w.heap.size,0,none⟩=some (.int .i64 cf.k)∧w'.cell? ⟨w.heap.size,1,none⟩=some (.int .i64 cf.s)∧w'.cell? ⟨w.heap.size,2,none⟩=some (.int .i64 cf.l)∧w'.cell? ⟨w.heap.size,3,none⟩=some (.int .i64 cf.g)∧w'.cell? ⟨w.heap.size,4,none⟩=some (.int .i64 cf.z)∧w'.cell? ⟨w.heap.size,5,none⟩=some (.int .i64 cf.h)∧w'.cell? ⟨w.heap.size,6,none⟩=some (.int .i64 cf.r)∧w'.cell? ⟨w.heap.size,7,none⟩=some (.int .i64 cf.c)∧Below w1.heap.size w1 w'→Below w1.heap.size w1 w'):=hid fun w' h=>h.2.2.2.2.2.2.2.2
 go_region_held3 (fun w'=>w'.cell? ⟨w.heap.size,0,none⟩=some (.int .i64 cf.k)∧w'.cell? ⟨w.heap.size,1,none⟩=some (.int .i64 cf.s)∧w'.cell? ⟨w.heap.size,2,none⟩=some (.int .i64 cf.l)∧w'.cell? ⟨w.heap.size,3,none⟩=some (.int .i64 cf.g)∧w'.cell? ⟨w.heap.size,4,none⟩=some (.int .i64 cf.z)∧w'.cell? ⟨w.heap.size,5,none⟩=some (.int .i64 cf.h)∧w'.cell? ⟨w.heap.size,6,none⟩=some (.int .i64 cf.r)∧w'.cell? ⟨w.heap.size,7,none⟩=some (.int .i64 cf.c)∧Below w1.heap.size w1 w')
  (first|exact CS.out _ (Below.refl _ _).drew|exact CS.out _ (after (by first|assumption|exact (Below.refl _ _).drew|exact CB.out _ (by assumption)) k9)|exact CS.out _ (after (by first|assumption|exact (Below.refl _ _).drew|exact CB.out _ (by assumption)) (below1 _ _)))
  (first|(go_at_call 112;refine (timer_new _).mono ?_;rintro e w9 ⟨tg,rfl,k9⟩))
 all_goals
  have kk:=CB.out _ (by assumption)
  clear CS CB;go_wp2;go_ret2;exact⟨_,rfl,after K1.out kk⟩
def Ints(w:World)(v:Value)(gs:List Int):Prop:=∃ A cp,v=.slice A gs.length cp∧(0<gs.length→∃ b off,A=some ⟨b,off,none⟩∧b<w.heap.size∧∀ (k:Nat) (x:Int),gs[k]?=some x→w.cell? ⟨b,off+k,none⟩=some (.int .i64 x))
structure NL(w:World)(wk m bx g2:Nat)(cf:Cf)(k:Nat)(wr:World):Prop where
 lies:Lies wr wk 121 (wcl cf m bx)
 map:∃ p c,Mi wr m p c∧c≤k
 box:Ms.Box wr bx cf.c false (.slice none 0 0) []
 cfg:Lies wr g2 23 (fcl cf)
 below:Below w.heap.size w wr
 lo:w.heap.size≤g2∧w.heap.size≤wk∧w.heap.size≤m∧w.heap.size≤bx
 ne:g2≠wk∧g2≠m∧g2≠bx∧wk≠m∧wk≠bx∧m≠bx
theorem NL.next{w wr wr':World}{wk m bx g2 k:Nat}{cf:Cf}(h:NL w wk m bx g2 cf k wr)(K:Below wr.heap.size wr wr'):NL w wk m bx g2 cf k wr':=by
 obtain⟨p,c,hm,hc⟩:=h.map
 exact⟨h.lies.next K,⟨p,c,hm.next K,hc⟩,h.box.next K,h.cfg.next K,after h.below K,h.lo,h.ne⟩
theorem NL.skip{w wr:World}{wk m bx g2 k:Nat}{cf:Cf}(h:NL w wk m bx g2 cf k wr):NL w wk m bx g2 cf (k+1) wr:=by
 obtain⟨p,c,hm,hc⟩:=h.map
 exact⟨h.lies,⟨p,c,hm,by omega⟩,h.box,h.cfg,h.below,h.lo,h.ne⟩
theorem NL.put{w wr w1 w2:World}{wk m bx g2 k c':Nat}{cf:Cf}{q:Int→Option Nat}(h:NL w wk m bx g2 cf k wr)(K:Below wr.heap.size wr w1)(o:Mi w2 m q c')(hc:c'≤k+1)(k2:w1.grownBy w2 (some m)):NL w wk m bx g2 cf (k+1) w2:=by
 have h1:=h.next K
 have ne:=h.ne
 have st:∀ i,i<w1.heap.size→i≠m→w2.heap[i]?=w1.heap[i]?:=fun i hi hn=>k2.block i hi fun e=>hn (Option.some.inj e)
 exact⟨(st wk h1.lies.lt ne.2.2.2.1).trans h1.lies,⟨q,c',o,hc⟩,⟨(st bx h1.box.lies.lt (Ne.symm ne.2.2.2.2.2)).trans h1.box.lies,Sl.Own.nil _ _ _⟩,(st g2 h1.cfg.lt ne.2.1).trans h1.cfg,h1.below.grown k2 h1.below.size fun j hj=>by cases hj;exact h.lo.2.2.1,h.lo,ne⟩
theorem newl_ok(cf:Cf)(gs:List Int)(gv:Value)(w:World)(H:Hid (Ints w gv gs))(hn:gs.length≤16)(M:Hid (Asg.may cf.k cf.s cf.l cf.g cf.z cf.h cf.r cf.c))(s1:cf.s≤9223372036854775807):
  Calls Tryz.prog 41 #[cf.val,gv] w fun r w'=>∃ wk m bx,r=.returned (.tuple #[gp wk,.nilIface])∧Lies w' wk 121 (wcl cf m bx)∧Ms.Box w' bx cf.c false (.slice none 0 0) []∧w.heap.size≤wk∧w.heap.size≤bx∧wk≠bx∧Below w.heap.size w w':=by
 obtain⟨A0,cp,hv,hcl⟩:=H.out
 subst hv
 have HCL:=hid hcl
 clear hcl
 have r16:1≤cf.r∧cf.r≤16∧1≤cf.c∧cf.c≤16:=by have:=M.out;unfold Asg.may at this;omega
 have C0:=hid (Lies.new w 23 (fcl cf))
 have K0:=hid (below1 w (Obj.cells #[.int .i64 cf.k,.int .i64 cf.s,.int .i64 cf.l,.int .i64 cf.g,.int .i64 cf.z,.int .i64 cf.h,.int .i64 cf.r,.int .i64 cf.c] 23))
 go_enter Tryz.func41,Tryz.ntmps41
 go_wp2_with fail
 refine (Asg.may_ok cf.k cf.s cf.l cf.g cf.z cf.h cf.r cf.c _ true (hid (by simp[M.out])) s1).mono ?_
 rintro r w1 ⟨rfl,k1⟩
 have C1:=hid (C0.out.next k1)
 have K1:=hid (after K0.out k1)
 clear k1
 have c7:=C1.out.cell (i:=7) rfl
 go_wp2_with fail
 refine (Ms.new_ok cf.c w1 (by omega) (by omega)).mono ?_
 rintro r w2 ⟨rfl,b2,k2⟩
 have B2:=hid b2
 have C2:=hid (C1.out.next k2)
 have K2:=hid (after K1.out k2)
 have S2:Hid (w.heap.size<w1.heap.size∧w1.heap.size<w2.heap.size):=hid ⟨C1.out.lt,b2.lies.lt⟩
 clear k2 b2 c7
 obtain⟨c0,c1,c2,c3,c4,c5,c6,c7⟩:(w2.cell? ⟨w.heap.size,0,none⟩=some (.int .i64 cf.k)∧w2.cell? ⟨w.heap.size,1,none⟩=some (.int .i64 cf.s)∧w2.cell? ⟨w.heap.size,2,none⟩=some (.int .i64 cf.l)∧w2.cell? ⟨w.heap.size,3,none⟩=some (.int .i64 cf.g)∧w2.cell? ⟨w.heap.size,4,none⟩=some (.int .i64 cf.z)∧w2.cell? ⟨w.heap.size,5,none⟩=some (.int .i64 cf.h)∧w2.cell? ⟨w.heap.size,6,none⟩=some (.int .i64 cf.r)∧w2.cell? ⟨w.heap.size,7,none⟩=some (.int .i64 cf.c)):=
  ⟨C2.out.cell (i:=0) rfl,C2.out.cell (i:=1) rfl,C2.out.cell (i:=2) rfl,C2.out.cell (i:=3) rfl,C2.out.cell (i:=4) rfl,C2.out.cell (i:=5) rfl,C2.out.cell (i:=6) rfl,C2.out.cell (i:=7) rfl⟩
 have hm:=run_makeMap (P:=Tryz.prog) 119 w2
 go_upto_region 7 with fail
 have k3:=below1 w2 (.map #[] 0)
 have mi3:=Mi.made w2
 have k4:=below1 (w2.alloc (.map #[] 0)) (Obj.cells (wcl cf w2.heap.size w1.heap.size).toArray 121)
 have lw4:=Lies.new (w2.alloc (.map #[] 0)) 121 (wcl cf w2.heap.size w1.heap.size)
 have hsz:(w2.alloc (.map #[] 0)).heap.size=w2.heap.size+1:=by simp
 have N0:Hid (NL w (w2.heap.size+1) w2.heap.size w1.heap.size w.heap.size cf 0 ((w2.alloc (.map #[] 0)).alloc (Obj.cells #[.int .i64 cf.k,.int .i64 cf.s,.int .i64 cf.l,.int .i64 cf.g,.int .i64 cf.z,.int .i64 cf.h,.int .i64 cf.r,.int .i64 cf.c,.map (some w2.heap.size),Bx.gp w1.heap.size] 121))):=hid (by
  have s2:=S2.out;refine⟨?_,⟨_,0,mi3.next k4,Nat.le_refl _⟩,(B2.out.next k3).next k4,(C2.out.next k3).next k4,after K2.out (after k3 k4),⟨Nat.le_refl _,by omega,by omega,by omega⟩,⟨by omega,by omega,by omega,by omega,by omega,by omega⟩⟩
  rw[←hsz];exact lw4)
 generalize (w2.alloc (.map #[] 0)).alloc (Obj.cells #[.int .i64 cf.k,.int .i64 cf.s,.int .i64 cf.l,.int .i64 cf.g,.int .i64 cf.z,.int .i64 cf.h,.int .i64 cf.r,.int .i64 cf.c,.map (some w2.heap.size),Bx.gp w1.heap.size] 121)=w4 at N0 ⊢
 clear k3 k4 mi3 lw4 hsz hm c0 c1 c2 c3 c4 c5 c6 c7 B2 C2 K2 S2 C1 K1
 generalize hwk:w2.heap.size+1=wk at N0 ⊢
 generalize w2.heap.size=m at N0 ⊢
 generalize w1.heap.size=bx at N0 ⊢
 generalize hg2:w.heap.size=g2 at N0 ⊢
 clear hwk
 go_wp2_with fail
 go_loopw [7,10,31] (fun se sn si wr=>∃ (k:Nat),k≤gs.length∧se=.nilIface∧si=.int .i64 k∧Hid (NL w wk m bx g2 cf k wr)) (fun _ _ si _=>gs.length-(intOf si).toNat)
 case atStart=>exact⟨0,Nat.zero_le _,rfl,rfl,N0⟩
 case round=>
  obtain⟨k,hk,rfl,rfl,NN⟩:=hrel;by_cases hlt:k<gs.length
  ·have i1:(k:Int)<gs.length:=by omega
   have i0:(0:Int)≤(k:Int):=by omega
   obtain⟨x,hx⟩:∃ x,gs[k]?=some x:=⟨_,List.getElem?_eq_getElem hlt⟩
   obtain⟨b,off,rfl,hcell⟩:∃ b off,A0=some ⟨b,off,none⟩∧wr.cell? ⟨b,off+k,none⟩=some (.int .i64 x):=by
    obtain⟨b,off,e,hbl,hc⟩:=HCL.out (by omega)
    exact⟨b,off,e,(World.cell?_of_block (a:=⟨b,off+k,none⟩) (NN.out.below.block b hbl)).trans (hc k x hx)⟩
   have HX:=hid hx;have cr:=NN.out.cfg.cell (i:=6) rfl;clear hx;by_cases h1:x<0
   ·go_wp2_with fail
    exact⟨⟨k+1,by omega,rfl,by go_num,hid NN.out.skip⟩,by simp[intOf];omega⟩
   ·by_cases h2:cf.r≤x
    ·go_wp2_with fail
     exact⟨⟨k+1,by omega,rfl,by go_num,hid NN.out.skip⟩,by simp[intOf];omega⟩
    ·have xo:0≤x∧x<cf.r:=by omega
     have wx:Wf x:=wf_small (by omega)
     obtain⟨p,c0,hm0,hc0'⟩:=NN.out.map;have hc0:c0≤1048576:=by omega
     have HC:=hid hc0';clear hc0';have HM:=hid hm0;have cw:=NN.out.lies.cell (i:=8) rfl;have d0:=NN.out.cfg.cell (i:=0) rfl;have d1:=NN.out.cfg.cell (i:=1) rfl;have d2:=NN.out.cfg.cell (i:=2) rfl;have d3:=NN.out.cfg.cell (i:=3) rfl;have d4:=NN.out.cfg.cell (i:=4) rfl;have d5:=NN.out.cfg.cell (i:=5) rfl;have d7:=NN.out.cfg.cell (i:=7) rfl;have XO:=hid (And.intro xo r16.2.1);clear hm0 xo;go_upto_region 11 with fail
     go_region_with (first
      |(go_at_call 76;refine (group_new cf _ M s1).mono ?_;rintro r w9 ⟨g,rfl,k9⟩;have kk:Below wr.heap.size wr w9:=after (Below.refl _ _).drew k9;obtain⟨w10,c10,st,o10,l10,k10⟩:=(HM.out.next kk).store wx g hc0 (updOf_ok p x (some g));have N9:=hid (NN.out.put kk o10 (by have:=HC.out;omega) k10);have cw9:=(NN.out.next kk).lies.cell (i:=8) rfl;clear k9 kk o10 k10 l10 cw d0 d1 d2 d3 d4 d5 d7 cr hcell)
      |fail)
     all_goals
      go_wp2_with fail
      exact⟨⟨k+1,by omega,rfl,by go_num,N9⟩,by simp[intOf];omega⟩
  ·obtain rfl:k=gs.length:=by omega
   have i1:¬((gs.length:Int)<gs.length):=by omega
   clear i1;go_wp2;go_ret2;have nn:=NN.out;exact⟨wk,m,bx,rfl,nn.lies,nn.box,hg2▸nn.lo.2.1,hg2▸nn.lo.2.2.2,nn.ne.2.2.2.2.1,hg2▸nn.below⟩
theorem box_at{wk m bx:Nat}{cf:Cf}(w:World)(H:Hid (Lies w wk 121 (wcl cf m bx))):Calls Tryz.prog 43 #[gp wk] w fun r w'=>r=.returned (gp bx)∧w=w':=by
 have m9:=H.out.cell (i:=9) rfl
 go_enter Tryz.func43,Tryz.ntmps43
 go_wp2
 go_ret
 exact⟨rfl,rfl⟩
end Sh
end Go.Proofs.YtfjlnniahfbdfaaGreat
