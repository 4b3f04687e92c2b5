/- A part of the proof. -/
import Derived.Test.YtfjlnniahfbdfaaGreatPac
import Derived.Lib.SliceRun
import Derived.Deep.RegionLaw
import Derived.Lib.AppendZerosOnto
import Derived.Lib.Overlaps
import Derived.Laws.CopyOwn
import Derived.Test.YtfjlnniahfbdfaaGreatPaa
set_option linter.unusedVariables false
set_option maxHeartbeats 4000000
namespace Go.Proofs.YtfjlnniahfbdfaaGreat
open Lib (hid)
open Go.ChangeShapes Go.WideShapes Go.ChangeAt Go.RowKit Small
namespace Pane
theorem clone_ok(v:Value)(L:List Pn)(b:Nat)(w:World)(H:Hid (Sl.Is Pn.k w v L b))(hn:L.length≤9000):
  Calls Tryz.prog 71 #[v] w fun r w'=>∃ v',r=.returned v'∧Sl.Own Pn.k w.heap.size w' v' L∧Below w.heap.size w w':=by
 rcases H.out with ⟨rfl,rfl⟩|⟨off,cap,rfl,h2,h3,h4,h5⟩
 ·clear H
  go_enter Tryz.func71,Tryz.ntmps71;have e0:∀ w,(binOp .eql 41 (.slice none 0 0) (.slice none 0 0)).run Tryz.prog w=.ok (.bool true) w:=fun w=>Lib.run_eql_slice_nil w _ _ _ _ _ _ _ Tryz.underlying41
  go_wp2;go_ret;exact⟨_,rfl,Sl.Own.nil _ _ _,Below.refl _ _⟩
 ·clear h2 h3 h4 h5
  go_enter Tryz.func71,Tryz.ntmps71;have e0:∀ w,(binOp .eql 41 (.slice (some ⟨b,off,none⟩) L.length cap) (.slice none 0 0)).run Tryz.prog w=.ok (.bool false) w:=fun w=>Lib.run_eql_slice_nil w _ _ _ _ _ _ _ Tryz.underlying41
  go_wp2_with (at_builtin;refine wpList_plain rfl fun K' hK'=>Sl.wp_append_empty (K:=Pn.k) Pn.ok (.tmp 5) (.tmp 6) rfl (b:=w.heap.size) (base:=w.heap.size) (l2:=L) (b2:=b) rfl (heap_alloc_new _ _) (Nat.le_refl _) (by exact H.out.next (below1 _ _)) (by omega) (by simp) (fun u w8 x1 x2=>hK' _ _ ?_))
  have B:=hid (after (below1 _ _) x2);have X1:=hid x1;clear x1 x2;go_wp2;go_ret;exact⟨_,rfl,X1.out,B.out⟩
end Pane
namespace Slm
section
variable {P:Program}
theorem run_copyK(w:World)(dT sT ty elem:TypeId)(k g o dLen dCap:Nat)(a:Addr)(sLen sCap n:Nat)(cur:Array Value)(t:TypeId)(cs:List Value)
  (hu:P.underlying dT=some (.slice elem)) (hs:(P.info? elem).map (·.size)=some k)
  (hg:w.heap[g]?=some (.cells cur t (0,0))) (hm:n=Nat.min sLen dLen) (hn:cs.length=n*k)
  (hsrc:∀ j v,cs[j]?=some v→w.cell? (a.add j)=some v) (hfit:o+cs.length≤cur.size) (h1:∀ v∈cs,v.oneCell'=true):
  (Builtin.copy_ #[dT,sT] ty #[.slice (some ⟨g,o,none⟩) dLen dCap,.slice (some a) sLen sCap]).run P w=
   .ok (goInt n) (w.setRow g (cur.toList.take o++cs++cur.toList.drop (o+cs.length)).toArray):=by
 have hst:=run_storeCells_at P g o t cs 0 cur w hg (by simpa using hfit) h1
 have hf:=run_firstCells_some (P:=P) w k n a sLen sCap cs hn hsrc
 cases hq:P.info? elem with
 |none=>simp[hq] at hs
 |some i=>
  have hi:i.size=k:=by simpa [hq] using hs
  rw[Nat.add_zero] at hst;simp[Builtin.copy_,run_underlying hu,Builtin.lenOf,sizeOf,typeInfo,hq,hi,←hm,hf,hst]
theorem wp_appended(w:World){o:Oper}{a:Act}{K:Act→World→Prop}{Q:Exit→Act→World→Prop}(d s:Operand)(t t':TypeId)
  (ho:o.op=.call {callee:=.builtin .append,args:=#[d,s],argTypes:=#[t,t']}) (v u:Value) (hd:a.eval d=v) (hs:a.eval s=u) {v':Value} {w':World}
  (hr:(Builtin.append_ #[t,t'] o.type #[v,u]).run P w=.ok v' w') (h:K (a.put o.dst v') w'):o.wp P a w K Q:=by
 unfold Oper.wp execOp
 simp only[ho,resolve,invoke,builtin,Sem.run_bind,Sem.run_pure,Result.andThen_ok,List.map_toArray,List.map_cons,List.map_nil,hd,hs,hr]
 exact h
theorem wpl_appended(w:World){ops:Array Oper}{rest:List Oper}{o:Oper}{a:Act}{Q:Exit→Act→World→Prop}(hgd:o.guard=none)(d s:Operand)(t t':TypeId)
  (ho:o.op=.call {callee:=.builtin .append,args:=#[d,s],argTypes:=#[t,t']}) (v u:Value) (hd:a.eval d=v) (hs:a.eval s=u) {v':Value} {w':World}
  (hr:(Builtin.append_ #[t,t'] o.type #[v,u]).run P w=.ok v' w') (h:wpList P ops Q rest (a.put o.dst v') w'):wpList P ops Q (o::rest) a w:=
 wpList_plain hgd fun _ hK=>wp_appended w d s t t' ho v u hd hs hr (hK _ _ h)
theorem grown_setRow{w w1:World}{g:Nat}(h:w.grownBy w1 (some g))(cs:Array Value):w.grownBy (w1.setRow g cs) (some g):=
 ⟨h.os,h.tape,h.output,by rw[setRow_size];exact h.size,fun k hk hne=>by rw[setRow_other _ _ _ _ (fun e=>hne (by rw[e]))];exact h.block k hk hne⟩
end
end Slm
namespace Pane
theorem infoPn:(Tryz.prog.info? 133).map (·.size)=some 7:=by kernel_rfl
theorem sizePn(w:World):(Go.sizeOf 133).run Tryz.prog w=.ok 7 w:=by
 obtain⟨i0,hi,hz0,hz1,hz2⟩:=info_parts Pn.ok.info
 simp[Go.sizeOf,typeInfo,show Tryz.prog.info? 133=some i0 from hi,hz1]
theorem overlaps_no(w:World)(vb g off lb cb:Nat)(cv cg:Array Value)(hv:w.heap[vb]?=some (.cells cv 133 (0,0)))(hg:w.heap[g]?=some (.cells cg 133 (0,0)))(h0:cg.size≠0)(hne:vb≠g):
  (callFunc 212 #[.slice (some ⟨vb,0,none⟩) 1 1,.slice (some ⟨g,off,none⟩) lb cb]).run Tryz.prog w=.ok (.value (.bool false)) w:=by
 rw[run_callFunc_extern Tryz.func212 (by kernel_rfl) (by kernel_rfl) (by kernel_rfl) (e:=Extern.SlicesOverlaps.overlaps #[41,41] #[4]) (by kernel_rfl),
  Lib.run_overlaps_apart w 41 4 133 Tryz.underlying41 7 sizePn ⟨vb,0,none⟩ ⟨g,off,none⟩ 1 1 lb cb hne 133 133 cv.size cg.size
   (by simp[World.shape?,hv]) (by simp[World.shape?,hg]) h0 (by simp[World.frozen?,hv]) (by simp[World.frozen?,hv])]
 rfl
theorem ins_list{c F X:List Value}{n cap i:Nat}(hc:c.length=cap*7)(hF:c.take (n*7)=F)(hi:i<n)(hr:n+1≤cap)(hX:X.length=7):
  (((c.take ((i+1)*7)++F.drop (i*7)++c.drop ((i+1)*7+(F.drop (i*7)).length)).toArray.toList.take (i*7)++X++
   (c.take ((i+1)*7)++F.drop (i*7)++c.drop ((i+1)*7+(F.drop (i*7)).length)).toArray.toList.drop (i*7+X.length)).toArray.toList).take ((n+1)*7)=F.take (i*7)++X++F.drop (i*7):=by
 have hFl:F.length=n*7:=by rw[←hF,List.length_take,hc];omega
 have e0:(c.take ((i+1)*7)).length=(i+1)*7:=by rw[List.length_take,hc];omega
 have e1:(c.take ((i+1)*7)++F.drop (i*7)++c.drop ((i+1)*7+(F.drop (i*7)).length)).take (i*7)=F.take (i*7):=by
  rw[List.append_assoc,List.take_append_of_le_length (by omega),List.take_take,←hF,List.take_take]
  congr 1
  omega
 have e2:(c.take ((i+1)*7)++F.drop (i*7)++c.drop ((i+1)*7+(F.drop (i*7)).length)).drop (i*7+X.length)=F.drop (i*7)++c.drop ((i+1)*7+(F.drop (i*7)).length):=by
  rw[List.append_assoc];exact List.drop_left' (by omega)
 simp only[e1,e2]
 rw[←List.append_assoc]
 exact List.take_left' (by rw[List.length_append,List.length_append,List.length_take,List.length_drop,hFl,hX];omega)
set_option maxRecDepth 100000 in
theorem insert_room(g n cap i vb:Nat)(cur:Array Value)(F:List Value)(x:Pn)(w:World)(hg:Hid (w.heap[g]?=some (.cells cur 133 (0,0))))(hi:i<n)(hroom:n+1≤cap)(hc:cur.size=cap*7)(hcap:cap≤9223372036854775807)
  (hF:Hid (cur.toList.take (n*7)=F)) (hF1:Hid (∀ u∈F,u.oneCell'=true)) (hx:Hid (Lies w vb 133 x.cl)) (hvb:vb≠g):
  Calls Tryz.prog 187 #[.slice (some ⟨g,0,none⟩) n cap,.int .i64 i,.slice (some ⟨vb,0,none⟩) 1 1] w fun r w'=>r=.returned (.slice (some ⟨g,0,none⟩) (n+1) cap)∧
   ∃ cur',w'.heap[g]?=some (.cells cur' 133 (0,0))∧cur'.size=cap*7∧cur'.toList.take ((n+1)*7)=F.take (i*7)++x.cl++F.drop (i*7)∧w.grownBy w' (some g):=by
 have hFl:F.length=n*7:=by rw[←hF.out,List.length_take,Array.length_toList,hc];omega
 have hcsz:cur.size≠0:=by omega
 have hov:∀ w1 off lb cb,w1.heap[vb]?=w.heap[vb]?→w1.heap[g]?=w.heap[g]?→(callFunc 212 #[.slice (some ⟨vb,0,none⟩) 1 1,.slice (some ⟨g,off,none⟩) lb cb]).run Tryz.prog w1=.ok (.value (.bool false)) w1:=
  fun w1 off lb cb h1 h2=>overlaps_no w1 vb g off lb cb _ _ (h1.trans hx.out) (h2.trans hg.out) hcsz hvb
 have hov0:=hov w
 have hdl:(F.drop (i*7)).length=(n-i)*7:=by rw[List.length_drop,hFl,Nat.sub_mul]
 have hw1:IntKind.i64.wrap ((i:Int)+1)=(i:Int)+1:=by rw[IntKind.wrap_i64];omega
 have hw2:IntKind.i64.wrap ((n:Int)+1)=(n:Int)+1:=by rw[IntKind.wrap_i64];omega
 go_enter Tryz.func187,Tryz.ntmps187
 have hcp:∀ ty dc sc,(Builtin.copy_ #[41,41] ty #[.slice (some ⟨g,(i+1)*7,none⟩) (n-i) dc,.slice (some ⟨g,i*7,none⟩) (n+1-i) sc]).run Tryz.prog w.drew=
   .ok (goInt ((n-i:Nat):Int)) (w.drew.setRow g (cur.toList.take ((i+1)*7)++F.drop (i*7)++cur.toList.drop ((i+1)*7+(F.drop (i*7)).length)).toArray):=fun ty dc sc=>
  Slm.run_copyK w.drew _ _ ty 133 7 g ((i+1)*7) (n-i) dc ⟨g,i*7,none⟩ (n+1-i) sc (n-i) cur 133 (F.drop (i*7)) Tryz.underlying41 infoPn (by exact hg.out)
   (by simp only[Nat.min_def];split<;>omega) hdl
   (fun j v hj=>by
    rw[Addr.add_lit,show w.drew.cell? ⟨g,i*7+j,none⟩=w.cell? ⟨g,i*7+j,none⟩ from rfl,cell_of_row w g _ cur _ (0,0) hg.out]
    rw[List.getElem?_drop,←hF.out,List.getElem?_take] at hj
    split at hj
    ·simpa using hj
    ·cases hj)
   (by rw[hdl,hc,←Nat.add_mul];exact Nat.mul_le_mul_right _ (by omega)) (fun v hv=>hF1.out v (List.mem_of_mem_drop hv))
 obtain⟨cur1,hcur1⟩:∃ c1,Hid (c1=(cur.toList.take ((i+1)*7)++F.drop (i*7)++cur.toList.drop ((i+1)*7+(F.drop (i*7)).length)).toArray):=⟨_,hid rfl⟩
 rw[←hcur1.out] at hcp
 obtain⟨W1,hW1⟩:∃ W1,Hid (W1=w.drew.setRow g cur1):=⟨_,hid rfl⟩
 rw[←hW1.out] at hcp
 have hb1:(0:Int)≤(i:Int)+1:=by omega
 have hb2:i≤n:=by omega
 have hb3:¬(cap=i+1):=by omega
 have hb4:¬(cap=i):=by omega
 have hb5:(i:Int)≤(n:Int)+1:=by omega
 go_wp2_with (simp only[hov0])
 go_region_law (refine Slm.step_copy rfl _ _ 41 41 rfl (.slice (some ⟨g,(i+1)*7,none⟩) (n-i) _) (.slice (some ⟨g,i*7,none⟩) (n+1-i) _) (by simp[Act.eval,Act.put]) (by simp[Act.eval,Act.put]) (hcp _ _ _) ?_)
 have hg1:W1.heap[g]?=some (.cells cur1 133 (0,0)):=by rw[hW1.out];exact setRow_heap w.drew g cur cur1 _ _ hg.out
 have hx1:Lies W1 vb 133 x.cl:=by unfold Lies;rw[hW1.out,setRow_other _ _ _ _ hvb];exact hx.out
 have hsz:cur1.size=cap*7:=by
  rw[hcur1.out];simp only[List.size_toArray,List.length_append,List.length_take,List.length_drop,Array.length_toList,hc,hdl];omega
 have hcp2:∀ ty dc,(Builtin.copy_ #[41,41] ty #[.slice (some ⟨g,i*7,none⟩) (n+1-i) dc,.slice (some ⟨vb,0,none⟩) 1 1]).run Tryz.prog W1=
   .ok (goInt ((1:Nat):Int)) (W1.setRow g (cur1.toList.take (i*7)++x.cl++cur1.toList.drop (i*7+x.cl.length)).toArray):=fun ty dc=>
  Slm.run_copyK W1 _ _ ty 133 7 g (i*7) (n+1-i) dc ⟨vb,0,none⟩ 1 1 1 cur1 133 x.cl Tryz.underlying41 infoPn hg1
   (by simp only[Nat.min_def];split<;>omega) rfl
   (fun j v hj=>by rw[Addr.add_lit,Nat.zero_add];exact hx1.cell hj)
   (by rw[hsz,show x.cl.length=7 from rfl];omega) (fun v hv=>Pn.ok.one x v hv)
 obtain⟨cur2,hcur2⟩:∃ c1,Hid (c1=(cur1.toList.take (i*7)++x.cl++cur1.toList.drop (i*7+x.cl.length)).toArray):=⟨_,hid rfl⟩
 rw[←hcur2.out] at hcp2
 go_wp2_with (at_builtin;refine Slm.wpl_copy _ rfl _ _ 41 41 rfl _ _ rfl rfl (hcp2 _ _) ?_)
 go_ret
 refine⟨rfl,cur2,setRow_heap _ _ _ _ _ _ hg1,?_,?_,?_⟩
 ·rw[hcur2.out]
  simp only[List.size_toArray,List.length_append,List.length_take,List.length_drop,Array.length_toList,hsz,show x.cl.length=7 from rfl]
  omega
 ·have hcl:cur.toList.length=cap*7:=by rw[Array.length_toList,hc]
  rw[hcur2.out,hcur1.out];exact ins_list hcl hF.out hi hroom rfl
 ·rw[hW1.out]
  exact Slm.grown_setRow (Slm.grown_setRow (show w.grownBy w.drew (some g) from ⟨rfl,rfl,rfl,Nat.le_refl _,fun _ _ _=>rfl⟩) _) _
theorem grow_list{F X Z Z2:List Value}{n i G:Nat}(hF:F.length=n*7)(hi:i<n)(hG:n+1≤G)(hX:X.length=7)(hZ:Z.length=(n+1-i)*7)(hZ2:Z2.length=(G-(n+1))*7)
  {R R2 R3:Array Value} (hR:R=(F.take (i*7)++Z++Z2).toArray) (hR2:R2=(R.toList.take (i*7)++X++R.toList.drop (i*7+X.length)).toArray)
  (hR3:R3=(R2.toList.take ((i+1)*7)++F.drop (i*7)++R2.toList.drop ((i+1)*7+(F.drop (i*7)).length)).toArray):
  R.size=G*7∧R2.size=G*7∧R3.size=G*7∧R3.toList.take ((n+1)*7)=F.take (i*7)++X++F.drop (i*7):=by
 have s1:R.size=G*7:=by
  rw[hR];simp only[List.size_toArray,List.length_append,List.length_take,hF,hZ,hZ2];omega
 have s2:R2.size=G*7:=by
  rw[hR2];simp only[List.size_toArray,List.length_append,List.length_take,List.length_drop,Array.length_toList,s1,hX];omega
 have s3:R3.size=G*7:=by
  rw[hR3];simp only[List.size_toArray,List.length_append,List.length_take,List.length_drop,Array.length_toList,s2,hF];omega
 refine⟨s1,s2,s3,?_⟩
 have e1:R.toList.take (i*7)=F.take (i*7):=by
  rw[hR];simp only[List.append_assoc];exact List.take_left' (by rw[List.length_take,hF];omega)
 have e2:R2.toList.take ((i+1)*7)=F.take (i*7)++X:=by
  rw[hR2,e1];exact List.take_left' (by rw[List.length_append,List.length_take,hF,hX];omega)
 rw[hR3,e2]
 exact List.take_left' (by rw[List.length_append,List.length_append,List.length_take,List.length_drop,hF,hX];omega)
theorem zeros_len(z:Array Value)(n:Nat):(Builtin.zeroCells z n).size=n*z.size:=by
 unfold Builtin.zeroCells
 simp
set_option maxRecDepth 100000 in
theorem insert_grow(g n cap i vb:Nat)(cur:Array Value)(F:List Value)(x:Pn)(w:World)(hg:Hid (w.heap[g]?=some (.cells cur 133 (0,0))))(hi:i<n)(hnc:n≤cap)(hroom:cap<n+1)(hn:n≤9000)
  (hF:Hid (cur.toList.take (n*7)=F)) (hFl:F.length=n*7) (hF1:Hid (∀ u∈F,u.oneCell'=true)) (hx:Hid (Lies w vb 133 x.cl)) (hvb:vb≠g):
  Calls Tryz.prog 187 #[.slice (some ⟨g,0,none⟩) n cap,.int .i64 i,.slice (some ⟨vb,0,none⟩) 1 1] w fun r w'=>∃ G,r=.returned (.slice (some ⟨w.heap.size,0,none⟩) (n+1) G)∧n+1≤G∧G≤maxLen∧
   ∃ cur',w'.heap[w.heap.size]?=some (.cells cur' 133 (0,0))∧cur'.size=G*7∧cur'.toList.take ((n+1)*7)=F.take (i*7)++x.cl++F.drop (i*7)∧Below w.heap.size w w':=by
 obtain⟨i0,hi0,hz0,hz1,hz2⟩:=info_parts Pn.ok.info
 have hgl:g<w.heap.size:=Reg.block_lt hg.out
 have hvl:vb<w.heap.size:=hx.out.lt
 have hdl:(F.drop (i*7)).length=(n-i)*7:=by rw[List.length_drop,hFl,Nat.sub_mul]
 have hFat:∀ j v,F[j]?=some v→w.cell? ⟨g,j,none⟩=some v:=fun j v hj=>by
  rw[cell_of_row w g _ cur _ (0,0) hg.out];rw[←hF.out,List.getElem?_take] at hj
  split at hj
  ·simpa using hj
  ·cases hj
 have hold:(Builtin.firstCells i0.size i (.slice (some ⟨g,0,none⟩) i cap)).run Tryz.prog w.drew=.ok (F.take (i*7)).toArray w.drew:=by
  rw[hz1]
  exact run_firstCells_some w.drew 7 i ⟨g,0,none⟩ i cap (F.take (i*7)) (by rw[List.length_take,hFl];omega) (fun j v hj=>by
   rw[Addr.add_lit,Nat.zero_add];rw[List.getElem?_take] at hj
   split at hj
   ·exact hFat j v hj
   ·cases hj)
 have hkk:(n:Int)+1-(i:Int)=((n+1-i:Nat):Int):=by omega
 have hik:i+(n+1-i)=n+1:=by omega
 have hby:i0.bytes=64:=hz2
 have hfit:Builtin.nextslicecap (n+1) cap*i0.bytes≤281474976710656:=growslice_fits hroom (by rw[hby];omega)
 obtain⟨G,hG⟩:∃ G,G=grownCap w (n+1) cap 133:=⟨_,rfl⟩
 have hGn:n+1≤G:=by rw[hG];exact grownCap_ge w _ _ _
 have hGm:G≤maxLen:=by rw[hG];exact grownCap_le_maxLen w _ _ _ (by unfold maxLen;omega)
 obtain⟨R,hR⟩:∃ R:Array Value,Hid (R=(F.take (i*7)).toArray++Builtin.zeroCells (Pn.k.zero).cells (n+1-i)++Builtin.zeroCells (Pn.k.zero).cells (G-(n+1))):=⟨_,hid rfl⟩
 obtain⟨W1,hW1⟩:∃ W1,Hid (W1=w.drew.alloc (.cells R 133)):=⟨_,hid rfl⟩
 have hrz:∀ ty,(Builtin.append_ #[41,3] ty #[.slice (some ⟨g,0,none⟩) i cap,.int .i64 ((n:Int)+1-(i:Int))]).run Tryz.prog w=.ok (.slice (some ⟨w.heap.size,0,none⟩) (n+1) G) W1:=fun ty=>by
  have h:=Lib.run_append_grow_zeros w 41 3 ty 133 i0 _ .i64 .i64 Tryz.underlying41 Tryz.underlying3 hi0 hz0 (some ⟨g,0,none⟩) i cap _ hold (n+1-i) (by omega) (by rw[hz1];decide) (by omega) (by omega) (by rw[hby];omega) (by rw[hik];exact hfit)
  rw[hik,←hG,←hR.out,←hW1.out] at h;rw[hkk];exact h
 clear hG
 have zl:∀ m,(Builtin.zeroCells (Pn.k.zero).cells m).toList.length=m*7:=fun m=>by rw[Array.length_toList,zeros_len];rfl
 obtain⟨R2,hR2⟩:∃ c1,Hid (c1=(R.toList.take (i*7)++x.cl++R.toList.drop (i*7+x.cl.length)).toArray):=⟨_,hid rfl⟩
 obtain⟨R3,hR3⟩:∃ c1,Hid (c1=(R2.toList.take ((i+1)*7)++F.drop (i*7)++R2.toList.drop ((i+1)*7+(F.drop (i*7)).length)).toArray):=⟨_,hid rfl⟩
 obtain⟨s1,s2,s3,hfin⟩:=grow_list (R:=R) (Z:=(Builtin.zeroCells (Pn.k.zero).cells (n+1-i)).toList) (Z2:=(Builtin.zeroCells (Pn.k.zero).cells (G-(n+1))).toList) hFl hi hGn (show x.cl.length=7 from rfl) (zl _) (zl _) (by rw[hR.out];simp) hR2.out hR3.out
 have hfin':=hid hfin
 have hN1:W1.heap[w.heap.size]?=some (.cells R 133 (0,0)):=by rw[hW1.out];exact heap_alloc_new w.drew _
 have hO1:∀ k,k<w.heap.size→W1.heap[k]?=w.heap[k]?:=fun k hk=>by rw[hW1.out];exact heap_alloc_old w.drew _ hk
 obtain⟨W2,hW2⟩:∃ W2,Hid (W2=W1.setRow w.heap.size R2):=⟨_,hid rfl⟩
 have hcp1:∀ ty dc,(Builtin.copy_ #[41,41] ty #[.slice (some ⟨w.heap.size,i*7,none⟩) (n+1-i) dc,.slice (some ⟨vb,0,none⟩) 1 1]).run Tryz.prog W1=.ok (goInt ((1:Nat):Int)) W2:=fun ty dc=>by
  rw[hW2.out,hR2.out]
  exact Slm.run_copyK W1 _ _ ty 133 7 w.heap.size (i*7) (n+1-i) dc ⟨vb,0,none⟩ 1 1 1 R 133 x.cl Tryz.underlying41 infoPn hN1
   (by simp only[Nat.min_def];split<;>omega) rfl
   (fun j v hj=>by rw[Addr.add_lit,Nat.zero_add];exact (World.cell?_of_block (hO1 vb hvl)).trans (hx.out.cell hj))
   (by rw[s1,show x.cl.length=7 from rfl];omega) (fun v hv=>Pn.ok.one x v hv)
 have hN2:W2.heap[w.heap.size]?=some (.cells R2 133 (0,0)):=by rw[hW2.out];exact setRow_heap _ _ _ _ _ _ hN1
 have hO2:∀ k,k<w.heap.size→W2.heap[k]?=w.heap[k]?:=fun k hk=>by rw[hW2.out,setRow_other _ _ _ _ (by omega)];exact hO1 k hk
 obtain⟨W3,hW3⟩:∃ W3,Hid (W3=W2.drew.setRow w.heap.size R3):=⟨_,hid rfl⟩
 have hcp2:∀ ty dc sc,(Builtin.copy_ #[41,41] ty #[.slice (some ⟨w.heap.size,(i+1)*7,none⟩) (n-i) dc,.slice (some ⟨g,i*7,none⟩) (n-i) sc]).run Tryz.prog W2.drew=.ok (goInt ((n-i:Nat):Int)) W3:=fun ty dc sc=>by
  rw[hW3.out,hR3.out]
  exact Slm.run_copyK W2.drew _ _ ty 133 7 w.heap.size ((i+1)*7) (n-i) dc ⟨g,i*7,none⟩ (n-i) sc (n-i) R2 133 (F.drop (i*7)) Tryz.underlying41 infoPn hN2
   (by simp only[Nat.min_def];split<;>omega) hdl
   (fun j v hj=>by
    rw[Addr.add_lit];rw[List.getElem?_drop] at hj
    exact (World.cell?_of_block (w:=w) (w':=W2.drew) (hO2 g hgl)).trans (hFat _ v hj))
   (by rw[hdl,s2];omega) (fun v hv=>hF1.out v (List.mem_of_mem_drop hv))
 have hN3:W3.heap[w.heap.size]?=some (.cells R3 133 (0,0)):=by rw[hW3.out];exact setRow_heap W2.drew _ _ _ _ _ hN2
 have hB:Hid (Below w.heap.size w W3):=hid (by
  rw[hW3.out,hW2.out,hW1.out];exact below_setRow (below_setRow (((Below.refl _ _).drew).alloc (Nat.le_refl _) _) (Nat.le_refl _) _).drew (Nat.le_refl _) _)
 have hN3':=hid hN3
 have hw1:IntKind.i64.wrap ((i:Int)+1)=(i:Int)+1:=by rw[IntKind.wrap_i64];omega
 have hw2:IntKind.i64.wrap ((n:Int)+1)=(n:Int)+1:=by rw[IntKind.wrap_i64];omega
 have hw3:IntKind.i64.wrap ((n:Int)+1-(i:Int))=(n:Int)+1-(i:Int):=by rw[IntKind.wrap_i64];omega
 have hG2:G≤9223372036854775807:=by unfold maxLen at hGm;omega
 have hb1:(0:Int)≤(i:Int)+1:=by omega
 have hb2:i≤n:=by omega
 have hb3:¬(G=i+1):=by omega
 have hb4:¬(G=i):=by omega
 have hb5:(i:Int)≤(n:Int)+1:=by omega
 have hb6:¬(cap=i):=by omega
 have hc63:(cap:Int)≤9223372036854775807:=by omega
 clear hN1 hN2 hN3 hO1 hO2 hFat hfin hold zl hfit hkk hik
 go_enter Tryz.func187,Tryz.ntmps187
 go_wp2_with (first
  |(at_builtin;refine Slm.wpl_appended _ rfl _ _ 41 3 rfl _ _ rfl rfl (hrz _) ?_)
  |(at_builtin;refine Slm.wpl_copy _ rfl _ _ 41 41 rfl _ _ rfl rfl (hcp1 _ _) ?_))
 go_region_law (refine Slm.step_copy rfl _ _ 41 41 rfl (.slice (some ⟨w.heap.size,(i+1)*7,none⟩) (n-i) _) (.slice (some ⟨g,i*7,none⟩) (n-i) _) (by simp[Act.eval,Act.put]) (by simp[Act.eval,Act.put]) (hcp2 _ _ _) ?_)
 go_wp2
 go_ret
 exact⟨G,rfl,hGn,hGm,R3,hN3'.out,s3,hfin'.out,hB.out⟩
set_option maxRecDepth 100000 in
theorem insert_end(base b vb:Nat)(v:Value)(L:List Pn)(x:Pn)(w:World)(H:Hid (Sl.Own Pn.k base w v L))(hb:base≤w.heap.size)(hn:L.length≤9000)(hx:Hid (Lies w vb 133 x.cl)):
  Calls Tryz.prog 187 #[v,.int .i64 L.length,.slice (some ⟨vb,0,none⟩) 1 1] w fun r w'=>∃ v',r=.returned v'∧Sl.Own Pn.k base w' v' (L++[x])∧w.grownBy w' v.ownBlock∧(v'.ownBlock=v.ownBlock∨v'.ownBlock=some w.heap.size):=by
 obtain⟨A,cap,hv⟩:∃ A cap,v=.slice A L.length cap:=by
  obtain⟨b,-,i⟩:=H.out.is;exact i.len
 have hap:∀ a:Act,a.eval (.tmp 23)=v→a.eval (.tmp 24)=.slice (some ⟨vb,0,none⟩) 1 1→Sl.Own Pn.k base w (a.eval (.tmp 23)) L∧Sl.Is Pn.k w (a.eval (.tmp 24)) [x] vb:=fun a h1 h2=>⟨by rw[h1];exact H.out,by rw[h2];exact Sl.Is.one Pn.ok hx.out⟩
 have hcap:L.length≤cap∨True:=.inr trivial
 have hA:(A=none∧L.length=0∧cap=0)∨(∃ g,A=some ⟨g,0,none⟩∧L.length≤cap∧cap≤maxLen):=by
  rcases H.out.2 with ⟨h,h0⟩|⟨g,c2,cur,h,_,_,h3,h4,_⟩
  ·rw[hv] at h
   simp at h;exact .inl ⟨h.1,h0,h.2.2⟩
  ·rw[hv] at h
   simp at h;exact .inr ⟨g,h.1,by omega,by omega⟩
 rcases hA with ⟨rfl,h0,rfl⟩|⟨g,rfl,h0,hm⟩
 ·rw[h0] at hv ⊢
  subst hv;go_enter Tryz.func187,Tryz.ntmps187;go_wp2_with (at_builtin;refine wpList_plain rfl fun K' hK'=>Sl.wp_append (K:=Pn.k) Pn.ok (.tmp 23) (.tmp 24) rfl (base:=base) (l:=L) (l2:=[x]) (b2:=vb) (by exact (hap _ rfl rfl).1) (by exact (hap _ rfl rfl).2) (by simp;omega) hb (fun v' w' q1 q2 q3=>hK' _ _ ?_))
  have Q1:=hid q1;have Q2:=hid q2;have Q3:=hid q3;clear q1 q2 q3;go_wp2;go_ret;exact⟨_,rfl,Q1.out,Q2.out,Q3.out⟩
 ·unfold maxLen at hm
  subst hv;go_enter Tryz.func187,Tryz.ntmps187;go_wp2_with (at_builtin;refine wpList_plain rfl fun K' hK'=>Sl.wp_append (K:=Pn.k) Pn.ok (.tmp 23) (.tmp 24) rfl (base:=base) (l:=L) (l2:=[x]) (b2:=vb) (by exact (hap _ rfl rfl).1) (by exact (hap _ rfl rfl).2) (by simp;omega) hb (fun v' w' q1 q2 q3=>hK' _ _ ?_))
  all_goals
   have Q1:=hid q1;have Q2:=hid q2;have Q3:=hid q3;clear q1 q2 q3;go_wp2;go_ret;exact⟨_,rfl,Q1.out,Q2.out,Q3.out⟩
theorem flat_ins(L:List Pn)(x:Pn)(i:Nat):(Sl.flat Pn.k L).take (i*7)++x.cl++(Sl.flat Pn.k L).drop (i*7)=Sl.flat Pn.k (L.take i++x::L.drop i):=by
 have h1:=Sl.flat_take Pn.ok L i
 have h2:=Sl.flat_drop Pn.ok L i
 rw[←h1,←h2]
 simp[Sl.flat]
theorem insert_ok(base i vb:Nat)(v:Value)(L:List Pn)(x:Pn)(w:World)(H:Hid (Sl.Own Pn.k base w v L))(hb:base≤w.heap.size)(hi:i≤L.length)(hn:L.length≤9000)(hx:Hid (Lies w vb 133 x.cl))(hvb:∀ g,v.ownBlock=some g→vb≠g):
  Calls Tryz.prog 187 #[v,.int .i64 i,.slice (some ⟨vb,0,none⟩) 1 1] w fun r w'=>∃ v',r=.returned v'∧Sl.Own Pn.k base w' v' (L.take i++x::L.drop i)∧w.grownBy w' v.ownBlock∧(v'.ownBlock=v.ownBlock∨v'.ownBlock=some w.heap.size):=by
 by_cases he:i=L.length
 ·subst he
  simpa using insert_end base 0 vb v L x w H hb hn hx
 ·have hlt:i<L.length:=by omega
  rcases H.out.2 with ⟨h,h0⟩|⟨g,cap,cur,rfl,h2,h3,h4,h5,h6,h7⟩
  ·omega
  ·have hvb:=hvb g rfl
   have h1F:Hid (∀ u∈Sl.flat Pn.k L,u.oneCell'=true):=hid fun u hu=>Sl.flat_one Pn.ok hu
   have hFl:(Sl.flat Pn.k L).length=L.length*7:=Sl.flat_len Pn.ok L;by_cases hr:L.length+1≤cap
   ·refine (insert_room g L.length cap i vb cur (Sl.flat Pn.k L) x w (hid h3) hlt hr h6 (by unfold maxLen at h5;omega) (hid h7) h1F hx hvb).mono ?_
    rintro r w' ⟨rfl,cur',k1,k2,k3,k4⟩;refine⟨_,rfl,⟨?_,.inr ⟨g,cap,cur',?_,h2,k1,?_,h5,k2,?_⟩⟩,k4,.inl rfl⟩
    ·rw[Sl.flat_len Pn.ok]
    ·congr 1
     simp;omega
    ·simp
     omega
    ·rw[←flat_ins,←k3]
     congr 1
     simp only[List.length_append,List.length_take,List.length_cons,List.length_drop];show _*7=_
     omega
   ·refine (insert_grow g L.length cap i vb cur (Sl.flat Pn.k L) x w (hid h3) hlt h4 (by omega) hn (hid h7) hFl h1F hx hvb).mono ?_
    rintro r w' ⟨G,rfl,k0,k5,cur',k1,k2,k3,k4⟩;refine⟨_,rfl,⟨?_,.inr ⟨w.heap.size,G,cur',?_,hb,k1,?_,k5,k2,?_⟩⟩,?_,.inr rfl⟩
    ·rw[Sl.flat_len Pn.ok]
    ·congr 1
     simp;omega
    ·simp
     omega
    ·rw[←flat_ins,←k3]
     congr 1
     simp only[List.length_append,List.length_take,List.length_cons,List.length_drop];show _*7=_
     omega
    ·exact⟨k4.os,k4.tape,k4.output,k4.size,fun k hk _=>k4.block k hk⟩
end Pane
namespace Pane
abbrev zp:Pn:=⟨⟨#[]⟩,0,0,0,0,0,0⟩
section
variable {w w' w0:World} {g:Nat} {t:TypeId} {a b c d e f h:Value}
theorem seven(H:Lies w g t [a,b,c,d,e,f,h]):
  (w.cell? ⟨g,0,none⟩=some a∧w.cell? ⟨g,1,none⟩=some b∧w.cell? ⟨g,2,none⟩=some c∧w.cell? ⟨g,3,none⟩=some d∧w.cell? ⟨g,4,none⟩=some e∧w.cell? ⟨g,5,none⟩=some f∧w.cell? ⟨g,6,none⟩=some h)∧
   w.frozen? ⟨g,0,none⟩=false∧w.frozen? ⟨g,1,none⟩=false∧w.frozen? ⟨g,2,none⟩=false∧w.frozen? ⟨g,3,none⟩=false∧w.frozen? ⟨g,4,none⟩=false∧w.frozen? ⟨g,5,none⟩=false∧w.frozen? ⟨g,6,none⟩=false:=
 ⟨⟨H.cell rfl,H.cell rfl,H.cell rfl,H.cell rfl,H.cell rfl,H.cell rfl,H.cell rfl⟩,H.open_ 0,H.open_ 1,H.open_ 2,H.open_ 3,H.open_ 4,H.open_ 5,H.open_ 6⟩
abbrev put7(w:World)(g:Nat)(a b c d e f h:Value):World:=
 ((((((w.setCell ⟨g,0,none⟩ a).setCell ⟨g,1,none⟩ b).setCell ⟨g,2,none⟩ c).setCell ⟨g,3,none⟩ d).setCell ⟨g,4,none⟩ e).setCell ⟨g,5,none⟩ f).setCell ⟨g,6,none⟩ h
theorem put7_lies(H:Lies w g t [a,b,c,d,e,f,h])(p q r s u x y:Value):Lies (put7 w g p q r s u x y) g t [p,q,r,s,u,x,y]:=
 ((((((H.put 0 p).put 1 q).put 2 r).put 3 s).put 4 u).put 5 x).put 6 y
theorem put7_below(H:Below w0.heap.size w0 w)(hg:w0.heap.size≤g)(p q r s u x y:Value):Below w0.heap.size w0 (put7 w g p q r s u x y):=
 ((((((H.setCell hg p).setCell hg q).setCell hg r).setCell hg s).setCell hg u).setCell hg x).setCell hg y
end
set_option maxRecDepth 100000 in
theorem find_yes(v:Value)(L:List Pn)(b k:Nat)(s e:Int)(p:Pn)(w:World)(H:Hid (Sl.Is Pn.k w v L b))(hn:L.length≤9000)(A:Hid (At L s e k))(hx:Hid (L[k]?=some p))(he:Hid (Eq2 p s e)):
  Calls Tryz.prog 158 #[v,win s e] w fun r w'=>r=.returned (.tuple #[p.v,.bool true])∧Below w.heap.size w w':=by
 obtain⟨off,cap,hv,h2,h3,h4,hcell⟩:=H.out.some_ Pn.ok (by have:=lt_of_at hx.out;omega)
 subst hv
 have hk:=lt_of_at hx.out
 obtain⟨c0,c1,c2,c3,c4,c5,c6⟩:=Tmr.pane_cells hx.out hcell
 have K0:=hid (below2 w (Obj.cells #[.int .i64 s,.int .i64 e] 129) (Obj.cells #[.string ⟨#[]⟩,.int .i64 0,.int .i64 0,.int .i64 0,.int .i64 0,.int .i64 0,.int .i64 0] 133))
 have Z0:=Lies.new (w.alloc (Obj.cells #[.int .i64 s,.int .i64 e] 129)) 133 zp.cl
 simp only[World.size_alloc] at Z0
 change Lies ((w.alloc (Obj.cells #[.int .i64 s,.int .i64 e] 129)).alloc (Obj.cells #[.string ⟨#[]⟩,.int .i64 0,.int .i64 0,.int .i64 0,.int .i64 0,.int .i64 0,.int .i64 0] 133)) (w.heap.size+1) 133 [.string ⟨#[]⟩,.int .i64 0,.int .i64 0,.int .i64 0,.int .i64 0,.int .i64 0,.int .i64 0] at Z0
 have Z0:=hid Z0
 clear hcell h2 h3 h4
 go_enter Tryz.func158,Tryz.ntmps158
 go_wp2_with fail
 refine (place_ok _ L b k s e true _ (hid (H.out.next K0.out)) hn A (hid ⟨fun _=>⟨p,hx.out,he.out⟩,fun _=>rfl⟩)).mono ?_
 rintro r w1 ⟨rfl,k1⟩
 have Z1:=hid (Z0.out.next k1)
 have K1:=hid (after K0.out k1)
 obtain⟨⟨z0,z1,z2,z3,z4,z5,z6⟩,y0,y1,y2,y3,y4,y5,y6⟩:=seven Z1.out
 have c0:=cell_keep K1.out c0
 have c1:=cell_keep K1.out c1
 have c2:=cell_keep K1.out c2
 have c3:=cell_keep K1.out c3
 have c4:=cell_keep K1.out c4
 have c5:=cell_keep K1.out c5
 have c6:=cell_keep K1.out c6
 have i0:(k:Int)<L.length:=by omega
 clear k1
 go_wp2
 change bodyPost _ _ _ _ _ (put7 w1 (w.heap.size+1) (.string p.key) (.int .i64 p.s) (.int .i64 p.e) (.int .i64 p.c) (.int .i64 p.m) (.int .i64 p.l) (.int .i64 p.u))
 obtain⟨W,hW⟩:∃ W,W=put7 w1 (w.heap.size+1) (.string p.key) (.int .i64 p.s) (.int .i64 p.e) (.int .i64 p.c) (.int .i64 p.m) (.int .i64 p.l) (.int .i64 p.u):=⟨_,rfl⟩
 rw[←hW]
 have Z2:=put7_lies Z1.out (.string p.key) (.int .i64 p.s) (.int .i64 p.e) (.int .i64 p.c) (.int .i64 p.m) (.int .i64 p.l) (.int .i64 p.u)
 have K2:=put7_below (g:=w.heap.size+1) K1.out (by omega) (.string p.key) (.int .i64 p.s) (.int .i64 p.e) (.int .i64 p.c) (.int .i64 p.m) (.int .i64 p.l) (.int .i64 p.u)
 rw[←hW] at Z2 K2
 clear hW
 obtain⟨⟨z0,z1,z2,z3,z4,z5,z6⟩,-⟩:=seven Z2
 exact bodyPost_ret (v:=.tuple #[p.v,.bool true]) (by simp[results,Tryz.results158,go_sem,z0,z1,z2,z3,z4,z5,z6]) rfl ⟨rfl,K2⟩
set_option maxRecDepth 100000 in
theorem find_no(v:Value)(L:List Pn)(b k:Nat)(s e:Int)(w:World)(H:Hid (Sl.Is Pn.k w v L b))(hn:L.length≤9000)(A:Hid (At L s e k))(hx:Hid (∀ x,L[k]?=some x→¬Eq2 x s e)):
  Calls Tryz.prog 158 #[v,win s e] w fun r w'=>r=.returned (.tuple #[zp.v,.bool false])∧Below w.heap.size w w':=by
 have K0:=hid (below2 w (Obj.cells #[.int .i64 s,.int .i64 e] 129) (Obj.cells #[.string ⟨#[]⟩,.int .i64 0,.int .i64 0,.int .i64 0,.int .i64 0,.int .i64 0,.int .i64 0] 133))
 have Z0:=Lies.new (w.alloc (Obj.cells #[.int .i64 s,.int .i64 e] 129)) 133 zp.cl
 simp only[World.size_alloc] at Z0
 change Lies ((w.alloc (Obj.cells #[.int .i64 s,.int .i64 e] 129)).alloc (Obj.cells #[.string ⟨#[]⟩,.int .i64 0,.int .i64 0,.int .i64 0,.int .i64 0,.int .i64 0,.int .i64 0] 133)) (w.heap.size+1) 133 [.string ⟨#[]⟩,.int .i64 0,.int .i64 0,.int .i64 0,.int .i64 0,.int .i64 0,.int .i64 0] at Z0
 have Z0:=hid Z0
 go_enter Tryz.func158,Tryz.ntmps158
 go_wp2_with fail
 refine (place_ok _ L b k s e false _ (hid (H.out.next K0.out)) hn A (hid ⟨fun h=>(by cases h),fun ⟨x,h1,h2⟩=>absurd h2 (hx.out x h1)⟩)).mono ?_
 rintro r w1 ⟨rfl,k1⟩
 have Z1:=hid (Z0.out.next k1)
 have K1:=hid (after K0.out k1)
 obtain⟨⟨z0,z1,z2,z3,z4,z5,z6⟩,y0,y1,y2,y3,y4,y5,y6⟩:=seven Z1.out
 clear k1
 go_wp2
 change bodyPost _ _ _ _ _ (put7 w1 (w.heap.size+1) (.string ⟨#[]⟩) (.int .i64 0) (.int .i64 0) (.int .i64 0) (.int .i64 0) (.int .i64 0) (.int .i64 0))
 obtain⟨W,hW⟩:∃ W,W=put7 w1 (w.heap.size+1) (.string ⟨#[]⟩) (.int .i64 0) (.int .i64 0) (.int .i64 0) (.int .i64 0) (.int .i64 0) (.int .i64 0):=⟨_,rfl⟩
 rw[←hW]
 have Z2:=put7_lies Z1.out (.string ⟨#[]⟩) (.int .i64 0) (.int .i64 0) (.int .i64 0) (.int .i64 0) (.int .i64 0) (.int .i64 0)
 have K2:=put7_below (g:=w.heap.size+1) K1.out (by omega) (.string ⟨#[]⟩) (.int .i64 0) (.int .i64 0) (.int .i64 0) (.int .i64 0) (.int .i64 0) (.int .i64 0)
 rw[←hW] at Z2 K2
 clear hW
 obtain⟨⟨z0,z1,z2,z3,z4,z5,z6⟩,-⟩:=seven Z2
 exact bodyPost_ret (v:=.tuple #[zp.v,.bool false]) (by simp[results,Tryz.results158,go_sem,z0,z1,z2,z3,z4,z5,z6]) rfl ⟨rfl,K2⟩
end Pane
namespace Pane
set_option maxRecDepth 100000 in
theorem grow_ok(n:Nat)(w:World)(hn:n≤20000):
  Calls Tryz.prog 211 #[.slice none 0 0,.int .i64 n] w fun r w'=>∃ v',r=.returned v'∧Sl.Own Pn.k w.heap.size w' v' []∧Below w.heap.size w w':=by
 by_cases h0:n=0
 ·subst h0
  go_enter Tryz.func211,Tryz.ntmps211;go_wp2;go_ret;exact⟨_,rfl,Sl.Own.nil _ _ _,Below.refl _ _⟩
 ·obtain⟨i0,hi0,hz0,hz1,hz2⟩:=info_parts Pn.ok.info
  have hby:i0.bytes=64:=hz2;have hfit:Builtin.nextslicecap (0+n) 0*i0.bytes≤281474976710656:=growslice_fits (by omega) (by rw[hby];omega)
  obtain⟨G,hG⟩:∃ G,G=grownCap w (0+n) 0 133:=⟨_,rfl⟩;have hGn:n≤G:=by rw[hG];have:=grownCap_ge w (0+n) 0 133;omega
  have hGm:G≤maxLen:=by rw[hG];exact grownCap_le_maxLen w _ _ _ (by unfold maxLen;omega)
  obtain⟨R,hR⟩:∃ R:Array Value,Hid (R=([]:List Value).toArray++Builtin.zeroCells (Pn.k.zero).cells n++Builtin.zeroCells (Pn.k.zero).cells (G-(0+n))):=⟨_,hid rfl⟩;obtain⟨W1,hW1⟩:∃ W1,Hid (W1=w.drew.alloc (.cells R 133)):=⟨_,hid rfl⟩
  have hrz:∀ ty,(Builtin.append_ #[41,3] ty #[.slice none 0 0,.int .i64 n]).run Tryz.prog w=.ok (.slice (some ⟨w.heap.size,0,none⟩) n G) W1:=fun ty=>by
   have h:=Lib.run_append_grow_zeros w 41 3 ty 133 i0 _ .i64 .i64 Tryz.underlying41 Tryz.underlying3 hi0 hz0 none 0 0 [] (by rw[hz1];exact run_firstCells_none w.drew 7 0 0 0) n (by omega) (by rw[hz1];decide) (by omega) (by omega) (by rw[hby];omega) hfit
   rw[←hG,←hR.out,←hW1.out,Nat.zero_add] at h;exact h
  clear hG
  have hsz:R.size=G*7:=by
   rw[hR.out];simp only[Array.size_append,List.size_toArray,zeros_len,show (Pn.k.zero).cells.size=7 from rfl,List.length_nil]
   omega
  have hO:Hid (Sl.Own Pn.k w.heap.size W1 (.slice (some ⟨w.heap.size,0,none⟩) 0 G) []):=hid (by
   rw[hW1.out];exact⟨by simp[Sl.flat],.inr ⟨w.heap.size,G,R,rfl,Nat.le_refl _,heap_alloc_new w.drew _,Nat.zero_le _,hGm,hsz,by simp[Sl.flat]⟩⟩)
  have hB:Hid (Below w.heap.size w W1):=hid (by rw[hW1.out];exact ((Below.refl _ _).drew).alloc (Nat.le_refl _) _)
  have hG2:G≤9223372036854775807:=by unfold maxLen at hGm;omega
  have n0:0<(n:Int):=by omega
  have n1:¬((n:Int)<0):=by omega
  clear hfit hsz;go_enter Tryz.func211,Tryz.ntmps211;go_wp2_with (at_builtin;refine Slm.wpl_appended _ rfl _ _ 41 3 rfl _ _ rfl rfl (hrz _) ?_)
  all_goals (go_ret;exact⟨_,rfl,hO.out,hB.out⟩)
set_option maxRecDepth 100000 in
theorem concat_ok(gb b0 b1:Nat)(v0 v1:Value)(L0 L1:List Pn)(w:World)(H0:Hid (Sl.Is Pn.k w v0 L0 b0))(H1:Hid (Sl.Is Pn.k w v1 L1 b1))(Z:Hid (Lies w gb 41 [v0,v1]))(n0:L0.length≤9000)(n1:L1.length≤9000):
  Calls Tryz.prog 181 #[.slice (some ⟨gb,0,none⟩) 2 2] w fun r w'=>∃ v',r=.returned v'∧Sl.Own Pn.k w.heap.size w' v' (L0++L1)∧Below w.heap.size w w':=by
 obtain⟨A0,c0,e0⟩:=H0.out.len
 obtain⟨A1,c1,e1⟩:=H1.out.len
 have z0:=Z.out.cell (i:=0) rfl
 have z1:=Z.out.cell (i:=1) rfl
 rw[e0] at z0
 rw[e1] at z1
 go_enter Tryz.func181,Tryz.ntmps181
 go_wp2_with fail
 have N0:Hid (L0.length≤9000):=hid n0
 go_loopw [3,11] (fun ss si wr=>∃ (i n:Nat),((i=0∧n=0)∨(i=1∧n=L0.length)∨(i=2∧n=L0.length+L1.length))∧ss=.int .i64 n∧si=.int .i64 i∧w=wr) (fun ss si _=>2-(intOf si).toNat)
 case atStart=>exact⟨0,0,.inl ⟨rfl,rfl⟩,rfl,rfl,rfl⟩
 case round=>
  obtain⟨i,n,hi,rfl,rfl,rfl⟩:=hrel;rcases hi with ⟨rfl,rfl⟩|⟨rfl,rfl⟩|⟨rfl,rfl⟩
  ·go_wp2_with fail
   exact⟨⟨1,L0.length,.inr (.inl ⟨rfl,rfl⟩),rfl,rfl,trivial⟩,by simp[intOf]⟩
  ·have w1:IntKind.i64.wrap ((L0.length:Int)+L1.length)=(L0.length:Int)+L1.length:=by rw[IntKind.wrap_i64];omega
   have w2:¬((L0.length:Int)+L1.length<0):=by omega
   go_wp2_with fail
   exact⟨⟨2,L0.length+L1.length,.inr (.inr ⟨rfl,rfl⟩),by rw[Int.natCast_add],rfl,trivial⟩,by simp[intOf]⟩
  ·go_wp2_with fail
   refine (grow_ok (L0.length+L1.length) _ (by omega)).mono ?_
   rintro r w1 ⟨v',rfl,o1,k1⟩;have O1:=hid o1;have K1:=hid k1;clear o1 k1;go_wp2_with fail
   go_loopw [6,27] (fun sv si wx=>∃ (i:Nat),i≤2∧si=.int .i64 i∧Hid (Sl.Own Pn.k w.heap.size wx sv ((if 1≤i then L0 else [])++(if 2≤i then L1 else [])))∧Hid (Below w.heap.size w wx)) (fun sv si _=>2-(intOf si).toNat)
   case atStart=>exact⟨0,by omega,rfl,O1,K1⟩
   case round=>
    obtain⟨i,hi,rfl,O2,K2⟩:=hrel;have y0:=cell_keep K2.out z0;have y1:=cell_keep K2.out z1;have I0:=hid (H0.out.next K2.out);have I1:=hid (H1.out.next K2.out);have sz:=hid K2.out.size;clear z0 z1;obtain rfl|rfl|rfl:i=0∨i=1∨i=2:=by omega
    ·have O2:Hid (Sl.Own Pn.k w.heap.size _ _ []):=O2
     go_wp2_with (at_builtin;refine wpList_plain rfl fun K' hK'=>Sl.wp_append (K:=Pn.k) Pn.ok (.tmp 31) (.tmp 32) rfl (base:=w.heap.size) (l:=[]) (l2:=L0) (b2:=b0) (by exact O2.out) (by have:=I0.out;rw[e0] at this;exact this) (by simp;omega) sz.out (fun v' w' q1 q2 q3=>hK' _ _ ?_))
     have Q1:=hid q1;have Q2:Hid (Below w.heap.size w w'):=hid (K2.out.grown q2 sz.out (fun k hk=>(O2.out.lt k hk).1))
     clear q1 q2 q3;go_wp2_with fail
     exact⟨⟨1,by omega,rfl,hid (by simpa using Q1.out),Q2⟩,by simp[intOf]⟩
    ·have O2:Hid (Sl.Own Pn.k w.heap.size _ _ L0):=hid (by simpa using O2.out)
     go_wp2_with (at_builtin;refine wpList_plain rfl fun K' hK'=>Sl.wp_append (K:=Pn.k) Pn.ok (.tmp 31) (.tmp 32) rfl (base:=w.heap.size) (l:=L0) (l2:=L1) (b2:=b1) (by exact O2.out) (by have:=I1.out;rw[e1] at this;exact this) (by have:=N0.out;omega) sz.out (fun v' w' q1 q2 q3=>hK' _ _ ?_))
     have Q1:=hid q1;have Q2:Hid (Below w.heap.size w w'):=hid (K2.out.grown q2 sz.out (fun k hk=>(O2.out.lt k hk).1))
     clear q1 q2 q3;go_wp2_with fail
     exact⟨⟨2,by omega,rfl,hid (by simpa using Q1.out),Q2⟩,by simp[intOf]⟩
    ·go_wp2
     go_ret;exact⟨_,rfl,by simpa using O2.out,K2.out⟩
end Pane
end Go.Proofs.YtfjlnniahfbdfaaGreat
