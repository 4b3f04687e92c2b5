/- A part of the proof. -/
import Derived.Test.YtfjlnniahfbdfaaGreatPba
import Derived.Test.YtfjlnniahfbdfaaGreatPau
import Derived.Deep.RegionLaw
import Derived.Deep.Upon
import Derived.Deep.DeepCutAuto
set_option linter.unusedVariables false
set_option maxHeartbeats 4000000
namespace Go.Proofs.YtfjlnniahfbdfaaGreat
open Lib (hid)
open Go.ChangeShapes Go.WideShapes Go.ChangeAt Go.RowKit Small Foot Bx
set_option maxRecDepth 100000
namespace Ms
structure M where
 kind:Int
 fr:Int
 call:Cl
 group:Int
 st:Option Nat
abbrev stv(s:Option Nat):Value:=.pointer (s.map fun g=>⟨g,0,none⟩)
abbrev cl(x:M):List Value:=[.int .i64 x.kind,.int .i64 x.fr,.int .i64 x.call.op,.string x.call.key,.int .i64 x.call.t,.int .i64 x.call.v,.int .i64 x.call.e,.int .i64 x.call.u,.int .i64 x.call.s,.int .i64 x.group,stv x.st]
abbrev val(x:M):Value:=.agg #[.int .i64 x.kind,.int .i64 x.fr,.int .i64 x.call.op,.string x.call.key,.int .i64 x.call.t,.int .i64 x.call.v,.int .i64 x.call.e,.int .i64 x.call.u,.int .i64 x.call.s,.int .i64 x.group,stv x.st]
abbrev zs:List Value:=[.int .i64 0,.int .i64 0,.int .i64 0,.string ⟨#[]⟩,.int .i64 0,.int .i64 0,.int .i64 0,.int .i64 0,.int .i64 0,.int .i64 0,.pointer none]
abbrev zero:Value:=.agg #[.int .i64 0,.int .i64 0,.int .i64 0,.string ⟨#[]⟩,.int .i64 0,.int .i64 0,.int .i64 0,.int .i64 0,.int .i64 0,.int .i64 0,.pointer none]
abbrev k:Kind M:=⟨149,55,11,96,zero,cl⟩
theorem ok:k.Ok where
 under:=Tryz.underlying149
 elem:=by kernel_rfl
 info:=by kernel_rfl
 zs:=rfl
 pos:=by decide
 len:=fun _=>rfl
 one:=by
  intro x u hu;simp only[List.mem_cons,List.not_mem_nil,or_false] at hu;rcases hu with rfl|rfl|rfl|rfl|rfl|rfl|rfl|rfl|rfl|rfl|rfl<;>rfl
 small:=by decide
theorem setCell_row{w:World}{g:Nat}{cur:Array Value}{t:TypeId}(h:w.heap[g]?=some (.cells cur t (0,0)))(i:Nat)(u:Value):(w.setCell ⟨g,i,none⟩ u).heap[g]?=some (.cells (cur.setIfInBounds i u) t (0,0)):=by
 simp[World.setCell,Array.getElem?_modify,h]
theorem tape_setCells(g:Nat):∀ (vs:List Value) (o:Nat) (w:World),(w.setCells g o vs).tape=w.tape
 |[],_,_=>rfl
 |v::vs,o,w=>(tape_setCells g vs (o+1) _).trans rfl
theorem size_setCells(g:Nat):∀ (vs:List Value) (o:Nat) (w:World),(w.setCells g o vs).heap.size=w.heap.size
 |[],_,_=>rfl
 |v::vs,o,w=>(size_setCells g vs (o+1) _).trans (by simp)
theorem setCells_row{g:Nat}{t:TypeId}:∀ (vs:List Value) (o:Nat) (cur:Array Value) (w:World),w.heap[g]?=some (.cells cur t (0,0))→o+vs.length≤cur.size→
  ∃ cur',(w.setCells g o vs).heap[g]?=some (.cells cur' t (0,0))∧cur'.size=cur.size∧cur'.toList=cur.toList.take o++vs++cur.toList.drop (o+vs.length)
 |[],o,cur,w,h,_=>⟨cur,h,rfl,by simp⟩
 |v::vs,o,cur,w,h,hl=>by
  simp only[List.length_cons] at hl;obtain⟨cur',h1,h2,h3⟩:=setCells_row vs (o+1) (cur.setIfInBounds o v) _ (setCell_row h o v) (by simp;omega)
  refine⟨cur',h1,by simpa using h2,?_⟩
  rw[h3,Array.toList_setIfInBounds];have hlen:o<cur.toList.length:=by simp;omega
  rw[List.take_set,List.drop_set_of_lt (by omega),List.take_add_one,List.getElem?_eq_getElem hlen,Option.toList_some,List.set_append_right _ _ (by simp;omega)]
  simp only[List.length_take,List.append_assoc,List.length_cons];rw[show o-min o cur.toList.length=0 by omega,show o+1+vs.length=o+(vs.length+1) by omega]
  rfl
theorem grown_setRow{w w1:World}{g:Nat}(k:w.grownBy w1 (some g))(cur:Array Value):w.grownBy (w1.setRow g cur) (some g):=
 ⟨k.os,k.tape,k.output,by simpa [World.setRow] using k.size,fun i hi hn=>by
  have hg:g≠i:=fun e=>hn (by rw[e])
  have:=k.block i hi hn
  simpa [World.setRow,Array.getElem?_modify,hg] using this⟩
structure Row(base:Nat)(w:World)(g cap:Nat)(L:List M)(cur:Array Value):Prop where
 base:base≤g
 at_:w.heap[g]?=some (.cells cur 55 (0,0))
 le:L.length≤cap
 max:cap≤maxLen
 size:cur.size=cap*11
 flat:cur.toList.take (L.length*11)=Sl.flat k L
theorem Row.own{base g cap:Nat}{w:World}{L:List M}{cur:Array Value}(h:Row base w g cap L cur):Sl.Own k base w (.slice (some ⟨g,0,none⟩) L.length cap) L:=
 ⟨by rw[Sl.flat_len ok],.inr ⟨g,cap,cur,rfl,h.base,h.at_,h.le,h.max,h.size,h.flat⟩⟩
theorem clear_run(w:World)(g o c:Nat)(cur:Array Value)(h:w.heap[g]?=some (.cells cur 55 (0,0)))(hi:o*11+11≤cur.size)(ty:TypeId):
  (Builtin.clear_ #[149] ty #[.slice (some ⟨g,o*11,none⟩) 1 c]).run Tryz.prog w=
   .ok (.tuple #[]) (w.setRow g (cur.toList.take (o*11)++(Builtin.zeroCells zero.cells 1).toList++cur.toList.drop (o*11+(Builtin.zeroCells zero.cells 1).toList.length)).toArray):=by
 obtain⟨i0,hi0,hz0,hz1,hz2⟩:=info_parts ok.info
 have hz:(Builtin.zeroCells zero.cells 1).toList.length=11:=by
  unfold Builtin.zeroCells;simp;rfl
 have hst:=run_storeCells_at Tryz.prog g (o*11) 55 (Builtin.zeroCells zero.cells 1).toList 0 cur w h (by rw[hz];omega) (fun v hv=>by
  have e:(Builtin.zeroCells zero.cells 1).toList=[.int .i64 0,.int .i64 0,.int .i64 0,.string ⟨#[]⟩,.int .i64 0,.int .i64 0,.int .i64 0,.int .i64 0,.int .i64 0,.int .i64 0,.pointer none]:=by kernel_rfl
  rw[e] at hv;simp only[List.mem_cons,List.not_mem_nil,or_false] at hv;rcases hv with rfl|rfl|rfl|rfl|rfl|rfl|rfl|rfl|rfl|rfl|rfl<;>rfl)
 rw[Nat.add_zero] at hst
 have hzv:∀ w,(zeroValue 55).run Tryz.prog w=.ok k.zero w:=fun w=>by simp[zeroValue,typeInfo,show Tryz.prog.info? 55=some i0 from hi0,hz0]
 simp[Builtin.clear_,run_underlying ok.under,hzv,hst]
theorem del_ok(v:Value)(x:M)(L:List M)(base:Nat)(w:World)(H:Sl.Own k base w v (x::L))(hn:L.length≤1000):
  Calls Tryz.prog 98 #[v,.int .i64 0,.int .i64 1] w fun r w'=>∃ A c,r=.returned (.slice A L.length c)∧Sl.Own k base w' (.slice A L.length c) L∧w.grownBy w' v.ownBlock∧(Value.slice A L.length c).ownBlock=v.ownBlock:=by
 rcases H.2 with ⟨_,h0⟩|⟨g,cap,cur,rfl,hbase,hb,h1,h2,h3,h4⟩
 ·simp at h0
 obtain⟨i0,hi0,hz0,hz1,hz2⟩:=info_parts ok.info
 have hl:(x::L).length=L.length+1:=rfl
 obtain⟨n,hn2⟩:∃ n,n=L.length:=⟨_,rfl⟩
 have h3':cur.size=cap*11:=h3
 have h4':cur.toList.take ((n+1)*11)=cl x++Sl.flat k L:=by rw[hn2];exact h4
 have h1':n+1≤cap:=by rw[hn2];exact h1
 have hfl:(Sl.flat k L).length=n*11:=by rw[Sl.flat_len ok,hn2]
 have hcm:cap≤9223372036854775807:=by unfold maxLen at h2;omega
 have hat:∀ j u,(Sl.flat k L)[j]?=some u→w.drew.cell? ⟨g,11+j,none⟩=some u:=fun j u hu=>by
  have hj:j<n*11:=by rw[←hfl];exact (List.getElem?_eq_some_iff.1 hu).1
  have e:=congrArg (fun l=>l[11+j]?) h4'
  simp only[List.getElem?_take] at e
  rw[if_pos (by omega),List.getElem?_append_right (by simp)] at e
  rw[cell_of_row w.drew g _ cur _ (0,0) hb,←Array.getElem?_toList,e]
  simpa using hu
 obtain⟨A,hA,hnews⟩:∃ A:Addr,(if cap=1 then some (⟨g,0,none⟩:Addr) else some ⟨g,11,none⟩)=some A∧Hid (∀ j u,(Sl.flat k L)[j]?=some u→w.drew.cell? (A.add j)=some u):=by
  by_cases h:cap=1
  ·refine⟨⟨g,0,none⟩,by simp[h],hid fun j u hu=>?_⟩
   have hj:j<n*11:=by rw[←hfl];exact (List.getElem?_eq_some_iff.1 hu).1
   omega
  ·exact⟨⟨g,11,none⟩,by simp[h],hid fun j u hu=>by rw[Addr.add_lit];exact hat j u hu⟩
 have s1:Hid ((Sl.flat k L).length=n*11):=hid hfl
 have s2:Hid (∀ u∈Sl.flat k L,u.oneCell'=true):=hid fun u hu=>Sl.flat_one ok hu
 have s3:Hid (∀ j,j<(Sl.flat k L).length→(w.drew.cell? ⟨g,0+0*11+j,none⟩).isSome=true∧w.drew.frozen? ⟨g,0+0*11+j,none⟩=false):=hid fun j hj=>by
  rw[hfl] at hj;refine⟨?_,by simp[World.frozen?,show w.drew.heap[g]?=_ from hb]⟩
  rw[cell_of_row w.drew g _ cur _ (0,0) hb,Array.getElem?_eq_getElem (by omega)]
  rfl
 obtain⟨cur1,b1,b2,b3⟩:=setCells_row (Sl.flat k L) 0 cur w.drew hb (by rw[hfl];omega)
 have b2':cur1.size=cap*11:=by rw[b2,h3']
 have CL:=fun ty c=>clear_run (w.drew.setCells g 0 (Sl.flat k L)) g n c cur1 b1 (by rw[b2'];omega) ty
 have hzl:(Builtin.zeroCells zero.cells 1).toList.length=11:=by
  unfold Builtin.zeroCells;simp;rfl
 have hc1:cur1.toList.length=cap*11:=by rw[Array.length_toList,b2']
 have R:Row base ((w.drew.setCells g 0 (Sl.flat k L)).setRow g (cur1.toList.take (n*11)++(Builtin.zeroCells zero.cells 1).toList++cur1.toList.drop (n*11+(Builtin.zeroCells zero.cells 1).toList.length)).toArray) g cap L (cur1.toList.take (n*11)++(Builtin.zeroCells zero.cells 1).toList++cur1.toList.drop (n*11+(Builtin.zeroCells zero.cells 1).toList.length)).toArray:=by
  refine⟨hbase,setRow_heap _ _ _ _ _ _ b1,by omega,h2,?_,?_⟩
  ·simp only[List.size_toArray,List.length_append,List.length_take,List.length_drop,hc1,hzl]
   omega
  ·rw[←hn2,List.append_assoc]
   show List.take (n*11) _=_
   rw[List.take_left' (by rw[List.length_take,hc1];omega),b3]
   simp only[List.take_zero,List.nil_append];rw[List.take_left' hfl]
 have G0:w.grownBy (w.drew.setCells g 0 (Sl.flat k L)) (some g):=⟨World.os_setCells w.drew g 0 _,tape_setCells g _ 0 w.drew,World.output_setCells w.drew g 0 _,by rw[size_setCells g];exact Nat.le_refl _,fun i hi hne=>World.heap_setCells_other w.drew g 0 _ hi fun e=>hne (by rw[e])⟩
 have R:=hid R
 have G0:=hid G0
 have hn3:=hid hn2
 rw[hl,←hn2]
 clear hl H h4 h1 hn
 clear hat b3 h4' hb hn2
 generalize Sl.flat k L=news at *
 obtain⟨W,hW⟩:∃ W,w.drew.setCells g 0 news=W:=⟨_,rfl⟩
 rw[hW] at b1 CL R G0
 generalize (cur1.toList.take (n*11)++(Builtin.zeroCells zero.cells 1).toList++cur1.toList.drop (n*11+(Builtin.zeroCells zero.cells 1).toList.length)).toArray=cur2 at *
 have hW2:=hid hW
 clear hW b1 b2 hc1 h3 h2
 have q0:(0:Int)≤((n+1:Nat):Int):=by omega
 have q1:(1:Int)≤(n:Int)+1:=by omega
 have q2:(n:Int)≤(n:Int)+1:=by omega
 have q3:(n:Int)+1≤(cap:Int):=by omega
 have q4:¬cap=n:=by omega
 go_enter Tryz.func98,Tryz.ntmps98
 go_wp2_with fail
 go_region_law (refine step_append_room rfl (.tmp 22) (.tmp 25) 149 rfl 55 i0 11 Tryz.underlying149 hi0 hz1 g 0 0 cap (by simp[Act.eval,Act.put]) A n (cap-1) news (by simp[Act.eval,Act.put]) s1.out hnews.out s2.out (by omega) s3.out ?_)
 have e0:w.drew.setCells g (0+0*11) news=W:=hW2.out
 simp only[Nat.zero_add,Nat.zero_mul] at e0 ⊢
 rw[e0]
 go_wp2_with (at_builtin;refine wpList_plain rfl fun K' hK'=>wp_clear _ _ 149 rfl _ rfl (CL _ _) (hK' _ _ ?_))
 go_ret
 have RR:=R.out.own
 rw[←hn3.out] at RR
 exact⟨_,cap,rfl,RR,grown_setRow G0.out _,rfl⟩
theorem chain(w:World)(b:Nat)(c0 c1 c2 c3 c4 c5 c6 c7 c8 c9 c10:Value):(((((((((((w.setCell ⟨b,0,none⟩ c0).setCell ⟨b,1,none⟩ c1).setCell ⟨b,2,none⟩ c2).setCell ⟨b,3,none⟩ c3).setCell ⟨b,4,none⟩ c4).setCell ⟨b,5,none⟩ c5).setCell ⟨b,6,none⟩ c6).setCell ⟨b,7,none⟩ c7).setCell ⟨b,8,none⟩ c8).setCell ⟨b,9,none⟩ c9).setCell ⟨b,10,none⟩ c10)=w.setCells b 0 [c0,c1,c2,c3,c4,c5,c6,c7,c8,c9,c10]:=rfl
theorem eleven{w:World}{b:Nat}{T:TypeId}{c0 c1 c2 c3 c4 c5 c6 c7 c8 c9 c10:Value}(h:Lies w b T [c0,c1,c2,c3,c4,c5,c6,c7,c8,c9,c10]):w.cell? ⟨b,0,none⟩=some c0∧w.cell? ⟨b,1,none⟩=some c1∧w.cell? ⟨b,2,none⟩=some c2∧w.cell? ⟨b,3,none⟩=some c3∧w.cell? ⟨b,4,none⟩=some c4∧w.cell? ⟨b,5,none⟩=some c5∧w.cell? ⟨b,6,none⟩=some c6∧w.cell? ⟨b,7,none⟩=some c7∧w.cell? ⟨b,8,none⟩=some c8∧w.cell? ⟨b,9,none⟩=some c9∧w.cell? ⟨b,10,none⟩=some c10:=
 ⟨h.cell (i:=0) rfl,h.cell (i:=1) rfl,h.cell (i:=2) rfl,h.cell (i:=3) rfl,h.cell (i:=4) rfl,h.cell (i:=5) rfl,h.cell (i:=6) rfl,h.cell (i:=7) rfl,h.cell (i:=8) rfl,h.cell (i:=9) rfl,h.cell (i:=10) rfl⟩
theorem over{w:World}{g:Nat}{T:TypeId}{cs cs':List Value}(h:Lies w g T cs)(hl:cs'.length=cs.length):Lies (w.setCells g 0 cs') g T cs'∧w.grownBy (w.setCells g 0 cs') (some g):=by
 obtain⟨cur,h1,h2,h3⟩:=setCells_row cs' 0 cs.toArray w h (by simp;omega)
 refine⟨?_,World.os_setCells w g 0 _,tape_setCells g _ 0 w,World.output_setCells w g 0 _,Nat.le_of_eq (size_setCells g _ 0 w).symm,fun i hi hne=>World.heap_setCells_other w g 0 _ hi fun e=>hne (by rw[e])⟩
 have:cur=cs'.toArray:=by
  apply Array.ext'
  rw[h3];simp;omega
 unfold Lies
 rw[h1,this]
theorem below_over{w W W':World}{g:Nat}(K:Below w.heap.size w W)(k:W.grownBy W' (some g))(hg:w.heap.size≤g):Below w.heap.size w W':=
 K.grown k K.size fun j hj=>by cases hj;exact hg
abbrev Box(w:World)(g:Nat)(room:Int)(cl:Bool)(v:Value)(L:List M):Prop:=Bx.Is k 151 w g room cl v L
theorem new_ok(room:Int)(w:World)(h1:1≤room)(h2:room≤16):
  Calls Tryz.prog 75 #[.int .i64 room] w fun r w'=>r=.returned (.tuple #[gp w.heap.size,.nilIface])∧Box w' w.heap.size room false (.slice none 0 0) []∧Below w.heap.size w w':=by
 have q1:¬room<1:=by omega
 have q2:¬16<room:=by omega
 go_enter Tryz.func75,Tryz.ntmps75
 go_wp2
 go_ret2
 exact⟨rfl,⟨Lies.new _ _ _,Sl.Own.nil _ _ _⟩,below1 _ _⟩
theorem step_append_bx{ops:Array Oper}{o:Oper}{a:Act}{w:World}{Kc:Act→World→Prop}{Q:Exit→Act→World→Prop}{E:Prop}{l l2:List M}{base b2:Nat}(hgd:o.guard=none)(s x:Operand)(hop:o.op=Op.call {callee:=Callee.builtin Builtin.append,args:=#[s,x],argTypes:=#[149,149]})
  (vs vx:Value) (hs:a.eval s=vs) (hxx:a.eval x=vx) (h:Sl.Own k base w vs l) (hx:Sl.Is k w vx l2 b2) (hn:l.length+l2.length≤1048576) (hb:base≤w.heap.size) {g:Nat} {T:TypeId} {u0 u1 u2:Value} (hl:Lies w g T [u0,u1,u2]) (hg:vs.ownBlock≠some g)
  (hK:∀ A c w',w'.cell? ⟨g,1,none⟩=some u1→w'.frozen? ⟨g,1,none⟩=false→Sl.Own k base w' (.slice A (l++l2).length c) (l++l2)→w.grownBy w' vs.ownBlock→((Value.slice A (l++l2).length c).ownBlock=vs.ownBlock∨(Value.slice A (l++l2).length c).ownBlock=some w.heap.size)→Kc (a.put o.dst (.slice A (l++l2).length c)) w'):
  if Region.wanted o (yielded ops a.tmps)=true then Oper.wp Tryz.prog o a w Kc Q else E:=by
 have hw:Region.wanted o (yielded ops a.tmps)=true:=by simp[Region.wanted,hgd]
 rw[if_pos hw]
 subst hs hxx
 exact Bx.wp_append_bx ok s x hop h hx hn hb hl hg hK
theorem put_ok(g:Nat)(room:Int)(v:Value)(L:List M)(x:M)(w:World)(H:Hid (Box w g room false v L))(hn:L.length<room)(hr:room≤16):
  Calls Tryz.prog 38 #[gp g,val x] w fun r w'=>∃ v',r=.returned .nilIface∧Box w' g room false v' (L++[x])∧Moves (Fp g v) (Fp g v') w w':=by
 obtain⟨A0,cp,hv⟩:=H.out.val
 subst hv
 obtain⟨B0,hB0⟩:∃ W,w.alloc (Obj.cells (cl x).toArray 55)=W:=⟨_,rfl⟩
 have K0:=hid (hB0▸below1 w (Obj.cells (cl x).toArray 55))
 have X0:=hid (hB0▸Lies.new w 55 (cl x))
 have I0:=hid H.out.in
 have H0:=hid (H.out.next K0.out)
 have q1:¬room≤(L.length:Int):=by omega
 have HL:Hid (L.length≤100):=hid (by omega)
 go_enter Tryz.func38,Tryz.ntmps38
 go_upto_region 1 with fail
 have c0:=H0.out.lies.cell (i:=0) rfl
 have c1:=H0.out.lies.cell (i:=1) rfl
 have c2:=H0.out.lies.cell (i:=2) rfl
 go_wp2_with fail
 go_quiet (fail)
 generalize hw1:B0.drewN _=w1
 have B1:Hid (Below B0.heap.size B0 w1):=hid (by rw[←hw1];exact below_drewN _ _)
 have H1:=hid (H0.out.next B1.out)
 have X1:=hid (X0.out.next B1.out)
 have c1:=H1.out.lies.cell (i:=1) rfl
 have x0:=X1.out.cell (i:=0) rfl
 have x1:=X1.out.cell (i:=1) rfl
 have x2:=X1.out.cell (i:=2) rfl
 have x3:=X1.out.cell (i:=3) rfl
 have x4:=X1.out.cell (i:=4) rfl
 have x5:=X1.out.cell (i:=5) rfl
 have x6:=X1.out.cell (i:=6) rfl
 have x7:=X1.out.cell (i:=7) rfl
 have x8:=X1.out.cell (i:=8) rfl
 have x9:=X1.out.cell (i:=9) rfl
 have x10:=X1.out.cell (i:=10) rfl
 clear hw1 c0 c2 H H0
 have H2:=hid (H1.out.next (below1 w1 (Obj.cells (cl x).toArray 55)))
 have c1a:=H2.out.lies.cell (i:=1) rfl
 have L2:Hid (Lies (w1.alloc (Obj.cells (cl x).toArray 55)) w1.heap.size 55 (cl x)):=hid (Lies.new _ _ _)
 dsimp only[cl,List.toArray] at c1a
 go_upto_region 5 with fail
 go_region_law (refine step_append_bx rfl (.tmp 25) (.tmp 27) rfl (.slice A0 L.length cp) (.slice (some ⟨w1.heap.size,0,none⟩) 1 1) (by simp[Act.eval]) (by simp[Act.eval]) (base:=g+1) (l:=L) (l2:=[x]) (b2:=w1.heap.size) (by exact H2.out.own.next (Below.refl _ _).drew) (by exact Sl.Is.one ok (x:=x) L2.out) (by have:=HL.out;simp;omega) (by have:=H1.out.lies.lt;simp;omega) (g:=g) (T:=151) (u0:=.int .i64 room) (u1:=.slice A0 L.length cp) (u2:=.bool false) (by exact H2.out.lies.next (Below.refl _ _).drew) (by exact H1.out.not) ?_;intro A cap w3 y1 y2 z1 z2 z3;have Z1:=hid z1;have Z2:=hid z2;have Z3:=hid z3;clear z1 z2 z3)
 all_goals
  have H3:=hid (H2.out.next (Below.refl _ _).drew);have P:=hid (H3.out.put Z2.out Z1.out Z3.out);have M1:Hid (Moves (Fp g (.slice A0 L.length cp)) (Fp g (.slice A0 L.length cp)) w (w1.alloc (Obj.cells (cl x).toArray 55)).drew):=hid (.of_below (after K0.out (after B1.out (below1 _ _).drew)) I0.out);rw[show (L++[x]).length=L.length+1 by simp] at P
  clear Z1 Z2 Z3;go_wp2;go_ret;exact⟨_,rfl,P.out.1,M1.out.trans P.out.2⟩
theorem take_none(g:Nat)(room:Int)(cl:Bool)(v:Value)(w:World)(H:Hid (Box w g room cl v [])):
  Calls Tryz.prog 55 #[gp g] w fun r w'=>r=.returned (.tuple #[zero,.bool false])∧Below w.heap.size w w':=by
 obtain⟨A0,cp,hv⟩:=H.out.val
 subst hv
 obtain⟨W0,h0⟩:∃ W,w.alloc (Obj.cells zs.toArray 55)=W:=⟨_,rfl⟩
 have K0:=hid (h0▸below1 w (Obj.cells zs.toArray 55))
 have X0:=hid (h0▸Lies.new w 55 zs)
 obtain⟨W1,h1⟩:∃ W,W0.alloc (Obj.cells zs.toArray 55)=W:=⟨_,rfl⟩
 have K1:=hid (h1▸below1 W0 (Obj.cells zs.toArray 55))
 have Y1:=hid (h1▸Lies.new W0 55 zs)
 have X1:=hid (X0.out.next K1.out)
 have H0:=hid (H.out.next K0.out)
 have c1:=H0.out.lies.cell (i:=1) rfl
 obtain⟨y0,y1,y2,y3,y4,y5,y6,y7,y8,y9,y10⟩:=eleven Y1.out
 obtain⟨x0,x1,x2,x3,x4,x5,x6,x7,x8,x9,x10⟩:=eleven X1.out
 have f0:=X1.out.open_
 go_enter Tryz.func55,Tryz.ntmps55
 go_wp2_with fail
 rw[chain]
 obtain⟨Z,G⟩:=over (cs':=zs) X1.out rfl
 obtain⟨z0,z1,z2,z3,z4,z5,z6,z7,z8,z9,z10⟩:=eleven Z
 have Q:Below w.heap.size w W1:=after K0.out K1.out
 exact bodyPost_ret (v:=.tuple #[zero,.bool false]) (by simp[results,Tryz.results55,go_sem,z0,z1,z2,z3,z4,z5,z6,z7,z8,z9,z10]) rfl ⟨rfl,below_over Q G (Nat.le_refl _)⟩
end Ms
namespace Ms
theorem moves_later{F F':Nat→Prop}{w w1 w2:World}{j:Nat}(h:Moves F F' w w1)(k:w1.grownBy w2 (some j))(hj:w.heap.size≤j):Moves F F' w w2:=
 ⟨k.os.trans h.os,k.tape.trans h.tape,k.output.trans h.output,Nat.le_trans h.size k.size,fun i hi hn=>(k.block i (Nat.lt_of_lt_of_le hi h.size) fun e=>by have:=Option.some.inj e;omega).trans (h.block i hi hn),fun i hi=>⟨(h.new i hi).1,Nat.lt_of_lt_of_le (h.new i hi).2 k.size⟩⟩
theorem take_ok(g:Nat)(room:Int)(sh:Bool)(v:Value)(x:M)(L:List M)(w:World)(H:Hid (Box w g room sh v (x::L)))(hn:L.length≤100):
  Calls Tryz.prog 55 #[gp g] w fun r w'=>∃ v',r=.returned (.tuple #[(val x),.bool true])∧Box w' g room sh v' L∧Moves (Fp g v) (Fp g v') w w':=by
 have I0:=hid H.out.in
 obtain⟨W0,h0⟩:∃ W,w.alloc (Obj.cells zs.toArray 55)=W:=⟨_,rfl⟩
 have K0:=hid (h0▸below1 w (Obj.cells zs.toArray 55))
 have X0:=hid (h0▸Lies.new w 55 zs)
 have S0:=hid (h0▸(by simp:(w.alloc (Obj.cells zs.toArray 55)).heap.size=w.heap.size+1))
 obtain⟨W1,h1⟩:∃ W,W0.alloc (Obj.cells zs.toArray 55)=W:=⟨_,rfl⟩
 have K1:=hid (h1▸below1 W0 (Obj.cells zs.toArray 55))
 have Y1:=hid (h1▸Lies.new W0 55 zs)
 have X1:=hid (X0.out.next K1.out)
 have H0:=hid (H.out.next K0.out)
 have H1:=hid (H0.out.next K1.out)
 obtain⟨b,hbg,cap,rfl,hcell⟩:∃ b,g+1≤b∧∃ cap,v=.slice (some ⟨b,0,none⟩) (x::L).length cap∧∀ j u,(cl x)[j]?=some u→W0.cell? ⟨b,j,none⟩=some u:=by
  obtain⟨b0,-,hb⟩:=H0.out.own.is;rcases H0.out.own.2 with ⟨_,h0⟩|⟨b,cap,cur,rfl,hbase,hb2,h1,h2,h3,h4⟩
  ·simp at h0
  ·refine⟨b,hbase,cap,rfl,fun j u hu=>?_⟩
   obtain⟨off,cap',e,-,-,-,hc⟩:=hb.some_ ok (by simp)
   simp only[Value.slice.injEq,Option.some.injEq,Addr.mk.injEq] at e;obtain⟨⟨rfl,rfl,-⟩,-,-⟩:=e
   simpa using hc 0 x rfl j u hu
 have hcell':∀ j u,(cl x)[j]?=some u→W0.cell? ⟨b,0+j,none⟩=some u:=fun j u hu=>by rw[Nat.zero_add];exact hcell j u hu
 obtain⟨d0,d1,d2,d3,d4,d5,d6,d7,d8,d9,d10⟩:W0.cell? ⟨b,0,none⟩=some (.int .i64 x.kind)∧W0.cell? ⟨b,1,none⟩=some (.int .i64 x.fr)∧W0.cell? ⟨b,2,none⟩=some (.int .i64 x.call.op)∧W0.cell? ⟨b,3,none⟩=some (.string x.call.key)∧W0.cell? ⟨b,4,none⟩=some (.int .i64 x.call.t)∧W0.cell? ⟨b,5,none⟩=some (.int .i64 x.call.v)∧W0.cell? ⟨b,6,none⟩=some (.int .i64 x.call.e)∧W0.cell? ⟨b,7,none⟩=some (.int .i64 x.call.u)∧W0.cell? ⟨b,8,none⟩=some (.int .i64 x.call.s)∧W0.cell? ⟨b,9,none⟩=some (.int .i64 x.group)∧W0.cell? ⟨b,10,none⟩=some (stv x.st):=
  ⟨hcell 0 _ rfl,hcell 1 _ rfl,hcell 2 _ rfl,hcell 3 _ rfl,hcell 4 _ rfl,hcell 5 _ rfl,hcell 6 _ rfl,hcell 7 _ rfl,hcell 8 _ rfl,hcell 9 _ rfl,hcell 10 _ rfl⟩
 have c1:=H0.out.lies.cell (i:=1) rfl
 have q1:((x::L).length:Int)≠0:=by simp;omega
 have q2:(0:Int)<(x::L).length:=by simp
 have D:=hid fun (w:World) (h:Sl.Own k (g+1) w (.slice (some ⟨b,0,none⟩) (x::L).length cap) (x::L))=>del_ok _ x L (g+1) w h (by omega)
 have lx:=H.out.lies.lt
 have YF:=Y1.out.open_
 obtain⟨y0,y1,y2,y3,y4,y5,y6,y7,y8,y9,y10⟩:=eleven Y1.out
 generalize hl:(x::L).length=n at *
 clear hcell hcell'
 go_enter Tryz.func55,Tryz.ntmps55
 go_upto_region 5 with fail
 rw[chain]
 obtain⟨W2,h2⟩:∃ W2,W1.setCells W0.heap.size 0 (cl x)=W2:=⟨_,rfl⟩
 obtain⟨Z2,G2⟩:=over (cs':=cl x) Y1.out rfl
 rw[h2] at Z2 G2
 have K2:Below w.heap.size w W2:=below_over (after K0.out K1.out) G2 (by have:=S0.out;omega)
 have K02:Below W0.heap.size W0 W2:=below_over K1.out G2 (Nat.le_refl _)
 have X2:Lies W2 w.heap.size 55 zs:=X0.out.next K02
 have H2:Box W2 g room sh (.slice (some ⟨b,0,none⟩) n cap) (x::L):=H0.out.next K02
 have nb:b<W0.heap.size:=(H0.out.own.lt b rfl).2
 rw[h2]
 have Z2:=hid Z2
 have K2:=hid K2
 have X2:=hid X2
 have H2:=hid H2
 have nb:=hid nb
 clear K02 G2 y0 y1 y2 y3 y4 y5 y6 y7 y8 y9 y10 d0 d1 d2 d3 d4 d5 d6 d7 d8 d9 d10 c1 YF h2 h1 h0 Y1 X1
 have c1:=H2.out.lies.cell (i:=1) rfl
 go_wp2_with fail
 refine (D.out W2 H2.out.own).mono ?_
 rintro r w3 ⟨A,c,rfl,o3,k3,e3⟩
 have gl:=H2.out.lies.lt
 have l3:=(k3.block g H2.out.lies.lt (fun e=>H2.out.not e.symm)).trans H2.out.lies
 have y1:=Lies.cell l3 (i:=1) rfl
 have y2:=Lies.open_ l3 1
 have P:=hid (H2.out.put k3 o3 (.inl e3))
 have nbw:b<w.heap.size:=(H.out.own.lt b rfl).2
 have nw:b≠w.heap.size:=by omega
 have nw2:b≠W0.heap.size:=fun e=>by have:=nb.out;omega
 have ng:g≠w.heap.size:=by have:=lx;omega
 have ng2:g≠W0.heap.size:=by have:=S0.out;omega
 have Z3:Lies w3 W0.heap.size 55 (cl x):=(k3.block _ Z2.out.lt (fun e=>nw2 (Option.some.inj e).symm)).trans Z2.out
 have X3:Lies w3 w.heap.size 55 zs:=(k3.block _ X2.out.lt (fun e=>nw (Option.some.inj e).symm)).trans X2.out
 have Z4:=Z3.far (p:=⟨g,1,none⟩) ng2.symm (.slice A L.length c)
 have X4:=X3.far (p:=⟨g,1,none⟩) ng.symm (.slice A L.length c)
 obtain⟨z0,z1,z2,z3,z4,z5,z6,z7,z8,z9,z10⟩:=eleven Z4
 obtain⟨x0,x1,x2,x3,x4,x5,x6,x7,x8,x9,x10⟩:=eleven X4
 have f4:=X4.open_
 have X4:=hid X4
 have e3':=hid e3
 clear Z4 Z3 X3 l3 k3 o3 e3 D c1
 go_wp2_with fail
 rw[chain]
 obtain⟨Z5,G5⟩:=over (cs':=cl x) X4.out rfl
 obtain⟨u0,u1,u2,u3,u4,u5,u6,u7,u8,u9,u10⟩:=eleven Z5
 have M5:=moves_later ((Moves.of_below K2.out I0.out).trans P.out.2) G5 (Nat.le_refl _)
 have B5:Box ((w3.setCell ⟨g,1,none⟩ (.slice A L.length c)).setCells w.heap.size 0 (cl x)) g room sh (.slice A L.length c) L:=
  ⟨(G5.block g P.out.1.lies.lt fun e=>ng (Option.some.inj e)).trans P.out.1.lies,P.out.1.own.move fun a ha=>G5.block a (P.out.1.own.lt a ha).2 fun e=>nw (by rw[e3'.out] at ha;rw[←Option.some.inj e];exact (Option.some.inj ha))⟩
 exact bodyPost_ret (v:=.tuple #[val x,.bool true]) (by simp[results,Tryz.results55,go_sem,u0,u1,u2,u3,u4,u5,u6,u7,u8,u9,u10]) rfl ⟨_,rfl,B5,M5⟩
end Ms
end Go.Proofs.YtfjlnniahfbdfaaGreat
