/- A part of the proof. -/
import Derived.Test.YtfjlnniahfbdfaaGreatPad
import Derived.Test.YtfjlnniahfbdfaaGreatPaf
import Derived.Test.YtfjlnniahfbdfaaGreatPaa
set_option linter.unusedVariables false
set_option maxHeartbeats 4000000
namespace Go.Proofs.YtfjlnniahfbdfaaGreat
open Lib (hid)
open Go.ChangeShapes Go.WideShapes Go.ChangeAt Go.RowKit Small
namespace Pane
theorem own_base{base base':Nat}{w:World}{v:Value}{L:List Pn}(h:Sl.Own Pn.k base w v L)(hb:base'≤base):Sl.Own Pn.k base' w v L:=by
 refine⟨h.1,?_⟩
 rcases h.2 with q|⟨g,cap,cur,h1,h2,h3⟩
 ·exact .inl q
 ·exact .inr ⟨g,cap,cur,h1,by omega,h3⟩
theorem own_put7{base g:Nat}{w:World}{v:Value}{L:List Pn}(h:Sl.Own Pn.k base w v L)(hg:g<base)(p q r s u x y:Value):Sl.Own Pn.k base (put7 w g p q r s u x y) v L:=
 h.move fun b hb=>by
  have:=(h.lt b hb).1;have hne:b≠g:=by omega
  show (put7 w g p q r s u x y).heap[b]?=_
  unfold put7;rw[Below.heap_setCell _ _ _ _ hne,Below.heap_setCell _ _ _ _ hne,Below.heap_setCell _ _ _ _ hne,Below.heap_setCell _ _ _ _ hne,Below.heap_setCell _ _ _ _ hne,Below.heap_setCell _ _ _ _ hne,Below.heap_setCell _ _ _ _ hne]
def Cy(B:Nat)(v0:Value)(L:List Pn)(k b:Nat)(p:Pn)(ad:Value)(i:Nat)(u:Value)(w:World):Prop:=match i with
 |0=>u=v0
 |1=>u=.int .i64 k
 |2=>Sl.Is Pn.k w u (L.take k) b
 |3=>u=v0
 |4=>u=.int .i64 k
 |5=>u=.int .i64 ((k+1:Nat):Int)
 |6=>Sl.Is Pn.k w u (L.drop (k+1)) b
 |7=>∃ g v1 v2,u=.slice (some ⟨g,0,none⟩) 2 2∧Lies w g 41 [v1,v2]∧Sl.Is Pn.k w v1 (L.take k) b∧Sl.Is Pn.k w v2 (L.drop (k+1)) b
 |8=>Sl.Own Pn.k B w u (L.take k++L.drop (k+1))
 |9=>u=v0
 |10=>u=.int .i64 k
 |11=>u=ad
 |12=>u=p.v
 |13=>Sl.Own Pn.k B w u (L.take k++L.drop (k+1))
 |_=>True
theorem Cy.mono(B:Nat)(v0:Value)(L:List Pn)(k b:Nat)(p:Pn)(ad:Value):∀ i u w w',Cy B v0 L k b p ad i u w→Below w.heap.size w w'→Cy B v0 L k b p ad i u w'
 |0,u,w,w',h,k=>h
 |1,u,w,w',h,k=>h
 |2,u,w,w',h,k=>Sl.Is.next (K:=Pn.k) h k
 |3,u,w,w',h,k=>h
 |4,u,w,w',h,k=>h
 |5,u,w,w',h,k=>h
 |6,u,w,w',h,k=>Sl.Is.next (K:=Pn.k) h k
 |7,u,w,w',⟨g,v1,v2,h1,h2,h3,h4⟩,k=>⟨g,v1,v2,h1,h2.next k,h3.next k,h4.next k⟩
 |8,u,w,w',h,k=>Sl.Own.next (K:=Pn.k) h k
 |9,u,w,w',h,k=>h
 |10,u,w,w',h,k=>h
 |11,u,w,w',h,k=>h
 |12,u,w,w',h,k=>h
 |13,u,w,w',h,k=>Sl.Own.next (K:=Pn.k) h k
 |i+14,u,w,w',h,k=>trivial
set_option maxRecDepth 100000 in
theorem cut_yes(v:Value)(L:List Pn)(b k:Nat)(s e:Int)(p:Pn)(w:World)(H:Hid (Sl.Is Pn.k w v L b))(hn:L.length≤9000)(A:Hid (At L s e k))(hx:Hid (L[k]?=some p))(he:Hid (Eq2 p s e)):
  Calls Tryz.prog 164 #[v,win s e] w fun r w'=>∃ v',r=.returned (.tuple #[v',p.v,.bool true])∧Sl.Own Pn.k w.heap.size w' v' (L.take k++L.drop (k+1))∧Below w.heap.size w w':=by
 obtain⟨off,cap,hv,h2,h3,h4,hcell⟩:=H.out.some_ Pn.ok (by have:=lt_of_at hx.out;omega)
 have hk:=lt_of_at hx.out
 have hcell:=fun j u hj=>hcell k p hx.out j u hj
 have K0:=hid (below2 w (Obj.cells #[.int .i64 s,.int .i64 e] 129) (Obj.cells #[.string ⟨#[]⟩,.int .i64 0,.int .i64 0,.int .i64 0,.int .i64 0,.int .i64 0,.int .i64 0] 133))
 have Z0:=Lies.new (w.alloc (Obj.cells #[.int .i64 s,.int .i64 e] 129)) 133 zp.cl
 simp only[World.size_alloc] at Z0
 change Lies ((w.alloc (Obj.cells #[.int .i64 s,.int .i64 e] 129)).alloc (Obj.cells #[.string ⟨#[]⟩,.int .i64 0,.int .i64 0,.int .i64 0,.int .i64 0,.int .i64 0,.int .i64 0] 133)) (w.heap.size+1) 133 [.string ⟨#[]⟩,.int .i64 0,.int .i64 0,.int .i64 0,.int .i64 0,.int .i64 0,.int .i64 0] at Z0
 have Z0:=hid Z0
 subst hv
 have C:=hid hcell
 clear hcell h2 h3 h4
 go_enter Tryz.func164,Tryz.ntmps164
 go_wp2_with fail
 refine (place_ok _ L b k s e true _ (hid (H.out.next K0.out)) hn A (hid ⟨fun _=>⟨p,hx.out,he.out⟩,fun _=>rfl⟩)).mono ?_
 rintro r w1 ⟨rfl,k1⟩
 have Z1:=hid (Z0.out.next k1)
 have K1:=hid (after K0.out k1)
 have H1:=hid (H.out.next K1.out)
 clear k1
 go_wp2_with fail
 refine wp_region_goes Goes.below 14 33 (Cy w1.heap.size (.slice (some ⟨b,off,none⟩) L.length cap) L k b p (.pointer (some ⟨b,off+k*7,none⟩))) (by show _=_;kernel_rfl) (by show _=_;kernel_rfl) (by show _=_;kernel_rfl) (Cy.mono w1.heap.size (.slice (some ⟨b,off,none⟩) L.length cap) L k b p (.pointer (some ⟨b,off+k*7,none⟩))) ?_ ?_
 ·intro i hi o ho a' w' Kc hd hout hdep hB hK
  match i,hi,ho with
  |0,_,ho=>exact Sl.wp_move _ (Reg.Has.op (p:=Op.move (.tmp 0)) (t:=20) (by show _=_;kernel_rfl) ho).1 (hK _ _ (hout 0 (Reg.Free.out (by show _=_;kernel_rfl))) (Below.refl _ _))
  |1,_,ho=>exact Sl.wp_move _ (Reg.Has.op (p:=Op.move (.tmp 7)) (t:=21) (by show _=_;kernel_rfl) ho).1 (hK _ _ (hout 7 (Reg.Free.out (by show _=_;kernel_rfl))) (Below.refl _ _))
  |2,_,ho=>exact Sl.wp_take Pn.ok (.tmp 20) (.tmp 21) (Reg.Has.op (p:=Op.slice 41 (.tmp 20) none (some (.tmp 21)) none) (t:=22) (by show _=_;kernel_rfl) ho).1 (l:=L) (b:=b) (m:=k) (by rw[show a'.eval (.tmp 20)=_ from (hdep 0 (mem_of (by show _=_;kernel_rfl)) 20 (by show _=_;kernel_rfl))];exact H1.out.next hB) (hdep 1 (mem_of (by show _=_;kernel_rfl)) 21 (by show _=_;kernel_rfl)) (by omega) (fun u q=>hK u _ q (Below.refl _ _))
  |3,_,ho=>exact Sl.wp_move _ (Reg.Has.op (p:=Op.move (.tmp 0)) (t:=23) (by show _=_;kernel_rfl) ho).1 (hK _ _ (hout 0 (Reg.Free.out (by show _=_;kernel_rfl))) (Below.refl _ _))
  |4,_,ho=>exact Sl.wp_move _ (Reg.Has.op (p:=Op.move (.tmp 7)) (t:=24) (by show _=_;kernel_rfl) ho).1 (hK _ _ (hout 7 (Reg.Free.out (by show _=_;kernel_rfl))) (Below.refl _ _))
  |5,_,ho=>exact Sl.wp_succ (.tmp 24) (k:=k) (Reg.Has.op (p:=Op.binOp BinOp.add 3 (.tmp 24) (.const (.int .i64 1)) 3) (t:=25) (by show _=_;kernel_rfl) ho).1 (hdep 4 (mem_of (by show _=_;kernel_rfl)) 24 (by show _=_;kernel_rfl)) (by omega) (hK _ _ rfl (Below.refl _ _))
  |6,_,ho=>exact Sl.wp_drop Pn.ok (.tmp 23) (.tmp 25) (Reg.Has.op (p:=Op.slice 41 (.tmp 23) (some (.tmp 25)) none none) (t:=26) (by show _=_;kernel_rfl) ho).1 (l:=L) (b:=b) (m:=k+1) (by rw[show a'.eval (.tmp 23)=_ from (hdep 3 (mem_of (by show _=_;kernel_rfl)) 23 (by show _=_;kernel_rfl))];exact H1.out.next hB) (hdep 5 (mem_of (by show _=_;kernel_rfl)) 25 (by show _=_;kernel_rfl)) (by omega) (fun u q=>hK u _ q (Below.refl _ _))
  |7,_,ho=>
   have d2:Sl.Is Pn.k w' (a'.eval (.tmp 22)) (L.take k) b:=(hdep 2 (mem_of (by show _=_;kernel_rfl)) 22 (by show _=_;kernel_rfl))
   have d6:Sl.Is Pn.k w' (a'.eval (.tmp 26)) (L.drop (k+1)) b:=(hdep 6 (mem_of (by show _=_;kernel_rfl)) 26 (by show _=_;kernel_rfl))
   obtain⟨A1,c1,e1⟩:=d2.len;obtain⟨A2,c2,e2⟩:=d6.len;refine wp_val (V:=.slice (some ⟨w'.heap.size,0,none⟩) 2 2) (w':=w'.alloc (.cells #[a'.eval (.tmp 22),a'.eval (.tmp 26)] 41)) ?_ (hK _ _ ⟨_,_,_,rfl,Lies.new w' 41 [a'.eval (.tmp 22),a'.eval (.tmp 26)],d2.next (below1 _ _),d6.next (below1 _ _)⟩ (below1 _ _))
   have hop:=(Reg.Has.op (p:=Op.buildSlice 305 2 #[(0,.tmp 22),(1,.tmp 26)]) (t:=27) (by show _=_;kernel_rfl) ho).1
   generalize a'.eval=ev at e1 e2;simp[execOp,hop,e1,e2,go_sem,Instr.buildSlice,Instr.fill,newRow]
  |8,_,ho=>
   obtain⟨g,v1,v2,q1,q2,q3,q4⟩:=(hdep 7 (mem_of (by show _=_;kernel_rfl)) 27 (by show _=_;kernel_rfl))
   refine wp_call (Reg.Has.op (p:=Op.call {callee:=Callee.value (.func 181),args:=#[.tmp 27],argTypes:=#[305]}) (t:=28) (by show _=_;kernel_rfl) ho).1 #[.slice (some ⟨g,0,none⟩) 2 2] (by simp[show a'.eval (.tmp 27)=_ from q1]) (fun _ _=>enters Tryz.func181 (by kernel_rfl) rfl _ _) (concat_ok g b b v1 v2 _ _ w' (hid q3) (hid q4) (hid q2) (by rw[List.length_take];omega) (by rw[List.length_drop];omega)) ?_
   rintro v w2 ⟨h1,h2⟩;exact hK _ _ (own_base h1 hB.size) h2
  |9,_,ho=>exact Sl.wp_move _ (Reg.Has.op (p:=Op.move (.tmp 0)) (t:=29) (by show _=_;kernel_rfl) ho).1 (hK _ _ (hout 0 (Reg.Free.out (by show _=_;kernel_rfl))) (Below.refl _ _))
  |10,_,ho=>exact Sl.wp_move _ (Reg.Has.op (p:=Op.move (.tmp 7)) (t:=30) (by show _=_;kernel_rfl) ho).1 (hK _ _ (hout 7 (Reg.Free.out (by show _=_;kernel_rfl))) (Below.refl _ _))
  |11,_,ho=>exact Reg.wp_at Pn.ok (l:=L) (m:=k) (.tmp 29) (.tmp 30) (Reg.Has.op (p:=Op.indexAddr 41 (.tmp 29) (.tmp 30)) (t:=31) (by show _=_;kernel_rfl) ho).1 (hdep 9 (mem_of (by show _=_;kernel_rfl)) 29 (by show _=_;kernel_rfl)) (hdep 10 (mem_of (by show _=_;kernel_rfl)) 30 (by show _=_;kernel_rfl)) hk (hK _ _ rfl (Below.refl _ _))
  |12,_,ho=>exact Pn.val.load p _ _ _ _ _ _ b (off+k*7) (Reg.Has.op (p:=Op.load 133 (.tmp 31)) (t:=32) (by show _=_;kernel_rfl) ho).1 (hdep 11 (mem_of (by show _=_;kernel_rfl)) 31 (by show _=_;kernel_rfl)) (fun j u hj=>by rw[Nat.add_assoc];exact cell_keep (after K1.out hB) (C.out j u hj)) (hK _ _ rfl (Below.refl _ _))
  |13,_,ho=>exact wp_assign _ (Reg.Has.op (p:=Op.assign (.tmp 28)) (t:=4) (by show _=_;kernel_rfl) ho).1 (hK _ _ (hdep 8 (mem_of (by show _=_;kernel_rfl)) 28 (by show _=_;kernel_rfl)) (Below.refl _ _))
 ·intro f w' hv hB hev
  have e12:f 12=p.v:=hv 12 (by omega)
  have e13:Sl.Own Pn.k w1.heap.size w' (f 13) (L.take k++L.drop (k+1)):=hv 13 (by omega)
  change wpList _ _ _ [_,_] (Act.put (Act.put (Act.put (Act.put (Act.put (Act.put (Act.put (Act.put (Act.put (Act.put (Act.put (Act.put (Act.put (Act.put _ (some 20) (f 0)) (some 21) (f 1)) (some 22) (f 2)) (some 23) (f 3)) (some 24) (f 4)) (some 25) (f 5)) (some 26) (f 6)) (some 27) (f 7)) (some 28) (f 8)) (some 29) (f 9)) (some 30) (f 10)) (some 31) (f 11)) (some 32) (f 12)) (some 4) (f 13)) _
  rw[Rel.puts_zero];clear hv hev;have Z2:=hid (Z1.out.next hB);have K2:=hid (after K1.out hB);have E13:=hid e13;have hle:Hid (w.heap.size≤w1.heap.size):=hid K1.out.size;have hlt:Hid (w.heap.size+1<w1.heap.size):=hid Z1.out.lt;clear e13 hB;rw[e12];obtain⟨⟨z0,z1,z2,z3,z4,z5,z6⟩,y0,y1,y2,y3,y4,y5,y6⟩:=seven Z2.out;go_wp2
  change bodyPost _ _ _ _ _ (put7 w' (w.heap.size+1) (.string p.key) (.int .i64 p.s) (.int .i64 p.e) (.int .i64 p.c) (.int .i64 p.m) (.int .i64 p.l) (.int .i64 p.u))
  have O3:=own_put7 E13.out (show w.heap.size+1<w1.heap.size from hlt.out) (.string p.key) (.int .i64 p.s) (.int .i64 p.e) (.int .i64 p.c) (.int .i64 p.m) (.int .i64 p.l) (.int .i64 p.u)
  obtain⟨W,hW⟩:∃ W,W=put7 w' (w.heap.size+1) (.string p.key) (.int .i64 p.s) (.int .i64 p.e) (.int .i64 p.c) (.int .i64 p.m) (.int .i64 p.l) (.int .i64 p.u):=⟨_,rfl⟩;have Z3:=put7_lies Z2.out (.string p.key) (.int .i64 p.s) (.int .i64 p.e) (.int .i64 p.c) (.int .i64 p.m) (.int .i64 p.l) (.int .i64 p.u);have K3:=put7_below (g:=w.heap.size+1) K2.out (by omega) (.string p.key) (.int .i64 p.s) (.int .i64 p.e) (.int .i64 p.c) (.int .i64 p.m) (.int .i64 p.l) (.int .i64 p.u)
  rw[←hW] at Z3 K3 O3 ⊢;clear hW;obtain⟨⟨z0,z1,z2,z3,z4,z5,z6⟩,-⟩:=seven Z3;exact bodyPost_ret (v:=.tuple #[f 13,p.v,.bool true]) (by simp[results,Tryz.results164,go_sem,z0,z1,z2,z3,z4,z5,z6]) rfl ⟨f 13,rfl,own_base O3 hle.out,K3⟩
end Pane
open BigFrame
namespace Agg
abbrev agv(c s l h:Int):Value:=.agg #[.int .i64 c,.int .i64 s,.int .i64 l,.int .i64 h]
theorem wrap_u64(a b:Int):wrap64 (IntKind.u64.wrap (IntKind.u64.wrap a+IntKind.u64.wrap b))=wrap64 (a+b):=by
 simp only[IntKind.wrap,IntKind.bits,IntKind.signed]
 unfold wrap64
 simp
theorem of_ok(v:Int)(w:World):
  Calls Tryz.prog 188 #[.int .i64 v] w fun r w'=>r=.returned (agv 1 v v v)∧Below w.heap.size w w':=by
 go_enter Tryz.func188,Tryz.ntmps188
 go_wp2
 exact bodyPost_ret (v:=agv 1 v v v) (by simp[results,Tryz.results188,go_sem]) rfl ⟨rfl,below1 _ _⟩
theorem one_ok(v:Int)(w:World):
  Calls Tryz.prog 148 #[.int .i64 v] w fun r w'=>r=.returned (agv 1 v v v)∧Below w.heap.size w w':=by
 go_enter Tryz.func148,Tryz.ntmps148
 go_wp2
 exact bodyPost_ret (v:=agv 1 v v v) (by simp[results,Tryz.results148,go_sem]) rfl ⟨rfl,below1 _ _⟩
theorem merge_left(c s l u c' s' l' u':Int)(w:World)(hc:c<1):
  Calls Tryz.prog 192 #[agv c s l u,agv c' s' l' u'] w fun r w'=>r=.returned (agv c' s' l' u')∧Below w.heap.size w w':=by
 go_enter Tryz.func192,Tryz.ntmps192
 go_wp2
 exact bodyPost_ret (v:=agv c' s' l' u') (by simp[results,Tryz.results192,go_sem]) rfl ⟨rfl,below3 _ _ _ _⟩
theorem merge_right(c s l u c' s' l' u':Int)(w:World)(hc:1≤c)(hc':c'<1):
  Calls Tryz.prog 192 #[agv c s l u,agv c' s' l' u'] w fun r w'=>r=.returned (agv c s l u)∧Below w.heap.size w w':=by
 go_enter Tryz.func192,Tryz.ntmps192
 go_wp2
 exact bodyPost_ret (v:=agv c s l u) (by simp[results,Tryz.results192,go_sem]) rfl ⟨rfl,below3 _ _ _ _⟩
theorem merge_both(c s l u c' s' l' u':Int)(w:World)(hc:1≤c)(hc':1≤c'):
  Calls Tryz.prog 192 #[agv c s l u,agv c' s' l' u'] w fun r w'=>r=.returned (agv (wrap64 (c+c')) (wrap64 (s+s')) (min l l') (max u u'))∧Below w.heap.size w w':=by
 go_enter Tryz.func192,Tryz.ntmps192
 go_wp2
 all_goals exact bodyPost_ret (v:=agv (wrap64 (c+c')) (wrap64 (s+s')) (min l l') (max u u')) (by simp[results,Tryz.results192,go_sem];omega) rfl ⟨rfl,below3 _ _ _ _⟩
structure A4 where
 c:Int
 s:Int
 l:Int
 u:Int
abbrev A4.val(x:A4):Value:=agv x.c x.s x.l x.u
def one4(v:Int):A4:=⟨1,v,v,v⟩
def mrg(x y:A4):A4:=if x.c<1 then y else if y.c<1 then x else ⟨wrap64 (x.c+y.c),wrap64 (x.s+y.s),min x.l y.l,max x.u y.u⟩
theorem merge_ok(x y:A4)(w:World):Calls Tryz.prog 192 #[x.val,y.val] w fun r w'=>r=.returned (mrg x y).val∧Below w.heap.size w w':=by
 unfold mrg
 by_cases h1:x.c<1
 ·rw[if_pos h1];exact merge_left _ _ _ _ _ _ _ _ w h1
 ·rw[if_neg h1]
  by_cases h2:y.c<1
  ·rw[if_pos h2];exact merge_right _ _ _ _ _ _ _ _ w (by omega) h2
  ·rw[if_neg h2];exact merge_both _ _ _ _ _ _ _ _ w (by omega) (by omega)
theorem add_ok(x:A4)(v:Int)(w:World):Calls Tryz.prog 186 #[x.val,.int .i64 v] w fun r w'=>r=.returned (mrg x (one4 v)).val∧Below w.heap.size w w':=by
 obtain⟨z,hz⟩:∃ z,Hid (z=mrg x (one4 v)):=⟨_,hid rfl⟩
 have M:=hid fun w:World=>merge_ok x (one4 v) w
 rw[←hz.out] at M ⊢
 obtain⟨c,s,l,u⟩:=x
 obtain⟨c',s',l',u'⟩:=z
 simp only[A4.val,one4] at M ⊢
 clear hz
 go_enter Tryz.func186,Tryz.ntmps186
 go_wp2_with fail
 have hb:=hid (below2 w (Obj.cells #[.int .i64 c,.int .i64 s,.int .i64 l,.int .i64 u] 131) (Obj.cells #[.int .i64 0,.int .i64 0,.int .i64 0,.int .i64 0] 131))
 have h1:=hid ((Lies.new w 131 [.int .i64 c,.int .i64 s,.int .i64 l,.int .i64 u]).alloc (Obj.cells #[.int .i64 0,.int .i64 0,.int .i64 0,.int .i64 0] 131))
 have h2:Hid (Lies ((w.alloc (Obj.cells #[.int .i64 c,.int .i64 s,.int .i64 l,.int .i64 u] 131)).alloc (Obj.cells #[.int .i64 0,.int .i64 0,.int .i64 0,.int .i64 0] 131)) (w.heap.size+1) 131 [.int .i64 0,.int .i64 0,.int .i64 0,.int .i64 0]):=
  hid (by have:=Lies.new (w.alloc (Obj.cells #[.int .i64 c,.int .i64 s,.int .i64 l,.int .i64 u] 131)) 131 [.int .i64 0,.int .i64 0,.int .i64 0,.int .i64 0];simpa using this)
 generalize (w.alloc (Obj.cells #[.int .i64 c,.int .i64 s,.int .i64 l,.int .i64 u] 131)).alloc (Obj.cells #[.int .i64 0,.int .i64 0,.int .i64 0,.int .i64 0] 131)=w1 at *
 obtain⟨g0,g1,g2,g3,-⟩:=h1.out.four
 have f0:=Later.cell g0
 have f1:=Later.cell g1
 have f2:=Later.cell g2
 have f3:=Later.cell g3
 clear g0 g1 g2 g3
 refine wp_region_later_tail 4 (by kernel_rfl) (by kernel_rfl) ?_
 simp only[List.take_succ_cons,List.take_zero,List.drop_succ_cons,List.drop_zero]
 repeat (go_big_quiet_step (first
  |(go_at_call 188;with_reducible exact Later.call _ (of_ok _ _))
  |(go_at_call 192;with_reducible exact Later.call _ (M.out _))))
 refine wpQuiet_nil ?_
 rintro _ ⟨u,rfl⟩
 clear f0 f1 f2 f3
 have kb:=after hb.out u.below
 have h3:=hid (h2.out.next u.below)
 obtain⟨g0,g1,g2,g3,g4,g5,g6,g7⟩:=h3.out.four
 generalize u.w=w2 at *
 go_wp2
 exact bodyPost_ret (v:=agv c' s' l' u') (by simp[results,Tryz.results186,go_sem,g0,g1,g2,g3]) rfl
  ⟨rfl,(((kb.setCell (by simp) _).setCell (by simp) _).setCell (by simp) _).setCell (by simp) _⟩
theorem ref_left(c s l u c' s' l' u':Int)(w:World)(hc:c<1):
  Calls Tryz.prog 151 #[agv c s l u,agv c' s' l' u'] w fun r w'=>r=.returned (agv c' s' l' u')∧Below w.heap.size w w':=by
 go_enter Tryz.func151,Tryz.ntmps151
 go_wp2
 exact bodyPost_ret (v:=agv c' s' l' u') (by simp[results,Tryz.results151,go_sem]) rfl ⟨rfl,below3 _ _ _ _⟩
theorem ref_right(c s l u c' s' l' u':Int)(w:World)(hc:1≤c)(hc':c'<1):
  Calls Tryz.prog 151 #[agv c s l u,agv c' s' l' u'] w fun r w'=>r=.returned (agv c s l u)∧Below w.heap.size w w':=by
 go_enter Tryz.func151,Tryz.ntmps151
 go_wp2
 exact bodyPost_ret (v:=agv c s l u) (by simp[results,Tryz.results151,go_sem]) rfl ⟨rfl,below3 _ _ _ _⟩
theorem ref_both(c s l u c' s' l' u':Int)(w:World)(hc:1≤c)(hc':1≤c'):
  Calls Tryz.prog 151 #[agv c s l u,agv c' s' l' u'] w fun r w'=>r=.returned (agv (wrap64 (c+c')) (wrap64 (s+s')) (min l l') (max u u'))∧Below w.heap.size w w':=by
 go_enter Tryz.func151,Tryz.ntmps151
 go_wp2
 all_goals exact bodyPost_ret (v:=agv (wrap64 (c+c')) (wrap64 (s+s')) (min l l') (max u u')) (by simp[results,Tryz.results151,go_sem,wrap_u64];omega) rfl ⟨rfl,below3 _ _ _ _⟩
theorem ref_ok(x y:A4)(w:World):Calls Tryz.prog 151 #[x.val,y.val] w fun r w'=>r=.returned (mrg x y).val∧Below w.heap.size w w':=by
 unfold mrg
 by_cases h1:x.c<1
 ·rw[if_pos h1];exact ref_left _ _ _ _ _ _ _ _ w h1
 ·rw[if_neg h1]
  by_cases h2:y.c<1
  ·rw[if_pos h2];exact ref_right _ _ _ _ _ _ _ _ w (by omega) h2
  ·rw[if_neg h2];exact ref_both _ _ _ _ _ _ _ _ w (by omega) (by omega)
theorem mrg_comm{x y:A4}(h:x.c<1→y.c<1→x=y):mrg x y=mrg y x:=by
 unfold mrg
 by_cases h1:x.c<1
 ·by_cases h2:y.c<1
  ·rw[if_pos h1,if_pos h2,h h1 h2]
  ·rw[if_pos h1,if_neg h2,if_pos h1]
 ·by_cases h2:y.c<1
  ·rw[if_neg h1,if_pos h2,if_pos h2]
  ·rw[if_neg h1,if_neg h2,if_neg h2,if_neg h1,Int.add_comm x.c,Int.add_comm x.s,Int.min_comm x.l,Int.max_comm x.u]
end Agg
namespace Pane
abbrev ag(p:Pn):Agg.A4:=⟨p.c,p.m,p.l,p.u⟩
abbrev mk(key:ByteArray)(s e:Int)(x:Agg.A4):Pn:=⟨key,s,e,x.c,x.s,x.l,x.u⟩
abbrev one(key:ByteArray)(s e v:Int):Pn:=⟨key,s,e,1,v,v,v⟩
def Pt(B k:Nat)(v0:Value)(p:Pn)(i:Nat)(u:Value)(w:World):Prop:=match i with
 |0=>u=v0
 |1=>u=.int .i64 k
 |2=>u=.string p.key
 |3=>u=win p.s p.e
 |4=>u=.int .i64 p.m
 |5=>u=Agg.agv p.c p.m p.l p.u
 |6=>u=p.v
 |7=>∃ g,u=.slice (some ⟨g,0,none⟩) 1 1∧Lies w g 133 p.cl∧B≤g
 |_=>True
theorem Pt.mono(B k:Nat)(v0:Value)(p:Pn):∀ i u w w',Pt B k v0 p i u w→Below w.heap.size w w'→Pt B k v0 p i u w'
 |0,u,w,w',h,k=>h
 |1,u,w,w',h,k=>h
 |2,u,w,w',h,k=>h
 |3,u,w,w',h,k=>h
 |4,u,w,w',h,k=>h
 |5,u,w,w',h,k=>h
 |6,u,w,w',h,k=>h
 |7,u,w,w',⟨g,h1,h2,h3⟩,k=>⟨g,h1,h2.next k,h3⟩
 |i+8,u,w,w',h,k=>trivial
theorem flat_set{L:List Pn}{k:Nat}{p:Pn}(hp:L[k]?=some p)(a b c d:Int):
  ((((Sl.flat Pn.k L).set (k*7+3) (.int .i64 a)).set (k*7+4) (.int .i64 b)).set (k*7+5) (.int .i64 c)).set (k*7+6) (.int .i64 d)=Sl.flat Pn.k (L.set k ⟨p.key,p.s,p.e,a,b,c,d⟩):=by
 induction L generalizing k with
 |nil=>simp at hp
 |cons x L ih=>
  cases k with
  |zero=>
   simp at hp;subst hp;simp[Sl.flat]
  |succ k=>
   simp at hp;have:=ih hp;simp only[Sl.flat,List.flatMap_cons,List.set_cons_succ] at this ⊢;rw[←this,List.set_append_right _ _ (by simp;omega),List.set_append_right _ _ (by simp;omega),List.set_append_right _ _ (by simp;omega),List.set_append_right _ _ (by simp;omega)]
   simp only[List.length_cons,List.length_nil];rw[show (k+1)*7+3-(0+1+1+1+1+1+1+1)=k*7+3 by omega,show (k+1)*7+4-(0+1+1+1+1+1+1+1)=k*7+4 by omega,show (k+1)*7+5-(0+1+1+1+1+1+1+1)=k*7+5 by omega,show (k+1)*7+6-(0+1+1+1+1+1+1+1)=k*7+6 by omega]
theorem setCell_row{w:World}{g:Nat}{cur:Array Value}{t:TypeId}(h:w.heap[g]?=some (.cells cur t (0,0)))(i:Nat)(u:Value):(w.setCell ⟨g,i,none⟩ u).heap[g]?=some (.cells (cur.setIfInBounds i u) t (0,0)):=by
 simp[World.setCell,Array.getElem?_modify,h]
theorem own_set{base g cap k:Nat}{w:World}{L:List Pn}{p:Pn}(h:Sl.Own Pn.k base w (.slice (some ⟨g,0,none⟩) L.length cap) L)(hp:L[k]?=some p)(a b c d:Int):
  Sl.Own Pn.k base ((((w.setCell ⟨g,k*7+3,none⟩ (.int .i64 a)).setCell ⟨g,k*7+4,none⟩ (.int .i64 b)).setCell ⟨g,k*7+5,none⟩ (.int .i64 c)).setCell ⟨g,k*7+6,none⟩ (.int .i64 d)) (.slice (some ⟨g,0,none⟩) L.length cap) (L.set k ⟨p.key,p.s,p.e,a,b,c,d⟩):=by
 rcases h.2 with ⟨q,_⟩|⟨g',cap',cur,h1,h2,h3,h4,h5,h6,h7⟩
 ·simp at q
 ·obtain⟨rfl,rfl⟩:g=g'∧cap=cap':=by simpa using h1
  refine⟨by rw[Sl.flat_len Pn.ok],.inr ⟨g,cap,(((cur.setIfInBounds (k*7+3) (.int .i64 a)).setIfInBounds (k*7+4) (.int .i64 b)).setIfInBounds (k*7+5) (.int .i64 c)).setIfInBounds (k*7+6) (.int .i64 d),by rw[List.length_set],h2,?_,by rw[List.length_set];exact h4,h5,by simpa using h6,?_⟩⟩
  ·have s1:=setCell_row h3 (k*7+3) (.int .i64 a)
   have s2:=setCell_row s1 (k*7+4) (.int .i64 b);have s3:=setCell_row s2 (k*7+5) (.int .i64 c);exact setCell_row s3 (k*7+6) (.int .i64 d)
  ·rw[List.length_set,←flat_set hp a b c d,←h7]
   simp only[Array.toList_setIfInBounds,List.take_set]
set_option maxRecDepth 100000 in
theorem put_no(l:Value)(L:List Pn)(b k:Nat)(key:ByteArray)(s e v:Int)(w:World)(H:Hid (Sl.Is Pn.k w l L b))(hn:L.length≤9000)(A:Hid (At L s e k))(hx:Hid (∀ x,L[k]?=some x→¬Eq2 x s e)):
  Calls Tryz.prog 171 #[l,.string key,win s e,.int .i64 v] w fun r w'=>∃ v',r=.returned v'∧Sl.Own Pn.k w.heap.size w' v' (L.take k++one key s e v::L.drop k)∧Below w.heap.size w w':=by
 have K0:=hid (below1 w (Obj.cells #[.int .i64 s,.int .i64 e] 129))
 have S0:=hid (Lies.new w 129 [.int .i64 s,.int .i64 e])
 go_enter Tryz.func171,Tryz.ntmps171
 go_wp2_with fail
 refine (place_ok _ L b k s e false _ (hid (H.out.next K0.out)) hn A (hid ⟨fun h=>(by cases h),fun ⟨x,h1,h2⟩=>absurd h2 (hx.out x h1)⟩)).mono ?_
 rintro r w1 ⟨rfl,k1⟩
 have S1:=hid (S0.out.next k1)
 have K1:=hid (after K0.out k1)
 clear k1
 go_wp2_with fail
 refine (clone_ok _ L b _ (hid (H.out.next K1.out)) hn).mono ?_
 rintro r w2 ⟨v',rfl,o2,k2⟩
 have O2:=hid o2
 have S2:=hid (S1.out.next k2)
 have K2:=hid (after K1.out k2)
 have hle:Hid (w.heap.size≤w1.heap.size):=hid K1.out.size
 have h12:Hid (w1.heap.size≤w2.heap.size):=hid k2.size
 clear k2 o2
 go_wp2_with fail
 refine wp_region_goes Goes.below 8 42 (Pt w2.heap.size k v' (one key s e v)) (by show _=_;kernel_rfl) (by show _=_;kernel_rfl) (by show _=_;kernel_rfl) (Pt.mono w2.heap.size k v' (one key s e v)) ?_ ?_
 ·intro i hi o ho a' w' Kc hd hout hdep hB hK
  match i,hi,ho with
  |0,_,ho=>exact Sl.wp_move _ (Reg.Has.op (p:=Op.move (.tmp 11)) (t:=33) (by show _=_;kernel_rfl) ho).1 (hK _ _ (hout 11 (Reg.Free.out (by show _=_;kernel_rfl))) (Below.refl _ _))
  |1,_,ho=>exact Sl.wp_move _ (Reg.Has.op (p:=Op.move (.tmp 9)) (t:=34) (by show _=_;kernel_rfl) ho).1 (hK _ _ (hout 9 (Reg.Free.out (by show _=_;kernel_rfl))) (Below.refl _ _))
  |2,_,ho=>exact Sl.wp_move _ (Reg.Has.op (p:=Op.move (.tmp 1)) (t:=35) (by show _=_;kernel_rfl) ho).1 (hK _ _ (hout 1 (Reg.Free.out (by show _=_;kernel_rfl))) (Below.refl _ _))
  |3,_,ho=>
   refine wp_val (V:=win s e) (w':=w') ?_ (hK _ _ rfl (Below.refl _ _))
   have hop:=(Reg.Has.op (p:=Op.load 129 (.tmp 6)) (t:=36) (by show _=_;kernel_rfl) ho).1
   have h6:a'.eval (.tmp 6)=.pointer (some ⟨w.heap.size,0,none⟩):=(hout 6 (Reg.Free.out (by show _=_;kernel_rfl)))
   have c0:=cell_keep hB (S2.out.cell (i:=0) rfl);have c1:=cell_keep hB (S2.out.cell (i:=1) rfl);generalize a'.eval=ev at h6;simp[execOp,hop,h6,go_sem,c0,c1]
  |4,_,ho=>exact Sl.wp_move _ (Reg.Has.op (p:=Op.move (.tmp 3)) (t:=37) (by show _=_;kernel_rfl) ho).1 (hK _ _ (hout 3 (Reg.Free.out (by show _=_;kernel_rfl))) (Below.refl _ _))
  |5,_,ho=>
   refine wp_call (S:=fun x w2=>x=Agg.agv 1 v v v∧Below w'.heap.size w' w2) (Reg.Has.op (p:=Op.call {callee:=Callee.value (.func 188),args:=#[.tmp 37],argTypes:=#[2]}) (t:=38) (by show _=_;kernel_rfl) ho).1 #[.int .i64 v] (by simp[show a'.eval (.tmp 37)=_ from (hdep 4 (mem_of (by show _=_;kernel_rfl)) 37 (by show _=_;kernel_rfl))]) (fun _ _=>enters Tryz.func188 (by kernel_rfl) rfl _ _) ((Agg.of_ok v w').mono (fun e w2 ⟨h1,h2⟩=>⟨_,h1,rfl,h2⟩)) ?_
   rintro x w2 ⟨rfl,h2⟩;exact hK _ _ rfl h2
  |6,_,ho=>
   refine wp_val (V:=(one key s e v).v) (w':=w') ?_ (hK _ _ rfl (Below.refl _ _))
   have hop:=(Reg.Has.op (p:=Op.build 133 #[(0,.tmp 35),(1,.tmp 36),(2,.tmp 38)]) (t:=39) (by show _=_;kernel_rfl) ho).1
   have h2:a'.eval (.tmp 35)=.string key:=(hdep 2 (mem_of (by show _=_;kernel_rfl)) 35 (by show _=_;kernel_rfl))
   have h3:a'.eval (.tmp 36)=win s e:=(hdep 3 (mem_of (by show _=_;kernel_rfl)) 36 (by show _=_;kernel_rfl))
   have h5:a'.eval (.tmp 38)=Agg.agv 1 v v v:=(hdep 5 (mem_of (by show _=_;kernel_rfl)) 38 (by show _=_;kernel_rfl))
   generalize a'.eval=ev at h2 h3 h5;simp[execOp,hop,h2,h3,h5,go_sem]
  |7,_,ho=>exact Sl.wp_lit1 (K:=Pn.k) (.tmp 39) (one key s e v) (Reg.Has.op (p:=Op.buildSlice 41 1 #[(0,.tmp 39)]) (t:=40) (by show _=_;kernel_rfl) ho).1 (hdep 6 (mem_of (by show _=_;kernel_rfl)) 39 (by show _=_;kernel_rfl)) (Pn.lit1 _ _) (hK _ _ ⟨_,rfl,Lies.new _ _ _,hB.size⟩ (below1 _ _))
 ·intro f w' hv hB hev
  have e0:f 0=v':=hv 0 (by omega)
  have e1:f 1=.int .i64 k:=hv 1 (by omega)
  obtain⟨g,e7,z7,hg⟩:=hv 7 (by omega)
  change wpList _ _ _ [_,_] (Act.put (Act.put (Act.put (Act.put (Act.put (Act.put (Act.put (Act.put _ (some 33) (f 0)) (some 34) (f 1)) (some 35) (f 2)) (some 36) (f 3)) (some 37) (f 4)) (some 38) (f 5)) (some 39) (f 6)) (some 40) (f 7)) _
  rw[Rel.puts_zero];clear hv hev;rw[e0,e1,e7];have Z:=hid z7;have O3:=hid (O2.out.next hB);have K3:=hid (after K2.out hB);have hl:Hid (w1.heap.size≤w'.heap.size):=hid (Nat.le_trans h12.out hB.size);have hvb:∀ q,v'.ownBlock=some q→g≠q:=fun q hq=>by have:=(O2.out.lt q hq).2;omega
  go_wp2_with fail
  refine (insert_ok w1.heap.size k g v' L (one key s e v) w' O3 hl.out A.out.le hn Z hvb).mono ?_
  rintro r w3 ⟨v3,rfl,o4,g4,-⟩;have O4:=hid (own_base o4 hle.out);have K4:Hid (Below w.heap.size w w3):=hid (K3.out.grown g4 K3.out.size (fun q hq=>by have:=(O2.out.lt q hq).1;have:=hle.out;omega))
  clear o4 g4;go_wp2;go_ret;exact⟨v3,rfl,O4.out,K4.out⟩
set_option maxRecDepth 100000 in
theorem put_yes(l:Value)(L:List Pn)(b k:Nat)(key:ByteArray)(s e v:Int)(p:Pn)(w:World)(H:Hid (Sl.Is Pn.k w l L b))(hn:L.length≤9000)(A:Hid (At L s e k))(hx:Hid (L[k]?=some p))(he:Hid (Eq2 p s e)):
  Calls Tryz.prog 171 #[l,.string key,win s e,.int .i64 v] w fun r w'=>∃ v',r=.returned v'∧Sl.Own Pn.k w.heap.size w' v' (L.set k (mk p.key p.s p.e (Agg.mrg (ag p) (Agg.one4 v))))∧Below w.heap.size w w':=by
 have C:=hid fun w:World=>Agg.add_ok (ag p) v w
 generalize Agg.mrg (ag p) (Agg.one4 v)=z at *
 obtain⟨za,zb,zc,zd⟩:=z
 simp only[Agg.A4.val] at C
 have hk:=lt_of_at hx.out
 have K0:=hid (below1 w (Obj.cells #[.int .i64 s,.int .i64 e] 129))
 go_enter Tryz.func171,Tryz.ntmps171
 go_wp2_with fail
 refine (place_ok _ L b k s e true _ (hid (H.out.next K0.out)) hn A (hid ⟨fun _=>⟨p,hx.out,he.out⟩,fun _=>rfl⟩)).mono ?_
 rintro r w1 ⟨rfl,k1⟩
 have K1:=hid (after K0.out k1)
 clear k1
 go_wp2_with fail
 refine (clone_ok _ L b _ (hid (H.out.next K1.out)) hn).mono ?_
 rintro r w2 ⟨v',rfl,o2,k2⟩
 have K2:=hid (after K1.out k2)
 have hle:Hid (w.heap.size≤w1.heap.size):=hid K1.out.size
 obtain⟨g,cap,cur,rfl,hg,h3,h4,h5,h6,h7⟩:∃ g cap cur,v'=.slice (some ⟨g,0,none⟩) L.length cap∧w1.heap.size≤g∧w2.heap[g]?=some (.cells cur 133 (0,0))∧L.length≤cap∧cap≤maxLen∧cur.size=cap*7∧cur.toList.take (L.length*7)=Sl.flat Pn.k L:=by
  rcases o2.2 with ⟨_,q⟩|q
  ·omega
  ·exact q
 have O2:=hid o2
 have hgl:g<w2.heap.size:=Reg.block_lt h3
 have cellAt:∀ j u,p.cl[j]?=some u→w2.cell? ⟨g,k*7+j,none⟩=some u:=fun j u hj=>by
  rw[cell_of_row w2 g _ cur _ (0,0) h3];have:=Sl.flat_at Pn.ok hx.out hj;rw[←h7,List.getElem?_take] at this
  split at this
  ·simpa using this
  ·cases this
 have fz:∀ w':World,w'.heap[g]?=w2.heap[g]?→∀ i:Nat,w'.frozen? ⟨g,i,none⟩=false:=fun w' q i=>by simp[World.frozen?,q,h3]
 have c3:=cellAt 3 _ rfl
 have c4:=cellAt 4 _ rfl
 have c5:=cellAt 5 _ rfl
 have c6:=cellAt 6 _ rfl
 have FZ:=hid fz
 have i0:(k:Int)<L.length:=by omega
 clear k2 o2 h3 h4 h5 h6 h7 cellAt fz
 go_wp2_with fail
 refine (C.out _).mono ?_
 rintro r w3 ⟨rfl,k3⟩
 have q3:=k3.block g hgl
 have c3:=cell_keep k3 c3
 have c4:=cell_keep k3 c4
 have c5:=cell_keep k3 c5
 have c6:=cell_keep k3 c6
 have f3:=FZ.out w3 q3 (k*7+3)
 have f4:=FZ.out w3 q3 (k*7+4)
 have f5:=FZ.out w3 q3 (k*7+5)
 have f6:=FZ.out w3 q3 (k*7+6)
 have O3:=hid (own_set (O2.out.next k3) hx.out za zb zc zd)
 have K3:Hid (Below w.heap.size w ((((w3.setCell ⟨g,k*7+3,none⟩ (.int .i64 za)).setCell ⟨g,k*7+4,none⟩ (.int .i64 zb)).setCell ⟨g,k*7+5,none⟩ (.int .i64 zc)).setCell ⟨g,k*7+6,none⟩ (.int .i64 zd))):=
  hid (((((after K2.out k3).setCell (by show w.heap.size≤g;have:=hle.out;omega) _).setCell (by show w.heap.size≤g;have:=hle.out;omega) _).setCell (by show w.heap.size≤g;have:=hle.out;omega) _).setCell (by show w.heap.size≤g;have:=hle.out;omega) _)
 clear k3 q3
 go_wp2
 go_ret
 exact⟨_,rfl,own_base O3.out hle.out,K3.out⟩
end Pane
end Go.Proofs.YtfjlnniahfbdfaaGreat
