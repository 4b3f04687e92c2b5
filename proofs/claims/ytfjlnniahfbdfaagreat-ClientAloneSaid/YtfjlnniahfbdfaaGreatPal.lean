/- A part of the proof. -/
import Derived.Test.YtfjlnniahfbdfaaGreatPai
import Derived.Test.YtfjlnniahfbdfaaGreatPaj
import Derived.Test.YtfjlnniahfbdfaaGreatPaf
import Derived.Test.YtfjlnniahfbdfaaGreatPak
import Derived.StillTailTactics
import Derived.Deep.DeepCutAuto
set_option linter.unusedVariables false
set_option maxHeartbeats 4000000
namespace Go.Proofs.YtfjlnniahfbdfaaGreat
open Lib (hid)
open Go.ChangeShapes Go.WideShapes Go.ChangeAt Go.RowKit
namespace Grp
open Small Foot Pane
def Mc(B gx g m:Nat)(x:Tmr.Tm)(v:Value)(p:Pn)(L':List Pn)(i:Nat)(u:Value)(w:World):Prop:=match i with
 |0=>u=gp g
 |1=>u=gp g
 |2=>u=.pointer (some ⟨g,8,none⟩)
 |3=>u=.map (some m)
 |4=>u=.pointer (some ⟨gx,0,none⟩)
 |5=>u=.string x.key
 |6=>u=v
 |7=>u=.pointer (some ⟨gx,1,none⟩)
 |8=>u=win x.s x.e
 |9=>∃ v',u=.tuple #[v',p.v,.bool true]∧Sl.Own Pn.k B w v' L'
 |10=>∃ v',u=.tuple #[v',p.v,.bool true]∧Sl.Own Pn.k B w v' L'
 |11=>Sl.Own Pn.k B w u L'
 |12=>u=p.v
 |13=>u=.bool true
 |14=>∃ g,u=.pointer (some ⟨g,0,none⟩)∧B≤g∧∃ q:Pn,Lies w g 133 q.cl
 |15=>Sl.Own Pn.k B w u L'
 |16=>∃ g,u=.pointer (some ⟨g,0,none⟩)∧Lies w g 133 p.cl
 |_=>True
theorem Mc.mono(B gx g m:Nat)(x:Tmr.Tm)(v:Value)(p:Pn)(L':List Pn):∀ i u w w',Mc B gx g m x v p L' i u w→Below w.heap.size w w'→Mc B gx g m x v p L' i u w'
 |0,u,w,w',h,k=>h
 |1,u,w,w',h,k=>h
 |2,u,w,w',h,k=>h
 |3,u,w,w',h,k=>h
 |4,u,w,w',h,k=>h
 |5,u,w,w',h,k=>h
 |6,u,w,w',h,k=>h
 |7,u,w,w',h,k=>h
 |8,u,w,w',h,k=>h
 |9,u,w,w',⟨v',h1,h2⟩,k=>⟨v',h1,Sl.Own.next (K:=Pn.k) h2 k⟩
 |10,u,w,w',⟨v',h1,h2⟩,k=>⟨v',h1,Sl.Own.next (K:=Pn.k) h2 k⟩
 |11,u,w,w',h,k=>Sl.Own.next (K:=Pn.k) h k
 |12,u,w,w',h,k=>h
 |13,u,w,w',h,k=>h
 |14,u,w,w',⟨g,h1,h2,q,h3⟩,k=>⟨g,h1,h2,q,h3.next k⟩
 |15,u,w,w',h,k=>Sl.Own.next (K:=Pn.k) h k
 |16,u,w,w',⟨g,h1,h3⟩,k=>⟨g,h1,h3.next k⟩
 |i+17,u,w,w',h,k=>trivial
theorem Mc.top(B gx g m:Nat)(x:Tmr.Tm)(v:Value)(p:Pn)(L':List Pn)(j:Nat)(h:17≤j)(u:Value)(w:World):Mc B gx g m x v p L' j u w:=by
 match j,h with
 |j+17,_=>trivial
def ob:Value→Option Nat
 |.tuple vs=>(vs[0]?.getD undef).ownBlock
 |v=>v.ownBlock
theorem ob_own{B:Nat}{w:World}{v:Value}{L:List Pn}(h:Sl.Own Pn.k B w v L):ob v=v.ownBlock:=by
 obtain⟨b,-,hi⟩:=h.is
 obtain⟨a,c,rfl⟩:=hi.len
 rfl
theorem ob_tuple{B:Nat}{w:World}{v:Value}{L:List Pn}(h:Sl.Own Pn.k B w v L)(a b:Value):ob (.tuple #[v,a,b])=ob v:=by
 rw[ob_own h];rfl
def X(D:Nat→Bool)(f:Nat→Value):Prop:=∀ j,(j=9∨j=10∨j=11∨j=15)→D j=true→D 14=true→∀ g,f 14=.pointer (some ⟨g,0,none⟩)→ob (f j)≠some g
section
open RelJ
variable {D:Nat→Bool} {f:Nat→Value} {v:Value}
theorem X_skip(i:Nat)(hi:¬(i=9∨i=10∨i=11∨i=14∨i=15))(h:X D f):X (updD D i) (updF f i v):=fun j hj hDj h14 g hg=>by
 rw[updF_other _ _ (by omega)] at hg ⊢
 rw[updD_other _ (by omega)] at hDj h14
 exact h j hj hDj h14 g hg
theorem X_nine(h:X D f)(hv:D 14=true→∀ g,f 14=.pointer (some ⟨g,0,none⟩)→ob v≠some g):X (updD D 9) (updF f 9 v):=fun j hj hDj h14 g hg=>by
 rw[updF_other _ _ (by omega)] at hg
 rw[updD_other _ (by omega)] at h14
 by_cases e:j=9
 ·subst e;rw[updF_same];exact hv h14 g hg
 ·rw[updF_other _ _ e];rw[updD_other _ e] at hDj;exact h j hj hDj h14 g hg
theorem X_copy(i d:Nat)(hi:i=10∨i=11∨i=15)(hd:d=9∨d=10∨d=11)(e:ob v=ob (f d))(hDd:D d=true)(h:X D f):X (updD D i) (updF f i v):=fun j hj hDj h14 g hg=>by
 rw[updF_other _ _ (by omega)] at hg
 rw[updD_other _ (by omega)] at h14
 by_cases ej:j=i
 ·subst ej;rw[updF_same,e];exact h d (by omega) hDd h14 g hg
 ·rw[updF_other _ _ ej];rw[updD_other _ ej] at hDj;exact h j hj hDj h14 g hg
theorem X_14{g1:Nat}(h:X D f)(hv:∀ j,(j=9∨j=10∨j=11∨j=15)→D j=true→ob (f j)≠some g1):X (updD D 14) (updF f 14 (.pointer (some ⟨g1,0,none⟩))):=fun j hj hDj h14 g hg=>by
 rw[updF_same] at hg
 obtain rfl:g1=g:=by simpa using hg
 rw[updF_other _ _ (by omega)]
 rw[updD_other _ (by omega)] at hDj
 exact hv j hj hDj
end
theorem Mc.ob_lt{B gx g m:Nat}{x:Tmr.Tm}{v:Value}{p:Pn}{L':List Pn}{u:Value}{w:World}(j:Nat)(hj:j=9∨j=10∨j=11∨j=15)(h:Mc B gx g m x v p L' j u w)(b:Nat)(hb:ob u=some b):b<w.heap.size:=by
 rcases hj with rfl|rfl|rfl|rfl
 ·obtain⟨v',rfl,o⟩:=h;rw[ob_tuple o,ob_own o] at hb;exact (o.lt b hb).2
 ·obtain⟨v',rfl,o⟩:=h;rw[ob_tuple o,ob_own o] at hb;exact (o.lt b hb).2
 ·have o:Sl.Own Pn.k B w u L':=h;rw[ob_own o] at hb;exact (o.lt b hb).2
 ·have o:Sl.Own Pn.k B w u L':=h;rw[ob_own o] at hb;exact (o.lt b hb).2
theorem own_stay{B g1:Nat}{w w':World}{v:Value}{L:List Pn}(h:Sl.Own Pn.k B w v L)(k:w.grownBy w' (some g1))(hne:ob v≠some g1):Sl.Own Pn.k B w' v L:=
 h.move fun a ha=>k.block a (h.lt a ha).2 fun e=>hne (by rw[ob_own h,ha,e])
theorem Mc.stay{B gx g m:Nat}{x:Tmr.Tm}{v:Value}{p:Pn}{L':List Pn}{u:Value}{w w':World}{g1:Nat}(j:Nat)(h:Mc B gx g m x v p L' j u w)(k:w.grownBy w' (some g1))(o:Lies w' g1 133 p.cl)
  (hx:(j=9∨j=10∨j=11∨j=15)→ob u≠some g1) (h14:j=14→u=.pointer (some ⟨g1,0,none⟩)):Mc B gx g m x v p L' j u w':=by
 match j,h,hx,h14 with
 |0,h,_,_=>exact h
 |1,h,_,_=>exact h
 |2,h,_,_=>exact h
 |3,h,_,_=>exact h
 |4,h,_,_=>exact h
 |5,h,_,_=>exact h
 |6,h,_,_=>exact h
 |7,h,_,_=>exact h
 |8,h,_,_=>exact h
 |9,⟨v',h1,h2⟩,hx,_=>exact⟨v',h1,own_stay h2 k (by have:=hx (by simp);rw[h1,ob_tuple h2] at this;exact this)⟩
 |10,⟨v',h1,h2⟩,hx,_=>exact⟨v',h1,own_stay h2 k (by have:=hx (by simp);rw[h1,ob_tuple h2] at this;exact this)⟩
 |11,h,hx,_=>exact own_stay (show Sl.Own Pn.k B w u L' from h) k (hx (by simp))
 |12,h,_,_=>exact h
 |13,h,_,_=>exact h
 |14,⟨g2,h1,h2,q,h3⟩,_,h14=>
  have e:g1=g2:=by have:=h14 rfl;rw[h1] at this;simpa using this.symm
  exact⟨g2,h1,h2,p,e▸o⟩
 |15,h,hx,_=>exact own_stay (show Sl.Own Pn.k B w u L' from h) k (hx (by simp))
 |16,⟨g2,h1,h3⟩,_,_=>
  by_cases e:g2=g1
  ·subst e;exact⟨g2,h1,o⟩
  ·exact⟨g2,h1,lies_grown h3 k (fun q=>e (Option.some.inj q))⟩
 |j+17,_,_,_=>trivial
theorem put7_grown(w:World)(g:Nat)(a b c d e f h:Value):w.grownBy (put7 w g a b c d e f h) (some g):=
 grown_cells _ (grown_cells _ (grown_cells _ (grown_cells _ (grown_cells _ (grown_cells _ (grown_cells _ (grown_refl _ _)))))))
theorem op_at{ops:Array Oper}{k:Nat}{o:Oper}{p:Op}{d:Option Tmp}(h:(ops[k]?).map (fun o=>(o.op,o.dst))=some (p,d))(ho:ops[k]?=some o):o.op=p∧o.dst=d:=by
 rw[ho] at h
 simpa using h
theorem wp_skip{o:Oper}{a:Act}{w w':World}{Kc:Act→World→Prop}{Q:Exit→Act→World→Prop}(hr:(execOp a.eval o).run Tryz.prog w=.ok .skip w')(hK:Kc (a.put o.dst undef) w'):o.wp Tryz.prog a w Kc Q:=by
 unfold Oper.wp
 rw[hr]
 exact hK
theorem ne_none{ops:Array Oper}{k:Nat}{t:Tmp}(h:Rel.dstOf ops k=some t):Rel.dstOf ops k≠none:=by rw[h];simp
set_option maxRecDepth 100000 in
theorem cut_ok{g m tg n cnt k:Nat}{cf:C8}{S:Lists}{M:Tmr.Tm→Prop}{fm:ByteArray→Option Value}{FT Bk:Nat→Prop}(x:Tmr.Tm)(p:Pn)(w:World)(H:Hid (Gq w g m tg cf S M n cnt fm FT Bk))(RL:Hid (Rises (S x.key)))
  (A:Hid (At (S x.key) x.s x.e k)) (hx:Hid ((S x.key)[k]?=some p)) (he:Hid (Eq2 p x.s x.e)) (hn:(S x.key).length≤9000) (hk:x.key.size≤maxLen) (hc:cnt≤1048576):
  Calls Tryz.prog 141 #[gp g,Tmr.tv x] w fun r w'=>∃ f' cnt' Bk',r=.returned p.v∧cnt'≤cnt∧Gq w' g m tg cf (S.set x.key ((S x.key).take k++(S x.key).drop (k+1))) M n cnt' f' FT Bk'∧Moves (Fp g m FT) (Fp g m FT) w w'∧∀ b,Bk' b→Bk b∨(w.heap.size≤b∧b<w'.heap.size):=by
 have K0:=hid (below2 w (Obj.cells #[.string x.key,.int .i64 x.s,.int .i64 x.e] 218) (Obj.cells #[.string ⟨#[]⟩,.int .i64 0,.int .i64 0,.int .i64 0,.int .i64 0,.int .i64 0,.int .i64 0] 133))
 have X0:=hid ((Lies.new w 218 [.string x.key,.int .i64 x.s,.int .i64 x.e]).next (below1 _ (Obj.cells #[.string ⟨#[]⟩,.int .i64 0,.int .i64 0,.int .i64 0,.int .i64 0,.int .i64 0,.int .i64 0] 133)))
 have Z0:=Lies.new (w.alloc (Obj.cells #[.string x.key,.int .i64 x.s,.int .i64 x.e] 218)) 133 zp.cl
 rw[World.size_alloc] at Z0
 have Z0:=hid Z0
 obtain⟨v,b,hv,iv⟩:=H.out.list x.key
 have I0:=hid (iv.next K0.out)
 have H0:=hid (H.out.next K0.out)
 have hv:=hid hv
 clear iv
 go_enter Tryz.func141,Tryz.ntmps141
 go_wp2_with fail
 change Hid (Below w.heap.size w ((w.alloc (Obj.cells #[.string x.key,.int .i64 x.s,.int .i64 x.e] 218)).alloc (Obj.cells #[.string ⟨#[]⟩,.int .i64 0,.int .i64 0,.int .i64 0,.int .i64 0,.int .i64 0,.int .i64 0] 133))) at K0
 generalize (w.alloc (Obj.cells #[.string x.key,.int .i64 x.s,.int .i64 x.e] 218)).alloc (Obj.cells #[.string ⟨#[]⟩,.int .i64 0,.int .i64 0,.int .i64 0,.int .i64 0,.int .i64 0,.int .i64 0] 133)=w0 at *
 have hz:Hid (w.heap.size+1<w0.heap.size):=hid Z0.out.lt
 obtain⟨gx,hgx⟩:∃ gx,gx=w.heap.size:=⟨_,rfl⟩
 rw[←hgx] at X0 Z0 ⊢
 have HG:=hid hgx
 clear hgx
 refine wp_region_inv 17 39 (fun D f w=>Below w0.heap.size w0 w∧(∀ j,D j=true→Mc w0.heap.size gx g m x v p ((S x.key).take k++(S x.key).drop (k+1)) j (f j) w)∧X D f) (by show _=_;kernel_rfl) (by show _=_;kernel_rfl) (by show _=_;kernel_rfl) (fun D f hD=>⟨(Below.refl _ _).drew,fun j hj=>Mc.top _ _ _ _ _ _ _ _ j (hD j hj) _ _,fun j hj hDj=>absurd (hD j hDj) (by omega)⟩) ?_ ?_
 ·intro i hi
  match i,hi with
  |0,_=>
   refine RelJ.Step.of (Ψ:=Mc w0.heap.size gx g m x v p ((S x.key).take k++(S x.key).drop (k+1))) (w0:=w0) (ne_none (t:=9) (by show _=_;kernel_rfl)) (fun D f w j h=>h.2.1 j) (fun D f w h=>h.1) (fun D f w v w' h _ _ hv hw=>⟨after h.1 hw,RelJ.all_put (fun j hj=>Mc.mono _ _ _ _ _ _ _ _ j _ _ _ (h.2.1 j hj) hw) hv,X_skip 0 (by simp) h.2.2⟩) ?_
   intro o ho a' w' Kc hd hout hdep hB hK;exact Sl.wp_move _ (Reg.Has.op (p:=Op.move (.tmp 0)) (t:=9) (by show _=_;kernel_rfl) ho).1 (hK _ _ (hout 0 (Reg.Free.out (by show _=_;kernel_rfl))) (Below.refl _ _))
  |1,_=>
   refine RelJ.Step.of (Ψ:=Mc w0.heap.size gx g m x v p ((S x.key).take k++(S x.key).drop (k+1))) (w0:=w0) (ne_none (t:=10) (by show _=_;kernel_rfl)) (fun D f w j h=>h.2.1 j) (fun D f w h=>h.1) (fun D f w v w' h _ _ hv hw=>⟨after h.1 hw,RelJ.all_put (fun j hj=>Mc.mono _ _ _ _ _ _ _ _ j _ _ _ (h.2.1 j hj) hw) hv,X_skip 1 (by simp) h.2.2⟩) ?_
   intro o ho a' w' Kc hd hout hdep hB hK;refine wp_val (V:=gp g) (w':=w') ?_ (hK _ _ rfl (Below.refl _ _))
   have hop:=(Reg.Has.op (p:=Op.nilCheck (.tmp 9)) (t:=10) (by show _=_;kernel_rfl) ho).1
   have h6:a'.eval (.tmp 9)=gp g:=(hdep 0 (mem_of (by show _=_;kernel_rfl)) 9 (by show _=_;kernel_rfl))
   generalize a'.eval=ev at h6;simp[execOp,hop,h6,go_sem]
  |2,_=>
   refine RelJ.Step.of (Ψ:=Mc w0.heap.size gx g m x v p ((S x.key).take k++(S x.key).drop (k+1))) (w0:=w0) (ne_none (t:=11) (by show _=_;kernel_rfl)) (fun D f w j h=>h.2.1 j) (fun D f w h=>h.1) (fun D f w v w' h _ _ hv hw=>⟨after h.1 hw,RelJ.all_put (fun j hj=>Mc.mono _ _ _ _ _ _ _ _ j _ _ _ (h.2.1 j hj) hw) hv,X_skip 2 (by simp) h.2.2⟩) ?_
   intro o ho a' w' Kc hd hout hdep hB hK;refine wp_val (V:=.pointer (some ⟨g,8,none⟩)) (w':=w') ?_ (hK _ _ rfl (Below.refl _ _))
   have hop:=(Reg.Has.op (p:=Op.fieldAddr 190 (.tmp 10) 1) (t:=11) (by show _=_;kernel_rfl) ho).1
   have h6:a'.eval (.tmp 10)=.pointer (some ⟨g,0,none⟩):=(hdep 1 (mem_of (by show _=_;kernel_rfl)) 10 (by show _=_;kernel_rfl))
   generalize a'.eval=ev at h6;simp[execOp,hop,h6,go_sem]
  |3,_=>
   refine RelJ.Step.of (Ψ:=Mc w0.heap.size gx g m x v p ((S x.key).take k++(S x.key).drop (k+1))) (w0:=w0) (ne_none (t:=12) (by show _=_;kernel_rfl)) (fun D f w j h=>h.2.1 j) (fun D f w h=>h.1) (fun D f w v w' h _ _ hv hw=>⟨after h.1 hw,RelJ.all_put (fun j hj=>Mc.mono _ _ _ _ _ _ _ _ j _ _ _ (h.2.1 j hj) hw) hv,X_skip 3 (by simp) h.2.2⟩) ?_
   intro o ho a' w' Kc hd hout hdep hB hK;refine wp_val (V:=.map (some m)) (w':=w') ?_ (hK _ _ rfl (Below.refl _ _))
   have hop:=(Reg.Has.op (p:=Op.load 186 (.tmp 11)) (t:=12) (by show _=_;kernel_rfl) ho).1
   have h6:a'.eval (.tmp 11)=.pointer (some ⟨g,8,none⟩):=(hdep 2 (mem_of (by show _=_;kernel_rfl)) 11 (by show _=_;kernel_rfl))
   have k0:=(H0.out.next hB).lies.cell (i:=8) rfl;generalize a'.eval=ev at h6;simp[execOp,hop,h6,go_sem,k0]
  |4,_=>
   refine RelJ.Step.of (Ψ:=Mc w0.heap.size gx g m x v p ((S x.key).take k++(S x.key).drop (k+1))) (w0:=w0) (ne_none (t:=13) (by show _=_;kernel_rfl)) (fun D f w j h=>h.2.1 j) (fun D f w h=>h.1) (fun D f w v w' h _ _ hv hw=>⟨after h.1 hw,RelJ.all_put (fun j hj=>Mc.mono _ _ _ _ _ _ _ _ j _ _ _ (h.2.1 j hj) hw) hv,X_skip 4 (by simp) h.2.2⟩) ?_
   intro o ho a' w' Kc hd hout hdep hB hK;refine wp_val (V:=.pointer (some ⟨gx,0,none⟩)) (w':=w') ?_ (hK _ _ rfl (Below.refl _ _))
   have hop:=(Reg.Has.op (p:=Op.fieldAddr 218 (.tmp 3) 0) (t:=13) (by show _=_;kernel_rfl) ho).1
   have h6:a'.eval (.tmp 3)=.pointer (some ⟨gx,0,none⟩):=(hout 3 (Reg.Free.out (by show _=_;kernel_rfl)))
   generalize a'.eval=ev at h6;simp[execOp,hop,h6,go_sem]
  |5,_=>
   refine RelJ.Step.of (Ψ:=Mc w0.heap.size gx g m x v p ((S x.key).take k++(S x.key).drop (k+1))) (w0:=w0) (ne_none (t:=14) (by show _=_;kernel_rfl)) (fun D f w j h=>h.2.1 j) (fun D f w h=>h.1) (fun D f w v w' h _ _ hv hw=>⟨after h.1 hw,RelJ.all_put (fun j hj=>Mc.mono _ _ _ _ _ _ _ _ j _ _ _ (h.2.1 j hj) hw) hv,X_skip 5 (by simp) h.2.2⟩) ?_
   intro o ho a' w' Kc hd hout hdep hB hK;refine wp_val (V:=.string x.key) (w':=w') ?_ (hK _ _ rfl (Below.refl _ _))
   have hop:=(Reg.Has.op (p:=Op.load 9 (.tmp 13)) (t:=14) (by show _=_;kernel_rfl) ho).1
   have h6:a'.eval (.tmp 13)=.pointer (some ⟨gx,0,none⟩):=(hdep 4 (mem_of (by show _=_;kernel_rfl)) 13 (by show _=_;kernel_rfl))
   have k0:=(X0.out.next hB).cell (i:=0) rfl;generalize a'.eval=ev at h6;simp[execOp,hop,h6,go_sem,k0]
  |6,_=>
   refine RelJ.Step.of (Ψ:=Mc w0.heap.size gx g m x v p ((S x.key).take k++(S x.key).drop (k+1))) (w0:=w0) (ne_none (t:=15) (by show _=_;kernel_rfl)) (fun D f w j h=>h.2.1 j) (fun D f w h=>h.1) (fun D f w v w' h _ _ hv hw=>⟨after h.1 hw,RelJ.all_put (fun j hj=>Mc.mono _ _ _ _ _ _ _ _ j _ _ _ (h.2.1 j hj) hw) hv,X_skip 6 (by simp) h.2.2⟩) ?_
   intro o ho a' w' Kc hd hout hdep hB hK;refine wp_val (V:=v) (w':=w') ?_ (hK _ _ rfl (Below.refl _ _))
   have hop:=(Reg.Has.op (p:=Op.lookup 186 (.tmp 12) (.tmp 14) false) (t:=15) (by show _=_;kernel_rfl) ho).1
   have h2:a'.eval (.tmp 12)=.map (some m):=(hdep 3 (mem_of (by show _=_;kernel_rfl)) 12 (by show _=_;kernel_rfl))
   have h4:a'.eval (.tmp 14)=.string x.key:=(hdep 5 (mem_of (by show _=_;kernel_rfl)) 14 (by show _=_;kernel_rfl))
   have hl:=(H0.out.next hB).map.look hk;rw[hv.out] at hl;generalize a'.eval=ev at h2 h4;simp[execOp,hop,h2,h4,hl,Result.andThen]
  |7,_=>
   refine RelJ.Step.of (Ψ:=Mc w0.heap.size gx g m x v p ((S x.key).take k++(S x.key).drop (k+1))) (w0:=w0) (ne_none (t:=16) (by show _=_;kernel_rfl)) (fun D f w j h=>h.2.1 j) (fun D f w h=>h.1) (fun D f w v w' h _ _ hv hw=>⟨after h.1 hw,RelJ.all_put (fun j hj=>Mc.mono _ _ _ _ _ _ _ _ j _ _ _ (h.2.1 j hj) hw) hv,X_skip 7 (by simp) h.2.2⟩) ?_
   intro o ho a' w' Kc hd hout hdep hB hK;refine wp_val (V:=.pointer (some ⟨gx,1,none⟩)) (w':=w') ?_ (hK _ _ rfl (Below.refl _ _))
   have hop:=(Reg.Has.op (p:=Op.fieldAddr 218 (.tmp 3) 1) (t:=16) (by show _=_;kernel_rfl) ho).1
   have h6:a'.eval (.tmp 3)=.pointer (some ⟨gx,0,none⟩):=(hout 3 (Reg.Free.out (by show _=_;kernel_rfl)))
   generalize a'.eval=ev at h6;simp[execOp,hop,h6,go_sem]
  |8,_=>
   refine RelJ.Step.of (Ψ:=Mc w0.heap.size gx g m x v p ((S x.key).take k++(S x.key).drop (k+1))) (w0:=w0) (ne_none (t:=17) (by show _=_;kernel_rfl)) (fun D f w j h=>h.2.1 j) (fun D f w h=>h.1) (fun D f w v w' h _ _ hv hw=>⟨after h.1 hw,RelJ.all_put (fun j hj=>Mc.mono _ _ _ _ _ _ _ _ j _ _ _ (h.2.1 j hj) hw) hv,X_skip 8 (by simp) h.2.2⟩) ?_
   intro o ho a' w' Kc hd hout hdep hB hK;refine wp_val (V:=win x.s x.e) (w':=w') ?_ (hK _ _ rfl (Below.refl _ _))
   have hop:=(Reg.Has.op (p:=Op.load 129 (.tmp 16)) (t:=17) (by show _=_;kernel_rfl) ho).1
   have h6:a'.eval (.tmp 16)=.pointer (some ⟨gx,1,none⟩):=(hdep 7 (mem_of (by show _=_;kernel_rfl)) 16 (by show _=_;kernel_rfl))
   have k0:=(X0.out.next hB).cell (i:=1) rfl;have k1:=(X0.out.next hB).cell (i:=2) rfl;generalize a'.eval=ev at h6;simp[execOp,hop,h6,go_sem,k0,k1]
  |9,_=>
   intro o ho a' w' D f Kc hd hout hDi hdep hJ hK;obtain⟨hB,hall,hX⟩:=hJ;refine wp_call (S:=fun u w2=>(∃ v',u=.tuple #[v',p.v,.bool true]∧Sl.Own Pn.k w'.heap.size w2 v' _)∧Below w'.heap.size w' w2) (Reg.Has.op (p:=Op.call {callee:=Callee.value (.func 164),args:=#[.tmp 15,.tmp 17],argTypes:=#[41,129]}) (t:=18) (by show _=_;kernel_rfl) ho).1 #[v,win x.s x.e] (by simp[show a'.eval (.tmp 15)=_ from ((hdep 6 (mem_of (by show _=_;kernel_rfl))).2 15 (by show _=_;kernel_rfl)),show f 6=_ from hall 6 (hdep 6 (mem_of (by show _=_;kernel_rfl))).1,show a'.eval (.tmp 17)=_ from ((hdep 8 (mem_of (by show _=_;kernel_rfl))).2 17 (by show _=_;kernel_rfl)),show f 8=_ from hall 8 (hdep 8 (mem_of (by show _=_;kernel_rfl))).1]) (fun _ _=>enters Tryz.func164 (by kernel_rfl) rfl _ _) ((cut_yes v (S x.key) b k x.s x.e p w' (hid (I0.out.next hB)) hn A hx he).mono (fun e w2 ⟨v',h1,h2,h3⟩=>⟨_,h1,⟨v',rfl,h2⟩,h3⟩)) ?_
   rintro u w2 ⟨⟨v',rfl,h1⟩,h2⟩;refine hK _ _ (fun t hn=>absurd ((Reg.Has.op (p:=Op.call {callee:=Callee.value (.func 164),args:=#[.tmp 15,.tmp 17],argTypes:=#[41,129]}) (t:=18) (by show _=_;kernel_rfl) ho).2.symm.trans hn) (by simp)) ⟨after hB h2,RelJ.all_put (fun j hj=>Mc.mono _ _ _ _ _ _ _ _ j _ _ _ (hall j hj) h2) ⟨v',rfl,own_base h1 hB.size⟩,X_nine hX fun h14 g1 hg hob=>?_⟩
   obtain⟨g2,e2,_,q,lq⟩:=hall 14 h14;obtain rfl:g1=g2:=by rw[hg] at e2;simpa using e2
   have:=(h1.lt _ hob).1;have:=lq.lt;omega
  |10,_=>
   intro o ho a' w' D f Kc hd hout hDi hdep hJ hK;obtain⟨hB,hall,hX⟩:=hJ;have e0:a'.eval (.tmp 18)=f 9:=((hdep 9 (mem_of (by show _=_;kernel_rfl))).2 18 (by show _=_;kernel_rfl))
   obtain⟨v',h1,h2⟩:=hall 9 (hdep 9 (mem_of (by show _=_;kernel_rfl))).1
   exact Sl.wp_move _ (Reg.Has.op (p:=Op.move (.tmp 18)) (t:=8) (by show _=_;kernel_rfl) ho).1 (hK _ _ (fun t hn=>absurd ((Reg.Has.op (p:=Op.move (.tmp 18)) (t:=8) (by show _=_;kernel_rfl) ho).2.symm.trans hn) (by simp)) ⟨hB,RelJ.all_put hall ⟨v',e0.trans h1,h2⟩,X_copy 10 9 (by simp) (by simp) (by rw[e0]) (hdep 9 (mem_of (by show _=_;kernel_rfl))).1 hX⟩)
  |11,_=>
   intro o ho a' w' D f Kc hd hout hDi hdep hJ hK;obtain⟨hB,hall,hX⟩:=hJ;have e0:a'.eval (.tmp 8)=f 10:=((hdep 10 (mem_of (by show _=_;kernel_rfl))).2 8 (by show _=_;kernel_rfl))
   obtain⟨v',h1,h2⟩:=hall 10 (hdep 10 (mem_of (by show _=_;kernel_rfl))).1
   rw[h1] at e0;refine wp_val (V:=v') (w':=w') ?_ (hK _ _ (fun t hn=>absurd ((Reg.Has.op (p:=Op.extract (.tmp 8) 0) (t:=19) (by show _=_;kernel_rfl) ho).2.symm.trans hn) (by simp)) ⟨hB,RelJ.all_put hall h2,X_copy 11 10 (by simp) (by simp) (by rw[h1];exact (ob_tuple h2 _ _).symm) (hdep 10 (mem_of (by show _=_;kernel_rfl))).1 hX⟩)
   have hop:=(Reg.Has.op (p:=Op.extract (.tmp 8) 0) (t:=19) (by show _=_;kernel_rfl) ho).1
   generalize a'.eval=ev at e0;simp[execOp,hop,e0,go_sem]
  |12,_=>
   refine RelJ.Step.of (Ψ:=Mc w0.heap.size gx g m x v p ((S x.key).take k++(S x.key).drop (k+1))) (w0:=w0) (ne_none (t:=20) (by show _=_;kernel_rfl)) (fun D f w j h=>h.2.1 j) (fun D f w h=>h.1) (fun D f w v w' h _ _ hv hw=>⟨after h.1 hw,RelJ.all_put (fun j hj=>Mc.mono _ _ _ _ _ _ _ _ j _ _ _ (h.2.1 j hj) hw) hv,X_skip 12 (by simp) h.2.2⟩) ?_
   intro o ho a' w' Kc hd hout hdep hB hK;obtain⟨v',h1,h2⟩:=(hdep 10 (mem_of (by show _=_;kernel_rfl)) 8 (by show _=_;kernel_rfl))
   have h1:a'.eval (.tmp 8)=_:=h1;refine wp_val (V:=p.v) (w':=w') ?_ (hK _ _ rfl (Below.refl _ _))
   have hop:=(Reg.Has.op (p:=Op.extract (.tmp 8) 1) (t:=20) (by show _=_;kernel_rfl) ho).1
   generalize a'.eval=ev at h1;simp[execOp,hop,h1,go_sem]
  |13,_=>
   refine RelJ.Step.of (Ψ:=Mc w0.heap.size gx g m x v p ((S x.key).take k++(S x.key).drop (k+1))) (w0:=w0) (ne_none (t:=21) (by show _=_;kernel_rfl)) (fun D f w j h=>h.2.1 j) (fun D f w h=>h.1) (fun D f w v w' h _ _ hv hw=>⟨after h.1 hw,RelJ.all_put (fun j hj=>Mc.mono _ _ _ _ _ _ _ _ j _ _ _ (h.2.1 j hj) hw) hv,X_skip 13 (by simp) h.2.2⟩) ?_
   intro o ho a' w' Kc hd hout hdep hB hK;obtain⟨v',h1,h2⟩:=(hdep 10 (mem_of (by show _=_;kernel_rfl)) 8 (by show _=_;kernel_rfl))
   have h1:a'.eval (.tmp 8)=_:=h1;refine wp_val (V:=.bool true) (w':=w') ?_ (hK _ _ rfl (Below.refl _ _))
   have hop:=(Reg.Has.op (p:=Op.extract (.tmp 8) 2) (t:=21) (by show _=_;kernel_rfl) ho).1
   generalize a'.eval=ev at h1;simp[execOp,hop,h1,go_sem]
  |14,_=>
   intro o ho a' w' D f Kc hd hout hDi hdep hJ hK;obtain⟨hB,hall,hX⟩:=hJ;refine wp_val (V:=.pointer (some ⟨w'.heap.size,0,none⟩)) (w':=w'.alloc (.cells zp.cl.toArray 133)) ?_ (hK _ _ (fun t hn=>absurd ((Reg.Has.op (p:=Op.alloc 133) (t:=6) (by show _=_;kernel_rfl) ho).2.symm.trans hn) (by simp)) ⟨after hB (below1 _ _),RelJ.all_put (fun j hj=>Mc.mono _ _ _ _ _ _ _ _ j _ _ _ (hall j hj) (below1 _ _)) ⟨_,rfl,hB.size,zp,Lies.new _ _ _⟩,X_14 hX fun j hj hDj hob=>?_⟩)
   ·have hop:=(Reg.Has.op (p:=Op.alloc 133) (t:=6) (by show _=_;kernel_rfl) ho).1
    simp[execOp,hop,go_sem]
   ·have h:=Mc.ob_lt j hj (hall j hDj) _ hob
    omega
  |15,_=>
   intro o ho a' w' D f Kc hd hout hDi hdep hJ hK;obtain⟨hB,hall,hX⟩:=hJ;have e0:a'.eval (.tmp 19)=f 11:=((hdep 11 (mem_of (by show _=_;kernel_rfl))).2 19 (by show _=_;kernel_rfl))
   exact wp_assign _ (Reg.Has.op (p:=Op.assign (.tmp 19)) (t:=5) (by show _=_;kernel_rfl) ho).1 (hK _ _ (fun t hn=>absurd ((Reg.Has.op (p:=Op.assign (.tmp 19)) (t:=5) (by show _=_;kernel_rfl) ho).2.symm.trans hn) (by simp)) ⟨hB,RelJ.all_put hall (by rw[e0];exact hall 11 (hdep 11 (mem_of (by show _=_;kernel_rfl))).1),X_copy 15 11 (by simp) (by simp) (by rw[e0]) (hdep 11 (mem_of (by show _=_;kernel_rfl))).1 hX⟩)
  |16,_=>
   intro o ho a' w' D f Kc hd hout hDi hdep hJ hK;obtain⟨hB,hall,hX⟩:=hJ;have hops:=op_at (p:=Op.store 133 (.tmp 6) (.tmp 20)) (d:=none) (by show _=_;kernel_rfl) ho
   have hop:=hops.1;have hdn:=hops.2;obtain⟨g1,e1,hg1,q,lq⟩:=hall 14 (hdep 14 (mem_of (by show _=_;kernel_rfl))).1
   have e6:a'.eval (.tmp 6)=.pointer (some ⟨g1,0,none⟩):=((hdep 14 (mem_of (by show _=_;kernel_rfl))).2 6 (by show _=_;kernel_rfl)).trans e1
   have e20:a'.eval (.tmp 20)=p.v:=((hdep 12 (mem_of (by show _=_;kernel_rfl))).2 20 (by show _=_;kernel_rfl)).trans (hall 12 (hdep 12 (mem_of (by show _=_;kernel_rfl))).1)
   obtain⟨⟨z0,z1,z2,z3,z4,z5,z6⟩,y0,y1,y2,y3,y4,y5,y6⟩:=seven lq;have O1:=put7_lies lq (.string p.key) (.int .i64 p.s) (.int .i64 p.e) (.int .i64 p.c) (.int .i64 p.m) (.int .i64 p.l) (.int .i64 p.u);have B1:=put7_below hB hg1 (.string p.key) (.int .i64 p.s) (.int .i64 p.e) (.int .i64 p.c) (.int .i64 p.m) (.int .i64 p.l) (.int .i64 p.u);have G1:=put7_grown w' g1 (.string p.key) (.int .i64 p.s) (.int .i64 p.e) (.int .i64 p.c) (.int .i64 p.m) (.int .i64 p.l) (.int .i64 p.u);refine wp_skip (w':=put7 w' g1 (.string p.key) (.int .i64 p.s) (.int .i64 p.e) (.int .i64 p.c) (.int .i64 p.m) (.int .i64 p.l) (.int .i64 p.u)) ?_ ?_
   ·have hev:a'.eval=a'.eval:=rfl
    generalize a'.eval=ev at e6 e20;simp[execOp,hop,e6,e20,go_sem,z0,z1,z2,z3,z4,z5,z6,y0,y1,y2,y3,y4,y5,y6]
   ·have:=hK (a'.eval (.tmp 6)) _ (fun t _ hs=>by
     have h6:=hs.symm.trans (show RelA.slotOf _ 16=some 6 from (by show _=_;kernel_rfl))
     cases h6
     rfl) ⟨B1,RelJ.all_put (fun j hj=>Mc.stay j (hall j hj) G1 O1 (fun hjj=>hX j hjj hj (hdep 14 (mem_of (by show _=_;kernel_rfl))).1 g1 e1) (fun h=>by subst h;exact e1)) ⟨g1,e6,O1⟩,X_skip 16 (by simp) hX⟩
    rw[hdn] at this ⊢;exact this
  |i+17,hi=>exact absurd hi (by omega)
 ·intro f D w' hD hJ hlink hev
  obtain⟨hB,hall,-⟩:=hJ;obtain⟨g1,e16,z7⟩:=hall 16 (hD 16 (by omega))
  have e14:f 14=.pointer (some ⟨g1,0,none⟩):=(hlink 16 14 6 (by omega) (by show _=_;kernel_rfl) (by omega) (by show _=_;kernel_rfl)).symm.trans e16
  have hg1:w0.heap.size≤g1:=by
   obtain⟨g2,e2,h2,-⟩:=hall 14 (hD 14 (by omega))
   rw[e14] at e2;obtain rfl:g1=g2:=by simpa using e2
   exact h2
  have o5:Sl.Own Pn.k w0.heap.size w' (f 15) ((S x.key).take k++(S x.key).drop (k+1)):=hall 15 (hD 15 (by omega))
  change wpList _ _ _ [_] (Act.put (Act.put (Act.put (Act.put (Act.put (Act.put (Act.put (Act.put (Act.put (Act.put (Act.put (Act.put (Act.put (Act.put (Act.put (Act.put (Act.put _ (some 9) (f 0)) (some 10) (f 1)) (some 11) (f 2)) (some 12) (f 3)) (some 13) (f 4)) (some 14) (f 5)) (some 15) (f 6)) (some 16) (f 7)) (some 17) (f 8)) (some 18) (f 9)) (some 8) (f 10)) (some 19) (f 11)) (some 20) (f 12)) (some 21) (f 13)) (some 6) (f 14)) (some 5) (f 15)) none (f 16)) _
  rw[Rel.puts_zero];rw[put_none];clear hlink hev hall hD e16;rw[e14];obtain⟨L',hL'⟩:∃ L',L'=(S x.key).take k++(S x.key).drop (k+1):=⟨_,rfl⟩;rw[←hL'] at o5;have HL:=hid hL';clear hL';obtain⟨b5,ob5,i5⟩:=o5.is;obtain⟨A5,c5,hv5⟩:=i5.len;rw[hv5] at i5 ⊢;have I5:=hid i5;have O5:=hid o5;have OB:=hid ob5;have K2:=hid (after K0.out hB);have H2:=hid (H0.out.next hB);have X2:=hid (X0.out.next hB);have Z2:=hid (Z0.out.next hB);have P2:=hid z7;have IN:Hid (∀ i,Fp g m FT i→i<w.heap.size):=hid H.out.in;have hsz:Hid (w0.heap.size≤w'.heap.size):=hid hB.size;have hgx:Hid (gx+1<w0.heap.size∧gx=w.heap.size):=hid ⟨by have:=hz.out;have:=HG.out;omega,HG.out⟩
  have hne:S x.key≠[]:=fun e=>by have:=hx.out;rw[e] at this;simp at this
  obtain⟨vm,bm,hfm,-⟩:=H.out.has hne;clear hv5 i5 o5 ob5 z7 hB;generalize f 0=f0 at *;generalize f 1=f1 at *;generalize f 2=f2 at *;generalize f 3=f3 at *;generalize f 4=f4 at *;generalize f 5=f5 at *;generalize f 6=f6 at *;generalize f 7=f7 at *;generalize f 8=f8 at *;generalize f 9=f9 at *;generalize f 10=f10 at *;generalize f 11=f11 at *;generalize f 12=f12 at *;generalize f 13=f13 at *;by_cases h0:L'=[]
  ·have q0:((L'.length:Int) == 0)=true:=by rw[h0];rfl
   have c8:=H2.out.lies.cell (i:=8) rfl;have x0:=X2.out.cell (i:=0) rfl;go_upto_region 3 with fail
   go_still_tail 6,(by kernel_rfl)
   refine wpList_drop rfl _ _ rfl (x:=x.key) (m:=m) rfl rfl (H2.out.map.kept rfl) hk hfm (updOf_ok _ _ _) ?_
   intro w1 M1 g1';have G1:Hid (w'.grownBy w1 (some m)):=hid ⟨g1'.os,g1'.tape,g1'.output,g1'.size,g1'.block⟩
   have nm:∀ i,w0.heap.size≤i→some i≠some m:=fun i hi e=>by
    have:=IN.out m (.inr (.inl rfl));obtain rfl:=Option.some.inj e;have:=K0.out.size;omega
   have mm:some gx≠some m∧some (gx+1)≠some m:=by
    have:=IN.out m (.inr (.inl rfl));have:=hgx.out;exact⟨fun e=>by have:=Option.some.inj e;omega,fun e=>by have:=Option.some.inj e;omega⟩
   have P3:=hid (lies_grown P2.out G1.out (nm _ hg1));have Z3:=hid (lies_grown Z2.out G1.out mm.2);have M1:=hid M1;clear g1' c8 x0;obtain⟨⟨c0,c1,c2,c3,c4,c5',c6⟩,-⟩:=seven P3.out;obtain⟨⟨z0,z1,z2,z3,z4,z5,z6⟩,y0,y1,y2,y3,y4,y5,y6⟩:=seven Z3.out;go_wp2
   change bodyPost _ _ _ _ _ (put7 w1 (gx+1) (.string p.key) (.int .i64 p.s) (.int .i64 p.e) (.int .i64 p.c) (.int .i64 p.m) (.int .i64 p.l) (.int .i64 p.u))
   obtain⟨W,hW⟩:∃ W,W=put7 w1 (gx+1) (.string p.key) (.int .i64 p.s) (.int .i64 p.e) (.int .i64 p.c) (.int .i64 p.m) (.int .i64 p.l) (.int .i64 p.u):=⟨_,rfl⟩;rw[←hW];have Z4:=put7_lies Z3.out (.string p.key) (.int .i64 p.s) (.int .i64 p.e) (.int .i64 p.c) (.int .i64 p.m) (.int .i64 p.l) (.int .i64 p.u);have K4:=put7_grown w1 (gx+1) (.string p.key) (.int .i64 p.s) (.int .i64 p.e) (.int .i64 p.c) (.int .i64 p.m) (.int .i64 p.l) (.int .i64 p.u);rw[←hW] at Z4 K4;clear hW;obtain⟨⟨z0,z1,z2,z3,z4,z5,z6⟩,-⟩:=seven Z4;have G4:=grown_over K2.out G1.out K4 (by have:=hgx.out;omega)
   have M4:=M1.out.kept (K4.block _ M1.out.lt (fun e=>mm.2 e.symm))
   have Q4:=H.out.mapped (Bk':=fun b=>Bk b∨(b=b5∧w.heap.size≤b∧b<W.heap.size)) M4 G4 (updOf_ok _ _ _) (fun b hb=>.inl hb) (.inl ⟨h0,rfl⟩)
   have V4:=H.out.moves_map G4
   have FIND:∃ (f':ByteArray→Option Value) (cnt':Nat) (Bk':Nat→Prop),Ending.returned p.v=.returned p.v∧cnt'≤cnt∧Gq W g m tg cf (S.set x.key ((S x.key).take k++(S x.key).drop (k+1))) M n cnt' f' FT Bk'∧Moves (Fp g m FT) (Fp g m FT) w W∧∀ b,Bk' b→Bk b∨(w.heap.size≤b∧b<W.heap.size):=by
    rw[←HL.out];exact⟨_,_,_,rfl,Nat.sub_le _ _,Q4,V4,fun b hb=>hb.imp id And.right⟩
   exact bodyPost_ret (v:=p.v) (by simp[results,Tryz.results141,go_sem,z0,z1,z2,z3,z4,z5,z6]) rfl (by obtain⟨q1,q2,q5,q3,q4⟩:=FIND;exact⟨q3,q1,q2,q4.1,q5,q4.2⟩)
  ·have q0:((L'.length:Int) == 0)=false:=by
    have:=List.length_pos_iff.2 h0;simp;omega
   have c8:=H2.out.lies.cell (i:=8) rfl;have x0:=X2.out.cell (i:=0) rfl;go_upto_region 4 with fail
   go_still_tail 7,(by kernel_rfl)
   refine wpList_store rfl _ _ _ rfl (x:=x.key) (m:=m) _ rfl rfl rfl (H2.out.map.kept rfl) hk hc (updOf_ok _ _ _) ?_
   intro w1 M1 g1';have G1:Hid (w'.grownBy w1 (some m)):=hid ⟨g1'.os,g1'.tape,g1'.output,g1'.size,g1'.block⟩;rw[if_neg (by rw[hfm];simp)] at M1
   have nf:∀ i,Fp g m FT i→b5≠i:=fun i hi e=>by
    have:=IN.out i hi;have:=OB.out;have:=K0.out.size;omega
   have nm:∀ i,w0.heap.size≤i→some i≠some m:=fun i hi e=>by
    have:=IN.out m (.inr (.inl rfl));obtain rfl:=Option.some.inj e;have:=K0.out.size;omega
   have mm:some gx≠some m∧some (gx+1)≠some m:=by
    have:=IN.out m (.inr (.inl rfl));have:=hgx.out;exact⟨fun e=>by have:=Option.some.inj e;omega,fun e=>by have:=Option.some.inj e;omega⟩
   have P3:=hid (lies_grown P2.out G1.out (nm _ hg1));have Z3:=hid (lies_grown Z2.out G1.out mm.2);have M1:=hid M1;clear g1' c8 x0;obtain⟨⟨c0,c1,c2,c3,c4,c5',c6⟩,-⟩:=seven P3.out;obtain⟨⟨z0,z1,z2,z3,z4,z5,z6⟩,y0,y1,y2,y3,y4,y5,y6⟩:=seven Z3.out;go_wp2
   change bodyPost _ _ _ _ _ (put7 w1 (gx+1) (.string p.key) (.int .i64 p.s) (.int .i64 p.e) (.int .i64 p.c) (.int .i64 p.m) (.int .i64 p.l) (.int .i64 p.u))
   obtain⟨W,hW⟩:∃ W,W=put7 w1 (gx+1) (.string p.key) (.int .i64 p.s) (.int .i64 p.e) (.int .i64 p.c) (.int .i64 p.m) (.int .i64 p.l) (.int .i64 p.u):=⟨_,rfl⟩;rw[←hW];have Z4:=put7_lies Z3.out (.string p.key) (.int .i64 p.s) (.int .i64 p.e) (.int .i64 p.c) (.int .i64 p.m) (.int .i64 p.l) (.int .i64 p.u);have K4:=put7_grown w1 (gx+1) (.string p.key) (.int .i64 p.s) (.int .i64 p.e) (.int .i64 p.c) (.int .i64 p.m) (.int .i64 p.l) (.int .i64 p.u);rw[←hW] at Z4 K4;clear hW;obtain⟨⟨z0,z1,z2,z3,z4,z5,z6⟩,-⟩:=seven Z4;have G4:=grown_over K2.out G1.out K4 (by have:=hgx.out;omega)
   have M4:=M1.out.kept (K4.block _ M1.out.lt (fun e=>mm.2 e.symm))
   have I6:=I5.out.keep ((K4.block _ (by have:=is_lt I5.out h0;have:=G1.out.size;omega) (fun e=>by have:=Option.some.inj e;have:=OB.out;have:=hgx.out;omega)).trans (G1.out.block _ (is_lt I5.out h0) (nm _ OB.out))) (Nat.le_trans G1.out.size K4.size)
   have Q4:=H.out.mapped (Bk':=fun b=>Bk b∨(b=b5∧w.heap.size≤b∧b<W.heap.size)) M4 G4 (updOf_ok _ _ _) (fun b hb=>.inl hb) (.inr ⟨h0,_,b5,rfl,I6,nf _ (.inl rfl),nf _ (.inr (.inl rfl)),fun q=>nf _ (.inr (.inr q)) rfl,.inr ⟨rfl,by have:=OB.out;have:=K0.out.size;omega,is_lt I6 h0⟩⟩)
   have V4:=H.out.moves_map G4
   have FINS:∃ (f':ByteArray→Option Value) (cnt':Nat) (Bk':Nat→Prop),Ending.returned p.v=.returned p.v∧cnt'≤cnt∧Gq W g m tg cf (S.set x.key ((S x.key).take k++(S x.key).drop (k+1))) M n cnt' f' FT Bk'∧Moves (Fp g m FT) (Fp g m FT) w W∧∀ b,Bk' b→Bk b∨(w.heap.size≤b∧b<W.heap.size):=by
    rw[←HL.out];exact⟨_,_,_,rfl,Nat.le_refl _,Q4,V4,fun b hb=>hb.imp id And.right⟩
   exact bodyPost_ret (v:=p.v) (by simp[results,Tryz.results141,go_sem,z0,z1,z2,z3,z4,z5,z6]) rfl (by obtain⟨q1,q2,q5,q3,q4⟩:=FINS;exact⟨q3,q1,q2,q4.1,q5,q4.2⟩)
end Grp
namespace Grp
open Small Foot Pane RelJ
def Ps(g tg:Nat)(late mark:Int)(b:Bool)(x:Tmr.Tm)(i:Nat)(u:Value):Prop:=match i with
 |0=>u=gp g
 |1=>u=gp g
 |2=>u=.pointer (some ⟨g,9,none⟩)
 |3=>u=Tmr.tp tg
 |4=>u=gp g
 |5=>u=gp g
 |6=>u=.pointer (some ⟨g,0,none⟩)
 |7=>u=.pointer (some ⟨g,4,none⟩)
 |8=>u=.int .i64 late
 |9=>u=.int .i64 mark
 |10=>u=.tuple #[Tmr.tv x,.bool b]
 |11=>u=.tuple #[Tmr.tv x,.bool b]
 |12=>u=Tmr.tv x
 |13=>u=.bool b
 |_=>True
theorem Ps.free{g tg:Nat}{late mark:Int}{b b':Bool}{x x':Tmr.Tm}(i:Nat){u:Value}(hi:i<10∨14≤i)(h:Ps g tg late mark b x i u):Ps g tg late mark b' x' i u:=by
 match i,hi,h with
 |0,_,h=>exact h
 |1,_,h=>exact h
 |2,_,h=>exact h
 |3,_,h=>exact h
 |4,_,h=>exact h
 |5,_,h=>exact h
 |6,_,h=>exact h
 |7,_,h=>exact h
 |8,_,h=>exact h
 |9,_,h=>exact h
 |10,hi,_=>omega
 |11,hi,_=>omega
 |12,hi,_=>omega
 |13,hi,_=>omega
 |i+14,_,_=>trivial
theorem tup_fst{x y:Tmr.Tm}{b c:Bool}(h:Value.tuple #[Tmr.tv x,.bool b]=.tuple #[Tmr.tv y,.bool c]):Tmr.tv x=Tmr.tv y:=
 congrArg (fun v=>match v with|.tuple a=>a[0]?.getD undef|_=>undef) h
theorem tup_snd{x y:Tmr.Tm}{b c:Bool}(h:Value.tuple #[Tmr.tv x,.bool b]=.tuple #[Tmr.tv y,.bool c]):Value.bool b=Value.bool c:=
 congrArg (fun v=>match v with|.tuple a=>a[1]?.getD undef|_=>undef) h
def Dn(D:Nat→Bool):Prop:=∀ j,(j=11∨j=12∨j=13∨j=15)→D j=true→D 10=true∧(j=15→D 12=true∧D 14=true)
def In6(w0:World)(f:Nat→Value)(FT1:Nat→Prop)(D:Nat→Bool)(w':World):Prop:=∃ g6 q,f 14=gp g6∧w0.heap.size≤g6∧¬FT1 g6∧Lies w' g6 218 [.string q.key,.int .i64 q.s,.int .i64 q.e]∧(D 15=true→f 12=Tmr.tv q)
def JS(g m tg:Nat)(cf:C8)(S:Lists)(M:Tmr.Tm→Prop)(n cnt:Nat)(fm:ByteArray→Option Value)(FT Bk:Nat→Prop)(w0:World)(mark:Int)(D:Nat→Bool)(f:Nat→Value)(w':World):Prop:=
 ∃ b x n1 M1 FT1,Gq w' g m tg cf S M1 n1 cnt fm FT1 Bk∧Moves FT FT1 w0 w'∧(D 10=false→M1=M∧n1=n∧FT1=FT)∧(D 10=true→Tmr.Pops cf.z mark n M b x n1 M1)∧(∀ j,D j=true→Ps g tg cf.z mark b x j (f j))∧Dn D∧(D 14=true→In6 w0 f FT1 D w')
theorem JS_start{g m tg n cnt:Nat}{cf:C8}{S:Lists}{M:Tmr.Tm→Prop}{fm:ByteArray→Option Value}{FT Bk:Nat→Prop}{w0:World}{mark:Int}{D:Nat→Bool}{f:Nat→Value}(H:Gq w0 g m tg cf S M n cnt fm FT Bk)(hD:∀ k,D k=true→16≤k):JS g m tg cf S M n cnt fm FT Bk w0 mark D f w0.drew:=
 ⟨false,⟨⟨#[]⟩,0,0⟩,n,M,FT,H.next (Below.refl _ _).drew,Moves.of_below (Below.refl _ _).drew H.ts.in,fun _=>⟨rfl,rfl,rfl⟩,fun h=>absurd (hD 10 h) (by omega),fun j hj=>by
  have:=hD j hj
  match j,this with
  |j+16,_=>trivial,fun j hj h=>absurd (hD j h) (by omega),fun h=>absurd (hD 14 h) (by omega)⟩
theorem JS_val{g m tg n cnt:Nat}{cf:C8}{S:Lists}{M:Tmr.Tm→Prop}{fm:ByteArray→Option Value}{FT Bk:Nat→Prop}{w0:World}{mark:Int}{D:Nat→Bool}{f:Nat→Value}{w':World}{v:Value}(i:Nat)(hi:i<10∨11≤i∧i≤13)(hDi:D i=false)(h:JS g m tg cf S M n cnt fm FT Bk w0 mark D f w')(hd:11≤i→D 10=true)
  (hv:∀ b x,(∀ j,D j=true→Ps g tg cf.z mark b x j (f j))→Ps g tg cf.z mark b x i v):JS g m tg cf S M n cnt fm FT Bk w0 mark (updD D i) (updF f i v) w':=by
 obtain⟨b,x,n1,M1,FT1,hQ,hV,h10,h10',hall,hdn,h14⟩:=h
 have e10:updD D i 10=D 10:=updD_other _ (by omega)
 refine⟨b,x,n1,M1,FT1,hQ,hV,by rw[e10];exact h10,by rw[e10];exact h10',?_,?_,?_⟩
 ·intro j hj
  by_cases e:j=i
  ·subst e;rw[updF_same];exact hv b x hall
  ·rw[updF_other _ _ e];rw[updD_other _ e] at hj;exact hall j hj
 ·intro j hj hDj
  rw[e10];by_cases e:j=i
  ·subst e;exact⟨hd (by omega),fun h=>by omega⟩
  ·rw[updD_other _ e] at hDj
   obtain⟨p1,p2⟩:=hdn j hj hDj;refine⟨p1,fun h=>⟨?_,by rw[updD_other _ (by omega)];exact (p2 h).2⟩⟩
   by_cases e2:12=i
   ·subst e2;exact updD_same _ _
   ·rw[updD_other _ e2];exact (p2 h).1
 ·intro hD14
  rw[updD_other _ (by omega)] at hD14
  obtain⟨g6,q,p1,p2,p3,p4,p5⟩:=h14 hD14;refine⟨g6,q,by rw[updF_other _ _ (by omega)];exact p1,p2,p3,p4,fun h=>?_⟩
  rw[updD_other _ (by omega)] at h
  by_cases e:12=i
  ·subst e
   exact absurd ((hdn 15 (by simp) h).2 rfl).1 (by rw[hDi];simp)
  ·rw[updF_other _ _ e];exact p5 h
theorem JS_pop{g m tg n cnt:Nat}{cf:C8}{S:Lists}{M:Tmr.Tm→Prop}{fm:ByteArray→Option Value}{FT Bk:Nat→Prop}{w0:World}{mark:Int}{D:Nat→Bool}{f:Nat→Value}{w':World}{b:Bool}{x:Tmr.Tm}{n1:Nat}{M1:Tmr.Tm→Prop}{FT1:Nat→Prop}{b2:Bool}{x2:Tmr.Tm}{n':Nat}{M':Tmr.Tm→Prop}{F':Nat→Prop}{w2:World}(hDi:D 10=false)(hQ:Gq w' g m tg cf S M1 n1 cnt fm FT1 Bk)(hV:Moves FT FT1 w0 w')(hall:∀ j,D j=true→Ps g tg cf.z mark b x j (f j))(hdn:Dn D)(h10:D 10=false→M1=M∧n1=n∧FT1=FT)(h14:D 14=true→In6 w0 f FT1 D w')
  (h2:Tmr.Pops cf.z mark n M b2 x2 n' M') (h3:Tmr.Ts w2 tg n' M' F') (h4:Moves FT1 F' w' w2):JS g m tg cf S M n cnt fm FT Bk w0 mark (updD D 10) (updF f 10 (.tuple #[Tmr.tv x2,.bool b2])) w2:=by
 have no:∀ j,(j=11∨j=12∨j=13∨j=15)→D j=true→False:=fun j hj h=>by
  have:=(hdn j hj h).1;rw[hDi] at this;cases this
 refine⟨b2,x2,n',M',F',hQ.timed h3 h4,hV.trans h4,(fun h=>by rw[updD_same] at h;cases h),fun _=>h2,?_,?_,?_⟩
 ·intro j hj
  by_cases e:j=10
  ·subst e;rw[updF_same];rfl
  ·rw[updF_other _ _ e]
   rw[updD_other _ e] at hj;by_cases e2:j=11∨j=12∨j=13
   ·exact absurd (no j (by omega) hj) id
   ·exact Ps.free j (by omega) (hall j hj)
 ·intro j hj hDj
  rw[updD_other _ (by omega)] at hDj
  exact absurd (no j hj hDj) id
 ·intro hD14
  rw[updD_other _ (by decide)] at hD14
  obtain⟨g6,q,p1,p2,p3,p4,p5⟩:=h14 hD14;refine⟨g6,q,by rw[updF_other _ _ (by decide)];exact p1,p2,fun r=>?_,(h4.block _ p4.lt p3).trans p4,fun r=>?_⟩
  ·rcases (h4.new g6 r).1 with q1|q1
   ·exact p3 q1
   ·have:=p4.lt;omega
  ·rw[updD_other _ (by decide)] at r
   exact absurd (no 15 (by simp) r) id
theorem JS_alloc{g m tg n cnt:Nat}{cf:C8}{S:Lists}{M:Tmr.Tm→Prop}{fm:ByteArray→Option Value}{FT Bk:Nat→Prop}{w0:World}{mark:Int}{D:Nat→Bool}{f:Nat→Value}{w':World}{b:Bool}{x:Tmr.Tm}{n1:Nat}{M1:Tmr.Tm→Prop}{FT1:Nat→Prop}(hDi:D 14=false)(hQ:Gq w' g m tg cf S M1 n1 cnt fm FT1 Bk)(hV:Moves FT FT1 w0 w')(h10:D 10=false→M1=M∧n1=n∧FT1=FT)(h10':D 10=true→Tmr.Pops cf.z mark n M b x n1 M1)(hall:∀ j,D j=true→Ps g tg cf.z mark b x j (f j))(hdn:Dn D):JS g m tg cf S M n cnt fm FT Bk w0 mark (updD D 14) (updF f 14 (gp w'.heap.size)) (w'.alloc (Obj.cells #[.string ⟨#[]⟩,.int .i64 0,.int .i64 0] 218)):=by
 refine⟨b,x,n1,M1,FT1,hQ.next (below1 _ _),hV.trans (Moves.of_below (below1 _ _) hQ.ts.in),by rw[updD_other _ (by decide)];exact h10,by rw[updD_other _ (by decide)];exact h10',?_,?_,?_⟩
 ·intro j hj
  by_cases e:j=14
  ·subst e;exact trivial
  ·rw[updF_other _ _ e];rw[updD_other _ e] at hj;exact hall j hj
 ·intro j hj hDj
  rw[updD_other _ (by omega)] at hDj
  obtain⟨p1,p2⟩:=hdn j hj hDj;refine⟨by rw[updD_other _ (by decide)];exact p1,fun h=>?_⟩
  have:=(p2 h).2;rw[hDi] at this;cases this
 ·intro _
  refine⟨w'.heap.size,⟨⟨#[]⟩,0,0⟩,updF_same _ _ _,hV.size,fun r=>by have:=hQ.ts.in _ r;omega,Lies.new _ _ _,fun r=>?_⟩
  rw[updD_other _ (by decide)] at r
  have:=((hdn 15 (by simp) r).2 rfl).2
  rw[hDi] at this;cases this
theorem JS_store{g m tg n cnt:Nat}{cf:C8}{S:Lists}{M:Tmr.Tm→Prop}{fm:ByteArray→Option Value}{FT Bk:Nat→Prop}{w0:World}{mark:Int}{D:Nat→Bool}{f:Nat→Value}{w':World}{b:Bool}{x:Tmr.Tm}{n1:Nat}{M1:Tmr.Tm→Prop}{FT1:Nat→Prop}{g6:Nat}{q:Tmr.Tm}(hQ:Gq w' g m tg cf S M1 n1 cnt fm FT1 Bk)(hV:Moves FT FT1 w0 w')(h10:D 10=false→M1=M∧n1=n∧FT1=FT)(h10':D 10=true→Tmr.Pops cf.z mark n M b x n1 M1)(hall:∀ j,D j=true→Ps g tg cf.z mark b x j (f j))(hdn:Dn D)(d12:D 12=true)(d14:D 14=true)(p1:f 14=gp g6)(p2:w0.heap.size≤g6)(p3:¬FT1 g6)(p4:Lies w' g6 218 [.string q.key,.int .i64 q.s,.int .i64 q.e])
  (e12:f 12=Tmr.tv x) (hBk:∀ i,Fp g m FT i∨Bk i→i<w0.heap.size) (v:Value):JS g m tg cf S M n cnt fm FT Bk w0 mark (updD D 15) (updF f 15 v) (((w'.setCell ⟨g6,0,none⟩ (.string x.key)).setCell ⟨g6,1,none⟩ (.int .i64 x.s)).setCell ⟨g6,2,none⟩ (.int .i64 x.e)):=by
 have G1:w'.grownBy (((w'.setCell ⟨g6,0,none⟩ (.string x.key)).setCell ⟨g6,1,none⟩ (.int .i64 x.s)).setCell ⟨g6,2,none⟩ (.int .i64 x.e)) (some g6):=grown_cells _ (grown_cells _ (grown_cells _ (grown_refl _ _)))
 have L1:=((p4.put 0 (.string x.key)).put 1 (.int .i64 x.s)).put 2 (.int .i64 x.e)
 generalize ((w'.setCell ⟨g6,0,none⟩ (.string x.key)).setCell ⟨g6,1,none⟩ (.int .i64 x.s)).setCell ⟨g6,2,none⟩ (.int .i64 x.e)=W at *
 have ng:∀ i,(Fp g m FT i∨Bk i)→g6≠i:=fun i hi e=>by have:=hBk i hi;omega
 ·refine⟨b,x,n1,M1,FT1,hQ.beside G1 (ng _ (.inl (.inl rfl))) (ng _ (.inl (.inr (.inl rfl)))) p3 (fun h=>ng _ (.inr h) rfl),?_,by rw[updD_other _ (by decide)];exact h10,by rw[updD_other _ (by decide)];exact h10',?_,?_,?_⟩
  ·exact⟨G1.os.trans hV.os,G1.tape.trans hV.tape,G1.output.trans hV.output,Nat.le_trans hV.size G1.size,fun i hi hn=>(G1.block i (Nat.lt_of_lt_of_le hi hV.size) (fun e=>by have:=Option.some.inj e;omega)).trans (hV.block i hi hn),fun i hi=>⟨(hV.new i hi).1,Nat.lt_of_lt_of_le (hV.new i hi).2 G1.size⟩⟩
  ·intro j hj
   by_cases e:j=15
   ·subst e;exact trivial
   ·rw[updF_other _ _ e];rw[updD_other _ e] at hj;exact hall j hj
  ·intro j hj hDj
   have d10:D 10=true:=(hdn 12 (by simp) d12).1
   exact⟨by rw[updD_other _ (by decide)];exact d10,fun _=>⟨by rw[updD_other _ (by decide)];exact d12,by rw[updD_other _ (by decide)];exact d14⟩⟩
  ·intro _
   exact⟨g6,x,by rw[updF_other _ _ (by decide)];exact p1,p2,p3,L1,fun _=>by rw[updF_other _ _ (by decide)];exact e12⟩
end Grp
end Go.Proofs.YtfjlnniahfbdfaaGreat
