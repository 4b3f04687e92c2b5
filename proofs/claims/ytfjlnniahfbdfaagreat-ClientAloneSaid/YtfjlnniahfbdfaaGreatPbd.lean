/- A part of the proof. -/
import Derived.Test.YtfjlnniahfbdfaaGreatPbc
import Derived.Deep.RegionHeld3
import Derived.Deep.DeepCutAuto
import Derived.Test.YtfjlnniahfbdfaaGreatPay
set_option linter.unusedVariables false
set_option maxHeartbeats 4000000
namespace Go.Proofs.YtfjlnniahfbdfaaGreat
open Lib (hid)
open Go.ChangeShapes Go.WideShapes Go.ChangeAt Go.RowKit Small Foot
set_option maxRecDepth 100000
namespace Hd
abbrev gp(g:Nat):Value:=.pointer (some ⟨g,0,none⟩)
abbrev stv(s:Option Nat):Value:=.pointer (s.map fun g=>⟨g,0,none⟩)
abbrev mcl(k g:Int)(s:Option Nat):List Value:=[.int .i64 k,.int .i64 0,.int .i64 0,.string ⟨#[]⟩,.int .i64 0,.int .i64 0,.int .i64 0,.int .i64 0,.int .i64 0,.int .i64 g,stv s]
abbrev mval(k g:Int)(s:Option Nat):Value:=.agg #[.int .i64 k,.int .i64 0,.int .i64 0,.string ⟨#[]⟩,.int .i64 0,.int .i64 0,.int .i64 0,.int .i64 0,.int .i64 0,.int .i64 g,stv s]
abbrev dcl(k g:Int)(s t:Option Nat):List Value:=[.int .i64 k,.int .i64 0,.int .i64 0,.string ⟨#[]⟩,.int .i64 0,.int .i64 0,.int .i64 0,.int .i64 0,.int .i64 0,.int .i64 g,stv s,.bool false,.int .i64 0,.slice none 0 0,.slice none 0 0,stv t]
abbrev dval(k g:Int)(s t:Option Nat):Value:=.agg #[.int .i64 k,.int .i64 0,.int .i64 0,.string ⟨#[]⟩,.int .i64 0,.int .i64 0,.int .i64 0,.int .i64 0,.int .i64 0,.int .i64 g,stv s,.bool false,.int .i64 0,.slice none 0 0,.slice none 0 0,stv t]
abbrev Is(w:World)(h b:Nat)(g tt kind:Int)(sent:Bool)(st:Option Nat):Prop:=Lies w h 176 [gp (b+1),.int .i64 g,.int .i64 tt,.int .i64 kind,.bool sent,stv st]
abbrev At(h:Nat):Nat→Prop:=fun i=>i=h
abbrev Or2(F G:Nat→Prop):Nat→Prop:=fun i=>F i∨G i
section
variable {w:World} {g:Nat} {cs cs':List Value}
theorem setRow_grown(w:World)(g:Nat)(cur:Array Value):w.grownBy (w.setRow g cur) (some g):=
 ⟨rfl,rfl,rfl,by simp[World.setRow],fun i hi hn=>by
  have hg:g≠i:=fun e=>hn (by rw[e])
  simp[World.setRow,Array.getElem?_modify,hg]⟩
theorem load_msg(h:Lies w g 55 cs)(hl:cs.length=11):(loadVar 55 ⟨g,0,none⟩).run Tryz.prog w=.ok (.agg cs.toArray) w:=by
 have:=run_loadCells_list (P:=Tryz.prog) w ⟨g,0,none⟩ cs fun j v hj=>by rw[Addr.add_lit,Nat.zero_add];exact h.cell hj
 rw[hl] at this
 unfold loadVar
 simp only[Sem.run_bind,Tryz.isAgg55,Tryz.sizeOf55,Result.andThen_ok,if_true,this,Sem.run_pure]
theorem store_msg(h:Lies w g 55 cs)(hl:cs.length=11)(hl':cs'.length=11)(h1:∀ v∈cs',v.oneCell'=true):
  ∃ w',(storeVar 55 ⟨g,0,none⟩ (.agg cs'.toArray)).run Tryz.prog w=.ok () w'∧Lies w' g 55 cs'∧w.grownBy w' (some g):=by
 have hst:=run_storeCells_at Tryz.prog g 0 55 cs' 0 cs.toArray w h (by simp;omega) h1
 have hd:cs.drop (0+0+cs'.length)=[]:=List.drop_eq_nil_of_le (by omega)
 rw[show (cs.toArray.toList.take (0+0)++cs'++cs.toArray.toList.drop (0+0+cs'.length)).toArray=cs'.toArray by rw[show cs.toArray.toList=cs from rfl,hd];simp] at hst
 refine⟨w.setRow g cs'.toArray,?_,setRow_heap _ _ _ _ _ _ h,setRow_grown _ _ _⟩
 unfold storeVar
 have hc:(Value.agg cs'.toArray).cells=cs'.toArray:=rfl
 simp only[Sem.run_bind,Tryz.sizeOf55,Result.andThen_ok,hc,List.size_toArray,hl',ne_eq,not_true_eq_false,if_false]
 exact hst
theorem wp_store_msg{o:Oper}{a:Act}{K:Act→World→Prop}{Q:Exit→Act→World→Prop}(x y:Operand)(ho:o.op=.store 55 x y)(hx:a.eval x=.pointer (some ⟨g,0,none⟩))(hy:a.eval y=.agg cs'.toArray)(h:Lies w g 55 cs)(hl:cs.length=11)(hl':cs'.length=11)(h1:∀ v∈cs',v.oneCell'=true)
  (hK:∀ w',Lies w' g 55 cs'→w.grownBy w' (some g)→K (a.put o.dst undef) w'):o.wp Tryz.prog a w K Q:=by
 obtain⟨w',hr,q1,q2⟩:=store_msg h hl hl' h1
 unfold Oper.wp execOp
 simp only[ho,hx,hy,Instr.storeAt,Instr.sureAddr,Sem.run_bind,Sem.run_pure,Result.andThen_ok,hr]
 exact hK w' q1 q2
theorem one_msg(k g:Int)(s:Option Nat):∀ v∈mcl k g s,v.oneCell'=true:=by
 intro v hv
 simp only[List.mem_cons,List.not_mem_nil,or_false] at hv
 rcases hv with rfl|rfl|rfl|rfl|rfl|rfl|rfl|rfl|rfl|rfl|rfl<;>rfl
end
section
variable {w:World} {h b i:Nat} {s g tt kind:Int} {M:List Ow.O} {o:Ow.O} {sent:Bool} {st:Option Nat}
theorem over_ok(H:Hid (Is w h b g tt kind sent st)):Calls Tryz.prog 131 #[gp h] w fun r w'=>r=.returned (.bool (kind == 0))∧w=w':=by
 have c3:=H.out.cell (i:=3) rfl
 go_enter Tryz.func131,Tryz.ntmps131
 go_wp2
 go_ret
 exact⟨rfl,rfl⟩
theorem sent_yes(H:Hid (Is w h b g tt kind false st))(hk:kind≠0):Calls Tryz.prog 133 #[gp h] w fun r w'=>r=.returned (.bool true)∧Is w' h b g tt kind true none∧Moves (At h) (At h) w w':=by
 have c4:=H.out.cell (i:=4) rfl
 have k0:(kind == 0)=false:=by simpa using hk
 have f4:=H.out.open_ 4
 have f5:=H.out.open_ 5
 have c5:=H.out.cell (i:=5) rfl
 go_enter Tryz.func133,Tryz.ntmps133
 go_wp2_with fail
 refine (over_ok H).mono ?_
 rintro r w1 ⟨rfl,rfl⟩
 rw[k0]
 go_wp2
 go_ret
 have l1:=Lies.put H.out 4 (.bool true)
 have l2:=Lies.put l1 5 (.pointer none)
 refine⟨rfl,l2,rfl,rfl,rfl,by simp,fun i hi hn=>?_,fun i hi=>?_⟩
 ·rw[Below.heap_setCell _ _ _ _ (by exact hn),Below.heap_setCell _ _ _ _ (by exact hn)]
 ·obtain rfl:i=h:=hi
  exact⟨.inl rfl,by simpa using H.out.lt⟩
theorem new_ok{y:Int}(H:Hid (Ow.Is w b s M))(hx:M[i]?=some o)(hm:o.m=false)(y0:0≤y)(y1:y<s):Calls Tryz.prog 92 #[gp (b+1),.int .i64 i,.int .i64 y] w fun r w'=>∃ h,r=.returned (.tuple #[gp h,.nilIface])∧w.heap.size≤h∧Is w' h b i y 3 false none∧Ow.Is w' b s (M.set i ⟨o.s,o.v,true⟩)∧Moves (Ow.Fp b) (Or2 (Ow.Fp b) (At h)) w w':=by
 obtain⟨os,ov,om⟩:=o
 obtain rfl:om=false:=hm
 have y2:¬y<0:=by omega
 have y3:¬s≤y:=by omega
 go_enter Tryz.func92,Tryz.ntmps92
 go_wp2_with fail
 refine (Ow.of_yes H hx).mono ?_
 rintro r w1 ⟨rfl,k1⟩
 have k3:=k1.alloc k1.size (Obj.cells #[.int .i64 os,.int .i64 ov,.bool false] 154)
 have K3:=hid k3
 have H3:=hid (H.out.next k3)
 clear k1 k3
 go_wp2_with fail
 refine (Ow.shards_ok H3).mono ?_
 rintro r w2 ⟨rfl,rfl⟩
 go_wp2_with fail
 refine (Ow.freeze_ok H3 hx rfl).mono ?_
 rintro r w4 ⟨rfl,h4,v4⟩
 have H4:=hid h4
 have V4:=hid ((Moves.of_below K3.out H.out.in).trans v4)
 clear h4 v4
 go_wp2
 go_ret2
 have k5:=below1 w4 (Obj.cells #[gp (b+1),.int .i64 i,.int .i64 y,.int .i64 3,.bool false,.pointer none] 176)
 refine⟨w4.heap.size,rfl,V4.out.size,Lies.new _ _ [gp (b+1),.int .i64 i,.int .i64 y,.int .i64 3,.bool false,.pointer none],H4.out.next k5,k5.os.trans V4.out.os,k5.tape.trans V4.out.tape,k5.output.trans V4.out.output,Nat.le_trans V4.out.size k5.size,fun j hj hn=>(k5.block j (Nat.lt_of_lt_of_le hj V4.out.size)).trans (V4.out.block j hj hn),fun j hj=>?_⟩
 rcases hj with hj|hj
 ·exact⟨(V4.out.new j hj).1,Nat.lt_of_lt_of_le (V4.out.new j hj).2 k5.size⟩
 ·obtain rfl:j=w4.heap.size:=hj
  exact⟨.inr V4.out.size,by simp⟩
theorem told_ask{a:Act}{w:World}{g:Nat}{cs:List Value}{x:Int}{q:Bool}(h2:a.tmps[2]?.getD undef=.int .i64 x)(h3:a.tmps[3]?.getD undef=.pointer (some ⟨g,0,none⟩))(h4:a.tmps[4]?.getD undef=.bool q)(h:Lies w g 55 cs)(hl:cs.length=11):
  (results Tryz.f132 a.tmps).run Tryz.prog w=.ok (.tuple #[.int .i64 x,.agg cs.toArray,.bool q]) w:=by
 have:=load_msg h hl
 simp[results,Tryz.results132,h2,h3,h4,asAddr,this,Result.andThen]
theorem ask_have(H:Hid (Is w h b g tt 4 false st)):Calls Tryz.prog 132 #[gp h] w fun r w'=>r=.returned (.tuple #[.int .i64 tt,mval 4 g st,.bool true])∧Below w.heap.size w w':=by
 have k1:=below1 w (Obj.cells #[.int .i64 0,.int .i64 0,.int .i64 0,.string ⟨#[]⟩,.int .i64 0,.int .i64 0,.int .i64 0,.int .i64 0,.int .i64 0,.int .i64 0,.pointer none] 55)
 have H1:=hid (H.out.next k1)
 have c4:=H1.out.cell (i:=4) rfl
 have L1:Hid (Lies (w.alloc (Obj.cells #[.int .i64 0,.int .i64 0,.int .i64 0,.string ⟨#[]⟩,.int .i64 0,.int .i64 0,.int .i64 0,.int .i64 0,.int .i64 0,.int .i64 0,.pointer none] 55)) w.heap.size 55 (mcl 0 0 none)):=hid (Lies.new _ _ _)
 have K1:=hid k1
 clear k1
 go_enter Tryz.func132,Tryz.ntmps132
 go_upto_region 1 with fail
 generalize hg:w.heap.size=g1 at L1 ⊢
 generalize w.alloc (Obj.cells #[.int .i64 0,.int .i64 0,.int .i64 0,.string ⟨#[]⟩,.int .i64 0,.int .i64 0,.int .i64 0,.int .i64 0,.int .i64 0,.int .i64 0,.pointer none] 55)=w1 at H1 c4 L1 K1 ⊢
 go_wp2_with fail
 refine (over_ok H1).mono ?_
 rintro r w2 ⟨rfl,rfl⟩
 go_upto_region 3 with fail
 have CS:Hid (∀ w',Below w1.heap.size w1 w'→w'.cell? ⟨h,1,none⟩=some (.int .i64 g)∧w'.cell? ⟨h,3,none⟩=some (.int .i64 4)∧w'.cell? ⟨h,5,none⟩=some (stv st)∧Below w1.heap.size w1 w'):=hid fun w' hB=>⟨(H1.out.next hB).cell (i:=1) rfl,(H1.out.next hB).cell (i:=3) rfl,(H1.out.next hB).cell (i:=5) rfl,hB⟩
 have CB:Hid (∀ w',w'.cell? ⟨h,1,none⟩=some (.int .i64 g)∧w'.cell? ⟨h,3,none⟩=some (.int .i64 4)∧w'.cell? ⟨h,5,none⟩=some (stv st)∧Below w1.heap.size w1 w'→Below w1.heap.size w1 w'):=hid fun w' h=>h.2.2.2
 go_region_held3 (fun w'=>w'.cell? ⟨h,1,none⟩=some (.int .i64 g)∧w'.cell? ⟨h,3,none⟩=some (.int .i64 4)∧w'.cell? ⟨h,5,none⟩=some (stv st)∧Below w1.heap.size w1 w')
  (first|exact CS.out _ (Below.refl _ _).drew|exact CS.out _ (after (Below.refl _ _).drew (below1 _ _))|exact CS.out _ (after (CB.out _ (by assumption)) (below1 _ _)))
  (fail)
 have k3:Below w1.heap.size w1 (w1.alloc (Obj.cells #[.int .i64 4,.int .i64 0,.int .i64 0,.string ⟨#[]⟩,.int .i64 0,.int .i64 0,.int .i64 0,.int .i64 0,.int .i64 0,.int .i64 g,stv st] 55)).drew:=(below1 _ _).drew
 have L3:Hid (Lies (w1.alloc (Obj.cells #[.int .i64 4,.int .i64 0,.int .i64 0,.string ⟨#[]⟩,.int .i64 0,.int .i64 0,.int .i64 0,.int .i64 0,.int .i64 0,.int .i64 g,stv st] 55)).drew w1.heap.size 55 (mcl 4 g st)):=hid (Lies.new _ _ (mcl 4 g st))
 have H3:=hid (H1.out.next k3)
 have M3:=hid (L1.out.next k3)
 have K3:=hid (K1.out.trans (k3.mono K1.out.size))
 have XN:Hid (h≠g1∧w1.heap.size≠g1):=hid ⟨by have:=H.out.lt;omega,by have:=L1.out.lt;omega⟩
 rename_i hh
 clear hh k3 CS CB
 generalize hg3:w1.heap.size=g3 at L3 XN ⊢
 generalize (w1.alloc (Obj.cells #[.int .i64 4,.int .i64 0,.int .i64 0,.string ⟨#[]⟩,.int .i64 0,.int .i64 0,.int .i64 0,.int .i64 0,.int .i64 0,.int .i64 g,stv st] 55)).drew=w3 at L3 H3 M3 K3 ⊢
 have c3:=H3.out.cell (i:=3) rfl
 clear c4 H1 L1 K1
 go_upto_region 5 with fail
 have l2:=Later.cell (H3.out.cell (i:=2) rfl)
 have m0:=Later.cell (L3.out.cell (i:=0) rfl)
 have m1:=Later.cell (L3.out.cell (i:=1) rfl)
 have m2:=Later.cell (L3.out.cell (i:=2) rfl)
 have m3:=Later.cell (L3.out.cell (i:=3) rfl)
 have m4:=Later.cell (L3.out.cell (i:=4) rfl)
 have m5:=Later.cell (L3.out.cell (i:=5) rfl)
 have m6:=Later.cell (L3.out.cell (i:=6) rfl)
 have m7:=Later.cell (L3.out.cell (i:=7) rfl)
 have m8:=Later.cell (L3.out.cell (i:=8) rfl)
 have m9:=Later.cell (L3.out.cell (i:=9) rfl)
 have m10:=Later.cell (L3.out.cell (i:=10) rfl)
 refine wp_region_later_tail 6 (by kernel_rfl) (by kernel_rfl) ?_
 simp only[List.take_succ_cons,List.take_zero,List.drop_succ_cons,List.drop_zero]
 repeat (go_big_quiet_step (fail))
 refine wpQuiet_nil ?_
 rintro _ ⟨u,rfl⟩
 have M9:=hid (M3.out.next u.below)
 have K9:=hid (K3.out.trans (u.below.mono K3.out.size))
 clear l2 m0 m1 m2 m3 m4 m5 m6 m7 m8 m9 m10 H3 M3 K3 L3
 generalize u.w=w9 at M9 K9 ⊢
 go_wp2_with (first
  |(refine wpList_plain rfl fun K' hK'=>wp_store_msg (cs':=mcl 4 g st) _ _ rfl rfl rfl M9.out rfl rfl (one_msg _ _ _) (fun w2 z1 z2=>hK' _ _ ?_))
  |fail)
 exact bodyPost_ret (told_ask rfl rfl rfl z1 rfl) rfl ⟨rfl,hg▸K9.out.grown z2 K9.out.size fun j hj=>by cases hj;omega⟩
theorem ask_give(H:Hid (Is w h b i tt 3 false st))(G:Hid (Ow.Is w b s M))(hx:M[i]?=some o):Calls Tryz.prog 132 #[gp h] w fun r w'=>r=.returned (.tuple #[.int .i64 o.s,mval 3 i st,.bool true])∧Below w.heap.size w w':=by
 have k1:=below1 w (Obj.cells #[.int .i64 0,.int .i64 0,.int .i64 0,.string ⟨#[]⟩,.int .i64 0,.int .i64 0,.int .i64 0,.int .i64 0,.int .i64 0,.int .i64 0,.pointer none] 55)
 have H1:=hid (H.out.next k1)
 have c4:=H1.out.cell (i:=4) rfl
 have L1:Hid (Lies (w.alloc (Obj.cells #[.int .i64 0,.int .i64 0,.int .i64 0,.string ⟨#[]⟩,.int .i64 0,.int .i64 0,.int .i64 0,.int .i64 0,.int .i64 0,.int .i64 0,.pointer none] 55)) w.heap.size 55 (mcl 0 0 none)):=hid (Lies.new _ _ _)
 have K1:=hid k1
 have G1:=hid (G.out.next k1)
 clear k1
 go_enter Tryz.func132,Tryz.ntmps132
 go_upto_region 1 with fail
 generalize hg:w.heap.size=g1 at L1 ⊢
 generalize w.alloc (Obj.cells #[.int .i64 0,.int .i64 0,.int .i64 0,.string ⟨#[]⟩,.int .i64 0,.int .i64 0,.int .i64 0,.int .i64 0,.int .i64 0,.int .i64 0,.pointer none] 55)=w1 at H1 c4 L1 K1 G1 ⊢
 go_wp2_with fail
 refine (over_ok H1).mono ?_
 rintro r w2 ⟨rfl,rfl⟩
 go_upto_region 3 with fail
 have CS:Hid (∀ w',Below w1.heap.size w1 w'→w'.cell? ⟨h,1,none⟩=some (.int .i64 i)∧w'.cell? ⟨h,3,none⟩=some (.int .i64 3)∧w'.cell? ⟨h,5,none⟩=some (stv st)∧Below w1.heap.size w1 w'):=hid fun w' hB=>⟨(H1.out.next hB).cell (i:=1) rfl,(H1.out.next hB).cell (i:=3) rfl,(H1.out.next hB).cell (i:=5) rfl,hB⟩
 have CB:Hid (∀ w',w'.cell? ⟨h,1,none⟩=some (.int .i64 i)∧w'.cell? ⟨h,3,none⟩=some (.int .i64 3)∧w'.cell? ⟨h,5,none⟩=some (stv st)∧Below w1.heap.size w1 w'→Below w1.heap.size w1 w'):=hid fun w' h=>h.2.2.2
 go_region_held3 (fun w'=>w'.cell? ⟨h,1,none⟩=some (.int .i64 i)∧w'.cell? ⟨h,3,none⟩=some (.int .i64 3)∧w'.cell? ⟨h,5,none⟩=some (stv st)∧Below w1.heap.size w1 w')
  (first|exact CS.out _ (Below.refl _ _).drew|exact CS.out _ (after (Below.refl _ _).drew (below1 _ _))|exact CS.out _ (after (CB.out _ (by assumption)) (below1 _ _)))
  (fail)
 have k3:Below w1.heap.size w1 (w1.alloc (Obj.cells #[.int .i64 3,.int .i64 0,.int .i64 0,.string ⟨#[]⟩,.int .i64 0,.int .i64 0,.int .i64 0,.int .i64 0,.int .i64 0,.int .i64 i,stv st] 55)).drew:=(below1 _ _).drew
 have L3:Hid (Lies (w1.alloc (Obj.cells #[.int .i64 3,.int .i64 0,.int .i64 0,.string ⟨#[]⟩,.int .i64 0,.int .i64 0,.int .i64 0,.int .i64 0,.int .i64 0,.int .i64 i,stv st] 55)).drew w1.heap.size 55 (mcl 3 i st)):=hid (Lies.new _ _ (mcl 3 i st))
 have H3:=hid (H1.out.next k3)
 have M3:=hid (L1.out.next k3)
 have K3:=hid (K1.out.trans (k3.mono K1.out.size))
 have XN:Hid (h≠g1∧w1.heap.size≠g1):=hid ⟨by have:=H.out.lt;omega,by have:=L1.out.lt;omega⟩
 have G3:=hid (G1.out.next k3)
 rename_i hh
 clear hh k3 CS CB
 generalize hg3:w1.heap.size=g3 at L3 XN ⊢
 generalize (w1.alloc (Obj.cells #[.int .i64 3,.int .i64 0,.int .i64 0,.string ⟨#[]⟩,.int .i64 0,.int .i64 0,.int .i64 0,.int .i64 0,.int .i64 0,.int .i64 i,stv st] 55)).drew=w3 at L3 H3 M3 K3 G3 ⊢
 have c3:=H3.out.cell (i:=3) rfl
 clear c4 H1 L1 K1
 go_upto_region 6 with fail
 clear c3
 have CS:Hid (∀ w',Below w3.heap.size w3 w'→w'.cell? ⟨h,0,none⟩=some (gp (b+1))∧w'.cell? ⟨h,1,none⟩=some (.int .i64 i)∧Below w3.heap.size w3 w'):=hid fun w' hB=>⟨(H3.out.next hB).cell (i:=0) rfl,(H3.out.next hB).cell (i:=1) rfl,hB⟩
 have CB:Hid (∀ w',w'.cell? ⟨h,0,none⟩=some (gp (b+1))∧w'.cell? ⟨h,1,none⟩=some (.int .i64 i)∧Below w3.heap.size w3 w'→Below w3.heap.size w3 w'):=hid fun w' h=>h.2.2
 go_region_held3 (fun w'=>w'.cell? ⟨h,0,none⟩=some (gp (b+1))∧w'.cell? ⟨h,1,none⟩=some (.int .i64 i)∧Below w3.heap.size w3 w')
  (first|exact CS.out _ (Below.refl _ _).drew|exact CS.out _ (after (Below.refl _ _).drew (below1 _ _))|exact CS.out _ (after (CB.out _ (by assumption)) (below1 _ _))|exact CS.out _ (after (CB.out _ (by assumption)) k5)|exact CS.out _ ((((CB.out _ (by assumption)).setCell (Nat.le_refl _) _).setCell (Nat.le_refl _) _).setCell (Nat.le_refl _) _)|exact CS.out _ (after (after (Below.refl _ _).drew k5) (below1 _ _)))
  ((first|(go_at_call 126;refine (Ow.of_yes (hid (G3.out.next (CB.out _ (by assumption)))) hx).mono ?_;rintro r w5 ⟨rfl,k5⟩;first|(have L5:Lies w5 w3.heap.size 154 [.int .i64 0,.int .i64 0,.bool false]:=Lies.next (Lies.drew (Lies.new w3 _ [.int .i64 0,.int .i64 0,.bool false])) k5;have q0:=L5.cell (i:=0) rfl;have q1:=L5.cell (i:=1) rfl;have q2:=L5.cell (i:=2) rfl;have f0:=L5.open_ 0;have f1:=L5.open_ 1;have f2:=L5.open_ 2)|skip)))
 ·rename_i hh
  have kk:=CB.out _ hh;have O6:Hid (Lies (w5.alloc (Obj.cells #[.int .i64 o.s,.int .i64 o.v,.bool o.m] 154)) w5.heap.size 154 [.int .i64 o.s,.int .i64 o.v,.bool o.m]):=hid (Lies.new _ _ [.int .i64 o.s,.int .i64 o.v,.bool o.m]);clear hh k5;have L6:=hid (L3.out.next kk);have M6:=hid (M3.out.next kk);have K6:=hid (K3.out.trans (kk.mono K3.out.size));clear kk L3 M3 K3 H3 G3 CS CB XN;generalize w5.heap.size=g6 at O6 ⊢;generalize w5.alloc (Obj.cells #[.int .i64 o.s,.int .i64 o.v,.bool o.m] 154)=w6 at L6 M6 K6 O6 ⊢;go_upto_region 7 with fail
  have l2:=Later.cell (O6.out.cell (i:=0) rfl);have m0:=Later.cell (L6.out.cell (i:=0) rfl);have m1:=Later.cell (L6.out.cell (i:=1) rfl);have m2:=Later.cell (L6.out.cell (i:=2) rfl);have m3:=Later.cell (L6.out.cell (i:=3) rfl);have m4:=Later.cell (L6.out.cell (i:=4) rfl);have m5:=Later.cell (L6.out.cell (i:=5) rfl);have m6:=Later.cell (L6.out.cell (i:=6) rfl);have m7:=Later.cell (L6.out.cell (i:=7) rfl);have m8:=Later.cell (L6.out.cell (i:=8) rfl);have m9:=Later.cell (L6.out.cell (i:=9) rfl);have m10:=Later.cell (L6.out.cell (i:=10) rfl);refine wp_region_later_tail 4 (by kernel_rfl) (by kernel_rfl) ?_
  simp only[List.take_succ_cons,List.take_zero,List.drop_succ_cons,List.drop_zero]
  repeat (go_big_quiet_step (fail))
  refine wpQuiet_nil ?_
  rintro _ ⟨u,rfl⟩;have M9:=hid (M6.out.next u.below);have K9:=hid (K6.out.trans (u.below.mono K6.out.size));clear l2 m0 m1 m2 m3 m4 m5 m6 m7 m8 m9 m10 O6 M6 K6 L6;generalize u.w=w9 at M9 K9 ⊢
  go_wp2_with (first
   |(refine wpList_plain rfl fun K' hK'=>wp_store_msg (cs':=mcl 3 i st) _ _ rfl rfl rfl M9.out rfl rfl (one_msg _ _ _) (fun w2 z1 z2=>hK' _ _ ?_))
   |fail)
  exact bodyPost_ret (told_ask rfl rfl rfl z1 rfl) rfl ⟨rfl,hg▸K9.out.grown z2 K9.out.size fun j hj=>by cases hj;omega⟩
 ·rename_i hh
  have kk:=CB.out _ hh;have O6:Hid (Lies (((w5.setCell ⟨w3.heap.size,0,none⟩ (.int .i64 o.s)).setCell ⟨w3.heap.size,1,none⟩ (.int .i64 o.v)).setCell ⟨w3.heap.size,2,none⟩ (.bool o.m)) w3.heap.size 154 [.int .i64 o.s,.int .i64 o.v,.bool o.m]):=hid (((L5.put 0 (.int .i64 o.s)).put 1 (.int .i64 o.v)).put 2 (.bool o.m));clear hh k5 q0 q1 q2 f0 f1 f2 L5;have L6:=hid (L3.out.next kk);have M6:=hid (M3.out.next kk);have K6:=hid (K3.out.trans (kk.mono K3.out.size));clear kk L3 M3 K3 H3 G3 CS CB XN;generalize w3.heap.size=g6 at O6 L6 M6 K6 ⊢;generalize ((w5.setCell ⟨g6,0,none⟩ (.int .i64 o.s)).setCell ⟨g6,1,none⟩ (.int .i64 o.v)).setCell ⟨g6,2,none⟩ (.bool o.m)=w6 at L6 M6 K6 O6 ⊢;go_upto_region 7 with fail
  have l2:=Later.cell (O6.out.cell (i:=0) rfl);have m0:=Later.cell (L6.out.cell (i:=0) rfl);have m1:=Later.cell (L6.out.cell (i:=1) rfl);have m2:=Later.cell (L6.out.cell (i:=2) rfl);have m3:=Later.cell (L6.out.cell (i:=3) rfl);have m4:=Later.cell (L6.out.cell (i:=4) rfl);have m5:=Later.cell (L6.out.cell (i:=5) rfl);have m6:=Later.cell (L6.out.cell (i:=6) rfl);have m7:=Later.cell (L6.out.cell (i:=7) rfl);have m8:=Later.cell (L6.out.cell (i:=8) rfl);have m9:=Later.cell (L6.out.cell (i:=9) rfl);have m10:=Later.cell (L6.out.cell (i:=10) rfl);refine wp_region_later_tail 4 (by kernel_rfl) (by kernel_rfl) ?_
  simp only[List.take_succ_cons,List.take_zero,List.drop_succ_cons,List.drop_zero]
  repeat (go_big_quiet_step (fail))
  refine wpQuiet_nil ?_
  rintro _ ⟨u,rfl⟩;have M9:=hid (M6.out.next u.below);have K9:=hid (K6.out.trans (u.below.mono K6.out.size));clear l2 m0 m1 m2 m3 m4 m5 m6 m7 m8 m9 m10 O6 M6 K6 L6;generalize u.w=w9 at M9 K9 ⊢
  go_wp2_with (first
   |(refine wpList_plain rfl fun K' hK'=>wp_store_msg (cs':=mcl 3 i st) _ _ rfl rfl rfl M9.out rfl rfl (one_msg _ _ _) (fun w2 z1 z2=>hK' _ _ ?_))
   |fail)
  exact bodyPost_ret (told_ask rfl rfl rfl z1 rfl) rfl ⟨rfl,hg▸K9.out.grown z2 K9.out.size fun j hj=>by cases hj;omega⟩
theorem mv_set{w2:World}(k:Moves (At h) (At h) w w2)(j:Nat)(v:Value):Moves (At h) (At h) w (w2.setCell ⟨h,j,none⟩ v):=
 ⟨k.os,k.tape,k.output,by simpa using k.size,fun l hl hn=>(Below.heap_setCell _ _ _ _ (by exact hn)).trans (k.block l hl hn),fun l hl=>⟨(k.new l hl).1,by simpa using (k.new l hl).2⟩⟩
theorem mv_two{F F' G G':Nat→Prop}{w1 w2:World}(h:Moves F F' w w1)(k:Moves G G' w1 w2):Moves (Or2 F G) (Or2 F' G') w w2:=
 ⟨k.os.trans h.os,k.tape.trans h.tape,k.output.trans h.output,Nat.le_trans h.size k.size,fun i hi hn=>(k.block i (Nat.lt_of_lt_of_le hi h.size) fun q=>hn (.inr q)).trans (h.block i hi fun q=>hn (.inl q)),fun i hi=>by
  rcases hi with hi|hi
  ·exact⟨(h.new i hi).1.imp .inl id,Nat.lt_of_lt_of_le (h.new i hi).2 k.size⟩
  ·exact⟨(k.new i hi).1.imp .inr (fun q=>Nat.le_trans h.size q),(k.new i hi).2⟩⟩
theorem mv_below{w2 w3:World}(k:Moves (At h) (At h) w w2)(kk:Below w2.heap.size w2 w3):Moves (At h) (At h) w w3:=k.trans (Moves.of_below kk k.in)
theorem did_give{ms ds:Option Nat}(H:Hid (Is w h b g tt 3 true st)):Calls Tryz.prog 60 #[gp h,dval 3 g ms ds] w fun r w'=>r=.returned (.bool true)∧Is w' h b g tt 4 false ds∧Moves (At h) (At h) w w':=by
 have k1:=below1 w (Obj.cells #[.int .i64 3,.int .i64 0,.int .i64 0,.string ⟨#[]⟩,.int .i64 0,.int .i64 0,.int .i64 0,.int .i64 0,.int .i64 0,.int .i64 g,stv ms,.bool false,.int .i64 0,.slice none 0 0,.slice none 0 0,stv ds] 57)
 have H1:=hid (H.out.next k1)
 have D1:Hid (Lies (w.alloc (Obj.cells #[.int .i64 3,.int .i64 0,.int .i64 0,.string ⟨#[]⟩,.int .i64 0,.int .i64 0,.int .i64 0,.int .i64 0,.int .i64 0,.int .i64 g,stv ms,.bool false,.int .i64 0,.slice none 0 0,.slice none 0 0,stv ds] 57)) w.heap.size 57 (dcl 3 g ms ds)):=hid (Lies.new _ _ _)
 have K1:=hid k1
 clear k1
 go_enter Tryz.func60,Tryz.ntmps60
 go_upto_region 1 with fail
 generalize hg:w.heap.size=g3 at D1 ⊢
 generalize w.alloc (Obj.cells #[.int .i64 3,.int .i64 0,.int .i64 0,.string ⟨#[]⟩,.int .i64 0,.int .i64 0,.int .i64 0,.int .i64 0,.int .i64 0,.int .i64 g,stv ms,.bool false,.int .i64 0,.slice none 0 0,.slice none 0 0,stv ds] 57)=w1 at H1 D1 K1 ⊢
 have l1:=Later.cell (H1.out.cell (i:=1) rfl)
 have l3:=Later.cell (H1.out.cell (i:=3) rfl)
 have l4:=Later.cell (H1.out.cell (i:=4) rfl)
 have e0:=Later.cell (D1.out.cell (i:=0) rfl)
 have e9:=Later.cell (D1.out.cell (i:=9) rfl)
 refine wp_region_later (by kernel_rfl) (by kernel_rfl) ?_
 repeat (go_big_quiet_step (fail))
 refine wpQuiet_nil ?_
 rintro _ ⟨u,rfl⟩
 have H2:=hid (H1.out.next u.below)
 have D2:=hid (D1.out.next u.below)
 have V2:Hid (Moves (At h) (At h) w u.w):=hid (Moves.of_below (after K1.out u.below) fun j hj=>by obtain rfl:j=h:=hj;exact H.out.lt)
 have NE:Hid (g3≠h):=hid (by have:=H.out.lt;omega)
 clear l1 l3 l4 e0 e9 K1 H1 D1
 generalize u.w=w2 at H2 D2 V2 ⊢
 have h4:=H2.out.cell (i:=4) rfl
 have f4:=H2.out.open_ 4
 have h3:=H2.out.cell (i:=3) rfl
 have f3:=H2.out.open_ 3
 go_upto_region 5 with fail
 have H5:Hid (Is (w2.setCell ⟨h,4,none⟩ (.bool false)) h b g tt 3 false st):=hid (H2.out.put 4 (.bool false))
 have D5:=hid (D2.out.far (p:=⟨h,4,none⟩) NE.out (.bool false))
 have V5:=hid (mv_set V2.out 4 (.bool false))
 clear H2 D2 V2 h3 h4 f3 f4
 generalize w2.setCell ⟨h,4,none⟩ (.bool false)=w5 at H5 D5 V5 ⊢
 have h3:=H5.out.cell (i:=3) rfl
 have f3:=H5.out.open_ 3
 have h5:=H5.out.cell (i:=5) rfl
 have f5:=H5.out.open_ 5
 go_region_held3 (fun w'=>w'.cell? ⟨g3,15,none⟩=some (stv ds))
  (first|exact D5.out.drew.cell (i:=15) rfl|exact (D5.out.drew.far NE.out _).cell (i:=15) rfl|exact ((D5.out.drew.far NE.out _).far NE.out _).cell (i:=15) rfl)
  (fail)
 all_goals
  go_wp2;go_ret;exact⟨rfl,((H5.out.drew.put 3 (.int .i64 4)).put 5 (stv ds)),mv_set (mv_set (mv_below V5.out (Below.refl _ _).drew) 3 _) 5 _⟩
theorem did_have{ms ds:Option Nat}(H:Hid (Is w h b i tt 4 true st))(G:Hid (Ow.Is w b s M))(hx:M[i]?=some o)(hm:o.m=true)(y0:0≤tt)(y1:tt<s)(v0:0≤o.v)(v1:o.v≤1000000)(hn:¬Ow.Fp b h):Calls Tryz.prog 60 #[gp h,dval 4 i ms ds] w fun r w'=>r=.returned (.bool true)∧Is w' h b i tt 0 false st∧Ow.Is w' b s (M.set i ⟨tt,o.v+1,false⟩)∧Moves (Or2 (At h) (Ow.Fp b)) (Or2 (At h) (Ow.Fp b)) w w':=by
 have G0:=G
 have k1:=below1 w (Obj.cells #[.int .i64 4,.int .i64 0,.int .i64 0,.string ⟨#[]⟩,.int .i64 0,.int .i64 0,.int .i64 0,.int .i64 0,.int .i64 0,.int .i64 i,stv ms,.bool false,.int .i64 0,.slice none 0 0,.slice none 0 0,stv ds] 57)
 have H1:=hid (H.out.next k1)
 have D1:Hid (Lies (w.alloc (Obj.cells #[.int .i64 4,.int .i64 0,.int .i64 0,.string ⟨#[]⟩,.int .i64 0,.int .i64 0,.int .i64 0,.int .i64 0,.int .i64 0,.int .i64 i,stv ms,.bool false,.int .i64 0,.slice none 0 0,.slice none 0 0,stv ds] 57)) w.heap.size 57 (dcl 4 i ms ds)):=hid (Lies.new _ _ _)
 have K1:=hid k1
 have G1:=hid (G.out.next k1)
 clear k1
 go_enter Tryz.func60,Tryz.ntmps60
 go_upto_region 1 with fail
 generalize hg:w.heap.size=g3 at D1 ⊢
 generalize w.alloc (Obj.cells #[.int .i64 4,.int .i64 0,.int .i64 0,.string ⟨#[]⟩,.int .i64 0,.int .i64 0,.int .i64 0,.int .i64 0,.int .i64 0,.int .i64 i,stv ms,.bool false,.int .i64 0,.slice none 0 0,.slice none 0 0,stv ds] 57)=w1 at H1 D1 K1 G1 ⊢
 have l1:=Later.cell (H1.out.cell (i:=1) rfl)
 have l3:=Later.cell (H1.out.cell (i:=3) rfl)
 have l4:=Later.cell (H1.out.cell (i:=4) rfl)
 have e0:=Later.cell (D1.out.cell (i:=0) rfl)
 have e9:=Later.cell (D1.out.cell (i:=9) rfl)
 refine wp_region_later (by kernel_rfl) (by kernel_rfl) ?_
 repeat (go_big_quiet_step (fail))
 refine wpQuiet_nil ?_
 rintro _ ⟨u,rfl⟩
 have H2:=hid (H1.out.next u.below)
 have D2:=hid (D1.out.next u.below)
 have V2:Hid (Moves (At h) (At h) w u.w):=hid (Moves.of_below (after K1.out u.below) fun j hj=>by obtain rfl:j=h:=hj;exact H.out.lt)
 have G2:=hid (G1.out.next u.below)
 have NE:Hid (g3≠h):=hid (by have:=H.out.lt;omega)
 clear l1 l3 l4 e0 e9 K1 H1 D1 G1
 generalize u.w=w2 at H2 D2 V2 G2 ⊢
 have h4:=H2.out.cell (i:=4) rfl
 have f4:=H2.out.open_ 4
 have h3:=H2.out.cell (i:=3) rfl
 have f3:=H2.out.open_ 3
 go_upto_region 8 with fail
 have H5:Hid (Is ((w2.setCell ⟨h,4,none⟩ (.bool false)).setCell ⟨h,3,none⟩ (.int .i64 0)) h b i tt 0 false st):=hid ((H2.out.put 4 (.bool false)).put 3 (.int .i64 0))
 have V5:=hid (mv_set (mv_set V2.out 4 (.bool false)) 3 (.int .i64 0))
 have G5:=hid (G0.out.keep V5.out (fun j hj q=>hn (by obtain rfl:j=h:=hj;exact q)))
 clear H2 D2 V2 h3 h4 f3 f4 G2
 generalize (w2.setCell ⟨h,4,none⟩ (.bool false)).setCell ⟨h,3,none⟩ (.int .i64 0)=w5 at H5 V5 G5 ⊢
 have l0:=Later.cell (H5.out.cell (i:=0) rfl)
 have l1:=Later.cell (H5.out.cell (i:=1) rfl)
 have l2:=Later.cell (H5.out.cell (i:=2) rfl)
 refine wp_region_later_tail 12 (by kernel_rfl) (by kernel_rfl) ?_
 simp only[List.take_succ_cons,List.take_zero,List.drop_succ_cons,List.drop_zero]
 repeat (go_big_quiet_step (fail))
 refine wpQuiet_nil ?_
 rintro _ ⟨u,rfl⟩
 have H6:=hid (H5.out.next u.below)
 have G6:=hid (G5.out.next u.below)
 have V6:=hid (mv_below V5.out u.below)
 clear l0 l1 l2 H5 G5 V5
 generalize u.w=w6 at H6 G6 V6 ⊢
 go_wp2_with fail
 refine (Ow.publish_ok G6 hx hm y0 y1 v0 v1).mono ?_
 rintro r w7 ⟨rfl,h7,v7⟩
 have Z:=hid (And.intro (v7.lies hn H6.out) (And.intro h7 (mv_two V6.out v7)))
 clear h7 v7
 go_wp2
 go_ret
 exact⟨rfl,Z.out⟩
end
end Hd
namespace Hd
set_option maxRecDepth 100000
end Hd
end Go.Proofs.YtfjlnniahfbdfaaGreat
