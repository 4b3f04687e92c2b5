/- A part of the proof. -/
import Derived.Test.YtfjlnniahfbdfaaGreatPbp
set_option linter.unusedVariables false
set_option maxHeartbeats 4000000
namespace Go.Proofs.YtfjlnniahfbdfaaGreat
open Lib (hid)
open Go.ChangeShapes Go.WideShapes Go.ChangeAt Go.RowKit
set_option maxRecDepth 100000
namespace Sh.Sw
open Small Foot Pane Grp Ca Md
abbrev dcl(x:Ms.M)(mv:Bool)(code:Int)(rv ov:Value)(st:Option Nat):List Value:=[.int .i64 x.kind,.int .i64 x.fr,.int .i64 x.call.op,.string x.call.key,.int .i64 x.call.t,.int .i64 x.call.v,.int .i64 x.call.e,.int .i64 x.call.u,.int .i64 x.call.s,.int .i64 x.group,Ms.stv x.st,.bool mv,.int .i64 code,rv,ov,ptr st]
abbrev dval(x:Ms.M)(mv:Bool)(code:Int)(rv ov:Value)(st:Option Nat):Value:=.agg #[.int .i64 x.kind,.int .i64 x.fr,.int .i64 x.call.op,.string x.call.key,.int .i64 x.call.t,.int .i64 x.call.v,.int .i64 x.call.e,.int .i64 x.call.u,.int .i64 x.call.s,.int .i64 x.group,Ms.stv x.st,.bool mv,.int .i64 code,rv,ov,ptr st]
abbrev zd:List Value:=[.int .i64 0,.int .i64 0,.int .i64 0,.string ⟨#[]⟩,.int .i64 0,.int .i64 0,.int .i64 0,.int .i64 0,.int .i64 0,.int .i64 0,.pointer none,.bool false,.int .i64 0,.slice none 0 0,.slice none 0 0,.pointer none]
abbrev zdid:Value:=.agg #[.int .i64 0,.int .i64 0,.int .i64 0,.string ⟨#[]⟩,.int .i64 0,.int .i64 0,.int .i64 0,.int .i64 0,.int .i64 0,.int .i64 0,.pointer none,.bool false,.int .i64 0,.slice none 0 0,.slice none 0 0,.pointer none]
section
variable {w:World} {g:Nat} {cs cs':List Value}
theorem load_did(h:Lies w g 57 cs)(hl:cs.length=16):(loadVar 57 ⟨g,0,none⟩).run Tryz.prog w=.ok (.agg cs.toArray) w:=by
 have:=run_loadCells_list (P:=Tryz.prog) w ⟨g,0,none⟩ cs fun j v hj=>by rw[Addr.add_lit,Nat.zero_add];exact h.cell hj
 rw[hl] at this
 unfold loadVar
 simp only[Sem.run_bind,Tryz.isAgg57,Tryz.sizeOf57,Result.andThen_ok,if_true,this,Sem.run_pure]
theorem store_did(h:Lies w g 57 cs)(hl:cs.length=16)(hl':cs'.length=16)(h1:∀ v∈cs',v.oneCell'=true):
  ∃ w',(storeVar 57 ⟨g,0,none⟩ (.agg cs'.toArray)).run Tryz.prog w=.ok () w'∧Lies w' g 57 cs'∧w.grownBy w' (some g):=by
 have hst:=run_storeCells_at Tryz.prog g 0 57 cs' 0 cs.toArray w h (by simp;omega) h1
 have hd:cs.drop (0+0+cs'.length)=[]:=List.drop_eq_nil_of_le (by omega)
 rw[show (cs.toArray.toList.take (0+0)++cs'++cs.toArray.toList.drop (0+0+cs'.length)).toArray=cs'.toArray by rw[show cs.toArray.toList=cs from rfl,hd];simp] at hst
 refine⟨w.setRow g cs'.toArray,?_,setRow_heap _ _ _ _ _ _ h,Ms.grown_setRow ⟨rfl,rfl,rfl,Nat.le_refl _,fun _ _ _=>rfl⟩ _⟩
 unfold storeVar
 have hc:(Value.agg cs'.toArray).cells=cs'.toArray:=rfl
 simp only[Sem.run_bind,Tryz.sizeOf57,Result.andThen_ok,hc,List.size_toArray,hl',ne_eq,not_true_eq_false,if_false]
 exact hst
theorem step_drop{ops:Array Oper}{o:Oper}{a:Act}{w:World}{K:Act→World→Prop}{Q:Exit→Act→World→Prop}{E:Prop}{m c:Nat}{p q:Int→Option Nat}{x:Int}
  (hg:o.guard=none) (mo xo:Operand) (hop:o.op=Op.call {callee:=Callee.builtin Builtin.delete,args:=#[mo,xo],argTypes:=#[119,3]})
  (hm:a.eval mo=.map (some m)) (hx:a.eval xo=.int .i64 x) (h:Mi w m p c) (fx:Wf x) (hq:upd p x none q) (hK:∀ w' c',Mi w' m q c'→w.grownBy w' (some m)→K (a.put o.dst (.tuple #[])) w'):
  if Region.wanted o (yielded ops a.tmps)=true then Oper.wp Tryz.prog o a w K Q else E:=by
 have hw:Region.wanted o (yielded ops a.tmps)=true:=by simp[Region.wanted,hg]
 rw[if_pos hw]
 obtain⟨w',c',hrun,r1,-,r2⟩:=h.drop fx hq o.type
 unfold Oper.wp
 simp[execOp,hop,resolve,invoke,builtin,hm,hx,hrun,Result.andThen]
 exact hK w' c' r1 r2
theorem wp_load_did{o:Oper}{a:Act}{K:Act→World→Prop}{Q:Exit→Act→World→Prop}(x:Operand)(ho:o.op=.load 57 x)(hx:a.eval x=.pointer (some ⟨g,0,none⟩))(h:Lies w g 57 cs)(hl:cs.length=16)
  (hK:K (a.put o.dst (.agg cs.toArray)) w):o.wp Tryz.prog a w K Q:=by
 unfold Oper.wp execOp
 simp only[ho,hx,Instr.loadAt,Instr.sureAddr,Sem.run_bind,Sem.run_pure,Result.andThen_ok,load_did h hl]
 exact hK
theorem wp_store_did{o:Oper}{a:Act}{K:Act→World→Prop}{Q:Exit→Act→World→Prop}(x y:Operand)(ho:o.op=.store 57 x y)(hx:a.eval x=.pointer (some ⟨g,0,none⟩))(hy:a.eval y=.agg cs'.toArray)(h:Lies w g 57 cs)(hl:cs.length=16)(hl':cs'.length=16)(h1:∀ v∈cs',v.oneCell'=true)
  (hK:∀ w',Lies w' g 57 cs'→w.grownBy w' (some g)→K (a.put o.dst undef) w'):o.wp Tryz.prog a w K Q:=by
 obtain⟨w',hr,q1,q2⟩:=store_did h hl hl' h1
 unfold Oper.wp execOp
 simp only[ho,hx,hy,Instr.storeAt,Instr.sureAddr,Sem.run_bind,Sem.run_pure,Result.andThen_ok,hr]
 exact hK w' q1 q2
theorem build_msg(w:World)(c0 c1 c2 c3 c4 c5 c6 c7 c8 c9 c10:Value):(Instr.build 57 #[(0,.agg #[c0,c1,c2,c3,c4,c5,c6,c7,c8,c9,c10])]).run Tryz.prog w=.ok (.agg #[c0,c1,c2,c3,c4,c5,c6,c7,c8,c9,c10,.bool false,.int .i64 0,.slice none 0 0,.slice none 0 0,.pointer none]) w:=by
 kernel_rfl
theorem wp_build_msg{o:Oper}{a:Act}{K:Act→World→Prop}{Q:Exit→Act→World→Prop}(x:Operand){c0 c1 c2 c3 c4 c5 c6 c7 c8 c9 c10:Value}(ho:o.op=.build 57 #[(0,x)])(hx:a.eval x=.agg #[c0,c1,c2,c3,c4,c5,c6,c7,c8,c9,c10])
  (hK:K (a.put o.dst (.agg #[c0,c1,c2,c3,c4,c5,c6,c7,c8,c9,c10,.bool false,.int .i64 0,.slice none 0 0,.slice none 0 0,.pointer none])) w):o.wp Tryz.prog a w K Q:=by
 unfold Oper.wp execOp
 simp only[ho,List.map_toArray,List.map_cons,List.map_nil,hx,Sem.run_bind,Sem.run_pure,Result.andThen_ok,build_msg]
 exact hK
theorem load_msg(h:Lies w g 55 cs)(hl:cs.length=11):(loadVar 55 ⟨g,0,none⟩).run Tryz.prog w=.ok (.agg cs.toArray) w:=by
 have:=run_loadCells_list (P:=Tryz.prog) w ⟨g,0,none⟩ cs fun j v hj=>by rw[Addr.add_lit,Nat.zero_add];exact h.cell hj
 rw[hl] at this
 unfold loadVar
 simp only[Sem.run_bind,Tryz.isAgg55,Tryz.sizeOf55,Result.andThen_ok,if_true,this,Sem.run_pure]
theorem wp_load_msg{o:Oper}{a:Act}{K:Act→World→Prop}{Q:Exit→Act→World→Prop}(x:Operand)(ho:o.op=.load 55 x)(hx:a.eval x=.pointer (some ⟨g,0,none⟩))(h:Lies w g 55 cs)(hl:cs.length=11)
  (hK:K (a.put o.dst (.agg cs.toArray)) w):o.wp Tryz.prog a w K Q:=by
 unfold Oper.wp execOp
 simp only[ho,hx,Instr.loadAt,Instr.sureAddr,Sem.run_bind,Sem.run_pure,Result.andThen_ok,load_msg h hl]
 exact hK
theorem one_did(k fr:Int)(y:Cl)(gn:Int)(st st':Option Nat)(mv:Bool)(code:Int)(A B:Option Addr)(n m c e:Nat):∀ v∈dcl ⟨k,fr,y,gn,st⟩ mv code (.slice A n c) (.slice B m e) st',v.oneCell'=true:=by
 intro v hv
 simp only[List.mem_cons,List.not_mem_nil,or_false] at hv
 rcases hv with rfl|rfl|rfl|rfl|rfl|rfl|rfl|rfl|rfl|rfl|rfl|rfl|rfl|rfl|rfl|rfl<;>rfl
theorem told_did{a:Act}{w:World}{g:Nat}{b:Bool}(h6:a.tmps[6]?.getD undef=.pointer (some ⟨g,0,none⟩))(h7:a.tmps[7]?.getD undef=.bool b)(h:Lies w g 57 cs)(hl:cs.length=16):
  (results Tryz.f17 a.tmps).run Tryz.prog w=.ok (.tuple #[.agg cs.toArray,.bool b]) w:=by
 have:=load_did h hl
 simp[results,Tryz.results17,h6,h7,asAddr,this,Result.andThen]
end
abbrev Or2(F G:Nat→Prop):Nat→Prop:=fun i=>F i∨G i
theorem moves_two{F F' G G':Nat→Prop}{w w1 w2:World}(h:Moves F F' w w1)(k:Moves G G' w1 w2):Moves (Or2 F G) (Or2 F' G') w w2:=
 ⟨k.os.trans h.os,k.tape.trans h.tape,k.output.trans h.output,Nat.le_trans h.size k.size,fun i hi hn=>(k.block i (Nat.lt_of_lt_of_le hi h.size) fun q=>hn (.inr q)).trans (h.block i hi fun q=>hn (.inl q)),fun i hi=>by
  rcases hi with hi|hi
  ·exact⟨(h.new i hi).1.imp .inl id,Nat.lt_of_lt_of_le (h.new i hi).2 k.size⟩
  ·exact⟨(k.new i hi).1.imp .inr (fun q=>Nat.le_trans h.size q),(k.new i hi).2⟩⟩
theorem step_has{bx:Nat}{sd:Bool}{wk:Nat}{F:Nat→Prop}{cf:C8}{p:Int→Option Nat}{L:List Ms.M}(fr:Int)(y:Cl)(gn:Int)(st:Option Nat)(mark:Int)(sh:Bool)(w:World)(H:Hid (Is bx sd w wk F cf p (⟨1,fr,y,gn,st⟩::L)))(hL:L.length≤100)(hc:Hid (Md.cfOf cf).Fit)(hx:Hid y.Fit)(hk:Hid (kd y.op=true))(HM:Hid (mayC (Md.cfOf cf) y))(wg:Wf (grpOf cf.r y)){a N n:Nat}{Fg:Nat→Prop}{S:Lists}(HG:Hid (p (grpOf cf.r y)=some a))(hs:sh=false)(z:Option (Nat×Int×Int×Int))(G:Hid (Gr.Is w a Fg cf S N n))(A:Hid (Apart F Fg))(hN:N≤8880)(M:Hid (Asg.may cf.k cf.s cf.l cf.g cf.z cf.h cf.r cf.c))(B:Hid (cf.s≤9223372036854775807∧cf.l≤9223372036854775807∧cf.g≤9223372036854775807∧cf.z≤9223372036854775807))(fk:Hid ((Lit.int .i64 mark).wf=true))(hkey:y.key.size≤maxLen)(T:Hid (Asg.Told cf.k cf.s cf.l cf.g cf.z y.t z)):
  Calls Tryz.prog 17 #[gp wk,.int .i64 mark,.bool sh] w fun r w'=>∃ rv ov code P O c S' n' F' Fg',r=.returned (.tuple #[dval ⟨1,fr,y,gn,st⟩ false code rv ov none,.bool true])∧MAsked cf S mark y z code P O c S'∧n'≤n+c∧P.length≤9000∧Is bx sd w' wk F' cf p L∧Gr.Is w' a Fg' cf S' (N+c) n'∧Apart F' Fg'∧Moves (Or2 F Fg) (Or2 F' Fg') w w'∧Sl.Own Pn.k w.heap.size w' rv P∧Sl.Own Pn.k w.heap.size w' ov O:=by
 subst hs
 obtain⟨m,bv,q,hF⟩:=H.out
 obtain rfl:F=WF wk m bx bv:=funext fun k=>propext (hF k)
 have hIn:=hid q.in
 have lw:=q.lies.lt
 have HQ:=hid q
 clear q hF H
 have k0:=below1 w (Obj.cells #[.int .i64 0,.int .i64 0,.int .i64 0,.string ⟨#[]⟩,.int .i64 0,.int .i64 0,.int .i64 0,.int .i64 0,.int .i64 0,.int .i64 0,.pointer none,.bool false,.int .i64 0,.slice none 0 0,.slice none 0 0,.pointer none] 57)
 have Q0:=hid (HQ.out.keep fun i hi=>k0.block i (HQ.out.in i hi))
 have R0:=hid (Lies.new w 57 zd)
 have K0:=hid k0
 have c9:=Q0.out.lies.cell (i:=9) rfl
 clear k0
 go_enter Tryz.func17,Tryz.ntmps17
 go_upto_region 1 with fail
 generalize hg0:w.heap.size=g0 at R0 ⊢
 generalize w.alloc (Obj.cells #[.int .i64 0,.int .i64 0,.int .i64 0,.string ⟨#[]⟩,.int .i64 0,.int .i64 0,.int .i64 0,.int .i64 0,.int .i64 0,.int .i64 0,.pointer none,.bool false,.int .i64 0,.slice none 0 0,.slice none 0 0,.pointer none] 57)=W0 at Q0 R0 K0 c9 ⊢
 go_wp2_with fail
 refine (Ms.take_ok bx cf.c sd bv ⟨1,fr,y,gn,st⟩ L W0 (hid Q0.out.box) (by have:=hL;omega)).mono ?_
 rintro r w1 ⟨bv',rfl,b1,v1⟩
 obtain⟨q1,mv1⟩:=Q0.out.boxed b1 v1
 have Q1:=hid q1
 have M1:=hid mv1
 have R1:=hid (mv1.lies (fun q=>by have:=hIn.out _ (show WF wk m bx bv g0 from q);omega) R0.out)
 have N1:Hid (¬WF wk m bx bv' g0):=hid fun q=>by
  rcases (mv1.new _ q).1 with r|r
  ·have:=hIn.out _ r;omega
  ·have:=R0.out.lt;omega
 clear b1 v1 q1 mv1 c9
 go_upto_region 2 with fail
 have k2:=below1 w1 (Obj.cells #[.int .i64 1,.int .i64 fr,.int .i64 y.op,.string y.key,.int .i64 y.t,.int .i64 y.v,.int .i64 y.e,.int .i64 y.u,.int .i64 y.s,.int .i64 gn,Ms.stv st] 55)
 have X2:=hid (Lies.new w1 55 [.int .i64 1,.int .i64 fr,.int .i64 y.op,.string y.key,.int .i64 y.t,.int .i64 y.v,.int .i64 y.e,.int .i64 y.u,.int .i64 y.s,.int .i64 gn,Ms.stv st])
 have Q2:=hid (Q1.out.keep fun i hi=>k2.block i (Q1.out.in i hi))
 have R2:=hid (R1.out.next k2)
 have M2:=hid (M1.out.trans (Moves.of_below k2 Q1.out.in))
 have n2:Hid (g0<w1.heap.size):=hid R1.out.lt
 have N2:Hid (∀ i,WF wk m bx bv' i→i<w1.heap.size):=hid Q1.out.in
 clear k2
 generalize hg8:w1.heap.size=g8 at X2 n2 N2 ⊢
 generalize w1.alloc (Obj.cells #[.int .i64 1,.int .i64 fr,.int .i64 y.op,.string y.key,.int .i64 y.t,.int .i64 y.v,.int .i64 y.e,.int .i64 y.u,.int .i64 y.s,.int .i64 gn,Ms.stv st] 55)=W2 at X2 Q2 R2 M2 ⊢
 have L2:Hid (Lies (W2.alloc (Obj.cells #[.int .i64 0,.int .i64 0,.int .i64 0,.string ⟨#[]⟩,.int .i64 0,.int .i64 0,.int .i64 0,.int .i64 0,.int .i64 0,.int .i64 0,.pointer none,.bool false,.int .i64 0,.slice none 0 0,.slice none 0 0,.pointer none] 57)) W2.heap.size 57 zd):=hid (Lies.new W2 57 zd)
 have k2:=hid (below1 W2 (Obj.cells #[.int .i64 0,.int .i64 0,.int .i64 0,.string ⟨#[]⟩,.int .i64 0,.int .i64 0,.int .i64 0,.int .i64 0,.int .i64 0,.int .i64 0,.pointer none,.bool false,.int .i64 0,.slice none 0 0,.slice none 0 0,.pointer none] 57))
 go_upto_region 5 with (first
  |(refine wpList_plain rfl fun K' hK'=>wp_load_msg _ rfl rfl X2.out rfl (hK' _ _ ?_))
  |(refine wpList_plain rfl fun K' hK'=>wp_build_msg _ rfl rfl (hK' _ _ ?_))
  |(refine wpList_plain rfl fun K' hK'=>wp_store_did (cs':=dcl ⟨1,fr,y,gn,st⟩ false 0 (.slice none 0 0) (.slice none 0 0) none) _ _ rfl rfl rfl L2.out rfl rfl (one_did _ _ _ _ _ _ _ _ _ _ _ _ _ _) (fun W3 z1 z2=>hK' _ _ ?_)))
 have k3:=Ms.below_over k2.out z2 (Nat.le_refl _)
 have D3:=hid z1
 have X3:=hid (X2.out.next k3)
 have Q3:=hid (Q2.out.keep fun i hi=>k3.block i (Q2.out.in i hi))
 have R3:=hid (R2.out.next k3)
 have M3:=hid ((Moves.of_below K0.out hIn.out).trans (M2.out.trans (Moves.of_below k3 Q2.out.in)))
 have n3:Hid (g8<W2.heap.size∧g0<W2.heap.size∧w.heap.size≤g0∧g0<g8):=hid ⟨X2.out.lt,R2.out.lt,by omega,n2.out⟩
 clear k3 k2 L2 z1 z2 hg8
 generalize hg10:W2.heap.size=g10 at D3 n3 ⊢
 obtain⟨x0,x1,x2,x3,x4,x5,x6,x7,x8,x9,x10⟩:=Ms.eleven X3.out
 clear X2 Q2 R2 M2 Q1 M1 R1 Q0 R0 n2 hg10
 have HI:=hid (⟨m,bv',Q3.out,fun _=>Iff.rfl⟩:Is bx sd W3 wk (WF wk m bx bv') cf p L)
 have G3:=hid (G.out.beside M3.out A.out.symm)
 have A3:=hid (M3.out.apart A.out G.out.in)
 have N3:Hid (In w Fg):=hid G.out.in
 go_wp2_with fail
 refine (ask_has y mark false W3 HI hc hx hk HM wg HG rfl z G3 hN M B fk hkey T).mono ?_
 rintro r w5 ⟨rv,ov,code,P,O,c,S',n',Fg',rfl,ma,hn',hP,g5,v5,o5,oo5⟩
 obtain⟨Av,nv,cv,rfl⟩:=Md.lit o5
 obtain⟨Bv,mvv,ev,rfl⟩:=Md.lit oo5
 have nf:∀ i,w.heap.size≤i→i<W3.heap.size→¬Fg i:=fun i hi _ q=>by have:=N3.out i q;omega
 have nf':∀ i,w.heap.size≤i→i<W3.heap.size→¬Fg' i:=fun i hi h3 q=>by
  rcases (v5.new i q).1 with r|r
  ·exact nf i hi h3 r
  ·omega
 have d3l:=D3.out.lt
 have r3l:=R3.out.lt
 have D5:=hid (v5.lies (nf g10 (by have:=n3.out;omega) d3l) D3.out)
 have R5:=hid (v5.lies (nf g0 (by have:=n3.out;omega) r3l) R3.out)
 have Q5:=hid (Q3.out.keep fun i hi=>v5.block i (Q3.out.in i hi) fun q=>A3.out i hi q)
 have M5:=hid (moves_two M3.out v5)
 have A5:Hid (Apart (WF wk m bx bv') Fg'):=hid (v5.apart A3.out.symm Q3.out.in).symm
 have F0:Hid (¬Fg' g0∧¬Fg' g10):=hid ⟨nf' g0 (by have:=n3.out;omega) r3l,nf' g10 (by have:=n3.out;omega) d3l⟩
 have G5:=hid g5
 have s3:Hid (w.heap.size≤W3.heap.size):=hid M3.out.size
 have O5:=hid (And.intro (Gr.own_base o5 s3.out) (Gr.own_base oo5 s3.out))
 have B5:=hid (And.intro ma (And.intro hn' hP))
 have b5:Hid (∀ v L,Sl.Own Pn.k W3.heap.size w5 v L→∀ i,v.ownBlock=some i→W3.heap.size≤i):=hid fun v L h i hi=>(h.lt i hi).1
 have p5:=hid (And.intro (fun i hi=>(o5.lt i hi).1) (fun i hi=>(oo5.lt i hi).1):(∀ i,(Value.slice Av nv cv).ownBlock=some i→W3.heap.size≤i)∧∀ i,(Value.slice Bv mvv ev).ownBlock=some i→W3.heap.size≤i)
 have l3:=hid (And.intro r3l d3l)
 clear g5 v5 o5 oo5 ma hn' hP nf nf' d3l r3l b5 x0 x1 x2 x3 x4 x5 x6 x7 x8 x9 x10
 have y11:=D5.out.cell (i:=11) rfl
 have y12:=D5.out.cell (i:=12) rfl
 have y13:=D5.out.cell (i:=13) rfl
 have y14:=D5.out.cell (i:=14) rfl
 have f5:=D5.out.open_
 go_upto_region 15 with fail
 have D9:Hid (Lies ((((w5.setCell ⟨g10,11,none⟩ (.bool false)).setCell ⟨g10,12,none⟩ (.int .i64 (code))).setCell ⟨g10,13,none⟩ (.slice Av nv cv)).setCell ⟨g10,14,none⟩ (.slice Bv mvv ev)) g10 57 (dcl ⟨1,fr,y,gn,st⟩ false (code) (.slice Av nv cv) (.slice Bv mvv ev) none)):=hid ((((D5.out.put 11 (.bool false)).put 12 (.int .i64 (code))).put 13 (.slice Av nv cv)).put 14 (.slice Bv mvv ev))
 have k9:w5.grownBy ((((w5.setCell ⟨g10,11,none⟩ (.bool false)).setCell ⟨g10,12,none⟩ (.int .i64 (code))).setCell ⟨g10,13,none⟩ (.slice Av nv cv)).setCell ⟨g10,14,none⟩ (.slice Bv mvv ev)) (some g10):=
  ⟨rfl,rfl,rfl,by simp,fun i hi hn=>by
   have h:i≠g10:=fun e=>hn (by rw[e])
   rw[Below.heap_setCell _ _ _ _ h,Below.heap_setCell _ _ _ _ h,Below.heap_setCell _ _ _ _ h,Below.heap_setCell _ _ _ _ h]⟩
 have hq9:=Q3.out.in
 have n9:=N1
 have n10:Hid (¬WF wk m bx bv' g10):=hid fun q=>by have:=N2.out _ q;have:=n3.out;omega
 have Q9:=hid (Q5.out.keep fun i hi=>k9.block i (Q5.out.in i hi) fun e=>n10.out (Option.some.inj e▸hi))
 have R9:Hid (Lies ((((w5.setCell ⟨g10,11,none⟩ (.bool false)).setCell ⟨g10,12,none⟩ (.int .i64 (code))).setCell ⟨g10,13,none⟩ (.slice Av nv cv)).setCell ⟨g10,14,none⟩ (.slice Bv mvv ev)) g0 57 zd):=hid ((k9.block g0 R5.out.lt fun e=>by have:=Option.some.inj e;have:=n3.out;omega).trans R5.out)
 have M9:=hid (moves_grown M5.out k9 (fun b e=>by have:=Option.some.inj e;have:=n3.out;omega))
 clear y11 y12 y13 y14 f5
 have G9g:=hid (G5.out.grown k9 F0.out.2)
 have O9:=hid (And.intro (O5.out.1.move fun i hi=>k9.block i (O5.out.1.lt i hi).2 fun e=>by have:=Option.some.inj e;have:=p5.out.1 i hi;have:=l3.out;omega) (O5.out.2.move fun i hi=>k9.block i (O5.out.2.lt i hi).2 fun e=>by have:=Option.some.inj e;have:=p5.out.2 i hi;have:=l3.out;omega))
 generalize (((w5.setCell ⟨g10,11,none⟩ (.bool false)).setCell ⟨g10,12,none⟩ (.int .i64 (code))).setCell ⟨g10,13,none⟩ (.slice Av nv cv)).setCell ⟨g10,14,none⟩ (.slice Bv mvv ev)=W9 at D9 Q9 R9 M9 k9 G9g O9 ⊢
 go_wp2_with (first
  |(refine wpList_plain rfl fun K' hK'=>wp_load_did _ rfl rfl D9.out rfl (hK' _ _ ?_))
  |(refine wpList_plain rfl fun K' hK'=>wp_store_did (cs':=dcl ⟨1,fr,y,gn,st⟩ false (code) (.slice Av nv cv) (.slice Bv mvv ev) none) _ _ rfl rfl rfl R9.out rfl rfl (one_did _ _ _ _ _ _ _ _ _ _ _ _ _ _) (fun W10 Z G9=>hK' _ _ ?_)))
 have HI9:=Q9.out.keep fun i hi=>G9.block i (Q9.out.in i hi) fun e=>n9.out (Option.some.inj e▸hi)
 have e9:∀ i,i=g0→i<W3.heap.size:=fun i hi=>by have:=l3.out;omega
 exact bodyPost_ret (told_did rfl rfl Z rfl) rfl ⟨_,_,code,P,O,c,S',n',WF wk m bx bv',Fg',rfl,B5.out.1,B5.out.2.1,B5.out.2.2,⟨m,bv',HI9,fun _=>Iff.rfl⟩,G9g.out.grown G9 F0.out.1,A5.out,moves_grown M9.out G9 (fun b e=>by have:=Option.some.inj e;omega),
  O9.out.1.move fun i hi=>G9.block i (O9.out.1.lt i hi).2 fun e=>by have:=Option.some.inj e;have:=p5.out.1 i hi;have:=l3.out;omega,
  O9.out.2.move fun i hi=>G9.block i (O9.out.2.lt i hi).2 fun e=>by have:=Option.some.inj e;have:=p5.out.2 i hi;have:=l3.out;omega⟩
theorem step_mark{bx:Nat}{sd:Bool}{wk:Nat}{F:Nat→Prop}{cf:C8}{p:Int→Option Nat}{L:List Ms.M}(fr:Int)(y:Cl)(gn:Int)(st:Option Nat)(mark:Int)(sh:Bool)(w:World)(H:Hid (Is bx sd w wk F cf p (⟨2,fr,y,gn,st⟩::L)))(hL:L.length≤100){FF:Int→Nat→Prop}{S:Int→Lists}{N:Nat}{n:Int→Nat}(P:Hid (Pool w p FF cf S N n))(A:Hid (Apart F (UF p FF)))(hN:N≤8880)(fz:Hid ((Lit.int .i64 cf.z).wf=true))(fk:Hid ((Lit.int .i64 mark).wf=true)):
  Calls Tryz.prog 17 #[gp wk,.int .i64 mark,.bool sh] w fun r w'=>∃ ov ks O S' n' F' FF',r=.returned (.tuple #[dval ⟨2,fr,y,gn,st⟩ false 0 (.slice none 0 0) ov none,.bool true])∧KeysOf p ks∧Mk cf.z mark S ks O S'∧O.length≤142080∧Is bx sd w' wk F' cf p L∧Pool w' p FF' cf S' N n'∧Apart F' (UF p FF')∧Moves (Or2 F (UF p FF)) (Or2 F' (UF p FF')) w w'∧Sl.Own Pn.k w.heap.size w' ov O:=by
 obtain⟨m,bv,q,hF⟩:=H.out
 obtain rfl:F=WF wk m bx bv:=funext fun k=>propext (hF k)
 have hIn:=hid q.in
 have lw:=q.lies.lt
 have HQ:=hid q
 clear q hF H
 have k0:=below1 w (Obj.cells #[.int .i64 0,.int .i64 0,.int .i64 0,.string ⟨#[]⟩,.int .i64 0,.int .i64 0,.int .i64 0,.int .i64 0,.int .i64 0,.int .i64 0,.pointer none,.bool false,.int .i64 0,.slice none 0 0,.slice none 0 0,.pointer none] 57)
 have Q0:=hid (HQ.out.keep fun i hi=>k0.block i (HQ.out.in i hi))
 have R0:=hid (Lies.new w 57 zd)
 have K0:=hid k0
 have c9:=Q0.out.lies.cell (i:=9) rfl
 clear k0
 go_enter Tryz.func17,Tryz.ntmps17
 go_upto_region 1 with fail
 generalize hg0:w.heap.size=g0 at R0 ⊢
 generalize w.alloc (Obj.cells #[.int .i64 0,.int .i64 0,.int .i64 0,.string ⟨#[]⟩,.int .i64 0,.int .i64 0,.int .i64 0,.int .i64 0,.int .i64 0,.int .i64 0,.pointer none,.bool false,.int .i64 0,.slice none 0 0,.slice none 0 0,.pointer none] 57)=W0 at Q0 R0 K0 c9 ⊢
 go_wp2_with fail
 refine (Ms.take_ok bx cf.c sd bv ⟨2,fr,y,gn,st⟩ L W0 (hid Q0.out.box) (by have:=hL;omega)).mono ?_
 rintro r w1 ⟨bv',rfl,b1,v1⟩
 obtain⟨q1,mv1⟩:=Q0.out.boxed b1 v1
 have Q1:=hid q1
 have M1:=hid mv1
 have R1:=hid (mv1.lies (fun q=>by have:=hIn.out _ (show WF wk m bx bv g0 from q);omega) R0.out)
 have N1:Hid (¬WF wk m bx bv' g0):=hid fun q=>by
  rcases (mv1.new _ q).1 with r|r
  ·have:=hIn.out _ r;omega
  ·have:=R0.out.lt;omega
 clear b1 v1 q1 mv1 c9
 go_upto_region 2 with fail
 have k2:=below1 w1 (Obj.cells #[.int .i64 2,.int .i64 fr,.int .i64 y.op,.string y.key,.int .i64 y.t,.int .i64 y.v,.int .i64 y.e,.int .i64 y.u,.int .i64 y.s,.int .i64 gn,Ms.stv st] 55)
 have X2:=hid (Lies.new w1 55 [.int .i64 2,.int .i64 fr,.int .i64 y.op,.string y.key,.int .i64 y.t,.int .i64 y.v,.int .i64 y.e,.int .i64 y.u,.int .i64 y.s,.int .i64 gn,Ms.stv st])
 have Q2:=hid (Q1.out.keep fun i hi=>k2.block i (Q1.out.in i hi))
 have R2:=hid (R1.out.next k2)
 have M2:=hid (M1.out.trans (Moves.of_below k2 Q1.out.in))
 have n2:Hid (g0<w1.heap.size):=hid R1.out.lt
 have N2:Hid (∀ i,WF wk m bx bv' i→i<w1.heap.size):=hid Q1.out.in
 clear k2
 generalize hg8:w1.heap.size=g8 at X2 n2 N2 ⊢
 generalize w1.alloc (Obj.cells #[.int .i64 2,.int .i64 fr,.int .i64 y.op,.string y.key,.int .i64 y.t,.int .i64 y.v,.int .i64 y.e,.int .i64 y.u,.int .i64 y.s,.int .i64 gn,Ms.stv st] 55)=W2 at X2 Q2 R2 M2 ⊢
 have L2:Hid (Lies (W2.alloc (Obj.cells #[.int .i64 0,.int .i64 0,.int .i64 0,.string ⟨#[]⟩,.int .i64 0,.int .i64 0,.int .i64 0,.int .i64 0,.int .i64 0,.int .i64 0,.pointer none,.bool false,.int .i64 0,.slice none 0 0,.slice none 0 0,.pointer none] 57)) W2.heap.size 57 zd):=hid (Lies.new W2 57 zd)
 have k2:=hid (below1 W2 (Obj.cells #[.int .i64 0,.int .i64 0,.int .i64 0,.string ⟨#[]⟩,.int .i64 0,.int .i64 0,.int .i64 0,.int .i64 0,.int .i64 0,.int .i64 0,.pointer none,.bool false,.int .i64 0,.slice none 0 0,.slice none 0 0,.pointer none] 57))
 go_upto_region 5 with (first
  |(refine wpList_plain rfl fun K' hK'=>wp_load_msg _ rfl rfl X2.out rfl (hK' _ _ ?_))
  |(refine wpList_plain rfl fun K' hK'=>wp_build_msg _ rfl rfl (hK' _ _ ?_))
  |(refine wpList_plain rfl fun K' hK'=>wp_store_did (cs':=dcl ⟨2,fr,y,gn,st⟩ false 0 (.slice none 0 0) (.slice none 0 0) none) _ _ rfl rfl rfl L2.out rfl rfl (one_did _ _ _ _ _ _ _ _ _ _ _ _ _ _) (fun W3 z1 z2=>hK' _ _ ?_)))
 have k3:=Ms.below_over k2.out z2 (Nat.le_refl _)
 have D3:=hid z1
 have X3:=hid (X2.out.next k3)
 have Q3:=hid (Q2.out.keep fun i hi=>k3.block i (Q2.out.in i hi))
 have R3:=hid (R2.out.next k3)
 have M3:=hid ((Moves.of_below K0.out hIn.out).trans (M2.out.trans (Moves.of_below k3 Q2.out.in)))
 have n3:Hid (g8<W2.heap.size∧g0<W2.heap.size∧w.heap.size≤g0∧g0<g8):=hid ⟨X2.out.lt,R2.out.lt,by omega,n2.out⟩
 clear k3 k2 L2 z1 z2 hg8
 generalize hg10:W2.heap.size=g10 at D3 n3 ⊢
 obtain⟨x0,x1,x2,x3,x4,x5,x6,x7,x8,x9,x10⟩:=Ms.eleven X3.out
 clear X2 Q2 R2 M2 Q1 M1 R1 Q0 R0 n2 hg10
 have HI:=hid (⟨m,bv',Q3.out,fun _=>Iff.rfl⟩:Is bx sd W3 wk (WF wk m bx bv') cf p L)
 have N3:Hid (In w (UF p FF)):=hid P.out.in
 have P3:=hid (P.out.beside M3.out A.out)
 have A3:=hid (M3.out.apart A.out P.out.in)
 go_wp2_with fail
 refine (settle_ok mark W3 HI P3 A3 hN fz fk).mono ?_
 rintro r w5 ⟨sv,ks,O,S',n',FF',rfl,hks,hmk,hO,hi,hp,v5,o5⟩
 obtain⟨Bv,mvv,ev,rfl⟩:=Md.lit o5
 have nf:∀ i,w.heap.size≤i→i<W3.heap.size→¬UF p FF i:=fun i hi _ q=>by have:=N3.out i q;omega
 have nf':∀ i,w.heap.size≤i→i<W3.heap.size→¬UF p FF' i:=fun i hi h3 q=>by
  rcases (v5.new i q).1 with r|r
  ·exact nf i hi h3 r
  ·omega
 have d3l:=D3.out.lt
 have r3l:=R3.out.lt
 have D5:=hid (v5.lies (nf g10 (by have:=n3.out;omega) d3l) D3.out)
 have R5:=hid (v5.lies (nf g0 (by have:=n3.out;omega) r3l) R3.out)
 have Q5:=hid (Q3.out.keep fun i hi=>v5.block i (Q3.out.in i hi) fun q=>A3.out i hi q)
 have M5:=hid (moves_two M3.out v5)
 have A5:Hid (Apart (WF wk m bx bv') (UF p FF')):=hid (v5.apart A3.out.symm Q3.out.in).symm
 have F0:Hid (¬UF p FF' g0∧¬UF p FF' g10):=hid ⟨nf' g0 (by have:=n3.out;omega) r3l,nf' g10 (by have:=n3.out;omega) d3l⟩
 have G5:=hid hp
 have s3:Hid (w.heap.size≤W3.heap.size):=hid M3.out.size
 have O5:=hid (Gr.own_base o5 s3.out)
 have B5:=hid (And.intro hks (And.intro hmk hO))
 have p5:Hid (∀ i,(Value.slice Bv mvv ev).ownBlock=some i→W3.heap.size≤i):=hid fun i hi=>(o5.lt i hi).1
 have l3:=hid (And.intro r3l d3l)
 clear hp v5 o5 hks hmk hO hi nf nf' d3l r3l x0 x1 x2 x3 x4 x5 x6 x7 x8 x9 x10
 have y14:=D5.out.cell (i:=14) rfl
 have f5:=D5.out.open_
 go_upto_region 15 with fail
 have D9:Hid (Lies (w5.setCell ⟨g10,14,none⟩ (.slice Bv mvv ev)) g10 57 (dcl ⟨2,fr,y,gn,st⟩ false 0 (.slice none 0 0) (.slice Bv mvv ev) none)):=hid (D5.out.put 14 (.slice Bv mvv ev))
 have k9:w5.grownBy (w5.setCell ⟨g10,14,none⟩ (.slice Bv mvv ev)) (some g10):=
  ⟨rfl,rfl,rfl,by simp,fun i hi hn=>by
   have h:i≠g10:=fun e=>hn (by rw[e])
   rw[Below.heap_setCell _ _ _ _ h]⟩
 have n10:Hid (¬WF wk m bx bv' g10):=hid fun q=>by have:=N2.out _ q;have:=n3.out;omega
 have Q9:=hid (Q5.out.keep fun i hi=>k9.block i (Q5.out.in i hi) fun e=>n10.out (Option.some.inj e▸hi))
 have R9:Hid (Lies (w5.setCell ⟨g10,14,none⟩ (.slice Bv mvv ev)) g0 57 zd):=hid ((k9.block g0 R5.out.lt fun e=>by have:=Option.some.inj e;have:=n3.out;omega).trans R5.out)
 have M9:=hid (moves_grown M5.out k9 (fun b e=>by have:=Option.some.inj e;have:=n3.out;omega))
 have G9g:=hid (G5.out.row k9 fun b e q=>F0.out.2 (Option.some.inj e▸q))
 have O9:=hid (O5.out.move fun i hi=>k9.block i (O5.out.lt i hi).2 fun e=>by have:=Option.some.inj e;have:=p5.out i hi;have:=l3.out;omega)
 clear y14 f5
 generalize (w5.setCell ⟨g10,14,none⟩ (.slice Bv mvv ev))=W9 at D9 Q9 R9 M9 k9 G9g O9 ⊢
 go_wp2_with (first
  |(refine wpList_plain rfl fun K' hK'=>wp_load_did _ rfl rfl D9.out rfl (hK' _ _ ?_))
  |(refine wpList_plain rfl fun K' hK'=>wp_store_did (cs':=dcl ⟨2,fr,y,gn,st⟩ false (0) (.slice none 0 0) (.slice Bv mvv ev) none) _ _ rfl rfl rfl R9.out rfl rfl (one_did _ _ _ _ _ _ _ _ _ _ _ _ _ _) (fun W10 Z G9=>hK' _ _ ?_)))
 have HI9:=Q9.out.keep fun i hi=>G9.block i (Q9.out.in i hi) fun e=>N1.out (Option.some.inj e▸hi)
 exact bodyPost_ret (told_did rfl rfl Z rfl) rfl ⟨_,ks,O,S',n',WF wk m bx bv',FF',rfl,B5.out.1,B5.out.2.1,B5.out.2.2,⟨m,bv',HI9,fun _=>Iff.rfl⟩,G9g.out.row G9 (fun b e q=>F0.out.1 (Option.some.inj e▸q)),A5.out,moves_grown M9.out G9 (fun b e=>by have:=Option.some.inj e;have:=n3.out;omega),
  O9.out.move fun i hi=>G9.block i (O9.out.lt i hi).2 fun e=>by have:=Option.some.inj e;have:=p5.out i hi;have:=l3.out;omega⟩
theorem step_have{bx:Nat}{sd:Bool}{wk:Nat}{F:Nat→Prop}{cf:C8}{p:Int→Option Nat}{L:List Ms.M}(fr:Int)(y:Cl)(gn:Int)(st:Option Nat)(mark:Int)(sh:Bool)(w:World)(H:Hid (Is bx sd w wk F cf p (⟨4,fr,y,gn,st⟩::L)))(hL:L.length≤100)(hg:0≤gn∧gn<16)(q:Int→Option Nat)(hq:Hid (q=if st=none then p else updOf p gn st)):
  Calls Tryz.prog 17 #[gp wk,.int .i64 mark,.bool sh] w fun r w'=>r=.returned (.tuple #[dval ⟨4,fr,y,gn,st⟩ false 0 (.slice none 0 0) (.slice none 0 0) none,.bool true])∧∃ F',Is bx sd w' wk F' cf q L∧Moves F F' w w':=by
 obtain⟨m,bv,q,hF⟩:=H.out
 obtain rfl:F=WF wk m bx bv:=funext fun k=>propext (hF k)
 have hIn:=hid q.in
 have lw:=q.lies.lt
 have HQ:=hid q
 clear q hF H
 have k0:=below1 w (Obj.cells #[.int .i64 0,.int .i64 0,.int .i64 0,.string ⟨#[]⟩,.int .i64 0,.int .i64 0,.int .i64 0,.int .i64 0,.int .i64 0,.int .i64 0,.pointer none,.bool false,.int .i64 0,.slice none 0 0,.slice none 0 0,.pointer none] 57)
 have Q0:=hid (HQ.out.keep fun i hi=>k0.block i (HQ.out.in i hi))
 have R0:=hid (Lies.new w 57 zd)
 have K0:=hid k0
 have c9:=Q0.out.lies.cell (i:=9) rfl
 clear k0
 go_enter Tryz.func17,Tryz.ntmps17
 go_upto_region 1 with fail
 generalize hg0:w.heap.size=g0 at R0 ⊢
 generalize w.alloc (Obj.cells #[.int .i64 0,.int .i64 0,.int .i64 0,.string ⟨#[]⟩,.int .i64 0,.int .i64 0,.int .i64 0,.int .i64 0,.int .i64 0,.int .i64 0,.pointer none,.bool false,.int .i64 0,.slice none 0 0,.slice none 0 0,.pointer none] 57)=W0 at Q0 R0 K0 c9 ⊢
 go_wp2_with fail
 refine (Ms.take_ok bx cf.c sd bv ⟨4,fr,y,gn,st⟩ L W0 (hid Q0.out.box) (by have:=hL;omega)).mono ?_
 rintro r w1 ⟨bv',rfl,b1,v1⟩
 obtain⟨q1,mv1⟩:=Q0.out.boxed b1 v1
 have Q1:=hid q1
 have M1:=hid mv1
 have R1:=hid (mv1.lies (fun q=>by have:=hIn.out _ (show WF wk m bx bv g0 from q);omega) R0.out)
 have N1:Hid (¬WF wk m bx bv' g0):=hid fun q=>by
  rcases (mv1.new _ q).1 with r|r
  ·have:=hIn.out _ r;omega
  ·have:=R0.out.lt;omega
 clear b1 v1 q1 mv1 c9
 go_upto_region 2 with fail
 have k2:=below1 w1 (Obj.cells #[.int .i64 4,.int .i64 fr,.int .i64 y.op,.string y.key,.int .i64 y.t,.int .i64 y.v,.int .i64 y.e,.int .i64 y.u,.int .i64 y.s,.int .i64 gn,Ms.stv st] 55)
 have X2:=hid (Lies.new w1 55 [.int .i64 4,.int .i64 fr,.int .i64 y.op,.string y.key,.int .i64 y.t,.int .i64 y.v,.int .i64 y.e,.int .i64 y.u,.int .i64 y.s,.int .i64 gn,Ms.stv st])
 have Q2:=hid (Q1.out.keep fun i hi=>k2.block i (Q1.out.in i hi))
 have R2:=hid (R1.out.next k2)
 have M2:=hid (M1.out.trans (Moves.of_below k2 Q1.out.in))
 have n2:Hid (g0<w1.heap.size):=hid R1.out.lt
 have N2:Hid (∀ i,WF wk m bx bv' i→i<w1.heap.size):=hid Q1.out.in
 clear k2
 generalize hg8:w1.heap.size=g8 at X2 n2 N2 ⊢
 generalize w1.alloc (Obj.cells #[.int .i64 4,.int .i64 fr,.int .i64 y.op,.string y.key,.int .i64 y.t,.int .i64 y.v,.int .i64 y.e,.int .i64 y.u,.int .i64 y.s,.int .i64 gn,Ms.stv st] 55)=W2 at X2 Q2 R2 M2 ⊢
 have L2:Hid (Lies (W2.alloc (Obj.cells #[.int .i64 0,.int .i64 0,.int .i64 0,.string ⟨#[]⟩,.int .i64 0,.int .i64 0,.int .i64 0,.int .i64 0,.int .i64 0,.int .i64 0,.pointer none,.bool false,.int .i64 0,.slice none 0 0,.slice none 0 0,.pointer none] 57)) W2.heap.size 57 zd):=hid (Lies.new W2 57 zd)
 have k2:=hid (below1 W2 (Obj.cells #[.int .i64 0,.int .i64 0,.int .i64 0,.string ⟨#[]⟩,.int .i64 0,.int .i64 0,.int .i64 0,.int .i64 0,.int .i64 0,.int .i64 0,.pointer none,.bool false,.int .i64 0,.slice none 0 0,.slice none 0 0,.pointer none] 57))
 go_upto_region 5 with (first
  |(refine wpList_plain rfl fun K' hK'=>wp_load_msg _ rfl rfl X2.out rfl (hK' _ _ ?_))
  |(refine wpList_plain rfl fun K' hK'=>wp_build_msg _ rfl rfl (hK' _ _ ?_))
  |(refine wpList_plain rfl fun K' hK'=>wp_store_did (cs':=dcl ⟨4,fr,y,gn,st⟩ false 0 (.slice none 0 0) (.slice none 0 0) none) _ _ rfl rfl rfl L2.out rfl rfl (one_did _ _ _ _ _ _ _ _ _ _ _ _ _ _) (fun W3 z1 z2=>hK' _ _ ?_)))
 have k3:=Ms.below_over k2.out z2 (Nat.le_refl _)
 have D3:=hid z1
 have X3:=hid (X2.out.next k3)
 have Q3:=hid (Q2.out.keep fun i hi=>k3.block i (Q2.out.in i hi))
 have R3:=hid (R2.out.next k3)
 have M3:=hid ((Moves.of_below K0.out hIn.out).trans (M2.out.trans (Moves.of_below k3 Q2.out.in)))
 have n3:Hid (g8<W2.heap.size∧g0<W2.heap.size∧w.heap.size≤g0∧g0<g8):=hid ⟨X2.out.lt,R2.out.lt,by omega,n2.out⟩
 clear k3 k2 L2 z1 z2 hg8
 generalize hg10:W2.heap.size=g10 at D3 n3 ⊢
 obtain⟨x0,x1,x2,x3,x4,x5,x6,x7,x8,x9,x10⟩:=Ms.eleven X3.out
 clear X2 Q2 R2 M2 Q1 M1 R1 Q0 R0 n2 hg10
 have HI:=hid (⟨m,bv',Q3.out,fun _=>Iff.rfl⟩:Is bx sd W3 wk (WF wk m bx bv') cf p L)
 go_wp2_with fail
 refine (have_ok gn st W3 HI hg).mono ?_
 rintro r w5 ⟨rfl,hi,v5⟩
 have n10:¬WF wk m bx bv' g10:=fun q=>by have:=N2.out _ q;have:=n3.out;omega
 have D9:=hid (v5.lies n10 D3.out)
 have R9:=hid (v5.lies N1.out R3.out)
 have M9:=hid (M3.out.trans v5)
 rw[←hq.out] at hi
 have HI5:=hid hi
 clear v5 hi n10 x0 x1 x2 x3 x4 x5 x6 x7 x8 x9 x10
 go_wp2_with (first
  |(refine wpList_plain rfl fun K' hK'=>wp_load_did _ rfl rfl D9.out rfl (hK' _ _ ?_))
  |(refine wpList_plain rfl fun K' hK'=>wp_store_did (cs':=dcl ⟨4,fr,y,gn,st⟩ false (0) (.slice none 0 0) (.slice none 0 0) none) _ _ rfl rfl rfl R9.out rfl rfl (one_did _ _ _ _ _ _ _ _ _ _ _ _ _ _) (fun W10 Z G9=>hK' _ _ ?_)))
 exact bodyPost_ret (told_did rfl rfl Z rfl) rfl ⟨rfl,WF wk m bx bv',HI5.out.keep fun i hi=>G9.block i (HI5.out.in i hi) fun e=>N1.out (Option.some.inj e▸hi),moves_grown M9.out G9 (fun b e=>by have:=Option.some.inj e;have:=n3.out;omega)⟩
theorem step_give{bx:Nat}{sd:Bool}{wk:Nat}{F:Nat→Prop}{cf:C8}{p:Int→Option Nat}{L:List Ms.M}(fr:Int)(y:Cl)(gn:Int)(st:Option Nat)(mark:Int)(sh:Bool)(w:World)(H:Hid (Is bx sd w wk F cf p (⟨3,fr,y,gn,st⟩::L)))(hL:L.length≤100)(hg:0≤gn∧gn<16):
  Calls Tryz.prog 17 #[gp wk,.int .i64 mark,.bool sh] w fun r w'=>r=.returned (.tuple #[dval ⟨3,fr,y,gn,st⟩ false 0 (.slice none 0 0) (.slice none 0 0) (p gn),.bool true])∧∃ F',Is bx sd w' wk F' cf (updOf p gn none) L∧Moves F F' w w':=by
 obtain⟨m,bv,q,hF⟩:=H.out
 obtain rfl:F=WF wk m bx bv:=funext fun k=>propext (hF k)
 have hIn:=hid q.in
 have lw:=q.lies.lt
 have HQ:=hid q
 clear q hF H
 have k0:=below1 w (Obj.cells #[.int .i64 0,.int .i64 0,.int .i64 0,.string ⟨#[]⟩,.int .i64 0,.int .i64 0,.int .i64 0,.int .i64 0,.int .i64 0,.int .i64 0,.pointer none,.bool false,.int .i64 0,.slice none 0 0,.slice none 0 0,.pointer none] 57)
 have Q0:=hid (HQ.out.keep fun i hi=>k0.block i (HQ.out.in i hi))
 have R0:=hid (Lies.new w 57 zd)
 have K0:=hid k0
 have c9:=Q0.out.lies.cell (i:=9) rfl
 clear k0
 go_enter Tryz.func17,Tryz.ntmps17
 go_upto_region 1 with fail
 generalize hg0:w.heap.size=g0 at R0 ⊢
 generalize w.alloc (Obj.cells #[.int .i64 0,.int .i64 0,.int .i64 0,.string ⟨#[]⟩,.int .i64 0,.int .i64 0,.int .i64 0,.int .i64 0,.int .i64 0,.int .i64 0,.pointer none,.bool false,.int .i64 0,.slice none 0 0,.slice none 0 0,.pointer none] 57)=W0 at Q0 R0 K0 c9 ⊢
 go_wp2_with fail
 refine (Ms.take_ok bx cf.c sd bv ⟨3,fr,y,gn,st⟩ L W0 (hid Q0.out.box) (by have:=hL;omega)).mono ?_
 rintro r w1 ⟨bv',rfl,b1,v1⟩
 obtain⟨q1,mv1⟩:=Q0.out.boxed b1 v1
 have Q1:=hid q1
 have M1:=hid mv1
 have R1:=hid (mv1.lies (fun q=>by have:=hIn.out _ (show WF wk m bx bv g0 from q);omega) R0.out)
 have N1:Hid (¬WF wk m bx bv' g0):=hid fun q=>by
  rcases (mv1.new _ q).1 with r|r
  ·have:=hIn.out _ r;omega
  ·have:=R0.out.lt;omega
 clear b1 v1 q1 mv1 c9
 go_upto_region 2 with fail
 have k2:=below1 w1 (Obj.cells #[.int .i64 3,.int .i64 fr,.int .i64 y.op,.string y.key,.int .i64 y.t,.int .i64 y.v,.int .i64 y.e,.int .i64 y.u,.int .i64 y.s,.int .i64 gn,Ms.stv st] 55)
 have X2:=hid (Lies.new w1 55 [.int .i64 3,.int .i64 fr,.int .i64 y.op,.string y.key,.int .i64 y.t,.int .i64 y.v,.int .i64 y.e,.int .i64 y.u,.int .i64 y.s,.int .i64 gn,Ms.stv st])
 have Q2:=hid (Q1.out.keep fun i hi=>k2.block i (Q1.out.in i hi))
 have R2:=hid (R1.out.next k2)
 have M2:=hid (M1.out.trans (Moves.of_below k2 Q1.out.in))
 have n2:Hid (g0<w1.heap.size):=hid R1.out.lt
 have N2:Hid (∀ i,WF wk m bx bv' i→i<w1.heap.size):=hid Q1.out.in
 clear k2
 generalize hg8:w1.heap.size=g8 at X2 n2 N2 ⊢
 generalize w1.alloc (Obj.cells #[.int .i64 3,.int .i64 fr,.int .i64 y.op,.string y.key,.int .i64 y.t,.int .i64 y.v,.int .i64 y.e,.int .i64 y.u,.int .i64 y.s,.int .i64 gn,Ms.stv st] 55)=W2 at X2 Q2 R2 M2 ⊢
 have L2:Hid (Lies (W2.alloc (Obj.cells #[.int .i64 0,.int .i64 0,.int .i64 0,.string ⟨#[]⟩,.int .i64 0,.int .i64 0,.int .i64 0,.int .i64 0,.int .i64 0,.int .i64 0,.pointer none,.bool false,.int .i64 0,.slice none 0 0,.slice none 0 0,.pointer none] 57)) W2.heap.size 57 zd):=hid (Lies.new W2 57 zd)
 have k2:=hid (below1 W2 (Obj.cells #[.int .i64 0,.int .i64 0,.int .i64 0,.string ⟨#[]⟩,.int .i64 0,.int .i64 0,.int .i64 0,.int .i64 0,.int .i64 0,.int .i64 0,.pointer none,.bool false,.int .i64 0,.slice none 0 0,.slice none 0 0,.pointer none] 57))
 go_upto_region 5 with (first
  |(refine wpList_plain rfl fun K' hK'=>wp_load_msg _ rfl rfl X2.out rfl (hK' _ _ ?_))
  |(refine wpList_plain rfl fun K' hK'=>wp_build_msg _ rfl rfl (hK' _ _ ?_))
  |(refine wpList_plain rfl fun K' hK'=>wp_store_did (cs':=dcl ⟨3,fr,y,gn,st⟩ false 0 (.slice none 0 0) (.slice none 0 0) none) _ _ rfl rfl rfl L2.out rfl rfl (one_did _ _ _ _ _ _ _ _ _ _ _ _ _ _) (fun W3 z1 z2=>hK' _ _ ?_)))
 have k3:=Ms.below_over k2.out z2 (Nat.le_refl _)
 have D3:=hid z1
 have X3:=hid (X2.out.next k3)
 have Q3:=hid (Q2.out.keep fun i hi=>k3.block i (Q2.out.in i hi))
 have R3:=hid (R2.out.next k3)
 have M3:=hid ((Moves.of_below K0.out hIn.out).trans (M2.out.trans (Moves.of_below k3 Q2.out.in)))
 have n3:Hid (g8<W2.heap.size∧g0<W2.heap.size∧w.heap.size≤g0∧g0<g8):=hid ⟨X2.out.lt,R2.out.lt,by omega,n2.out⟩
 clear k3 k2 L2 z1 z2 hg8
 generalize hg10:W2.heap.size=g10 at D3 n3 ⊢
 obtain⟨x0,x1,x2,x3,x4,x5,x6,x7,x8,x9,x10⟩:=Ms.eleven X3.out
 clear X2 Q2 R2 M2 Q1 M1 R1 Q0 R0 n2 hg10
 have c8:=Q3.out.lies.cell (i:=8) rfl
 obtain⟨c,hm⟩:=Q3.out.map
 have wg:=wf_small hg
 have lk:=hm.look wg
 have lkd:=(hm.next (Below.refl _ _).drew).look wg
 have y15:=D3.out.cell (i:=15) rfl
 have f3:=D3.out.open_
 have HM3:=hid hm
 clear hm
 go_upto_region 11 with fail
 go_region
 have D4:Hid (Lies (W3.setCell ⟨g10,15,none⟩ (ptr (p gn))).drew g10 57 (dcl ⟨3,fr,y,gn,st⟩ false 0 (.slice none 0 0) (.slice none 0 0) (p gn))):=hid (D3.out.put 15 (ptr (p gn)))
 have k4:W3.grownBy (W3.setCell ⟨g10,15,none⟩ (ptr (p gn))).drew (some g10):=
  ⟨rfl,rfl,rfl,by simp,fun i hi hn=>by
   have h:i≠g10:=fun e=>hn (by rw[e])
   exact Below.heap_setCell _ _ _ _ h⟩
 have n10:Hid (¬WF wk m bx bv' g10):=hid fun q=>by have:=N2.out _ q;have:=n3.out;omega
 have n8:Hid (¬WF wk m bx bv' g8):=hid fun q=>by have:=N2.out _ q;omega
 have Q4:=hid (Q3.out.keep fun i hi=>k4.block i (Q3.out.in i hi) fun e=>n10.out (Option.some.inj e▸hi))
 have X4:Hid (Lies (W3.setCell ⟨g10,15,none⟩ (ptr (p gn))).drew g8 55 [.int .i64 3,.int .i64 fr,.int .i64 y.op,.string y.key,.int .i64 y.t,.int .i64 y.v,.int .i64 y.e,.int .i64 y.u,.int .i64 y.s,.int .i64 gn,Ms.stv st]):=hid ((k4.block g8 X3.out.lt fun e=>by have:=Option.some.inj e;have:=n3.out;omega).trans X3.out)
 have R4:Hid (Lies (W3.setCell ⟨g10,15,none⟩ (ptr (p gn))).drew g0 57 zd):=hid ((k4.block g0 R3.out.lt fun e=>by have:=Option.some.inj e;have:=n3.out;omega).trans R3.out)
 have M4:=hid (moves_grown M3.out k4 (fun b e=>by have:=Option.some.inj e;have:=n3.out;omega))
 have HM4:=hid (HM3.out.kept (k4.block m HM3.out.lt fun e=>n10.out (Option.some.inj e▸(.inr (.inl rfl)))))
 clear k4 lk lkd y15 f3 c8 x0 x1 x2 x3 x4 x5 x6 x7 x8 x9 x10
 generalize (W3.setCell ⟨g10,15,none⟩ (ptr (p gn))).drew=W4 at D4 Q4 X4 R4 M4 HM4 ⊢
 have c8:=Q4.out.lies.cell (i:=8) rfl
 have x9:=X4.out.cell (i:=9) rfl
 go_upto_region 12 with fail
 go_region_law (refine step_drop rfl (.tmp 60) (.tmp 62) rfl (m:=m) (c:=c) (p:=p) (x:=gn) (by simp[Act.eval]) (by simp[Act.eval]) (HM4.out.next (Below.refl _ _).drew) wg (updOf_ok p gn none) ?_;intro w5 c5 o5 k5)
 all_goals
  have o5:=hid o5;have k5:W4.grownBy w5 (some m):=⟨k5.os,k5.tape,k5.output,k5.size,k5.block⟩
  obtain⟨q5,v5⟩:=Q4.out.mapped o5.out k5 (fun y hy=>by
   by_cases e:y=gn
   ·subst e;exact hg
   ·exact Q4.out.dom y (by simpa [updOf,e] using hy))
  have D9:=hid (v5.lies n10.out D4.out);have R9:=hid (v5.lies N1.out R4.out);have M9:=hid (M4.out.trans v5);have Q9:=hid q5;clear q5 v5 k5 c8 x9
  go_wp2_with (first
   |(refine wpList_plain rfl fun K' hK'=>wp_load_did _ rfl rfl D9.out rfl (hK' _ _ ?_))
   |(refine wpList_plain rfl fun K' hK'=>wp_store_did (cs':=dcl ⟨3,fr,y,gn,st⟩ false (0) (.slice none 0 0) (.slice none 0 0) (p gn)) _ _ rfl rfl rfl R9.out rfl rfl (one_did _ _ _ _ _ _ _ _ _ _ _ _ _ _) (fun W10 Z G9=>hK' _ _ ?_)))
  exact bodyPost_ret (told_did rfl rfl Z rfl) rfl ⟨rfl,WF wk m bx bv',⟨m,bv',Q9.out.keep fun i hi=>G9.block i (Q9.out.in i hi) fun e=>N1.out (Option.some.inj e▸hi),fun _=>Iff.rfl⟩,moves_grown M9.out G9 (fun b e=>by have:=Option.some.inj e;have:=n3.out;omega)⟩
theorem build_zero(w:World):(Instr.build 57 #[]).run Tryz.prog w=.ok (.agg zd.toArray) w:=by kernel_rfl
theorem wp_build_zero{w:World}{o:Oper}{a:Act}{K:Act→World→Prop}{Q:Exit→Act→World→Prop}(ho:o.op=.build 57 #[])(hK:K (a.put o.dst (.agg zd.toArray)) w):o.wp Tryz.prog a w K Q:=by
 unfold Oper.wp execOp
 simp only[ho,List.map_toArray,List.map_nil,Sem.run_bind,Sem.run_pure,Result.andThen_ok,build_zero]
 exact hK
theorem step_none{bx:Nat}{sd:Bool}{wk:Nat}{F:Nat→Prop}{cf:C8}{p:Int→Option Nat}(mark:Int)(sh:Bool)(w:World)(H:Hid (Is bx sd w wk F cf p [])):
  Calls Tryz.prog 17 #[gp wk,.int .i64 mark,.bool sh] w fun r w'=>r=.returned (.tuple #[zdid,.bool false])∧Below w.heap.size w w':=by
 obtain⟨m,bv,q,hF⟩:=H.out
 have HQ:=hid q
 clear q hF H
 have k0:=below1 w (Obj.cells #[.int .i64 0,.int .i64 0,.int .i64 0,.string ⟨#[]⟩,.int .i64 0,.int .i64 0,.int .i64 0,.int .i64 0,.int .i64 0,.int .i64 0,.pointer none,.bool false,.int .i64 0,.slice none 0 0,.slice none 0 0,.pointer none] 57)
 have Q0:=hid (HQ.out.keep fun i hi=>k0.block i (HQ.out.in i hi))
 have R0:=hid (Lies.new w 57 zd)
 have K0:=hid k0
 have c9:=Q0.out.lies.cell (i:=9) rfl
 clear k0
 go_enter Tryz.func17,Tryz.ntmps17
 go_upto_region 1 with fail
 generalize hg0:w.heap.size=g0 at R0 ⊢
 generalize w.alloc (Obj.cells #[.int .i64 0,.int .i64 0,.int .i64 0,.string ⟨#[]⟩,.int .i64 0,.int .i64 0,.int .i64 0,.int .i64 0,.int .i64 0,.int .i64 0,.pointer none,.bool false,.int .i64 0,.slice none 0 0,.slice none 0 0,.pointer none] 57)=W0 at Q0 R0 K0 c9 ⊢
 go_wp2_with fail
 refine (Ms.take_none bx cf.c sd bv W0 (hid Q0.out.box)).mono ?_
 rintro r w1 ⟨rfl,k1⟩
 have R1:=hid (R0.out.next k1)
 have K1:=hid (after K0.out k1)
 clear k1 c9
 go_upto_region 2 with fail
 have R2:=hid (R1.out.next (below1 w1 (Obj.cells Ms.zs.toArray 55)))
 have K2:=hid (after K1.out (below1 w1 (Obj.cells Ms.zs.toArray 55)))
 generalize w1.alloc _=W9 at R2 K2 ⊢
 go_wp2_with (first
  |(refine wpList_plain rfl fun K' hK'=>wp_build_zero rfl (hK' _ _ ?_))
  |(refine wpList_plain rfl fun K' hK'=>wp_store_did (cs':=zd) _ _ rfl rfl rfl R2.out rfl rfl (by intro v hv;simp only[List.mem_cons,List.not_mem_nil,or_false] at hv;rcases hv with rfl|rfl|rfl|rfl|rfl|rfl|rfl|rfl|rfl|rfl|rfl|rfl|rfl|rfl|rfl|rfl<;>rfl) (fun W10 Z G9=>hK' _ _ ?_)))
 exact bodyPost_ret (told_did rfl rfl Z rfl) rfl ⟨rfl,Ms.below_over K2.out G9 (by omega)⟩
end Sh.Sw
end Go.Proofs.YtfjlnniahfbdfaaGreat
