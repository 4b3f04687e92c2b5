/- A part of the proof. -/
import Derived.Test.YtfjlnniahfbdfaaGreatPba
import Derived.Test.YtfjlnniahfbdfaaGreatPbe
import Derived.Test.YtfjlnniahfbdfaaGreatPat
import Derived.Test.YtfjlnniahfbdfaaGreatPbx
set_option linter.unusedVariables false
set_option maxHeartbeats 4000000
namespace Go.Proofs.YtfjlnniahfbdfaaGreat
open Go.ChangeShapes Go.WideShapes Go.ChangeAt Go.RowKit
set_option maxRecDepth 100000
namespace Rm
open Small Foot Pane Grp Ca Md Rg
structure RI(B:Nat)(R L:List Pn):Prop where
 len:R.length+L.length≤B
 ends:∀ p∈R,(Lit.int .i64 p.e).wf=true∧p.s<p.e
 ap:∀ key,(ofKey key R).Pairwise fun p q=>¬Eq2 p q.s q.e
section
variable {B:Nat} {R R' L O P:List Pn} {k s e v z mark:Int} {key:ByteArray}
theorem RI.more{B':Nat}(h:RI B R L)(hB:B≤B'):RI B' R L:=⟨Nat.le_trans h.len hB,h.ends,h.ap⟩
theorem routs_len(o:ROuts z mark R O R'):R'.length+O.length=R.length:=by
 induction o with
 |none=>rfl
 |@more O R1 p k h hp _ _ ih=>
  have hk:=(List.getElem?_eq_some_iff.1 hp).1
  simp only[List.length_append,List.length_take,List.length_drop,List.length_singleton];omega
theorem RI.outs(h:RI B R L)(o:ROuts z mark R O R'):RI B R' (L++O):=
 ⟨by rw[List.length_append];have:=routs_len o;have:=h.len;omega,fun p hp=>h.ends p ((Rr.routs_sub o).subset hp),fun key=>Rr.routs_apart o (h.ap key)⟩
theorem made_in(a:Pn)(H:List Pn)(ha:(Lit.int .i64 a.e).wf=true)(hH:∀ p∈H,(Lit.int .i64 p.e).wf=true):(Lit.int .i64 (H.foldl join2 a).e).wf=true∧(H.foldl join2 a).s≤a.s∧a.e≤(H.foldl join2 a).e:=by
 induction H generalizing a with
 |nil=>exact⟨ha,Int.le_refl _,Int.le_refl _⟩
 |cons b H ih=>
  have h1:(Lit.int .i64 (join2 a b).e).wf=true:=by
   show (Lit.int .i64 (max a.e b.e)).wf=true
   rcases Int.le_total a.e b.e with q|q
   ·rw[Int.max_eq_right q];exact hH b (by simp)
   ·rw[Int.max_eq_left q];exact ha
  obtain⟨i1,i2,i3⟩:=ih (join2 a b) h1 (fun p hp=>hH p (by simp[hp]))
  refine⟨i1,Int.le_trans i2 (Int.min_le_left _ _),Int.le_trans (Int.le_max_left _ _) i3⟩
theorem made_same(a:Pn)(H:List Pn)(hH:∀ p∈H,Eq2 p a.s a.e):(H.foldl join2 a).s=a.s∧(H.foldl join2 a).e=a.e:=by
 induction H generalizing a with
 |nil=>exact⟨rfl,rfl⟩
 |cons b H ih=>
  obtain⟨b1,b2⟩:=hH b (by simp)
  have e1:(join2 a b).s=a.s:=by show min a.s b.s=a.s;rw[b1];exact Int.min_self _
  have e2:(join2 a b).e=a.e:=by show max a.e b.e=a.e;rw[b2];exact Int.max_self _
  obtain⟨i1,i2⟩:=ih (join2 a b) (fun p hp=>by rw[e1,e2];exact hH p (by simp[hp]))
  exact⟨i1.trans e1,i2.trans e2⟩
theorem RI.put(h:RI B R L)(hse:s<e)(we:(Lit.int .i64 e).wf=true):RI (B+1) (putR k key s e v R) L:=by
 obtain⟨m1,m2,m3⟩:=made_in (Pane.one key s e v) (R.filter (hit k key s e)) we (fun p hp=>(h.ends p (List.mem_filter.1 hp).1).1)
 refine⟨by have:=putR_len k key s e v R;have:=h.len;omega,fun p hp=>?_,fun key'=>?_⟩
 ·rcases List.mem_append.1 hp with hp|hp
  ·exact h.ends p (List.mem_filter.1 hp).1
  ·simp only[List.mem_singleton] at hp
   subst hp;refine⟨m1,?_⟩
   have m2:(made k key s e v R).s≤s:=m2;have m3:e≤(made k key s e v R).e:=m3;omega
 ·by_cases ek:key'=key
  ·subst ek
   show (ofKey key' (rest k key' s e R++[made k key' s e v R])).Pairwise _
   rw[show ofKey key' (rest k key' s e R++[made k key' s e v R])=ofKey key' (rest k key' s e R)++ofKey key' [made k key' s e v R] from List.filter_append _ _]
   refine List.pairwise_append.2 ⟨(h.ap key').sublist (List.Sublist.filter _ List.filter_sublist),?_,fun a ha b hb=>?_⟩
   ·refine List.Pairwise.sublist List.filter_sublist (List.pairwise_singleton _ _)
   ·have hb:b=made k key' s e v R:=by have:=(List.mem_filter.1 hb).1;simpa using this
    subst hb;obtain⟨ha,hk⟩:=List.mem_filter.1 ha;obtain⟨ha,hn⟩:=List.mem_filter.1 ha;have hk:a.key=key':=by simpa using hk
    rintro⟨q1,q2⟩
    have:hit k key' s e a=true:=by
     unfold hit same;simp only[hk,decide_true,Bool.true_and];by_cases k2:k=2
     ·rw[if_pos k2]
      have m2:(made k key' s e v R).s≤s:=m2;have m3:e≤(made k key' s e v R).e:=m3;unfold meets;simp only[decide_eq_true_eq];omega
     ·rw[if_neg k2]
      obtain⟨s1,s2⟩:=made_same (Pane.one key' s e v) (R.filter (hit k key' s e)) (fun p hp=>by
       have:=(List.mem_filter.1 hp).2;unfold hit same at this;rw[if_neg k2] at this;simp only[Bool.and_eq_true,decide_eq_true_eq] at this;exact this.2)
      have s1:(made k key' s e v R).s=s:=s1;have s2:(made k key' s e v R).e=e:=s2;simp only[decide_eq_true_eq];exact⟨q1.trans s1,q2.trans s2⟩
    rw[this] at hn;cases hn
  ·rw[Cm.put_other ek]
   exact h.ap key'
theorem RI.tk{a d l:Int}(h:RI B R L)(hl:1≤l):∀ i:Nat,(∀ j:Nat,j<i→(Lit.int .i64 (a+j*d+l)).wf=true)→RI (B+i) (Rg.tk k key v z mark a d l R i) L
 |0,_=>h
 |i+1,hw=>by
  have ih:=RI.tk h hl i (fun j hj=>hw j (by omega))
  simp only[Rg.tk]
  split
  ·exact ih.more (by omega)
  ·exact ih.put (by omega) (hw i (by omega))
theorem RI.did{cf:C8}{x:Cl}{zz:Option (Nat×Int×Int×Int)}{mk mk' code:Int}{cl cl':Bool}{L':List Pn}(h:RI B R L)(M:Asg.may cf.k cf.s cf.l cf.g cf.z cf.h cf.r cf.c)(t0:-9223372036854775808≤x.t)(s1:cf.s≤9223372036854775807)(g1:cf.g≤9223372036854775807)(T:Asg.Told cf.k cf.s cf.l cf.g cf.z x.t zz)
  (d:RDid cf R mk L cl x zz code P R' mk' L' cl'):RI (B+16) R' L':=by
 cases d with
 |bad|closed|stale|still|shut=>exact h.more (by omega)
 |up _ _ _ _ o _=>exact (h.outs o).more (by omega)
 |ask _ _ _ a=>
  rcases a with ⟨-,-,R1,o,-,tk⟩|⟨-,-,o,-⟩
  ·have h1:=h.outs o
   cases zz with
   |none=>obtain⟨-,rfl⟩:=tk;exact h1.more (by omega)
   |some y=>
    obtain⟨nn,a,dd,l⟩:=y;obtain⟨rfl,-⟩:=tk;obtain⟨f1,-,f3,-,f5⟩:=told_fits M t0 s1 g1 T;have z0:=M.2.1;refine (h1.tk f3 nn fun j hj=>?_).more (by omega)
    have q:=f5 j hj;exact Grp.wf_of (by omega) (by omega)
  ·exact (h.outs o).more (by omega)
theorem ri_start:RI 0 [] []:=⟨Nat.le_refl _,fun p h=>(by cases h),fun key=>List.Pairwise.nil⟩
theorem did_len{cf:C8}{x:Cl}{zz:Option (Nat×Int×Int×Int)}{mk mk' code:Int}{cl cl':Bool}{L':List Pn}(h:RI B R L)(h2:RI (B+16) R' L')(d:RDid cf R mk L cl x zz code P R' mk' L' cl'):P.length≤B+16:=by
 cases d with
 |bad|closed|stale|still|shut|up=>exact Nat.zero_le _
 |ask _ _ _ a=>
  rcases a with ⟨-,rfl,-⟩|⟨-,-,-,-,Q,hq,-,rfl⟩
  ·exact Nat.zero_le _
  ·have q1:Q.length≤B+16:=by
    rw[hq.length_eq];have:=List.length_filter_le (fun p=>decide (p.key=x.key)) R'
    have:=h2.len;show (R'.filter _).length≤_
    omega
   split
   ·refine Nat.le_trans ?_ q1
    unfold only;exact List.length_filter_le _ _
   ·exact q1
theorem did_wf{cf:C8}{x:Cl}{zz:Option (Nat×Int×Int×Int)}{mk mk' code:Int}{cl cl':Bool}{L':List Pn}(d:RDid cf R mk L cl x zz code P R' mk' L' cl')(h1:(Lit.int .i64 mk).wf=true)(h2:(Lit.int .i64 x.t).wf=true):(Lit.int .i64 mk').wf=true:=by
 cases d with
 |up=>exact h2
 |_=>exact h1
end
end Rm
namespace Cn
open Small Foot Ca
instance:Inhabited Cl:=⟨⟨0,⟨#[]⟩,0,0,0,0,0⟩⟩
theorem flat_call:∀ (l:List Cl) (t:Nat),t<l.length*7→(Sl.flat Ck l)[t]?=some ((Cl.cl l[t / 7]!)[t%7]!)
 |[],t,h=>by simp at h
 |x::l,t,h=>by
  have e:Sl.flat Ck (x::l)=x.cl++Sl.flat Ck l:=rfl;rw[e];by_cases ht:t<7
  ·rw[List.getElem?_append_left (by simpa using ht),Nat.div_eq_of_lt ht,Nat.mod_eq_of_lt ht]
   have:t<(Cl.cl x).length:=by simpa using ht
   simp only[List.getElem!_cons_zero];rw[List.getElem!_eq_getElem?_getD,List.getElem?_eq_getElem this]
   rfl
  ·rw[List.getElem?_append_right (by simp;omega)]
   have h1:t / 7=(t-7) / 7+1:=by omega
   have h2:t%7=(t-7)%7:=by omega
   have:=flat_call l (t-7) (by simp at h;omega)
   rw[h1,h2,List.getElem!_cons_succ];exact this
structure CameC(w:World)(x:Value×List Cl):Prop where
 rd:(∃ b,Sl.Is Ck w x.1 x.2 b)∨(x.2=[]∧∃ a c,x.1=.slice (some a) 0 c)
 fit:∀ y∈x.2,y.Fit
 len:x.2.length≤maxLen
section
variable {H:Type} {enc:TypeId×Value→H} {w:World} {base:Nat} {held:Bool} {spare:Nat→Bool}
theorem calls_cells(m:Nat)(cs:List Value)(y:DataW H×List MemPlace)(h:DataW.trod enc Tryz.prog w base spare held m 24 cs=some y):∃ x:Value×List Cl,cs=[x.1]∧CameC w x:=by
 rcases Deep.open_slice Tryz.underlying24 h with ⟨rfl,_⟩|⟨a,len,cap,m,n,D,Pl,rfl,_,hl,hm,hmm,_,hat⟩
 ·exact⟨(.slice none 0 0,[]),rfl,.inl ⟨0,.inl ⟨rfl,rfl⟩⟩,by simp,by simp⟩
 ·by_cases h0:len=0
  ·subst h0
   exact⟨(.slice (some a) 0 cap,[]),rfl,.inr ⟨rfl,a,cap,rfl⟩,by simp,by simp⟩
  ·have hlen:len≤m:=by rw[hmm];split<;>omega
   have ex:∀ i,i<len→∃ x:Cl,x.Fit∧∀ j v,(Cl.cl x)[j]?=some v→w.cell? ((a.add (i*7)).add j)=some v:=fun i hi=>by
    obtain⟨cs,hc,hd⟩:=hat i (by omega)
    obtain⟨x,rfl,hx⟩:=Ca.call_cells _ _ _ hd;rw[Ca.cells_call] at hc;exact⟨x,hx,(Opens.cells_each hc).2⟩
   obtain⟨f,hff⟩:=Deep.choose_lt ex;obtain⟨b,off,spot⟩:=a;have c0:=(hff 0 (by omega)).2 0 _ rfl
   have hspot:spot=none:=by
    rw[Nat.zero_mul] at c0
    simpa [Addr.add] using World.cell?_spot c0
   subst hspot;have hb:b<w.heap.size:=World.block_lt_of_cell? _ _ c0;have lenL:((List.range len).map f).length=len:=by simp
   refine⟨(.slice (some ⟨b,off,none⟩) len cap,(List.range len).map f),rfl,.inl ⟨b,.inr ⟨off,cap,by rw[lenL],by rw[lenL];exact hl,hm,hb,fun j u hj=>?_⟩⟩,fun p hp=>?_,by rw[lenL];omega⟩
   ·have hj':j<((List.range len).map f).length*7:=by
     have:=(List.getElem?_eq_some_iff.1 hj).1
     rw[Sl.flat_len cok] at this;exact this
    rw[flat_call _ j hj'] at hj;rw[lenL] at hj';have hi:j / 7<len:=by omega
    have e:((List.range len).map f)[j / 7]! =f (j / 7):=by
     rw[List.getElem!_eq_getElem?_getD,List.getElem?_map,List.getElem?_range hi];rfl
    rw[e] at hj
    have hk:(Cl.cl (f (j / 7)))[j%7]?=some u:=by
     have h7:j%7<(Cl.cl (f (j / 7))).length:=by have:=Nat.mod_lt j (show 0<7 by decide);simpa using this
     rw[←hj,List.getElem!_eq_getElem?_getD,List.getElem?_eq_getElem h7];rfl
    have:=(hff _ hi).2 _ _ hk;rw[Deep.add_add,add_plain] at this;rw[show off+j=off+(j / 7*7+j%7) by omega]
    exact this
   ·obtain⟨i,hi,rfl⟩:=List.mem_map.1 hp
    exact (hff i (by simpa using hi)).1
end
instance:Inhabited (Value×List Cl):=⟨(.slice none 0 0,[])⟩
end Cn
namespace Opens
theorem open_clist{H:Type}{enc:TypeId×Value→H}{w:World}{base:Nat}{held:Bool}{spare:Nat→Bool}{r:Reach}{b0:Nat}{v:Value}{d:DataW H}{p:List MemPlace}
  (hv:Value.okWide Tryz.prog w r b0 24 v) (h:DataW.Trod enc Tryz.prog w base spare held 24 v d p):∃ x:Value×List Cl,v=x.1∧Cn.CameC w x:=by
 obtain⟨A,len,cap,rfl⟩:=okWide_slice Tryz.underlying24 hv
 obtain⟨fuel,hf⟩:=h
 obtain⟨x,h1,h2⟩:=Cn.calls_cells _ _ _ hf
 simp[Value.cells] at h1
 exact⟨x,h1,h2⟩
end Opens
namespace Cn
open Small Foot Fm Ca Sh Grp
open Md (cfOf)
open Rm (RDid RAsked NoR RI)
theorem BG.client{w0 w w':World}{cf:Cf}{c8:C8}{gc b x bn bc:Nat}{ba:Option Addr}{num:Int}{wv cv:Value}{ws bs:List Nat}{cs:List Cl}{p:Nat→Int→Option Nat}{q:Int→Option Nat}{R:Nat→Nat→Prop}(h:BG w0 cf c8 gc b wv (.slice ba bn bc) ws bs p q R w)(qq:Q w' x num cv cs (.slice none 0 0) [] g0)(f:From w.heap.size (CF x cv (.slice none 0 0)))(k:Below w.heap.size w w'):
  ∃ R',CM w0 ⟨cf,gc,b,ba,bn,bc,bs,x,num,cs⟩ (st0 cf) R' w'∧WM c8 bs ws p q (fun _ _=>[]) 0 (fun _=>0) R' w'∧On (fun j=>j=18) R w R' w':=by
 have V:Moves (R 18) (CF x cv (.slice none 0 0)) w w':=made_moves h.r18 k f qq.in
 have ff:=h.fam.one V
 have K:=one_kp h.fam V
 refine⟨_,⟨ff,h.few,fun i g e=>?_,⟨((K 16 (by decide)).2 _ (by rw[h.r16];exact .inr rfl)).trans h.table.lies,((K 16 (by decide)).2 _ (by rw[h.r16];exact .inl rfl)).trans h.table.rows⟩,(K 16 (by decide)).1.trans h.r16,((K 17 (by decide)).2 _ (by rw[h.r17])).trans h.ctl,(K 17 (by decide)).1.trans h.r17,⟨cv,_,qq,rset_same _ _ _⟩,(fun r hr=>by cases hr),VB.nil,(fun hh e=>by cases e),h.bl.move fun a ha=>(K 21 (by decide)).2 a (by rw[h.r21];exact ha),(K 21 (by decide)).1.trans h.r21⟩,h.wm.keep h.few k.size fun i hi=>K i (by omega),On.one h.fam V rfl⟩
 obtain⟨v,bb,rr⟩:=h.box i g e
 have hi:=(List.getElem?_eq_some_iff.1 e).1
 have hf:bs.length≤8:=h.few
 have kk:=K i (by have:i<bs.length:=hi;omega)
 exact⟨v,⟨(kk.2 g (by rw[rr];exact .inl rfl)).trans bb.lies,bb.own.move fun a ha=>kk.2 a (by rw[rr];exact .inr ha)⟩,kk.1.trans rr⟩
theorem co_start{w0 w:World}{cf:Cf}{c8:C8}{gc b:Nat}{wv bv:Value}{ws bs:List Nat}{p:Nat→Int→Option Nat}{q:Int→Option Nat}{R:Nat→Nat→Prop}(h:BG w0 cf c8 gc b wv bv ws bs p q R w)(hcf:cf=cfOf c8)(hl:(bs.length:Int)=cf.h)(hb:(1≤c8.h∧c8.h≤8)∧1≤c8.r∧c8.r≤16):
  Co c8 q ⟨[],-9223372036854775808,[],false⟩ 0 none (st0 cf) p (fun _ _=>[]) 0:=by
 subst hcf
 refine⟨rfl,rfl,fun _=>rfl,fun x hx=>?_,fun x=>⟨fun e=>?_,fun e=>?_⟩,fun x _ _=>Cm.Lag.start,fun p hp=>(by cases hp),Nat.le_refl _,by decide⟩
 ·have hx:(x:Int)<c8.r:=hx
  have h1:=Ow.ini_at c8.h c8.r.toNat (i:=x) (n:=c8.r.toNat) (by omega)
  rw[if_pos (by omega)] at h1
  have e0:=Int.emod_nonneg (x:Int) (show c8.h≠0 by omega)
  have e1:=Int.emod_lt_of_pos (x:Int) (show 0<c8.h by omega)
  refine⟨_,h1,e0,e1,Int.le_refl _,Int.le_refl _,fun _=>⟨rfl,?_⟩⟩
  have hl:(bs.length:Int)=c8.h:=hl;have hn:p ((x:Int)%c8.h).toNat x≠none:=(h.own _ _).2 ⟨by omega,by omega,hx,by show (x:Int)%c8.h=_;omega⟩
  obtain⟨a,ha⟩:=Option.ne_none_iff_exists'.1 hn;exact ha.trans (h.wm.own _ _ a ha).symm
 ·obtain⟨i,hi⟩:=h.had x e
  have:=(h.own i x).1 hi;exact⟨this.2.1,this.2.2.1⟩
 ·have hl:(bs.length:Int)=c8.h:=hl
  have e0:=Int.emod_nonneg x (show c8.h≠0 by omega)
  have e1:=Int.emod_lt_of_pos x (show 0<c8.h by omega)
  have hn:p (x%c8.h).toNat x≠none:=(h.own _ _).2 ⟨by omega,e.1,e.2,by show x%c8.h=_;omega⟩
  obtain⟨a,ha⟩:=Option.ne_none_iff_exists'.1 hn;rw[h.wm.own _ _ a ha];exact fun k=>by cases k
structure LW(w6:World)(c8:C8)(cs:List Cl)(rm k:Nat)(T:Nat→MS)(W:Nat→Int×List Pn)(zz:Nat→Option (Nat×Int×Int×Int))(zs:List Rp)(sv:Value)(G:Nat→Prop)(wr:World):Prop where
 md:Rm.Is wr rm G c8 (T k).R (T k).mt (T k).L (T k).cl
 fg:From w6.heap.size G
 own:Sl.Own Rk w6.heap.size wr sv zs
 len:zs.length=k
 each:∀ i z,zs[i]?=some z→z.code=(W i).1∧z.P=(W i).2∧Sl.Own Pn.k w6.heap.size wr z.pv z.P
 ap1:∀ a,sv.ownBlock=some a→¬G a
 ap2:∀ z∈zs,∀ a,z.pv.ownBlock=some a→sv.ownBlock≠some a∧¬G a
 ri:RI (16*k) (T k).R (T k).L
 wf:(Lit.int .i64 (T k).mt).wf=true
 bl:Below w6.heap.size w6 wr
 start:T 0=⟨[],-9223372036854775808,[],false⟩
 told:∀ i y,i<k→cs[i]?=some y→Asg.Told c8.k c8.s c8.l c8.g c8.z y.t (zz i)
 did:∀ i y,i<k→cs[i]?=some y→RDid c8 (T i).R (T i).mt (T i).L (T i).cl y (zz i) (W i).1 (W i).2 (T (i+1)).R (T (i+1)).mt (T (i+1)).L (T (i+1)).cl
 plen:∀ i,i<k→(W i).2.length≤9000
section
variable {w6 wr w7 w8 w9:World} {c8:C8} {cs:List Cl} {rm k:Nat} {T:Nat→MS} {W:Nat→Int×List Pn} {zz:Nat→Option (Nat×Int×Int×Int)} {zs:List Rp} {sv sv':Value} {G G':Nat→Prop}
theorem LW.push(h:LW w6 c8 cs rm k T W zz zs sv G wr){y:Cl}{z:Option (Nat×Int×Int×Int)}{x:Rp}{R' L':List Pn}{mt':Int}{cl':Bool}(hy:cs[k]?=some y)(k20:k<20)(M:Asg.may c8.k c8.s c8.l c8.g c8.z c8.h c8.r c8.c)(fy:y.Fit)(s1:c8.s≤9223372036854775807)(g1:c8.g≤9223372036854775807)(tl:Asg.Told c8.k c8.s c8.l c8.g c8.z y.t z)
  (d:RDid c8 (T k).R (T k).mt (T k).L (T k).cl y z x.code x.P R' mt' L' cl') (md:Rm.Is w7 rm G' c8 R' mt' L' cl') (mv:Moves G G' wr w7) (o:Sl.Own Pn.k wr.heap.size w7 x.pv x.P) (oa:∀ a,x.pv.ownBlock=some a→¬G' a) (b8:Below w7.heap.size w7 w8)
  (z1:Sl.Own Rk w6.heap.size w9 sv' (zs++[x])) (z2:w8.grownBy w9 sv.ownBlock) (z3:sv'.ownBlock=sv.ownBlock∨sv'.ownBlock=some w8.heap.size):
  ∃ T' W' zz',LW w6 c8 cs rm (k+1) T' W' zz' (zs++[x]) sv' G' w9:=by
 have t0:=(Num.fit fy.2.2.1).1
 have r2:=h.ri.did M t0 s1 g1 tl d
 have pl:=Rm.did_len h.ri r2 d
 obtain⟨TN,hT⟩:∃ TN:Nat→MS,TN=fun i=>if i=k+1 then (⟨R',mt',L',cl'⟩:MS) else T i:=⟨_,rfl⟩
 obtain⟨WN,hW⟩:∃ WN:Nat→Int×List Pn,WN=fun i=>if i=k then (x.code,x.P) else W i:=⟨_,rfl⟩
 obtain⟨ZN,hZ⟩:∃ ZN:Nat→Option (Nat×Int×Int×Int),ZN=fun i=>if i=k then z else zz i:=⟨_,rfl⟩
 have eT:∀ i,i≤k→TN i=T i:=fun i hi=>by rw[hT];exact if_neg (by omega)
 have eT1:TN (k+1)=⟨R',mt',L',cl'⟩:=by rw[hT];exact if_pos rfl
 have eW:∀ i,i<k→WN i=W i:=fun i hi=>by rw[hW];exact if_neg (by omega)
 have eW1:WN k=(x.code,x.P):=by rw[hW];exact if_pos rfl
 have eZ:∀ i,i<k→ZN i=zz i:=fun i hi=>by rw[hZ];exact if_neg (by omega)
 have eZ1:ZN k=z:=by rw[hZ];exact if_pos rfl
 clear hT hW hZ
 have hin:=h.md.in
 have s78:=b8.size
 have keep:∀ a,a<wr.heap.size→¬G a→sv.ownBlock≠some a→w9.heap[a]?=wr.heap[a]?:=fun a ha hg hs=>by
  have e1:=mv.block a ha hg;have e2:=b8.block a (Nat.lt_of_lt_of_le ha mv.size);have e3:=z2.block a (Nat.lt_of_lt_of_le ha (Nat.le_trans mv.size s78)) (fun e=>hs e.symm)
  exact e3.trans (e2.trans e1)
 have nG:∀ a,G' a→G a∨wr.heap.size≤a:=fun a ha=>(mv.new a ha).1
 have svG:∀ a,sv.ownBlock=some a→¬G' a:=fun a ha hg=>by
  rcases nG a hg with q|q
  ·exact h.ap1 a ha q
  ·have:=(h.own.lt a ha).2;omega
 have inG:∀ a,G' a→a<w7.heap.size:=fun a ha=>mv.in a ha
 have bl7:Below w6.heap.size w6 w7:=h.bl.trans (mv.below h.fg h.bl.size)
 have bl8:Below w6.heap.size w6 w8:=bl7.trans (b8.mono bl7.size)
 refine⟨TN,WN,ZN,⟨?_,mv.from h.fg h.bl.size,z1,by simp[h.len],fun i v e=>?_,fun a ha hg=>?_,fun v hv a ha=>?_,?_,?_,bl8.grown z2 bl8.size fun a ha=>(h.own.lt a ha).1,?_,fun i y' hi e=>?_,fun i y' hi e=>?_,fun i hi=>?_⟩⟩
 ·rw[eT1]
  refine (md.next b8).keep (fun i hi=>z2.block i (Nat.lt_of_lt_of_le (inG i hi) s78) fun e=>svG i e.symm hi) z2.size
 ·by_cases hi:i<k
  ·rw[List.getElem?_append_left (by rw[h.len];exact hi)] at e
   obtain⟨u1,u2,u3⟩:=h.each i v e;rw[eW i hi];refine⟨u1,u2,u3.move fun a ha=>?_⟩
   obtain⟨q1,q2⟩:=h.ap2 v (List.mem_of_getElem? e) a ha;exact keep a (u3.lt a ha).2 q2 q1
  ·have:=(List.getElem?_eq_some_iff.1 e).1
   simp only[List.length_append,List.length_singleton,h.len] at this;obtain rfl:i=k:=by omega
   rw[List.getElem?_append_right (by rw[h.len];exact Nat.le_refl _),h.len] at e
   simp at e;subst e;rw[eW1];refine⟨rfl,rfl,own_base (o.move fun a ha=>?_) h.bl.size⟩
   have q:=o.lt a ha;have e2:=b8.block a q.2;exact (z2.block a (Nat.lt_of_lt_of_le q.2 s78) fun e=>by have:=(h.own.lt a e.symm).2;omega).trans e2
 ·rcases z3 with q|q
  ·rw[q] at ha;exact svG a ha hg
  ·rw[q] at ha
   have:=inG a hg;have:=Option.some.inj ha;omega
 ·rcases List.mem_append.1 hv with hv|hv
  ·obtain⟨q1,q2⟩:=h.ap2 v hv a ha
   obtain⟨i,hi⟩:=List.mem_iff_getElem?.1 hv;have q3:=((h.each i v hi).2.2.lt a ha).2;refine⟨fun e=>?_,fun g=>?_⟩
   ·rcases z3 with q|q
    ·rw[q] at e;exact q1 e
    ·rw[q] at e;have:=Option.some.inj e;have:=mv.size;omega
   ·rcases nG a g with q|q
    ·exact q2 q
    ·omega
  ·simp only[List.mem_singleton] at hv
   subst hv;have q:=o.lt a ha;refine⟨fun e=>?_,fun g=>?_⟩
   ·rcases z3 with q3|q3
    ·rw[q3] at e;have:=(h.own.lt a e).2;omega
    ·rw[q3] at e;have:=Option.some.inj e;omega
   ·exact oa a ha g
 ·rw[eT1];exact r2.more (by omega)
 ·rw[eT1];exact Rm.did_wf d h.wf fy.2.2.1
 ·rw[eT 0 (Nat.zero_le _)];exact h.start
 ·by_cases q:i<k
  ·rw[eZ i q];exact h.told i y' q e
  ·obtain rfl:i=k:=by omega
   rw[hy] at e;cases e;rw[eZ1];exact tl
 ·by_cases q:i<k
  ·rw[eZ i q,eT i (by omega),eT (i+1) (by omega),eW i q];exact h.did i y' q e
  ·obtain rfl:i=k:=by omega
   rw[hy] at e;cases e;rw[eZ1,eT i (Nat.le_refl _),eT1,eW1];exact d
 ·by_cases q:i<k
  ·rw[eW i q];exact h.plen i q
  ·obtain rfl:i=k:=by omega
   rw[eW1];show x.P.length≤9000
   omega
end
end Cn
end Go.Proofs.YtfjlnniahfbdfaaGreat
