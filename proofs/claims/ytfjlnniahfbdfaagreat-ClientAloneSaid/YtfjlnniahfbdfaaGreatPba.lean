/- A part of the proof. -/
import Derived.Test.YtfjlnniahfbdfaaGreatPav
import Derived.Test.YtfjlnniahfbdfaaGreatPaz
import Derived.Test.YtfjlnniahfbdfaaGreatPag
import Derived.Test.YtfjlnniahfbdfaaGreatPab
set_option linter.unusedVariables false
set_option maxHeartbeats 4000000
namespace Go.Proofs.YtfjlnniahfbdfaaGreat
open Go.ChangeShapes Go.WideShapes Go.ChangeAt Go.RowKit
set_option maxRecDepth 100000
namespace Cm
open Small Foot Pane Grp Ca Md Rg Rm
abbrev ov:=@Sh.ov
structure Lag(G:ByteArray→Int)(g z mark:Int)(S:Lists)(R:List Pn):Prop where
 only:∀ x,G x≠g→S x=[]
 perm:∀ x,G x=g→(Rg.ofKey x R).Perm ((S x).filter fun p=>!ov z mark p)
abbrev part(G:ByteArray→Int)(g:Int)(R:List Pn):List Pn:=R.filter fun p=>decide (G p.key=g)
section
variable {G:ByteArray→Int} {g g' z mark mark':Int} {S S1 S':Lists} {R R' O:List Pn}
theorem ofKey_part(x:ByteArray):Rg.ofKey x (part G g R)=if G x=g then Rg.ofKey x R else []:=by
 unfold Rg.ofKey part
 rw[List.filter_filter]
 by_cases e:G x=g
 ·rw[if_pos e]
  refine List.filter_congr fun p _=>?_
  by_cases q:p.key=x
  ·simp[q,e]
  ·simp[q]
 ·rw[if_neg e]
  refine List.filter_eq_nil_iff.2 fun p _=>?_
  by_cases q:p.key=x
  ·simp[q,e]
  ·simp[q]
theorem none_filter(no:NoneOver z mark S)(x:ByteArray):((S x).filter fun p=>!ov z mark p)=S x:=List.filter_eq_self.2 fun p hp=>by simpa using no x p hp
theorem Lag.of_rep(only:∀ x,G x≠g→S x=[])(rp:Rep S (part G g R))(no:NoneOver z mark S):Lag G g z mark S R:=⟨only,fun x hx=>by
 have:=rp x
 rw[ofKey_part,if_pos hx] at this
 rw[none_filter no]
 exact this⟩
theorem Lag.settled(h:Lag G g z mark S R)(o:Outs z mark S O S1)(no:NoneOver z mark S1)(F:Fine S):Rep S1 (part G g R):=fun x=>by
 have e:=(Sh.outs_all o no F).1 x
 rw[ofKey_part]
 by_cases hx:G x=g
 ·rw[if_pos hx,e];exact h.perm x hx
 ·rw[if_neg hx,e,h.only x hx];exact List.Perm.refl _
theorem Lag.only'(h:Lag G g z mark S R)(o:Outs z mark S O S1)(no:NoneOver z mark S1)(F:Fine S):∀ x,G x≠g→S1 x=[]:=fun x hx=>by
 rw[(Sh.outs_all o no F).1 x,h.only x hx];rfl
theorem Lag.marked(h:Lag G g z mark S R)(o:Outs z mark S O S1)(no:NoneOver z mark S1)(F:Fine S):Lag G g z mark S1 R:=.of_rep (h.only' o no F) (h.settled o no F) no
theorem Lag.other(h:Lag G g z mark S R)(e:∀ y,G y=g→Rg.ofKey y R'=Rg.ofKey y R):Lag G g z mark S R':=⟨h.only,fun x hx=>by rw[e x hx];exact h.perm x hx⟩
theorem Lag.start:Lag G g z mark (fun _=>[]) []:=⟨fun _ _=>rfl,fun _ _=>List.Perm.refl _⟩
theorem routs_filter(o:ROuts z mark R O R'):(R'.filter fun p=>!ov z mark p)=R.filter fun p=>!ov z mark p:=by
 induction o with
 |none=>rfl
 |@more O R1 p k h hp ho _ ih=>
  have e:=Grp.split_at hp;rw[←ih]
  conv=>rhs;rw[e]
  have hov:ov z mark p=true:=by simpa using ho
  simp[List.filter_append,hov]
theorem routs_all(o:ROuts z mark R O R')(no:NoR z mark R'):R'=R.filter fun p=>!ov z mark p:=by
 rw[←routs_filter o]
 exact (List.filter_eq_self.2 fun p hp=>by simpa using no p hp).symm
theorem Lag.up(h:Lag G g z mark S R)(hm:mark≤mark')(o:ROuts z mark' R O R')(no:NoR z mark' R'):Lag G g z mark' S R':=⟨h.only,fun x hx=>by
 have e:Rg.ofKey x R'=(Rg.ofKey x R).filter fun p=>!ov z mark' p:=by
  rw[routs_all o no];unfold Rg.ofKey;rw[List.filter_filter,List.filter_filter];exact List.filter_congr fun p _=>Bool.and_comm _ _
 rw[e]
 refine ((h.perm x hx).filter _).trans ?_
 rw[List.filter_filter]
 refine List.Perm.of_eq (List.filter_congr fun p _=>?_)
 have:ov z mark p=true→ov z mark' p=true:=fun q=>by
  have q':p.e+z≤mark:=by simpa using q
  have:p.e+z≤mark':=by omega
  simpa using this
 cases h1:ov z mark p<;>cases h2:ov z mark' p<;>simp_all⟩
variable {k:Int} {key:ByteArray} {s e v:Int}
theorem hit_key{p:Pn}(h:hit k key s e p=true):p.key=key:=by
 unfold hit at h
 simp only[Bool.and_eq_true,decide_eq_true_eq] at h
 exact h.1
theorem join_key{a b:Pn}:(join2 a b).key=a.key:=rfl
theorem made_key{R:List Pn}:(made k key s e v R).key=key:=by
 have:∀ (L:List Pn) (a:Pn),a.key=key→(L.foldl join2 a).key=key:=fun L=>by
  induction L with
  |nil=>exact fun a h=>h
  |cons b L ih=>exact fun a h=>ih _ (join_key.trans h)
 exact this _ _ rfl
theorem put_part(hk:G key=g):part G g (putR k key s e v R)=putR k key s e v (part G g R):=by
 have e1:(part G g R).filter (hit k key s e)=R.filter (hit k key s e):=by
  unfold part;rw[List.filter_filter];refine List.filter_congr fun p _=>?_
  cases h:hit k key s e p
  ·simp
  ·simp[hit_key h,hk]
 have e2:part G g (rest k key s e R)=rest k key s e (part G g R):=by
  unfold part rest;rw[List.filter_filter,List.filter_filter];exact List.filter_congr fun p _=>Bool.and_comm _ _
 unfold putR
 rw[show part G g (rest k key s e R++[made k key s e v R])=part G g (rest k key s e R)++part G g [made k key s e v R] from List.filter_append _ _,e2]
 congr 1
 have:decide (G (made k key s e v R).key=g)=true:=by rw[made_key];simpa using hk
 rw[show part G g [made k key s e v R]=[made k key s e v R] from by unfold part;rw[List.filter_cons,if_pos this,List.filter_nil]]
 unfold Rg.made
 rw[e1]
theorem put_other{y:ByteArray}(hy:y≠key):Rg.ofKey y (putR k key s e v R)=Rg.ofKey y R:=by
 unfold putR
 rw[show Rg.ofKey y (rest k key s e R++[made k key s e v R])=Rg.ofKey y (rest k key s e R)++Rg.ofKey y [made k key s e v R] from List.filter_append _ _]
 have h1:Rg.ofKey y [made k key s e v R]=[]:=List.filter_eq_nil_iff.2 fun p hp=>by
  simp only[List.mem_singleton] at hp;subst hp;rw[made_key]
  simpa using fun q=>hy q.symm
 rw[h1,List.append_nil]
 unfold Rg.ofKey rest
 rw[List.filter_filter]
 refine List.filter_congr fun p _=>?_
 by_cases q:p.key=y
 ·have:hit k key s e p=false:=by
   cases h:hit k key s e p
   ·rfl
   ·exact absurd (q.symm.trans (hit_key h)) hy
  simp[q,this]
 ·simp[q]
theorem tk_part{a d l:Int}(hk:G key=g)(i:Nat):part G g (tk k key v z mark a d l R i)=tk k key v z mark a d l (part G g R) i:=by
 induction i with
 |zero=>rfl
 |succ i ih=>
  simp only[tk]
  split
  ·exact ih
  ·rw[put_part hk,ih]
theorem tk_other{a d l:Int}{y:ByteArray}(hy:y≠key)(i:Nat):Rg.ofKey y (tk k key v z mark a d l R i)=Rg.ofKey y R:=by
 induction i with
 |zero=>rfl
 |succ i ih=>
  simp only[tk]
  split
  ·exact ih
  ·rw[put_other hy,ih]
theorem tk_same{late mark a d l:Int}{i c:Nat}(h:Tk k key v late mark a d l S i c S'){y:ByteArray}(hy:y≠key):S' y=S y:=by
 induction h with
 |zero=>rfl
 |over _ _ ih=>exact ih
 |put _ _ _ ih=>rw[set_other _ _ hy];exact ih
theorem Lag.ask{cf:C8}{x:Cl}{zz:Option (Nat×Int×Int×Int)}{code code2:Int}{P P2 O O2:List Pn}{c N:Nat}(h:Lag G g cf.z mark S R)(hk:G x.key=g)(ok:Ok cf.k S N)(hN:N≤8880)(hz:∀ nn a d l,zz=some (nn,a,d,l)→nn≤16∧1≤l)(nor:NoR cf.z mark R)
  (a:MAsked cf S mark x zz code P O c S') (b:RAsked cf R mark x zz code2 P2 O2 R'):code=code2∧P=P2∧O2=[]∧Lag G g cf.z mark S' R'∧∀ y,y≠x.key→Rg.ofKey y R'=Rg.ofKey y R:=by
 have F:=ok.fine (by omega)
 rcases a with ⟨h1,rfl,S1,o,no,tk⟩|⟨h1,rfl,rfl,o,no,rfl⟩
 ·rcases b with ⟨-,rfl,R1,ro,rno,rtk⟩|⟨h2,-⟩
  ·obtain⟨rfl,rfl⟩:=Rr.routs_none ro nor
   have rp:=h.settled o no F;have on:=h.only' o no F;cases zz with
   |none=>
    obtain⟨rfl,rfl,rfl⟩:=tk;obtain⟨rfl,rfl⟩:=rtk;exact⟨rfl,rfl,rfl,.of_rep on rp no,fun _ _=>rfl⟩
   |some q=>
    obtain⟨nn,a,d,l⟩:=q;obtain⟨h3,h4⟩:=hz nn a d l rfl;obtain⟨tk,rfl⟩:=tk;obtain⟨rfl,rfl⟩:=rtk;have ok1:=ok.outs o;have rp':=rp.taken ok1 h4 nn (by omega) tk
    rw[←tk_part hk] at rp';have no':=tk.noneOver ok1 h4 (by omega) no
    have hl:=tk.live;exact⟨by rw[hl],rfl,rfl,.of_rep (fun y hy=>(tk_same tk fun e=>hy (by rw[e];exact hk)).trans (on y hy)) rp' no',fun y hy=>tk_other hy _⟩
  ·exact absurd h1 h2
 ·rcases b with ⟨h2,-⟩|⟨-,rfl,ro,rno,Q,q1,q2,rfl⟩
  ·exact absurd h2 h1
  ·obtain⟨rfl,rfl⟩:=Rr.routs_none ro nor
   have rp:=h.settled o no F;obtain rfl:=rp.panes (F.outs o) (key:=x.key) (by rw[ofKey_part,if_pos hk];exact q1) q2
   exact⟨rfl,rfl,rfl,.of_rep (h.only' o no F) rp no,fun _ _=>rfl⟩
end
end Cm
namespace Fm
open Small Foot
abbrev none0:Nat→Prop:=fun _=>False
abbrev Or2(F G:Nat→Prop):Nat→Prop:=fun i=>F i∨G i
structure Fam(w0 w:World)(R:Nat→Nat→Prop):Prop where
 in_:∀ i,In w (R i)
 lo:∀ i,From w0.heap.size (R i)
 ap:∀ i j,i≠j→Apart (R i) (R j)
 below:Below w0.heap.size w0 w
def rset(R:Nat→Nat→Prop)(i:Nat)(F:Nat→Prop):Nat→Nat→Prop:=fun k=>if k=i then F else R k
section
variable {w0 w w':World} {R:Nat→Nat→Prop} {F F' G G':Nat→Prop} {i j:Nat}
theorem Fam.next(h:Fam w0 w R)(k:Below w.heap.size w w'):Fam w0 w' R:=⟨fun i=>(h.in_ i).next k.size,h.lo,h.ap,after h.below k⟩
theorem Fam.one(h:Fam w0 w R)(k:Moves (R i) F' w w'):Fam w0 w' (rset R i F'):=by
 have ap:∀ j,j≠i→Apart F' (R j):=fun j hj=>k.apart (h.ap i j (Ne.symm hj)) (h.in_ j)
 refine⟨fun j=>?_,fun j=>?_,fun j l hjl=>?_,h.below.trans (k.below (h.lo i) h.below.size)⟩
 ·unfold rset;split
  ·exact k.in
  ·exact (h.in_ j).next k.size
 ·unfold rset;split
  ·exact k.from (h.lo i) h.below.size
  ·exact h.lo j
 ·unfold rset
  by_cases e:j=i
  ·rw[if_pos e,if_neg (fun q=>hjl (e.trans q.symm))]
   exact ap l fun q=>hjl (e.trans q.symm)
  ·rw[if_neg e]
   by_cases e':l=i
   ·rw[if_pos e'];exact (ap j e).symm
   ·rw[if_neg e'];exact h.ap j l hjl
theorem Fam.two(h:Fam w0 w R)(hij:i≠j)(k:Moves (Or2 (R i) (R j)) (Or2 F' G') w w')(a:Apart F' G'):Fam w0 w' (rset (rset R i F') j G'):=by
 have ap:∀ l,l≠i→l≠j→Apart (Or2 F' G') (R l):=fun l h1 h2=>k.apart (fun b hb q=>hb.elim (fun r=>h.ap i l (Ne.symm h1) b r q) fun r=>h.ap j l (Ne.symm h2) b r q) (h.in_ l)
 have lo:From w0.heap.size (Or2 F' G'):=k.from (fun b hb=>hb.elim (h.lo i b) (h.lo j b)) h.below.size
 have val:∀ l,rset (rset R i F') j G' l=if l=j then G' else if l=i then F' else R l:=fun l=>rfl
 refine⟨fun l=>?_,fun l=>?_,fun l m hlm=>?_,h.below.trans (k.below (fun b hb=>hb.elim (h.lo i b) (h.lo j b)) h.below.size)⟩
 ·rw[val];split
  ·exact fun b hb=>k.in b (.inr hb)
  ·split
   ·exact fun b hb=>k.in b (.inl hb)
   ·exact (h.in_ l).next k.size
 ·rw[val];split
  ·exact fun b hb=>lo b (.inr hb)
  ·split
   ·exact fun b hb=>lo b (.inl hb)
   ·exact h.lo l
 ·rw[val,val]
  by_cases e1:l=j
  ·subst e1
   rw[if_pos rfl,if_neg (Ne.symm hlm)];by_cases e2:m=i
   ·rw[if_pos e2];exact a.symm
   ·rw[if_neg e2];exact fun b hb q=>ap m e2 (Ne.symm hlm) b (.inr hb) q
  ·rw[if_neg e1]
   by_cases e3:m=j
   ·subst e3
    rw[if_pos rfl];by_cases e2:l=i
    ·rw[if_pos e2];exact a
    ·rw[if_neg e2];exact fun b hb q=>ap l e2 e1 b (.inr q) hb
   ·rw[if_neg e3]
    by_cases e2:l=i
    ·subst e2
     rw[if_pos rfl,if_neg (Ne.symm hlm)];exact fun b hb q=>ap m (Ne.symm hlm) e3 b (.inl hb) q
    ·rw[if_neg e2]
     by_cases e4:m=i
     ·subst e4;rw[if_pos rfl];exact fun b hb q=>ap l e2 e1 b (.inl q) hb
     ·rw[if_neg e4];exact h.ap l m hlm
theorem Fam.kept(h:Fam w0 w R)(k:Moves (R i) F' w w')(hj:j≠i):∀ b,R j b→w'.heap[b]?=w.heap[b]?:=fun b hb=>k.block b (h.in_ j b hb) fun q=>h.ap i j (Ne.symm hj) b q hb
theorem Fam.kept2(h:Fam w0 w R)(k:Moves (Or2 (R i) (R j)) F' w w'){l:Nat}(h1:l≠i)(h2:l≠j):∀ b,R l b→w'.heap[b]?=w.heap[b]?:=fun b hb=>k.block b (h.in_ l b hb) fun q=>q.elim (fun q=>h.ap i l (Ne.symm h1) b q hb) fun q=>h.ap j l (Ne.symm h2) b q hb
end
section
variable {w0 w w':World} {R R':Nat→Nat→Prop} {F G:Nat→Prop} {i j:Nat}
theorem rset_same(R:Nat→Nat→Prop)(i:Nat)(F:Nat→Prop):rset R i F i=F:=if_pos rfl
theorem rset_ne(R:Nat→Nat→Prop){i j:Nat}(F:Nat→Prop)(h:j≠i):rset R i F j=R j:=if_neg h
theorem rset_self(R:Nat→Nat→Prop)(i:Nat):rset R i (R i)=R:=funext fun j=>by
 by_cases e:j=i
 ·subst e;exact rset_same _ _ _
 ·exact rset_ne _ _ e
theorem made_moves(e:R i=none0)(k:Below w.heap.size w w')(hF:From w.heap.size F)(hin:In w' F):Moves (R i) F w w':=by
 rw[e]
 exact⟨k.os,k.tape,k.output,k.size,fun j hj _=>k.block j hj,fun j hj=>⟨.inr (hF j hj),hin j hj⟩⟩
end
def Kp(R R':Nat→Nat→Prop)(w w':World)(i:Nat):Prop:=R' i=R i∧∀ b,R i b→w'.heap[b]?=w.heap[b]?
structure On(T:Nat→Prop)(R:Nat→Nat→Prop)(w:World)(R':Nat→Nat→Prop)(w':World):Prop where
 size:w.heap.size≤w'.heap.size
 kp:∀ i,¬T i→Kp R R' w w' i
 free:∀ a,a<w.heap.size→(∀ i,¬R i a)→w'.heap[a]?=w.heap[a]?∧∀ i,¬R' i a
section
variable {T T':Nat→Prop} {w0 w w' w'':World} {R R' R'':Nat→Nat→Prop} {F F' G':Nat→Prop} {i j:Nat}
theorem On.trans(h:On T R w R' w')(k:On T R' w' R'' w''):On T R w R'' w'':=
 ⟨Nat.le_trans h.size k.size,fun i hi=>⟨(k.kp i hi).1.trans (h.kp i hi).1,fun b hb=>((k.kp i hi).2 b (by rw[(h.kp i hi).1];exact hb)).trans ((h.kp i hi).2 b hb)⟩,
  fun a ha hn=>by
   obtain⟨q1,q2⟩:=h.free a ha hn;obtain⟨q3,q4⟩:=k.free a (Nat.lt_of_lt_of_le ha h.size) q2;exact⟨q3.trans q1,q4⟩⟩
theorem On.more(h:On T R w R' w')(k:∀ i,T i→T' i):On T' R w R' w':=⟨h.size,fun i hi=>h.kp i fun q=>hi (k i q),h.free⟩
theorem On.below(f:Fam w0 w R)(k:Below w.heap.size w w'):On T R w R w':=⟨k.size,fun i _=>⟨rfl,fun b hb=>k.block b (f.in_ i b hb)⟩,fun a ha hn=>⟨k.block a ha,hn⟩⟩
theorem On.refl:On T R w R w:=⟨Nat.le_refl _,fun i _=>⟨rfl,fun b hb=>rfl⟩,fun a ha hn=>⟨rfl,hn⟩⟩
theorem On.one(f:Fam w0 w R)(k:Moves (R i) F' w w')(hi:T i):On T R w (rset R i F') w':=
 ⟨k.size,fun j hj=>⟨rset_ne _ _ fun e=>hj (e▸hi),f.kept k fun e=>hj (e▸hi)⟩,fun a ha hn=>⟨k.block a ha (hn i),fun j q=>by
  by_cases e:j=i
  ·subst e
   rw[rset_same] at q;rcases (k.new a q).1 with r|r
   ·exact hn j r
   ·omega
  ·rw[rset_ne _ _ e] at q
   exact hn j q⟩⟩
theorem On.two(f:Fam w0 w R)(k:Moves (Or2 (R i) (R j)) (Or2 F' G') w w')(hi:T i)(hj:T j):On T R w (rset (rset R i F') j G') w':=
 ⟨k.size,fun l hl=>⟨by rw[rset_ne _ _ (show l≠j from fun e=>hl (e▸hj)),rset_ne _ _ (show l≠i from fun e=>hl (e▸hi))],f.kept2 k (fun e=>hl (e▸hi)) fun e=>hl (e▸hj)⟩,fun a ha hn=>⟨k.block a ha fun q=>q.elim (hn i) (hn j),fun l q=>by
  have val:rset (rset R i F') j G' l=if l=j then G' else if l=i then F' else R l:=rfl
  rw[val] at q
  have nn:¬Or2 F' G' a:=fun q=>by
   rcases (k.new a q).1 with r|r
   ·exact r.elim (hn i) (hn j)
   ·omega
  split at q
  ·exact nn (.inr q)
  ·split at q
   ·exact nn (.inl q)
   ·exact hn l q⟩⟩
end
end Fm
open Small Foot
namespace Bx
abbrev gp(g:Nat):Value:=.pointer (some ⟨g,0,none⟩)
def Fp(g:Nat)(v:Value):Nat→Prop:=fun i=>i=g∨v.ownBlock=some i
structure Is{α:Type}(K:Kind α)(T:TypeId)(w:World)(g:Nat)(room:Int)(cl:Bool)(v:Value)(L:List α):Prop where
 lies:Lies w g T [.int .i64 room,v,.bool cl]
 own:Sl.Own K (g+1) w v L
section
variable {α:Type} {K:Kind α} {T:TypeId} {w w':World} {g:Nat} {room:Int} {cl:Bool} {v:Value} {L:List α}
theorem Is.next(h:Is K T w g room cl v L)(k:Below w.heap.size w w'):Is K T w' g room cl v L:=⟨h.lies.next k,h.own.next k⟩
theorem Is.in(h:Is K T w g room cl v L):In w (Fp g v):=fun i hi=>by
 rcases hi with rfl|hi
 ·exact h.lies.lt
 ·exact (h.own.lt i hi).2
theorem Is.not(h:Is K T w g room cl v L):v.ownBlock≠some g:=fun e=>by have:=(h.own.lt g e).1;omega
theorem Is.val(h:Is K T w g room cl v L):∃ A c,v=.slice A L.length c:=by
 obtain⟨b,_,h⟩:=h.own.is
 exact h.len
theorem Is.put{w1:World}{v':Value}{L':List α}(h:Is K T w g room cl v L)(k:w.grownBy w1 v.ownBlock)(o:Sl.Own K (g+1) w1 v' L')(e:v'.ownBlock=v.ownBlock∨v'.ownBlock=some w.heap.size):
  Is K T (w1.setCell ⟨g,1,none⟩ v') g room cl v' L'∧Moves (Fp g v) (Fp g v') w (w1.setCell ⟨g,1,none⟩ v'):=by
 have l1:Lies w1 g T [.int .i64 room,v,.bool cl]:=(k.block g h.lies.lt (fun e=>h.not e.symm)).trans h.lies
 refine⟨⟨l1.put 1 v',o.move fun a ha=>Below.heap_setCell w1 _ _ _ fun e=>?_⟩,k.os,k.tape,k.output,Nat.le_trans k.size (by simp),fun i hi hf=>?_,fun i hi=>?_⟩
 ·have:=(o.lt a ha).1
  simp at e;omega
 ·rw[Below.heap_setCell w1 ⟨g,1,none⟩ v' i (fun e=>hf (.inl e))]
  exact k.block i hi fun e=>hf (.inr e.symm)
 ·have s:=k.size
  rcases hi with rfl|hi
  ·exact⟨.inl (.inl rfl),by have:=h.lies.lt;simp;omega⟩
  ·have:=(o.lt i hi).2
   refine⟨?_,by simpa using this⟩
   rcases e with e|e
   ·exact .inl (.inr (e▸hi))
   ·rw[e] at hi
    exact .inr (by have:=Option.some.inj hi;omega)
theorem Is.shut(h:Is K T w g room cl v L)(x:Bool):Is K T (w.setCell ⟨g,2,none⟩ (.bool x)) g room x v L∧Moves (Fp g v) (Fp g v) w (w.setCell ⟨g,2,none⟩ (.bool x)):=by
 refine⟨⟨h.lies.put 2 _,h.own.move fun a ha=>Below.heap_setCell w _ _ _ fun e=>?_⟩,rfl,rfl,rfl,by simp,fun i hi hf=>Below.heap_setCell w ⟨g,2,none⟩ _ i (fun e=>hf (.inl e)),fun i hi=>⟨.inl hi,by simpa using h.in i hi⟩⟩
 have:=(h.own.lt a ha).1
 simp at e
 omega
end
theorem below_drewN(w:World)(n:Nat):Below w.heap.size w (w.drewN n):=by
 induction n with
 |zero=>exact Below.refl _ _
 |succ n ih=>exact ih.drew
theorem wp_append_bx{α:Type}{K:Kind α}(O:K.Ok){w:World}{o:Oper}{a:Act}{Kc:Act→World→Prop}{Q:Exit→Act→World→Prop}{l l2:List α}{base b2:Nat}(s x:Operand)(hop:o.op=Op.call {callee:=Callee.builtin Builtin.append,args:=#[s,x],argTypes:=#[K.t,K.t]})
  (h:Sl.Own K base w (a.eval s) l) (hx:Sl.Is K w (a.eval x) l2 b2) (hn:l.length+l2.length≤1048576) (hb:base≤w.heap.size) {g:Nat} {T:TypeId} {u0 u1 u2:Value} (hl:Lies w g T [u0,u1,u2]) (hg:(a.eval s).ownBlock≠some g)
  (hK:∀ A c w',w'.cell? ⟨g,1,none⟩=some u1→w'.frozen? ⟨g,1,none⟩=false→Sl.Own K base w' (.slice A (l++l2).length c) (l++l2)→w.grownBy w' (a.eval s).ownBlock→((Value.slice A (l++l2).length c).ownBlock=(a.eval s).ownBlock∨(Value.slice A (l++l2).length c).ownBlock=some w.heap.size)→Kc (a.put o.dst (.slice A (l++l2).length c)) w'):o.wp Tryz.prog a w Kc Q:=by
 obtain⟨v',w',hr,q1,q2,q3⟩:=Sl.run_append O o.type h hx hn hb
 obtain⟨A,c,rfl⟩:∃ A c,v'=.slice A (l++l2).length c:=by obtain⟨b,_,h⟩:=q1.is;exact h.len
 have lw:Lies w' g T [u0,u1,u2]:=(q2.block g hl.lt fun e=>hg e.symm).trans hl
 unfold Oper.wp
 simp[execOp,hop,resolve,invoke,builtin,hr,Result.andThen]
 have:=hK A c w' (lw.cell rfl) (lw.open_ 1) q1 q2 q3
 rw[List.length_append] at this
 exact this
end Bx
end Go.Proofs.YtfjlnniahfbdfaaGreat
