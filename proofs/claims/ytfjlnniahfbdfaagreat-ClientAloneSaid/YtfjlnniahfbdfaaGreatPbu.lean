/- A part of the proof. -/
import Derived.Test.YtfjlnniahfbdfaaGreatPba
import Derived.Test.YtfjlnniahfbdfaaGreatPbt
import Derived.Test.YtfjlnniahfbdfaaGreatPbo
import Derived.Test.YtfjlnniahfbdfaaGreatPbi
import Derived.Lib.SliceRun
import Derived.LoopTactic
set_option linter.unusedVariables false
set_option maxHeartbeats 4000000
namespace Go.Proofs.YtfjlnniahfbdfaaGreat
open Lib (hid)
open Go.ChangeShapes Go.WideShapes Go.ChangeAt Go.RowKit
set_option maxRecDepth 100000
namespace Cn
open Small Foot Fm Ca Sh Grp
open Md (cfOf)
open Rm (RDid RAsked NoR)
structure MS where
 R:List Pn
 mt:Int
 L:List Pn
 cl:Bool
structure Tr(c8:C8)(cs:List Cl)(z:Nat→Option (Nat×Int×Int×Int))(T:Nat→MS)(W:Nat→Int×List Pn):Prop where
 start:T 0=⟨[],-9223372036854775808,[],false⟩
 told:∀ k y,cs[k]?=some y→Asg.Told c8.k c8.s c8.l c8.g c8.z y.t (z k)
 did:∀ k y,cs[k]?=some y→RDid c8 (T k).R (T k).mt (T k).L (T k).cl y (z k) (W k).1 (W k).2 (T (k+1)).R (T (k+1)).mt (T (k+1)).L (T (k+1)).cl
 len:∀ k y,cs[k]?=some y→(W k).2.length≤9000
section
variable {c8:C8} {R R' L L' P:List Pn} {mk mk' code:Int} {cl cl':Bool} {y:Cl} {z:Option (Nat×Int×Int×Int)}
theorem did_bad(d:RDid c8 R mk L cl y z code P R' mk' L' cl')(h:¬mayC (cfOf c8) y):code=6∧P=[]∧R'=R∧mk'=mk∧cl'=cl:=by
 cases d with
 |bad=>exact⟨rfl,rfl,rfl,rfl,rfl⟩
 |closed m|stale m|ask m|up m|still m|shut m=>exact absurd m h
theorem did_shut(d:RDid c8 R mk L cl y z code P R' mk' L' cl')(h:mayC (cfOf c8) y)(hc:cl=true):code=3∧P=[]∧R'=R∧mk'=mk∧cl'=cl:=by
 cases d with
 |bad m=>exact absurd h m
 |closed=>exact⟨rfl,rfl,rfl,rfl,rfl⟩
 |stale _ c|ask _ c|up _ c|still _ c|shut _ c=>rw[hc] at c;cases c
theorem kd_op{op:Int}(h:kd op=true):op≠3∧op≠6∧op≠7:=by
 simp only[kd,decide_eq_true_eq] at h
 omega
theorem did_key(d:RDid c8 R mk L cl y z code P R' mk' L' cl')(h:mayC (cfOf c8) y)(hc:cl=false)(hk:kd y.op=true):∃ O,RAsked c8 R mk y z code P O R'∧mk'=mk∧cl'=cl:=by
 have:=kd_op hk
 cases d with
 |bad m=>exact absurd h m
 |closed _ c=>rw[hc] at c;cases c
 |ask _ _ _ a=>exact⟨_,a,rfl,rfl⟩
 |stale _ _ o|up _ _ o=>exact absurd o this.1
 |still _ _ o=>exact absurd o this.2.1
 |shut _ _ o=>exact absurd o this.2.2
theorem did_stale(d:RDid c8 R mk L cl y z code P R' mk' L' cl')(h:mayC (cfOf c8) y)(hc:cl=false)(ho:y.op=3)(ht:y.t≤mk):code=5∧P=[]∧R'=R∧mk'=mk∧cl'=cl:=by
 cases d with
 |bad m=>exact absurd h m
 |closed _ c=>rw[hc] at c;cases c
 |stale=>exact⟨rfl,rfl,rfl,rfl,rfl⟩
 |ask _ _ k=>exact absurd ho (kd_op k).1
 |up _ _ _ t=>omega
 |still _ _ o|shut _ _ o=>omega
theorem did_up(d:RDid c8 R mk L cl y z code P R' mk' L' cl')(h:mayC (cfOf c8) y)(hc:cl=false)(ho:y.op=3)(ht:mk<y.t):code=0∧P=[]∧mk'=y.t∧cl'=cl∧∃ O,Rg.ROuts c8.z y.t R O R'∧NoR c8.z y.t R':=by
 cases d with
 |bad m=>exact absurd h m
 |closed _ c=>rw[hc] at c;cases c
 |stale _ _ _ t=>omega
 |ask _ _ k=>exact absurd ho (kd_op k).1
 |up _ _ _ _ o no=>exact⟨rfl,rfl,rfl,rfl,_,o,no⟩
 |still _ _ o|shut _ _ o=>omega
theorem did_still(d:RDid c8 R mk L cl y z code P R' mk' L' cl')(h:mayC (cfOf c8) y)(hc:cl=false)(ho:y.op=6):code=0∧P=[]∧R'=R∧mk'=mk∧cl'=cl:=by
 cases d with
 |bad m=>exact absurd h m
 |closed _ c=>rw[hc] at c;cases c
 |ask _ _ k=>exact absurd ho (kd_op k).2.1
 |still=>exact⟨rfl,rfl,rfl,rfl,rfl⟩
 |stale _ _ o|up _ _ o|shut _ _ o=>omega
theorem did_close(d:RDid c8 R mk L cl y z code P R' mk' L' cl')(h:mayC (cfOf c8) y)(hc:cl=false)(ho:y.op=7):code=0∧P=[]∧R'=R∧mk'=mk∧cl'=true:=by
 cases d with
 |bad m=>exact absurd h m
 |closed _ c=>rw[hc] at c;cases c
 |ask _ _ k=>exact absurd ho (kd_op k).2.2
 |shut=>exact⟨rfl,rfl,rfl,rfl,rfl⟩
 |stale _ _ o|up _ _ o|still _ _ o=>omega
end
def Gk(r:Int)(key:ByteArray):Int:=Fnv.grp (Fnv.num key.data.toList) r
theorem grp_key{r:Int}{y:Cl}(h:kd y.op=true):grpOf r y=Gk r y.key:=by unfold grpOf Gk;rw[if_pos h]
structure Co(c8:C8)(q:Int→Option Nat)(t:MS)(kk:Nat)(mvg:Option Nat)(s:St)(p:Nat→Int→Option Nat)(S:Int→Lists)(N:Nat):Prop where
 wm:s.wm=t.mt
 sd:s.sd=t.cl
 sb:∀ j,s.sb j=t.cl
 tab:∀ x:Nat,(x:Int)<c8.r→∃ o,s.M[x]?=some o∧0≤o.s∧o.s<c8.h∧0≤o.v∧o.v≤kk∧(mvg≠some x→o.m=false∧p o.s.toNat x=q x)
 has:∀ x,q x≠none↔(0≤x∧x<c8.r)
 lag:∀ x:Int,0≤x→x<c8.r→Cm.Lag (Gk c8.r) x c8.z t.mt (S x) t.R
 nor:NoR c8.z t.mt t.R
 few:N≤16*kk
 wf:(Lit.int .i64 t.mt).wf=true
theorem Co.same{c8:C8}{q:Int→Option Nat}{t:MS}{kk:Nat}{mvg:Option Nat}{s s':St}{p:Nat→Int→Option Nat}{S:Int→Lists}{N:Nat}(h:Co c8 q t kk mvg s p S N)(e1:s'.wm=s.wm)(e2:s'.sd=s.sd)(e3:s'.sb=s.sb)(e4:s'.M=s.M):Co c8 q t kk mvg s' p S N:=
 ⟨e1.trans h.wm,e2.trans h.sd,fun j=>by rw[e3];exact h.sb j,by rw[e4];exact h.tab,h.has,h.lag,h.nor,h.few,h.wf⟩
theorem Co.next{c8:C8}{q:Int→Option Nat}{t t':MS}{kk:Nat}{mvg:Option Nat}{s:St}{p:Nat→Int→Option Nat}{S:Int→Lists}{N:Nat}(h:Co c8 q t kk mvg s p S N)(e1:t'.R=t.R)(e2:t'.mt=t.mt)(e3:t'.cl=t.cl):Co c8 q t' (kk+1) mvg s p S N:=
 ⟨by rw[e2];exact h.wm,by rw[e3];exact h.sd,fun j=>by rw[e3];exact h.sb j,fun x hx=>by
  obtain⟨o,a1,a2,a3,a4,a5,a6⟩:=h.tab x hx;exact⟨o,a1,a2,a3,a4,by omega,a6⟩,h.has,by rw[e1,e2];exact h.lag,by rw[e1,e2];exact h.nor,by have:=h.few;omega,by rw[e2];exact h.wf⟩
structure Rs(W:Nat→Int×List Pn)(k:Nat)(s:St):Prop where
 len:s.rs.length=k
 reps:∀ i r,s.rs[i]?=some r→r.code=(W i).1∧r.P=(W i).2
theorem Rs.more{W:Nat→Int×List Pn}{k:Nat}{s s':St}{r:Rp}(h:Rs W k s)(e:s'.rs=s.rs++[r])(h1:r.code=(W k).1)(h2:r.P=(W k).2):Rs W (k+1) s':=by
 refine⟨by rw[e];simp[h.len],fun i x hx=>?_⟩
 rw[e] at hx
 by_cases hi:i<k
 ·rw[List.getElem?_append_left (by rw[h.len];exact hi)] at hx
  exact h.reps i x hx
 ·have:=(List.getElem?_eq_some_iff.1 hx).1
  simp only[List.length_append,List.length_singleton,h.len] at this;obtain rfl:i=k:=by omega
  rw[List.getElem?_append_right (by rw[h.len];exact Nat.le_refl _),h.len] at hx
  simp at hx;subst hx;exact⟨h1,h2⟩
theorem Rs.same{W:Nat→Int×List Pn}{k:Nat}{s s':St}(h:Rs W k s)(e:s'.rs=s.rs):Rs W k s':=⟨by rw[e];exact h.len,by rw[e];exact h.reps⟩
abbrev gH(E:Ev):Pg:={g0 with b:=true,held:=some E.gc}
section
variable (c8:C8) (E:Ev) (q:Int→Option Nat) (T:Nat→MS) (W:Nat→Int×List Pn)
inductive Top:Nat→Nat→Bool→Bool→St→(Nat→Int→Option Nat)→(Int→Lists)→Nat→Prop
 |idle {k:Nat} {s:St} {p:Nat→Int→Option Nat} {S:Int→Lists} {N:Nat} (g:s.g=g0) (hd:s.hd=false) (co:Co c8 q (T k) k none s p S N):Top k 0 false false s p S N
 |ans {k:Nat} {s:St} {p:Nat→Int→Option Nat} {S:Int→Lists} {N:Nat} {y:Cl} {z:Rp} (hy:E.cs[k]?=some y) (hk:kd y.op=true) (g:s.g={g0 with b:=true,ask:=2,r:=z}) (z1:z.code=(W k).1) (z2:z.P=(W k).2) (hd:s.hd=false) (co:Co c8 q (T (k+1)) (k+1) none s p S N):Top k 1 true true s p S N
 |adv {k:Nat} {s:St} {p:Nat→Int→Option Nat} {S:Int→Lists} {N:Nat} {y:Cl} {j:Nat} (hy:E.cs[k]?=some y) (ho:y.op=3) (g:s.g={gH E with put:=j}) (hj:(j:Int)≤c8.h) (hd:s.hd=true∧s.hk=E.num) (co:Co c8 q (T (k+1)) (k+1) none s p S N) (w:W k=(0,[])) (cl:(T (k+1)).cl=false):Top k (1+j) true true s p S N
 |mv0 {k:Nat} {s:St} {p:Nat→Int→Option Nat} {S:Int→Lists} {N:Nat} {y:Cl} {gi hh:Nat} {o:Ow.O} (hy:E.cs[k]?=some y) (ho:y.op=6) (g:s.g={gH E with hand:=some hh}) (hd:s.hd=true∧s.hk=E.num) (f:s.hg=gi∧0≤s.ht∧s.ht<c8.h∧s.hkd=3∧s.hs=false∧s.hst=none) (x:s.M[gi]?=some o∧o.m=true∧(gi:Int)<c8.r∧o.v≤k) (po:p o.s.toNat gi=q gi) (co:Co c8 q (T (k+1)) (k+1) (some gi) s p S N) (w:W k=(0,[])) (cl:(T (k+1)).cl=false):Top k 1 true true s p S N
 |mv1 {k:Nat} {s:St} {p:Nat→Int→Option Nat} {S:Int→Lists} {N:Nat} {y:Cl} {gi hh:Nat} {o:Ow.O} (hy:E.cs[k]?=some y) (ho:y.op=6) (g:s.g={gH E with hand:=some hh}) (hd:s.hd=true∧s.hk=E.num) (f:s.hg=gi∧0≤s.ht∧s.ht<c8.h∧s.hkd=4∧s.hs=false∧s.hst=q gi) (x:s.M[gi]?=some o∧o.m=true∧(gi:Int)<c8.r∧o.v≤k) (pn:∀ j,p j gi=none) (co:Co c8 q (T (k+1)) (k+1) (some gi) s p S N) (w:W k=(0,[])) (cl:(T (k+1)).cl=false):Top k 2 true true s p S N
 |mv2 {k:Nat} {s:St} {p:Nat→Int→Option Nat} {S:Int→Lists} {N:Nat} {y:Cl} {hh:Nat} (hy:E.cs[k]?=some y) (ho:y.op=6) (g:s.g={gH E with hand:=some hh}) (hd:s.hd=true∧s.hk=E.num) (f:s.hkd=0) (co:Co c8 q (T (k+1)) (k+1) none s p S N) (w:W k=(0,[])):Top k 3 true true s p S N
 |shut {k:Nat} {s:St} {p:Nat→Int→Option Nat} {S:Int→Lists} {N:Nat} {y:Cl} (hy:E.cs[k]?=some y) (ho:y.op=7) (g:s.g=gH E) (hd:s.hd=true∧s.hk=E.num) (co:Co c8 q (T (k+1)) (k+1) none s p S N) (w:W k=(0,[])):Top k 1 true true s p S N
inductive Mid:Nat→Nat→Bool→Nat→St→(Nat→Int→Option Nat)→(Int→Lists)→Nat→Prop
 |ask {k:Nat} {s:St} {p:Nat→Int→Option Nat} {S:Int→Lists} {N:Nat} {y:Cl} {j:Nat} (hy:E.cs[k]?=some y) (hk:kd y.op=true) (hm:mayC (cfOf c8) y) (g:s.g={g0 with b:=true,ask:=1}) (hd:s.hd=false) (l:s.L j=[⟨1,E.num,y,0,none⟩]) (po:p j (grpOf c8.r y)=q (grpOf c8.r y)) (co:Co c8 q (T k) k none s p S N) (cl:(T k).cl=false):Mid k 1 false j s p S N
 |mark {k:Nat} {s:St} {p:Nat→Int→Option Nat} {S:Int→Lists} {N:Nat} {y:Cl} {j:Nat} (hy:E.cs[k]?=some y) (ho:y.op=3) (g:s.g={gH E with put:=(j:Int)+1,due:=1}) (hj:(j:Int)<c8.h) (hd:s.hd=true∧s.hk=E.num) (l:s.L j=[⟨2,0,c0z,0,none⟩]) (co:Co c8 q (T (k+1)) (k+1) none s p S N) (w:W k=(0,[])) (cl:(T (k+1)).cl=false):Mid k (2+j) true j s p S N
 |give {k:Nat} {s:St} {p:Nat→Int→Option Nat} {S:Int→Lists} {N:Nat} {y:Cl} {gi hh j:Nat} {o:Ow.O} (hy:E.cs[k]?=some y) (ho:y.op=6) (g:s.g={gH E with hand:=some hh}) (hd:s.hd=true∧s.hk=E.num) (f:s.hg=gi∧0≤s.ht∧s.ht<c8.h∧s.hkd=3∧s.hs=true∧s.hst=none) (x:s.M[gi]?=some o∧o.m=true∧(gi:Int)<c8.r∧o.v≤k) (l:s.L j=[⟨3,0,c0z,gi,none⟩]) (po:p j gi=q gi) (co:Co c8 q (T (k+1)) (k+1) (some gi) s p S N) (w:W k=(0,[])) (cl:(T (k+1)).cl=false):Mid k 2 true j s p S N
 |had {k:Nat} {s:St} {p:Nat→Int→Option Nat} {S:Int→Lists} {N:Nat} {y:Cl} {gi hh j a:Nat} {o:Ow.O} (hy:E.cs[k]?=some y) (ho:y.op=6) (g:s.g={gH E with hand:=some hh}) (hd:s.hd=true∧s.hk=E.num) (f:s.hg=gi∧s.ht=j∧s.ht<c8.h∧s.hkd=4∧s.hs=true∧s.hst=none) (x:s.M[gi]?=some o∧o.m=true∧(gi:Int)<c8.r∧o.v≤k) (l:s.L j=[⟨4,0,c0z,gi,some a⟩]) (qa:q gi=some a) (pn:∀ j,p j gi=none) (co:Co c8 q (T (k+1)) (k+1) (some gi) s p S N) (w:W k=(0,[])) (cl:(T (k+1)).cl=false):Mid k 3 true j s p S N
end
end Cn
namespace Cn
open Small Foot Fm Ca
theorem clone_calls(v:Value)(L:List Cl)(b:Nat)(w:World)(H:Hid (Sl.Is Ck w v L b))(hn:L.length≤9000):
  Calls Tryz.prog 44 #[v] w fun r w'=>∃ v',r=.returned v'∧Sl.Own Ck w.heap.size w' v' L∧Below w.heap.size w w':=by
 rcases H.out with ⟨rfl,rfl⟩|⟨off,cap,rfl,h2,h3,h4,h5⟩
 ·clear H
  go_enter Tryz.func44,Tryz.ntmps44;have e0:∀ w,(binOp .eql 24 (.slice none 0 0) (.slice none 0 0)).run Tryz.prog w=.ok (.bool true) w:=fun w=>Lib.run_eql_slice_nil w _ _ _ _ _ _ _ Tryz.underlying24
  go_wp2;go_ret;exact⟨_,rfl,Sl.Own.nil _ _ _,Below.refl _ _⟩
 ·clear h2 h3 h4 h5
  go_enter Tryz.func44,Tryz.ntmps44;have e0:∀ w,(binOp .eql 24 (.slice (some ⟨b,off,none⟩) L.length cap) (.slice none 0 0)).run Tryz.prog w=.ok (.bool false) w:=fun w=>Lib.run_eql_slice_nil w _ _ _ _ _ _ _ Tryz.underlying24
  go_wp2_with (at_builtin;refine wpList_plain rfl fun K' hK'=>Sl.wp_append_empty (K:=Ck) cok (.tmp 5) (.tmp 6) rfl (b:=w.heap.size) (base:=w.heap.size) (l2:=L) (b2:=b) rfl (heap_alloc_new _ _) (Nat.le_refl _) (by exact H.out.next (below1 _ _)) (by omega) (by simp) (fun u w8 x1 x2=>hK' _ _ ?_))
  have B:=hid (after (below1 _ _) x2);have X1:=hid x1;clear x1 x2;go_wp2;go_ret;exact⟨_,rfl,X1.out,B.out⟩
theorem cnew_ok(num:Int)(v:Value)(L:List Cl)(b:Nat)(w:World)(H:Hid (Sl.Is Ck w v L b))(hn:L.length≤9000):
  Calls Tryz.prog 10 #[.int .i64 num,v] w fun r w'=>∃ x cv,r=.returned (gp x)∧Q w' x num cv L (.slice none 0 0) [] g0∧From w.heap.size (CF x cv (.slice none 0 0))∧Below w.heap.size w w':=by
 go_enter Tryz.func10,Tryz.ntmps10
 go_wp2_with fail
 refine (clone_calls v L b w H hn).mono ?_
 rintro r w1 ⟨v',rfl,o1,k1⟩
 obtain⟨_,_,i1⟩:=o1.is
 obtain⟨A1,c1,rfl⟩:=i1.len
 have O1:=hid o1
 clear i1
 have K1:=hid k1
 clear o1 k1
 dsimp only
 go_wp2
 go_ret
 have k2:=below1 w1 (Obj.cells (ccl num (.slice A1 L.length c1) (.slice none 0 0) g0).toArray 108)
 refine⟨w1.heap.size,.slice A1 L.length c1,rfl,⟨Lies.new w1 _ (ccl num (.slice A1 L.length c1) (.slice none 0 0) g0),own_base (O1.out.next k2) (Nat.zero_le _),Sl.Own.nil _ _ _,fun e=>?_,(fun e=>by cases e),fun a ha e=>by cases e⟩,fun i hi=>?_,after K1.out k2⟩
 ·have:=(O1.out.lt _ e).2;omega
 ·rcases hi with rfl|hi|hi
  ·exact K1.out.size
  ·exact (O1.out.lt i hi).1
  ·cases hi
section
variable {w0 w w':World} {E:Ev} {s s':St} {R R':Nat→Nat→Prop}
structure Reps(w:World)(rs:List Rp)(v:Value)(zs:List Rp)(w':World):Prop where
 own:Sl.Own Rk w.heap.size w' v zs
 len:zs.length=rs.length
 each:∀ (i:Nat) z y,zs[i]?=some z→rs[i]?=some y→z.code=y.code∧z.P=y.P∧Sl.Own Pn.k w.heap.size w' z.pv z.P
 below:Below w.heap.size w w'
structure RepK(w:World)(rs:List Rp)(v:Value)(zs:List Rp)(k:Nat)(w':World):Prop where
 own:Sl.Own Rk w.heap.size w' v zs
 len:zs.length=k
 each:∀ (i:Nat) z y,zs[i]?=some z→rs[i]?=some y→z.code=y.code∧z.P=y.P∧Sl.Own Pn.k w.heap.size w' z.pv z.P
 ap:∀ z∈zs,∀ a,z.pv.ownBlock=some a→a<w'.heap.size∧v.ownBlock≠some a
 below:Below w.heap.size w w'
theorem replies_ok(H:Hid (CM w0 E s R w))(hn:s.rs.length≤1000)(hP:Hid (∀ r∈s.rs,r.P.length≤9000)):
  Calls Tryz.prog 15 #[gp E.x] w fun r w'=>∃ A c zs,r=.returned (.slice A s.rs.length c)∧Reps w s.rs (.slice A s.rs.length c) zs w':=by
 obtain⟨cv,rv,q0,-⟩:=H.out.client
 obtain⟨cA,cC,rA,rC,rfl,rfl⟩:=q0.lits
 have c2:=q0.lies.cell (i:=2) rfl
 have Q0:=hid q0
 obtain⟨n,hnn⟩:∃ n,s.rs.length=n:=⟨_,rfl⟩
 rw[hnn] at c2 ⊢
 have HN:=hid hnn
 have hn2:n≤1000:=by omega
 clear q0 hnn hn
 go_enter Tryz.func15,Tryz.ntmps15
 go_wp2_with fail
 clear c2
 go_loopw [3,11] (fun sl si wr=>∃ (k:Nat) (zs:List Rp) (A:Option Addr) (c:Nat),k≤n∧si=.int .i64 k∧sl=.slice A k c∧Hid (RepK w s.rs sl zs k wr)) (fun _ si _=>n-(intOf si).toNat)
 case atStart=>exact⟨0,[],none,0,by omega,rfl,rfl,hid ⟨Sl.Own.nil _ _ _,rfl,fun i z y h=>by simp at h,fun z h=>by simp at h,Below.refl _ _⟩⟩
 case round=>
  obtain⟨k,zs,A,c,hk,rfl,rfl,RK⟩:=hrel;by_cases hlt:k<n
  ·have i1:(k:Int)<(n:Int):=by omega
   have i0:(0:Int)≤(k:Int):=by omega
   obtain⟨y,hy⟩:∃ y,s.rs[k]?=some y:=⟨_,List.getElem?_eq_getElem (by rw[HN.out];exact hlt)⟩
   have H1:=hid (H.out.next RK.out.below);have Q1:=hid (Q0.out.next RK.out.below);obtain⟨bl,-,il⟩:=Q1.out.reps.is;obtain⟨off,cap,e,-,-,-,hc⟩:=il.some_ rok (by have:=HN.out;omega)
   simp only[Value.slice.injEq] at e;obtain⟨rfl,-,rfl⟩:=e;have y0:wr.cell? ⟨bl,off+k*2,none⟩=some (.int .i64 y.code):=hc k y hy 0 _ rfl;have y1:wr.cell? ⟨bl,off+k*2+1,none⟩=some (.slice y.a y.n y.c):=hc k y hy 1 _ rfl;have HY:=hid hy;clear hc il hy;go_upto_region 5 with fail
   have kx:=below1 wr (Obj.cells #[.int .i64 y.code,.slice y.a y.n y.c] 43);have BX:=hid (Lies.new wr 43 y.cl);have ym:y∈s.rs:=List.mem_of_getElem? HY.out;have YR:Hid (Out.Rd (wr.alloc (Obj.cells #[.int .i64 y.code,.slice y.a y.n y.c] 43)) y.pv y.P):=hid (.inl ((H1.out.next kx).reps y ym).is);have hy9:=hP.out y ym;have KX:=hid kx;clear ym kx y0 y1;generalize wr.heap.size=gx at BX ⊢;generalize hw1:wr.alloc (Obj.cells #[.int .i64 y.code,.slice y.a y.n y.c] 43)=w1 at BX YR KX ⊢;clear hw1
   go_wp2_with (first
    |(refine wpList_plain rfl fun K' hK'=>ld_rep (y:=y) _ rfl rfl BX.out (hK' _ _ ?_))
    |fail)
   refine (apart_ok y w1 YR hy9).mono ?_
   rintro r w2 ⟨z,rfl,e1,e2,o2,k2⟩;have sz:wr.heap.size≤w1.heap.size:=KX.out.size;have EE:=hid (And.intro e1 (And.intro e2 o2));have L2:=hid (RK.out.own.next (after KX.out k2));have K2:=hid (after KX.out k2);have X2:Hid (Lies (w2.alloc (Obj.cells z.cl.toArray 43)) w2.heap.size 43 z.cl):=hid (Lies.new _ _ _);have L3:=hid (L2.out.next (below1 w2 (Obj.cells z.cl.toArray 43)));have e3:Hid (zs.length+[z].length≤1048576):=hid (by rw[RK.out.len];simp;omega)
   have e4:Hid (w.heap.size≤(w2.alloc (Obj.cells z.cl.toArray 43)).heap.size):=hid (Nat.le_trans RK.out.below.size (after K2.out (below1 _ _)).size);have SZ:=hid sz;clear e1 e2 o2 k2 sz;dsimp only;go_wp2_with (at_builtin;refine wpList_plain rfl fun K' hK'=>Sl.wp_append rok (.tmp 15) (.tmp 18) rfl (base:=w.heap.size) (l:=zs) (l2:=[z]) (b2:=w2.heap.size) (by exact L3.out) (by exact Sl.Is.one rok (x:=z) X2.out) e3.out (by exact e4.out) (fun u w7 z1 z2 z3=>hK' _ _ ?_))
   obtain⟨b7,-,i7⟩:=z1.is;obtain⟨A7,c7,rfl⟩:=i7.len;rw[List.length_append,RK.out.len,List.length_singleton] at z1 z3 ⊢;have kk:=after K2.out (below1 w2 (Obj.cells z.cl.toArray 43))
   have NK:Hid (RepK w s.rs (.slice A7 (k+1) c7) (zs++[z]) (k+1) w7):=hid (by
    have own:=RK.out.own;have lo:∀ a,(Value.slice A k c).ownBlock=some a→a<wr.heap.size:=fun a ha=>(own.lt a ha).2
    have st:∀ a,a<(w2.alloc (Obj.cells z.cl.toArray 43)).heap.size→(Value.slice A k c).ownBlock≠some a→w7.heap[a]?=(w2.alloc (Obj.cells z.cl.toArray 43)).heap[a]?:=fun a ha hn=>z2.block a ha fun e=>hn e.symm
    have zl:∀ a,z.pv.ownBlock=some a→w1.heap.size≤a∧a<w2.heap.size:=fun a ha=>EE.out.2.2.lt a ha
    refine⟨z1,by rw[List.length_append,RK.out.len];rfl,fun i z' y' h1 h2=>?_,fun z' hz a ha=>?_,?_⟩
    ·by_cases hi:i<zs.length
     ·rw[List.getElem?_append_left hi] at h1
      obtain⟨q1,q2,q3⟩:=RK.out.each i z' y' h1 h2;have ap:=RK.out.ap z' (List.mem_of_getElem? h1);exact⟨q1,q2,(q3.next kk).move fun a ha=>st a (Nat.lt_of_lt_of_le (ap a ha).1 kk.size) (ap a ha).2⟩
     ·have hl:=(List.getElem?_eq_some_iff.1 h1).1
      simp only[List.length_append,List.length_singleton] at hl;obtain rfl:i=zs.length:=by omega
      rw[List.getElem?_append_right (Nat.le_refl _)] at h1
      simp at h1;subst h1;rw[RK.out.len,HY.out] at h2;obtain rfl:=Option.some.inj h2;refine⟨EE.out.1,EE.out.2.1,own_base ((EE.out.2.2.next (below1 _ _)).move fun a ha=>st a (by have:=zl a ha;simp;omega) fun e=>by have:=lo a e;have:=zl a ha;have:=SZ.out;omega) (Nat.le_trans RK.out.below.size SZ.out)⟩
    ·have s7:=z2.size
     simp only[World.size_alloc] at s7;rcases List.mem_append.1 hz with h|h
     ·have ap:=RK.out.ap z' h a ha
      refine⟨Nat.lt_of_lt_of_le (Nat.lt_of_lt_of_le ap.1 kk.size) z2.size,fun e=>?_⟩
      rcases z3 with q|q
      ·exact ap.2 (q▸e)
      ·rw[q] at e;have h1:=Option.some.inj e;simp only[World.size_alloc] at h1;have:=ap.1;have:=K2.out.size;omega
     ·rw[List.mem_singleton] at h
      subst h;have:=zl a ha;refine⟨by omega,fun e=>?_⟩
      rcases z3 with q|q
      ·have:=lo a (q▸e);have:=SZ.out;omega
      ·rw[q] at e;have h1:=Option.some.inj e;simp only[World.size_alloc] at h1;omega
    ·exact (after RK.out.below kk).grown z2 (Nat.le_trans RK.out.below.size kk.size) fun j hj=>(own.lt j hj).1)
   clear z1 z2 z3 i7 kk;go_wp2_with fail
   exact⟨⟨k+1,zs++[z],A7,c7,by omega,by go_num,rfl,NK⟩,by simp[intOf];omega⟩
  ·obtain rfl:n=k:=by omega
   go_wp2;go_ret;exact⟨A,c,zs,rfl,RK.out.own,by rw[RK.out.len,HN.out],RK.out.each,RK.out.below⟩
end
end Cn
end Go.Proofs.YtfjlnniahfbdfaaGreat
