/- A part of the proof. -/
import Derived.Test.YtfjlnniahfbdfaaGreatPaq
import Derived.Test.YtfjlnniahfbdfaaGreatPae
import Derived.Laws.AppendOwnNone
import Derived.Deep.AppendLies
set_option linter.unusedVariables false
set_option maxHeartbeats 4000000
namespace Go.Proofs.YtfjlnniahfbdfaaGreat
open Lib (hid)
open Go.ChangeShapes Go.WideShapes Go.ChangeAt Go.RowKit
namespace RefAsg
open Base Asg
set_option maxRecDepth 100000
theorem fresh{w w2:World}{x y:Value}{T:TypeId}(k:Below (w.alloc (Obj.cells #[x,y] T)).heap.size (w.alloc (Obj.cells #[x,y] T)) w2):
  w2.cell? ⟨w.heap.size,0,none⟩=some x∧w2.cell? ⟨w.heap.size,1,none⟩=some y∧w2.frozen? ⟨w.heap.size,0,none⟩=false∧w2.frozen? ⟨w.heap.size,1,none⟩=false∧Below w.heap.size w w2:=by
 refine⟨cell_keep k (by go_simp),cell_keep k (by go_simp),?_,?_,after (below1 _ _) k⟩
 ·rw[k.frozen (by simp)];go_simp
 ·rw[k.frozen (by simp)];go_simp
theorem one_yes(a l z:Int)(w:World)(a0:-9223372036854775808≤a)(a1:a≤9223372036854775807)(l0:1≤l)(l1:l≤9223372036854775807)(z0:0≤z)(z1:z≤9223372036854775807)(h:a+l+z≤9223372036854775807):
  Calls Tryz.prog 145 #[.int .i64 a,.int .i64 l,.int .i64 z] w fun e w'=>e=.returned (.tuple #[win a (a+l),.bool true])∧Below w.heap.size w w':=by
 go_enter Tryz.func145,Tryz.ntmps145
 go_wp2_with fail
 refine (Ref01.add_yes a l _ a0 a1 (by omega) l1 (by omega) (by omega)).mono ?_
 rintro e w1 ⟨rfl,k1⟩
 go_wp2_with fail
 refine (Ref01.add_yes (a+l) z _ (by omega) (by omega) (by omega) z1 (by omega) (by omega)).mono ?_
 rintro e w2 ⟨rfl,k2⟩
 obtain⟨c0,c1,f0,f1,kb⟩:=fresh (after k1 k2)
 go_wp2
 exact bodyPost_ret (v:=.tuple #[win a (a+l),.bool true]) (by simp[results,Tryz.results145,go_sem,c0,c1]) rfl ⟨rfl,(kb.setCell (Nat.le_refl _) _).setCell (Nat.le_refl _) _⟩
def No(w:World)(e:Ending)(w':World):Prop:=∃ x y:Int,e=.returned (.tuple #[win x y,.bool false])∧Below w.heap.size w w'
theorem one_no(a l z:Int)(w:World)(a0:-9223372036854775808≤a)(a1:a≤9223372036854775807)(l0:1≤l)(l1:l≤9223372036854775807)(z0:0≤z)(z1:z≤9223372036854775807)(h:9223372036854775807<a+l+z):
  Calls Tryz.prog 145 #[.int .i64 a,.int .i64 l,.int .i64 z] w (No w):=by
 by_cases h1:a+l≤9223372036854775807
 ·go_enter Tryz.func145,Tryz.ntmps145
  go_wp2_with fail
  refine (Ref01.add_yes a l _ a0 a1 (by omega) l1 (by omega) h1).mono ?_
  rintro e w1 ⟨rfl,k1⟩;go_wp2_with fail
  refine (Ref01.add_no (a+l) z _ (by omega) (by omega) (by omega) z1 (.inr h)).mono ?_
  rintro e w2 ⟨rfl,k2⟩;obtain⟨c0,c1,f0,f1,kb⟩:=fresh (after k1 k2);go_wp2;exact bodyPost_ret (v:=.tuple #[win a (a+l),.bool false]) (by simp[results,Tryz.results145,go_sem,c0,c1]) rfl ⟨_,_,rfl,(kb.setCell (Nat.le_refl _) _).setCell (Nat.le_refl _) _⟩
 ·have h2:9223372036854775807<a+l:=by omega
  have H2:=hid h2;clear h1 h2 h;go_enter Tryz.func145,Tryz.ntmps145;go_wp2_with fail
  refine (Ref01.add_no a l _ a0 a1 (by omega) l1 (.inr H2.out)).mono ?_
  rintro e w1 ⟨rfl,k1⟩;obtain⟨c0,c1,f0,f1,kb⟩:=fresh k1;go_wp2;exact bodyPost_ret (v:=.tuple #[win 0 0,.bool false]) (by simp[results,Tryz.results145,go_sem,c0,c1]) rfl ⟨_,_,rfl,(kb.setCell (Nat.le_refl _) _).setCell (Nat.le_refl _) _⟩
def refR:Option (Nat×Int×Int×Int)→Value→Value→World→Prop
 |some (n,a,d,l)=>madeR (.bool true) n a d l
 |none=>failsR (.bool false)
theorem wins_one(w:World){g:Nat}(x l:Int)(d:Int)(h0:w.cell? ⟨g,0,none⟩=some (.int .i64 x))(h1:w.cell? ⟨g,1,none⟩=some (.int .i64 (x+l))):Wins w g 1 x d l:=by
 intro i hi
 obtain rfl:i=0:=by omega
 simpa using ⟨h0,h1⟩
theorem of_session(s l g z h r c t:Int)(w:World)(t0:-9223372036854775808≤t)(t1:t≤9223372036854775807)(g0:1≤g)(g1:g≤9223372036854775807)(z0:0≤z)(z1:z≤9223372036854775807)(hh:t+g+z≤9223372036854775807):
  Calls Tryz.prog 116 #[cfg 2 s l g z h r c,.int .i64 t] w (Gives (refR (some (1,t,0,g))) w):=by
 go_enter Tryz.func116,Tryz.ntmps116
 go_wp2_with fail
 refine (one_yes t g z _ t0 t1 g0 g1 z0 z1 hh).mono ?_
 rintro e w1 ⟨rfl,k1⟩
 go_wp2
 go_ret2
 have kb:=after (below1 _ _) k1
 exact⟨_,_,rfl,⟨w1.heap.size+1,1,rfl,rfl,wins_one _ _ _ _ (by go_simp) (by go_simp)⟩,after kb (below2 _ _ _)⟩
theorem of_session_no(s l g z h r c t:Int)(w:World)(t0:-9223372036854775808≤t)(t1:t≤9223372036854775807)(g0:1≤g)(g1:g≤9223372036854775807)(z0:0≤z)(z1:z≤9223372036854775807)(hh:9223372036854775807<t+g+z):
  Calls Tryz.prog 116 #[cfg 2 s l g z h r c,.int .i64 t] w (Gives (refR none) w):=by
 go_enter Tryz.func116,Tryz.ntmps116
 go_wp2_with fail
 refine (one_no t g z _ t0 t1 g0 g1 z0 z1 hh).mono ?_
 rintro e w1 ⟨x,y,rfl,k1⟩
 go_wp2
 go_ret2
 exact⟨_,_,rfl,⟨rfl,rfl⟩,after (after (below1 _ _) k1) (below1 _ _)⟩
theorem cells_cons(a d l:Int)(n:Nat):[Value.int .i64 a,Value.int .i64 (a+l)]++cells (a+d) d l n=cells a d l (n+1):=by
 induction n with
 |zero=>simp[cells]
 |succ n ih=>
  have e:a+d+(n:Int)*d=a+((n+1:Nat):Int)*d:=by
   have:((n+1:Nat):Int)*d=n*d+d:=by rw[show ((n+1:Nat):Int)=(n:Int)+1 by omega,Int.add_mul];omega
   omega
  rw[cells,←List.append_assoc,ih,e];rfl
theorem cells_one(a d l:Int)(n:Nat):∀ u∈cells a d l n,u.oneCell'=true:=by
 induction n with
 |zero=>intro u hu;cases hu
 |succ n ih=>
  intro u hu;rw[cells,List.mem_append] at hu;rcases hu with hu|hu
  ·exact ih u hu
  ·exact two_one _ _ u hu
def Lies(w:World)(g:Nat)(xs:List Value):Prop:=∀ i u,xs[i]?=some u→w.cell? ((⟨g,0,none⟩:Addr).add i)=some u
theorem Lies.next{w w':World}{g:Nat}{xs:List Value}(k:Below w.heap.size w w')(h:Lies w g xs):Lies w' g xs:=fun i u hu=>cell_keep k (h i u hu)
theorem Lies.wins{w:World}{g n:Nat}{a d l:Int}(h:Lies w g (cells a d l n)):Wins w g n a d l:=by
 intro i hi
 obtain⟨h0,h1⟩:=cells_at a d l n i hi
 have x0:=h _ _ h0
 have x1:=h _ _ h1
 rw[Addr.add_lit,Nat.zero_add] at x0 x1
 exact⟨x0,x1⟩
def OutIs(w:World)(out:Value)(j:Nat)(a d l:Int):Prop:=(j=0∧out=.slice none 0 0)∨(1≤j∧∃ g c:Nat,out=.slice (some ⟨g,0,none⟩) j c∧Lies w g (cells a d l j))
theorem OutIs.next{w w':World}{out:Value}{j:Nat}{a d l:Int}(k:Below w.heap.size w w')(h:OutIs w out j a d l):OutIs w' out j a d l:=by
 rcases h with h|⟨h,g,c,e,x⟩
 ·exact .inl h
 ·exact .inr ⟨h,g,c,e,x.next k⟩
theorem OutIs.to{w:World}{out:Value}{j:Nat}{a b d l:Int}(h:OutIs w out j a d l)(e:a=b):OutIs w out j b d l:=e▸h
theorem OutIs.made{w:World}{out:Value}{j:Nat}{a d l:Int}(h:OutIs w out (j+1) a d l):∃ g c:Nat,out=.slice (some ⟨g,0,none⟩) (j+1) c∧Wins w g (j+1) a d l:=by
 rcases h with ⟨h,-⟩|⟨-,g,c,e,x⟩
 ·omega
 ·exact⟨g,c,e,x.wins⟩
theorem OutIs.done{w:World}{out:Value}{j q:Nat}{x d l:Int}(h:OutIs w out (j+1) (x-j*d) d l)(e:j=q):madeR (.bool true) (q+1) (x-q*d) d l out (.bool true) w:=by
 subst e
 obtain⟨g,c,e,W⟩:=h.made
 exact⟨g,c,e,rfl,W⟩
theorem own_new(w:World)(base:Nat)(x y:Value)(T:TypeId)(hb:base≤w.heap.size):(w.alloc (Obj.cells #[x,y] T)).ownsRow base T 2 (.slice (some ⟨w.heap.size,0,none⟩) 1 1) 1 [x,y]:=
 ⟨rfl,.inr ⟨w.heap.size,1,#[x,y],rfl,hb,heap_alloc_new w _,by omega,by unfold maxLen;omega,rfl,rfl⟩⟩
theorem own_new2(w1:World)(base:Nat)(x y p q:Value)(T:TypeId)(hb:base≤w1.heap.size):
  ((w1.alloc (Obj.cells #[p,q] T)).alloc (Obj.cells #[x,y] T)).ownsRow base T 2 (.slice (some ⟨w1.heap.size+1,0,none⟩) 1 1) 1 [x,y]:=by
 have h:=own_new (w1.alloc (Obj.cells #[p,q] T)) base x y T (by simp;omega)
 simpa using h
theorem OutIs.of_own{w:World}{base j:Nat}{e:TypeId}{a d l:Int}{v:Value}(h:w.ownsRow base e 2 v (1+j) ([Value.int .i64 a,Value.int .i64 (a+l)]++cells (a+d) d l j)):OutIs w v (j+1) a d l:=by
 rw[cells_cons,Nat.add_comm] at h
 obtain⟨g,c,rfl,-,-⟩:=h.form (by omega)
 exact .inr ⟨by omega,g,c,rfl,h.cells rfl⟩
theorem OutIs.first{w1:World}{a d l:Int}{T:TypeId}{j:Nat}(hj:j=0):OutIs ((w1.alloc (Obj.cells #[.int .i64 a,.int .i64 (a+l)] T)).alloc (Obj.cells #[.int .i64 a,.int .i64 (a+l)] T)) (.slice (some ⟨w1.heap.size+1,0,none⟩) 1 1) (j+1) a d l:=by
 subst hj
 refine .inr ⟨by omega,_,_,rfl,?_⟩
 have h:=(own_new2 w1 0 (.int .i64 a) (.int .i64 (a+l)) (.int .i64 a) (.int .i64 (a+l)) T (by omega)).cells (g:=w1.heap.size+1) rfl
 intro i u hu
 refine h i u ?_
 simpa [cells] using hu
theorem steps(sl:Int)(j q:Nat)(h:1≤sl)(hj:j≤q):0≤(j:Int)*sl∧(j:Int)*sl≤(q:Int)*sl∧(j<q→(j:Int)*sl+sl≤(q:Int)*sl)∧((j+1:Nat):Int)*sl=(j:Int)*sl+sl:=by
 refine⟨Int.mul_nonneg (by omega) (by omega),Int.mul_le_mul_of_nonneg_right (by omega) (by omega),fun hl=>?_,?_⟩
 ·have:=Int.mul_le_mul_of_nonneg_right (show (j:Int)+1≤q by omega) (show 0≤sl by omega)
  rw[Int.add_mul] at this;omega
 ·rw[show ((j+1:Nat):Int)=(j:Int)+1 by omega,Int.add_mul];omega
theorem of_0_yes(s l g z h r c t:Int)(q:Nat)(w:World)(t0:-9223372036854775808≤t)(t1:t≤9223372036854775807)(l0:1≤s)(ls:s≤s)(s1:s≤9223372036854775807)(z0:0≤z)(z1:z≤9223372036854775807)
  (q1:q≤15) (b:(q:Int)*s≤s-1-t%s) (b':Hid (s-1-t%s<(q:Int)*s+s)) (f:-9223372036854775808≤t-t%s-q*s) (hh:t-t%s+s+z≤9223372036854775807):
  Calls Tryz.prog 116 #[cfg 0 s l g z h r c,.int .i64 t] w (Gives (refR (some (q+1,t-t%s-q*s,s,s))) w):=by
 obtain⟨i0,hi,hz0,hz1,hz2⟩:=info_parts Tryz.infoWin
 have e0:=Int.emod_nonneg t (b:=s) (by omega)
 have e1:=Int.emod_lt_of_pos t (b:=s) (by omega)
 have C0:=hid (Cfg.new w 0 s l g z h r c)
 have n0:=steps s 0 q l0 (by omega)
 have nq:=steps s q q l0 (by omega)
 obtain⟨nq0,-⟩:=nq
 clear n0
 go_enter Tryz.func116,Tryz.ntmps116
 go_wp2_with fail
 refine (Ref01.down_yes t s _ t0 t1 l0 (by omega) (by omega)).mono ?_
 rintro e w1 ⟨rfl,k1⟩
 have C1:=hid (C0.out.next k1)
 go_wp2
 go_loopw [9,11,12] (fun at_ out sn wr=>∃ j:Nat,j≤q∧sn=.int .i64 j∧at_=.int .i64 (t-t%s-j*s)∧Hid (OutIs wr out j (t-t%s-j*s+s) s s)∧Hid (Cfg wr w.heap.size 0 s l g z h r c)∧Below w.heap.size w wr)
  (fun _ _ sn _=>q-(intOf sn).toNat)
 case atStart=>exact⟨0,by omega,rfl,by simp,hid (.inl ⟨rfl,rfl⟩),C1,after (below1 _ _) k1⟩
 case round=>
  obtain⟨j,hj,rfl,rfl,O,C,hnx⟩:=hrel;obtain⟨n0,n1,n2,n3⟩:=steps s j q l0 hj;have N3:=hid n3;clear n3;obtain⟨c0,c1,c2,c3,c4,c5,c6,c7⟩:=C.out;have hsz:=hnx.size;rcases O.out with ⟨hj0,rfl⟩|⟨hj1,g',c',rfl,hly⟩
  ·have J0:=hid hj0
   clear hj0;by_cases hjq:j<q
   ·have n4:=n2 hjq
    exfalso;omega
   ·have HJ:Hid (j=q):=hid (by omega)
    have b2:s-1-t%s<(j:Int)*s+s:=by rw[HJ.out];exact b'.out
    clear n2;go_wp2_with fail
    refine (one_yes (t-t%s-j*s) s z _ (by omega) (by omega) (by omega) s1 z0 z1 (by omega)).mono ?_
    rintro e w2 ⟨rfl,k2⟩;have k2s:=k2.size;have CC:=hid (C.out.next k2);clear c0 c1 c2 c3 c4 c5 c6 c7;obtain⟨c0,c1,c2,c3,c4,c5,c6,c7⟩:=CC.out;have CD:=hid (Cfg.next (below2 w2 (Obj.cells #[.int .i64 (t-t%s-j*s),.int .i64 (t-t%s-j*s+s)] 129) (Obj.cells #[.int .i64 (t-t%s-j*s),.int .i64 (t-t%s-j*s+s)] 129)) CC.out);obtain⟨d0,d1,d2,d3,d4,d5,d6,d7⟩:=CD.out;go_wp2_with (at_builtin;refine wpList_append_own_none rfl (.tmp 67) (.tmp 68) 196 rfl w.heap.size 129 i0 2 Tryz.underlying196 hi (.slice (some ⟨w2.heap.size+1,0,none⟩) 1 1) 1 [.int .i64 (t-t%s-j*s),.int .i64 (t-t%s-j*s+s)] rfl (own_new2 w2 w.heap.size _ _ _ _ 129 (by omega)) rfl ?_)
    go_ret2;exact⟨_,_,rfl,OutIs.done (OutIs.first J0.out) HJ.out,(after (after hnx k2) (below2 w2 _ _))⟩
  ·have LY:Hid (∀ i u,(cells (t-t%s-j*s+s) s s j)[i]?=some u→_):=hid hly
   clear hly;by_cases hjq:j<q
   ·have n4:=n2 hjq
    exfalso;omega
   ·have HJ:Hid (j=q):=hid (by omega)
    have b2:s-1-t%s<(j:Int)*s+s:=by rw[HJ.out];exact b'.out
    clear n2;go_wp2_with fail
    refine (one_yes (t-t%s-j*s) s z _ (by omega) (by omega) (by omega) s1 z0 z1 (by omega)).mono ?_
    rintro e w2 ⟨rfl,k2⟩;have k2s:=k2.size;have CC:=hid (C.out.next k2);clear c0 c1 c2 c3 c4 c5 c6 c7;obtain⟨c0,c1,c2,c3,c4,c5,c6,c7⟩:=CC.out;have LY2:=hid (Lies.next (after k2 (below2 w2 (Obj.cells #[.int .i64 (t-t%s-j*s),.int .i64 (t-t%s-j*s+s)] 129) (Obj.cells #[.int .i64 (t-t%s-j*s),.int .i64 (t-t%s-j*s+s)] 129))) LY.out);go_wp2_with (at_builtin;refine wpList_append_own _ rfl (.tmp 67) (.tmp 68) 196 rfl w.heap.size 129 i0 (.agg #[.int .i64 0,.int .i64 0]) 2 16 Tryz.underlying196 hi hz0 hz1 hz2 rfl (by omega) (.slice (some ⟨w2.heap.size+1,0,none⟩) 1 1) 1 [.int .i64 (t-t%s-j*s),.int .i64 (t-t%s-j*s+s)] rfl (own_new2 w2 w.heap.size _ _ _ _ 129 (by omega)) ⟨g',0,none⟩ j c' (cells (t-t%s-j*s+s) s s j) rfl (cells_len _ _ _ _) LY2.out (cells_one _ _ _ _) (by unfold maxLen;omega) (by omega) (by simp;omega) ?_;intro v' w3 hown3 hgrow3 hiff3;clear hiff3;have O3:=hid (OutIs.of_own hown3);clear hown3;have KB:=hid ((after hnx k2).trans ((below2 w2 _ _).mono (show w.heap.size≤w2.heap.size by omega)) |>.grown hgrow3 (by simp;omega) (fun k hk=>by simp[Value.ownBlock] at hk;omega));have KW:=hid ((after k2 (below2 w2 _ _)).grown hgrow3 (by simp;omega) (fun k hk=>by simp[Value.ownBlock] at hk;omega));clear hgrow3;have hs3:=KW.out.size;have CD:=hid (Cfg.next KW.out C.out);obtain⟨d0,d1,d2,d3,d4,d5,d6,d7⟩:=CD.out)
    go_ret2;exact⟨_,_,rfl,OutIs.done O3.out HJ.out,KB.out⟩
theorem of_0_low(s l g z h r c t:Int)(q:Nat)(w:World)(t0:-9223372036854775808≤t)(t1:t≤9223372036854775807)(l0:1≤s)(ls:s≤s)(s1:s≤9223372036854775807)(z0:0≤z)(z1:z≤9223372036854775807)
  (q1:q≤15) (b:(q:Int)*s≤s-1-t%s) (b':Hid (s-1-t%s<(q:Int)*s+s)) (f:Hid (t-t%s-q*s < -9223372036854775808)) (f1:-9223372036854775808≤t-t%s) (hh:t-t%s+s+z≤9223372036854775807):
  Calls Tryz.prog 116 #[cfg 0 s l g z h r c,.int .i64 t] w (Gives (refR none) w):=by
 obtain⟨i0,hi,hz0,hz1,hz2⟩:=info_parts Tryz.infoWin
 have e0:=Int.emod_nonneg t (b:=s) (by omega)
 have e1:=Int.emod_lt_of_pos t (b:=s) (by omega)
 have C0:=hid (Cfg.new w 0 s l g z h r c)
 have n0:=steps s 0 q l0 (by omega)
 exfalso
 have hf:=f.out
 rcases Nat.eq_zero_or_pos q with rfl|hq
 ·simp at hf;omega
 ·have n2:=n0.2.2.1 hq
  simp at n2;omega
theorem of_1_yes(s l g z h r c t:Int)(q:Nat)(w:World)(t0:-9223372036854775808≤t)(t1:t≤9223372036854775807)(l0:1≤l)(ls:l≤s)(s1:s≤9223372036854775807)(z0:0≤z)(z1:z≤9223372036854775807)
  (q1:q≤15) (b:(q:Int)*l≤s-1-t%l) (b':Hid (s-1-t%l<(q:Int)*l+l)) (f:-9223372036854775808≤t-t%l-q*l) (hh:t-t%l+s+z≤9223372036854775807):
  Calls Tryz.prog 116 #[cfg 1 s l g z h r c,.int .i64 t] w (Gives (refR (some (q+1,t-t%l-q*l,l,s))) w):=by
 obtain⟨i0,hi,hz0,hz1,hz2⟩:=info_parts Tryz.infoWin
 have e0:=Int.emod_nonneg t (b:=l) (by omega)
 have e1:=Int.emod_lt_of_pos t (b:=l) (by omega)
 have C0:=hid (Cfg.new w 1 s l g z h r c)
 have n0:=steps l 0 q l0 (by omega)
 have nq:=steps l q q l0 (by omega)
 obtain⟨nq0,-⟩:=nq
 clear n0
 go_enter Tryz.func116,Tryz.ntmps116
 go_wp2_with fail
 refine (Ref01.down_yes t l _ t0 t1 l0 (by omega) (by omega)).mono ?_
 rintro e w1 ⟨rfl,k1⟩
 have C1:=hid (C0.out.next k1)
 go_wp2
 go_loopw [9,11,12] (fun at_ out sn wr=>∃ j:Nat,j≤q∧sn=.int .i64 j∧at_=.int .i64 (t-t%l-j*l)∧Hid (OutIs wr out j (t-t%l-j*l+l) l s)∧Hid (Cfg wr w.heap.size 1 s l g z h r c)∧Below w.heap.size w wr)
  (fun _ _ sn _=>q-(intOf sn).toNat)
 case atStart=>exact⟨0,by omega,rfl,by simp,hid (.inl ⟨rfl,rfl⟩),C1,after (below1 _ _) k1⟩
 case round=>
  obtain⟨j,hj,rfl,rfl,O,C,hnx⟩:=hrel;obtain⟨n0,n1,n2,n3⟩:=steps l j q l0 hj;have N3:=hid n3;clear n3;obtain⟨c0,c1,c2,c3,c4,c5,c6,c7⟩:=C.out;have hsz:=hnx.size;rcases O.out with ⟨hj0,rfl⟩|⟨hj1,g',c',rfl,hly⟩
  ·have J0:=hid hj0
   clear hj0;by_cases hjq:j<q
   ·have n4:=n2 hjq
    clear n2;go_wp2_with fail
    refine (one_yes (t-t%l-j*l) s z _ (by omega) (by omega) (by omega) s1 z0 z1 (by omega)).mono ?_
    rintro e w2 ⟨rfl,k2⟩;have k2s:=k2.size;have CC:=hid (C.out.next k2);clear c0 c1 c2 c3 c4 c5 c6 c7;obtain⟨c0,c1,c2,c3,c4,c5,c6,c7⟩:=CC.out;have CD:=hid (Cfg.next (below2 w2 (Obj.cells #[.int .i64 (t-t%l-j*l),.int .i64 (t-t%l-j*l+s)] 129) (Obj.cells #[.int .i64 (t-t%l-j*l),.int .i64 (t-t%l-j*l+s)] 129)) CC.out);obtain⟨d0,d1,d2,d3,d4,d5,d6,d7⟩:=CD.out;go_wp2_with (at_builtin;refine wpList_append_own_none rfl (.tmp 67) (.tmp 68) 196 rfl w.heap.size 129 i0 2 Tryz.underlying196 hi (.slice (some ⟨w2.heap.size+1,0,none⟩) 1 1) 1 [.int .i64 (t-t%l-j*l),.int .i64 (t-t%l-j*l+s)] rfl (own_new2 w2 w.heap.size _ _ _ _ 129 (by omega)) rfl ?_)
    refine (Ref01.sub_yes (t-t%l-j*l) l _ (by omega) (by omega) (by omega) (by omega) (by omega) (by omega)).mono ?_
    rintro e w4 ⟨rfl,k4⟩;go_wp2;go_roundw
    case rel=>
     have n3:=N3.out;exact⟨j+1,by omega,by go_num,by rw[n3];congr 1;omega,hid ((OutIs.next k4 (OutIs.first J0.out)).to (by rw[n3];omega)),hid (Cfg.next k4 (Cfg.next (after k2 (below2 w2 _ _)) C.out)),after (after (after hnx k2) (below2 w2 _ _)) k4⟩
    case measure=>simp[intOf];omega
   ·have HJ:Hid (j=q):=hid (by omega)
    have b2:s-1-t%l<(j:Int)*l+l:=by rw[HJ.out];exact b'.out
    clear n2;go_wp2_with fail
    refine (one_yes (t-t%l-j*l) s z _ (by omega) (by omega) (by omega) s1 z0 z1 (by omega)).mono ?_
    rintro e w2 ⟨rfl,k2⟩;have k2s:=k2.size;have CC:=hid (C.out.next k2);clear c0 c1 c2 c3 c4 c5 c6 c7;obtain⟨c0,c1,c2,c3,c4,c5,c6,c7⟩:=CC.out;have CD:=hid (Cfg.next (below2 w2 (Obj.cells #[.int .i64 (t-t%l-j*l),.int .i64 (t-t%l-j*l+s)] 129) (Obj.cells #[.int .i64 (t-t%l-j*l),.int .i64 (t-t%l-j*l+s)] 129)) CC.out);obtain⟨d0,d1,d2,d3,d4,d5,d6,d7⟩:=CD.out;go_wp2_with (at_builtin;refine wpList_append_own_none rfl (.tmp 67) (.tmp 68) 196 rfl w.heap.size 129 i0 2 Tryz.underlying196 hi (.slice (some ⟨w2.heap.size+1,0,none⟩) 1 1) 1 [.int .i64 (t-t%l-j*l),.int .i64 (t-t%l-j*l+s)] rfl (own_new2 w2 w.heap.size _ _ _ _ 129 (by omega)) rfl ?_)
    go_ret2;exact⟨_,_,rfl,OutIs.done (OutIs.first J0.out) HJ.out,(after (after hnx k2) (below2 w2 _ _))⟩
  ·have LY:Hid (∀ i u,(cells (t-t%l-j*l+l) l s j)[i]?=some u→_):=hid hly
   clear hly;by_cases hjq:j<q
   ·have n4:=n2 hjq
    clear n2;go_wp2_with fail
    refine (one_yes (t-t%l-j*l) s z _ (by omega) (by omega) (by omega) s1 z0 z1 (by omega)).mono ?_
    rintro e w2 ⟨rfl,k2⟩;have k2s:=k2.size;have CC:=hid (C.out.next k2);clear c0 c1 c2 c3 c4 c5 c6 c7;obtain⟨c0,c1,c2,c3,c4,c5,c6,c7⟩:=CC.out;have LY2:=hid (Lies.next (after k2 (below2 w2 (Obj.cells #[.int .i64 (t-t%l-j*l),.int .i64 (t-t%l-j*l+s)] 129) (Obj.cells #[.int .i64 (t-t%l-j*l),.int .i64 (t-t%l-j*l+s)] 129))) LY.out);go_wp2_with (at_builtin;refine wpList_append_own _ rfl (.tmp 67) (.tmp 68) 196 rfl w.heap.size 129 i0 (.agg #[.int .i64 0,.int .i64 0]) 2 16 Tryz.underlying196 hi hz0 hz1 hz2 rfl (by omega) (.slice (some ⟨w2.heap.size+1,0,none⟩) 1 1) 1 [.int .i64 (t-t%l-j*l),.int .i64 (t-t%l-j*l+s)] rfl (own_new2 w2 w.heap.size _ _ _ _ 129 (by omega)) ⟨g',0,none⟩ j c' (cells (t-t%l-j*l+l) l s j) rfl (cells_len _ _ _ _) LY2.out (cells_one _ _ _ _) (by unfold maxLen;omega) (by omega) (by simp;omega) ?_;intro v' w3 hown3 hgrow3 hiff3;clear hiff3;have O3:=hid (OutIs.of_own hown3);clear hown3;have KB:=hid ((after hnx k2).trans ((below2 w2 _ _).mono (show w.heap.size≤w2.heap.size by omega)) |>.grown hgrow3 (by simp;omega) (fun k hk=>by simp[Value.ownBlock] at hk;omega));have KW:=hid ((after k2 (below2 w2 _ _)).grown hgrow3 (by simp;omega) (fun k hk=>by simp[Value.ownBlock] at hk;omega));clear hgrow3;have hs3:=KW.out.size;have CD:=hid (Cfg.next KW.out C.out);obtain⟨d0,d1,d2,d3,d4,d5,d6,d7⟩:=CD.out)
    refine (Ref01.sub_yes (t-t%l-j*l) l _ (by omega) (by omega) (by omega) (by omega) (by omega) (by omega)).mono ?_
    rintro e w4 ⟨rfl,k4⟩;go_wp2;go_roundw
    case rel=>
     have n3:=N3.out;exact⟨j+1,by omega,by go_num,by rw[n3];congr 1;omega,hid ((OutIs.next k4 O3.out).to (by rw[n3];omega)),hid (Cfg.next k4 (Cfg.next KW.out C.out)),after KB.out k4⟩
    case measure=>simp[intOf];omega
   ·have HJ:Hid (j=q):=hid (by omega)
    have b2:s-1-t%l<(j:Int)*l+l:=by rw[HJ.out];exact b'.out
    clear n2;go_wp2_with fail
    refine (one_yes (t-t%l-j*l) s z _ (by omega) (by omega) (by omega) s1 z0 z1 (by omega)).mono ?_
    rintro e w2 ⟨rfl,k2⟩;have k2s:=k2.size;have CC:=hid (C.out.next k2);clear c0 c1 c2 c3 c4 c5 c6 c7;obtain⟨c0,c1,c2,c3,c4,c5,c6,c7⟩:=CC.out;have LY2:=hid (Lies.next (after k2 (below2 w2 (Obj.cells #[.int .i64 (t-t%l-j*l),.int .i64 (t-t%l-j*l+s)] 129) (Obj.cells #[.int .i64 (t-t%l-j*l),.int .i64 (t-t%l-j*l+s)] 129))) LY.out);go_wp2_with (at_builtin;refine wpList_append_own _ rfl (.tmp 67) (.tmp 68) 196 rfl w.heap.size 129 i0 (.agg #[.int .i64 0,.int .i64 0]) 2 16 Tryz.underlying196 hi hz0 hz1 hz2 rfl (by omega) (.slice (some ⟨w2.heap.size+1,0,none⟩) 1 1) 1 [.int .i64 (t-t%l-j*l),.int .i64 (t-t%l-j*l+s)] rfl (own_new2 w2 w.heap.size _ _ _ _ 129 (by omega)) ⟨g',0,none⟩ j c' (cells (t-t%l-j*l+l) l s j) rfl (cells_len _ _ _ _) LY2.out (cells_one _ _ _ _) (by unfold maxLen;omega) (by omega) (by simp;omega) ?_;intro v' w3 hown3 hgrow3 hiff3;clear hiff3;have O3:=hid (OutIs.of_own hown3);clear hown3;have KB:=hid ((after hnx k2).trans ((below2 w2 _ _).mono (show w.heap.size≤w2.heap.size by omega)) |>.grown hgrow3 (by simp;omega) (fun k hk=>by simp[Value.ownBlock] at hk;omega));have KW:=hid ((after k2 (below2 w2 _ _)).grown hgrow3 (by simp;omega) (fun k hk=>by simp[Value.ownBlock] at hk;omega));clear hgrow3;have hs3:=KW.out.size;have CD:=hid (Cfg.next KW.out C.out);obtain⟨d0,d1,d2,d3,d4,d5,d6,d7⟩:=CD.out)
    go_ret2;exact⟨_,_,rfl,OutIs.done O3.out HJ.out,KB.out⟩
theorem of_1_low(s l g z h r c t:Int)(q:Nat)(w:World)(t0:-9223372036854775808≤t)(t1:t≤9223372036854775807)(l0:1≤l)(ls:l≤s)(s1:s≤9223372036854775807)(z0:0≤z)(z1:z≤9223372036854775807)
  (q1:q≤15) (b:(q:Int)*l≤s-1-t%l) (b':Hid (s-1-t%l<(q:Int)*l+l)) (f:Hid (t-t%l-q*l < -9223372036854775808)) (f1:-9223372036854775808≤t-t%l) (hh:t-t%l+s+z≤9223372036854775807):
  Calls Tryz.prog 116 #[cfg 1 s l g z h r c,.int .i64 t] w (Gives (refR none) w):=by
 obtain⟨i0,hi,hz0,hz1,hz2⟩:=info_parts Tryz.infoWin
 have e0:=Int.emod_nonneg t (b:=l) (by omega)
 have e1:=Int.emod_lt_of_pos t (b:=l) (by omega)
 have C0:=hid (Cfg.new w 1 s l g z h r c)
 have n0:=steps l 0 q l0 (by omega)
 have nq:=steps l q q l0 (by omega)
 obtain⟨nq0,-⟩:=nq
 clear n0
 go_enter Tryz.func116,Tryz.ntmps116
 go_wp2_with fail
 refine (Ref01.down_yes t l _ t0 t1 l0 (by omega) (by omega)).mono ?_
 rintro e w1 ⟨rfl,k1⟩
 have C1:=hid (C0.out.next k1)
 go_wp2
 go_loopw [9,11,12] (fun at_ out sn wr=>∃ j:Nat,j≤q∧sn=.int .i64 j∧at_=.int .i64 (t-t%l-j*l)∧-9223372036854775808≤t-t%l-j*l∧Hid (OutIs wr out j (t-t%l-j*l+l) l s)∧Hid (Cfg wr w.heap.size 1 s l g z h r c)∧Below w.heap.size w wr)
  (fun _ _ sn _=>q-(intOf sn).toNat)
 case atStart=>exact⟨0,by omega,rfl,by simp,by simp;omega,hid (.inl ⟨rfl,rfl⟩),C1,after (below1 _ _) k1⟩
 case round=>
  obtain⟨j,hj,rfl,rfl,hA,O,C,hnx⟩:=hrel;obtain⟨n0,n1,n2,n3⟩:=steps l j q l0 hj;have N3:=hid n3;clear n3;obtain⟨c0,c1,c2,c3,c4,c5,c6,c7⟩:=C.out;have hsz:=hnx.size;rcases O.out with ⟨hj0,rfl⟩|⟨hj1,g',c',rfl,hly⟩
  ·have J0:=hid hj0
   clear hj0
   have hjq:j<q:=by
    by_cases he:j=q
    ·have hf:=f.out
     rw[←he] at hf;omega
    ·omega
   have n4:=n2 hjq;clear n2;by_cases hlow:-9223372036854775808≤t-t%l-j*l-l
   ·skip
    go_wp2_with fail
    refine (one_yes (t-t%l-j*l) s z _ (by omega) (by omega) (by omega) s1 z0 z1 (by omega)).mono ?_
    rintro e w2 ⟨rfl,k2⟩;have k2s:=k2.size;have CC:=hid (C.out.next k2);clear c0 c1 c2 c3 c4 c5 c6 c7;obtain⟨c0,c1,c2,c3,c4,c5,c6,c7⟩:=CC.out;have CD:=hid (Cfg.next (below2 w2 (Obj.cells #[.int .i64 (t-t%l-j*l),.int .i64 (t-t%l-j*l+s)] 129) (Obj.cells #[.int .i64 (t-t%l-j*l),.int .i64 (t-t%l-j*l+s)] 129)) CC.out);obtain⟨d0,d1,d2,d3,d4,d5,d6,d7⟩:=CD.out;go_wp2_with (at_builtin;refine wpList_append_own_none rfl (.tmp 67) (.tmp 68) 196 rfl w.heap.size 129 i0 2 Tryz.underlying196 hi (.slice (some ⟨w2.heap.size+1,0,none⟩) 1 1) 1 [.int .i64 (t-t%l-j*l),.int .i64 (t-t%l-j*l+s)] rfl (own_new2 w2 w.heap.size _ _ _ _ 129 (by omega)) rfl ?_)
    refine (Ref01.sub_yes (t-t%l-j*l) l _ (by omega) (by omega) (by omega) (by omega) (by omega) (by omega)).mono ?_
    rintro e w4 ⟨rfl,k4⟩;go_wp2;go_roundw
    case rel=>
     have n3:=N3.out;exact⟨j+1,by omega,by go_num,by rw[n3];congr 1;omega,by rw[n3];omega,hid ((OutIs.next k4 (OutIs.first J0.out)).to (by rw[n3];omega)),hid (Cfg.next k4 (Cfg.next (after k2 (below2 w2 _ _)) C.out)),after (after (after hnx k2) (below2 w2 _ _)) k4⟩
    case measure=>simp[intOf];omega
   ·have HL:=hid (show t-t%l-j*l-l < -9223372036854775808 by omega)
    clear hlow;go_wp2_with fail
    refine (one_yes (t-t%l-j*l) s z _ (by omega) (by omega) (by omega) s1 z0 z1 (by omega)).mono ?_
    rintro e w2 ⟨rfl,k2⟩;have k2s:=k2.size;have CC:=hid (C.out.next k2);clear c0 c1 c2 c3 c4 c5 c6 c7;obtain⟨c0,c1,c2,c3,c4,c5,c6,c7⟩:=CC.out;have CD:=hid (Cfg.next (below2 w2 (Obj.cells #[.int .i64 (t-t%l-j*l),.int .i64 (t-t%l-j*l+s)] 129) (Obj.cells #[.int .i64 (t-t%l-j*l),.int .i64 (t-t%l-j*l+s)] 129)) CC.out);obtain⟨d0,d1,d2,d3,d4,d5,d6,d7⟩:=CD.out;go_wp2_with (at_builtin;refine wpList_append_own_none rfl (.tmp 67) (.tmp 68) 196 rfl w.heap.size 129 i0 2 Tryz.underlying196 hi (.slice (some ⟨w2.heap.size+1,0,none⟩) 1 1) 1 [.int .i64 (t-t%l-j*l),.int .i64 (t-t%l-j*l+s)] rfl (own_new2 w2 w.heap.size _ _ _ _ 129 (by omega)) rfl ?_)
    refine (Ref01.sub_no (t-t%l-j*l) l _ (by omega) (by omega) (by omega) (by omega) (.inl HL.out)).mono ?_
    rintro e w4 ⟨rfl,k4⟩;go_wp2;go_ret2;exact⟨_,_,rfl,⟨rfl,rfl⟩,after (after (after hnx k2) (below2 w2 _ _)) k4⟩
  ·have LY:Hid (∀ i u,(cells (t-t%l-j*l+l) l s j)[i]?=some u→_):=hid hly
   clear hly
   have hjq:j<q:=by
    by_cases he:j=q
    ·have hf:=f.out
     rw[←he] at hf;omega
    ·omega
   have n4:=n2 hjq;clear n2;by_cases hlow:-9223372036854775808≤t-t%l-j*l-l
   ·skip
    go_wp2_with fail
    refine (one_yes (t-t%l-j*l) s z _ (by omega) (by omega) (by omega) s1 z0 z1 (by omega)).mono ?_
    rintro e w2 ⟨rfl,k2⟩;have k2s:=k2.size;have CC:=hid (C.out.next k2);clear c0 c1 c2 c3 c4 c5 c6 c7;obtain⟨c0,c1,c2,c3,c4,c5,c6,c7⟩:=CC.out;have LY2:=hid (Lies.next (after k2 (below2 w2 (Obj.cells #[.int .i64 (t-t%l-j*l),.int .i64 (t-t%l-j*l+s)] 129) (Obj.cells #[.int .i64 (t-t%l-j*l),.int .i64 (t-t%l-j*l+s)] 129))) LY.out);go_wp2_with (at_builtin;refine wpList_append_own _ rfl (.tmp 67) (.tmp 68) 196 rfl w.heap.size 129 i0 (.agg #[.int .i64 0,.int .i64 0]) 2 16 Tryz.underlying196 hi hz0 hz1 hz2 rfl (by omega) (.slice (some ⟨w2.heap.size+1,0,none⟩) 1 1) 1 [.int .i64 (t-t%l-j*l),.int .i64 (t-t%l-j*l+s)] rfl (own_new2 w2 w.heap.size _ _ _ _ 129 (by omega)) ⟨g',0,none⟩ j c' (cells (t-t%l-j*l+l) l s j) rfl (cells_len _ _ _ _) LY2.out (cells_one _ _ _ _) (by unfold maxLen;omega) (by omega) (by simp;omega) ?_;intro v' w3 hown3 hgrow3 hiff3;clear hiff3;have O3:=hid (OutIs.of_own hown3);clear hown3;have KB:=hid ((after hnx k2).trans ((below2 w2 _ _).mono (show w.heap.size≤w2.heap.size by omega)) |>.grown hgrow3 (by simp;omega) (fun k hk=>by simp[Value.ownBlock] at hk;omega));have KW:=hid ((after k2 (below2 w2 _ _)).grown hgrow3 (by simp;omega) (fun k hk=>by simp[Value.ownBlock] at hk;omega));clear hgrow3;have hs3:=KW.out.size;have CD:=hid (Cfg.next KW.out C.out);obtain⟨d0,d1,d2,d3,d4,d5,d6,d7⟩:=CD.out)
    refine (Ref01.sub_yes (t-t%l-j*l) l _ (by omega) (by omega) (by omega) (by omega) (by omega) (by omega)).mono ?_
    rintro e w4 ⟨rfl,k4⟩;go_wp2;go_roundw
    case rel=>
     have n3:=N3.out;exact⟨j+1,by omega,by go_num,by rw[n3];congr 1;omega,by rw[n3];omega,hid ((OutIs.next k4 O3.out).to (by rw[n3];omega)),hid (Cfg.next k4 (Cfg.next KW.out C.out)),after KB.out k4⟩
    case measure=>simp[intOf];omega
   ·have HL:=hid (show t-t%l-j*l-l < -9223372036854775808 by omega)
    clear hlow;go_wp2_with fail
    refine (one_yes (t-t%l-j*l) s z _ (by omega) (by omega) (by omega) s1 z0 z1 (by omega)).mono ?_
    rintro e w2 ⟨rfl,k2⟩;have k2s:=k2.size;have CC:=hid (C.out.next k2);clear c0 c1 c2 c3 c4 c5 c6 c7;obtain⟨c0,c1,c2,c3,c4,c5,c6,c7⟩:=CC.out;have LY2:=hid (Lies.next (after k2 (below2 w2 (Obj.cells #[.int .i64 (t-t%l-j*l),.int .i64 (t-t%l-j*l+s)] 129) (Obj.cells #[.int .i64 (t-t%l-j*l),.int .i64 (t-t%l-j*l+s)] 129))) LY.out);go_wp2_with (at_builtin;refine wpList_append_own _ rfl (.tmp 67) (.tmp 68) 196 rfl w.heap.size 129 i0 (.agg #[.int .i64 0,.int .i64 0]) 2 16 Tryz.underlying196 hi hz0 hz1 hz2 rfl (by omega) (.slice (some ⟨w2.heap.size+1,0,none⟩) 1 1) 1 [.int .i64 (t-t%l-j*l),.int .i64 (t-t%l-j*l+s)] rfl (own_new2 w2 w.heap.size _ _ _ _ 129 (by omega)) ⟨g',0,none⟩ j c' (cells (t-t%l-j*l+l) l s j) rfl (cells_len _ _ _ _) LY2.out (cells_one _ _ _ _) (by unfold maxLen;omega) (by omega) (by simp;omega) ?_;intro v' w3 hown3 hgrow3 hiff3;clear hiff3;have O3:=hid (OutIs.of_own hown3);clear hown3;have KB:=hid ((after hnx k2).trans ((below2 w2 _ _).mono (show w.heap.size≤w2.heap.size by omega)) |>.grown hgrow3 (by simp;omega) (fun k hk=>by simp[Value.ownBlock] at hk;omega));have KW:=hid ((after k2 (below2 w2 _ _)).grown hgrow3 (by simp;omega) (fun k hk=>by simp[Value.ownBlock] at hk;omega));clear hgrow3;have hs3:=KW.out.size;have CD:=hid (Cfg.next KW.out C.out);obtain⟨d0,d1,d2,d3,d4,d5,d6,d7⟩:=CD.out)
    refine (Ref01.sub_no (t-t%l-j*l) l _ (by omega) (by omega) (by omega) (by omega) (.inl HL.out)).mono ?_
    rintro e w4 ⟨rfl,k4⟩;go_wp2;go_ret2;exact⟨_,_,rfl,⟨rfl,rfl⟩,after KB.out k4⟩
theorem of_0_down(s l g z h r c t:Int)(w:World)(t0:-9223372036854775808≤t)(t1:t≤9223372036854775807)(l0:1≤s)(l1:s≤9223372036854775807)(f:Hid (t-t%s < -9223372036854775808)):
  Calls Tryz.prog 116 #[cfg 0 s l g z h r c,.int .i64 t] w (Gives (refR none) w):=by
 have e0:=Int.emod_nonneg t (b:=s) (by omega)
 have e1:=Int.emod_lt_of_pos t (b:=s) (by omega)
 go_enter Tryz.func116,Tryz.ntmps116
 go_wp2_with fail
 refine (Ref01.down_no t s _ t0 t1 l0 (by omega) f.out).mono ?_
 rintro e w1 ⟨rfl,k1⟩
 go_wp2
 go_ret2
 exact⟨_,_,rfl,⟨rfl,rfl⟩,after (below1 _ _) k1⟩
theorem of_0_high(s l g z h r c t:Int)(w:World)(t0:-9223372036854775808≤t)(t1:t≤9223372036854775807)(l0:1≤s)(ls:s≤s)(s1:s≤9223372036854775807)(z0:0≤z)(z1:z≤9223372036854775807)
  (f1:-9223372036854775808≤t-t%s) (hh:Hid (9223372036854775807<t-t%s+s+z)):
  Calls Tryz.prog 116 #[cfg 0 s l g z h r c,.int .i64 t] w (Gives (refR none) w):=by
 have e0:=Int.emod_nonneg t (b:=s) (by omega)
 have e1:=Int.emod_lt_of_pos t (b:=s) (by omega)
 have C0:=hid (Cfg.new w 0 s l g z h r c)
 go_enter Tryz.func116,Tryz.ntmps116
 go_wp2_with fail
 refine (Ref01.down_yes t s _ t0 t1 l0 (by omega) (by omega)).mono ?_
 rintro e w1 ⟨rfl,k1⟩
 have C1:=hid (C0.out.next k1)
 go_wp2
 go_loopw [9,11,12] (fun at_ out sn wr=>sn=.int .i64 0∧at_=.int .i64 (t-t%s)∧Hid (Cfg wr w.heap.size 0 s l g z h r c)∧Below w.heap.size w wr)
  (fun _ _ sn _=>0)
 case atStart=>exact⟨rfl,rfl,C1,after (below1 _ _) k1⟩
 case round=>
  obtain⟨rfl,rfl,C,hnx⟩:=hrel;obtain⟨c0,c1,c2,c3,c4,c5,c6,c7⟩:=C.out;go_wp2_with fail
  refine (one_no (t-t%s) s z _ (by omega) (by omega) (by omega) s1 z0 z1 hh.out).mono ?_
  rintro e w2 ⟨x,y,rfl,k2⟩;go_wp2;go_ret2;exact⟨_,_,rfl,⟨rfl,rfl⟩,after (after hnx k2) (below1 _ _)⟩
theorem of_1_down(s l g z h r c t:Int)(w:World)(t0:-9223372036854775808≤t)(t1:t≤9223372036854775807)(l0:1≤l)(l1:l≤9223372036854775807)(f:Hid (t-t%l < -9223372036854775808)):
  Calls Tryz.prog 116 #[cfg 1 s l g z h r c,.int .i64 t] w (Gives (refR none) w):=by
 have e0:=Int.emod_nonneg t (b:=l) (by omega)
 have e1:=Int.emod_lt_of_pos t (b:=l) (by omega)
 go_enter Tryz.func116,Tryz.ntmps116
 go_wp2_with fail
 refine (Ref01.down_no t l _ t0 t1 l0 (by omega) f.out).mono ?_
 rintro e w1 ⟨rfl,k1⟩
 go_wp2
 go_ret2
 exact⟨_,_,rfl,⟨rfl,rfl⟩,after (below1 _ _) k1⟩
theorem of_1_high(s l g z h r c t:Int)(w:World)(t0:-9223372036854775808≤t)(t1:t≤9223372036854775807)(l0:1≤l)(ls:l≤s)(s1:s≤9223372036854775807)(z0:0≤z)(z1:z≤9223372036854775807)
  (f1:-9223372036854775808≤t-t%l) (hh:Hid (9223372036854775807<t-t%l+s+z)):
  Calls Tryz.prog 116 #[cfg 1 s l g z h r c,.int .i64 t] w (Gives (refR none) w):=by
 have e0:=Int.emod_nonneg t (b:=l) (by omega)
 have e1:=Int.emod_lt_of_pos t (b:=l) (by omega)
 have C0:=hid (Cfg.new w 1 s l g z h r c)
 go_enter Tryz.func116,Tryz.ntmps116
 go_wp2_with fail
 refine (Ref01.down_yes t l _ t0 t1 l0 (by omega) (by omega)).mono ?_
 rintro e w1 ⟨rfl,k1⟩
 have C1:=hid (C0.out.next k1)
 go_wp2
 go_loopw [9,11,12] (fun at_ out sn wr=>sn=.int .i64 0∧at_=.int .i64 (t-t%l)∧Hid (Cfg wr w.heap.size 1 s l g z h r c)∧Below w.heap.size w wr)
  (fun _ _ sn _=>0)
 case atStart=>exact⟨rfl,rfl,C1,after (below1 _ _) k1⟩
 case round=>
  obtain⟨rfl,rfl,C,hnx⟩:=hrel;obtain⟨c0,c1,c2,c3,c4,c5,c6,c7⟩:=C.out;go_wp2_with fail
  refine (one_no (t-t%l) s z _ (by omega) (by omega) (by omega) s1 z0 z1 hh.out).mono ?_
  rintro e w2 ⟨x,y,rfl,k2⟩;go_wp2;go_ret2;exact⟨_,_,rfl,⟨rfl,rfl⟩,after (after hnx k2) (below1 _ _)⟩
theorem of_ok(k s l g z h r c t:Int)(x:Option (Nat×Int×Int×Int))(w:World)(s1:s≤9223372036854775807)(l1:l≤9223372036854775807)(g1:g≤9223372036854775807)(z1:z≤9223372036854775807)
  (t0:-9223372036854775808≤t) (t1:t≤9223372036854775807) (M:may k s l g z h r c) (T:Asg.Told k s l g z t x):
  Calls Tryz.prog 116 #[cfg k s l g z h r c,.int .i64 t] w (Gives (refR x) w):=by
 have z0:0≤z:=M.2.1
 cases T with
 |slidesYes q hk q1 b b' f hh=>
  obtain⟨a0,a1,a2⟩:=slide_may hk M;rcases hk with rfl|rfl
  ·exact of_0_yes s l g z h r c t q w t0 t1 a0 a1 s1 z0 z1 q1 b (hid b') f hh
  ·exact of_1_yes s l g z h r c t q w t0 t1 a0 a1 s1 z0 z1 q1 b (hid b') f hh
 |slidesNo q hk q1 b b' f=>
  obtain⟨a0,a1,a2⟩:=slide_may hk M;by_cases f1:t-t%slideOf k s l < -9223372036854775808
  ·rcases hk with rfl|rfl
   ·exact of_0_down s l g z h r c t w t0 t1 a0 s1 (hid f1)
   ·exact of_1_down s l g z h r c t w t0 t1 a0 l1 (hid f1)
  ·by_cases f2:9223372036854775807<t-t%slideOf k s l+s+z
   ·rcases hk with rfl|rfl
    ·exact of_0_high s l g z h r c t w t0 t1 a0 a1 s1 z0 z1 (Int.not_lt.mp f1) (hid f2)
    ·exact of_1_high s l g z h r c t w t0 t1 a0 a1 s1 z0 z1 (Int.not_lt.mp f1) (hid f2)
   ·have f3:=f.resolve_right f2
    rcases hk with rfl|rfl
    ·exact of_0_low s l g z h r c t q w t0 t1 a0 a1 s1 z0 z1 q1 b (hid b') (hid f3) (Int.not_lt.mp f1) (Int.not_lt.mp f2)
    ·exact of_1_low s l g z h r c t q w t0 t1 a0 a1 s1 z0 z1 q1 b (hid b') (hid f3) (Int.not_lt.mp f1) (Int.not_lt.mp f2)
 |sessionYes hk hh=>
  subst hk;have g0:1≤g:=by have:=M.1;unfold mayW at this;omega
  exact of_session s l g z h r c t w t0 t1 g0 g1 z0 z1 hh
 |sessionNo hk hh=>
  subst hk;have g0:1≤g:=by have:=M.1;unfold mayW at this;omega
  exact of_session_no s l g z h r c t w t0 t1 g0 g1 z0 z1 hh
end RefAsg
end Go.Proofs.YtfjlnniahfbdfaaGreat
