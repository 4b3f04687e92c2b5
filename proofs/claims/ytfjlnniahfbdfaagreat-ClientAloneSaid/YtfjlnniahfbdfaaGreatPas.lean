/- A part of the proof. -/
import Derived.Test.YtfjlnniahfbdfaaGreatPag
import Derived.Test.YtfjlnniahfbdfaaGreatPar
import Derived.Test.YtfjlnniahfbdfaaGreatPai
import Derived.Test.YtfjlnniahfbdfaaGreatPad
import Derived.Test.YtfjlnniahfbdfaaGreatPaq
import Derived.Deep.RegionHeld3
set_option linter.unusedVariables false
set_option maxHeartbeats 4000000
namespace Go.Proofs.YtfjlnniahfbdfaaGreat
open Lib (hid)
open Go.ChangeShapes Go.WideShapes Go.ChangeAt Go.RowKit Small
namespace Pane
end Pane
namespace Grp
open Small Foot Pane
section
variable {kind late mark:Int} {S S':Lists} {O:List Pn} {N:Nat}
theorem Fine.outs(h:Fine S)(o:Outs late mark S O S'):Fine S':=by
 induction o with
 |none=>exact h
 |more _ _ _ _ ih=>exact ih.cut _ _
theorem Outs.sub(o:Outs late mark S O S'):∀ x q,q∈S' x→q∈S x:=by
 induction o with
 |none=>exact fun x q h=>h
 |@more O1 S1 p k h hp ho hl ih=>
  intro x q hq;by_cases e:x=p.key
  ·subst e;rw[set_same] at hq;exact ih _ q (cut_mem hq)
  ·rw[set_other _ _ e] at hq;exact ih x q hq
end
theorem put1_cnt{kind s e v:Int}{key:ByteArray}{L L':List Pn}{n:Nat}(h:Put1 kind key s e v L L')(c:Cnt L n)(ap:kind=2→Apart L)(hse:s<e)(hn:n≤8900):Cnt L' (n+1)∧(kind=2→Apart L'):=by
 rcases h with ⟨h2,k,a,rfl⟩|⟨h2,k,a,⟨p,hp,he,rfl⟩|⟨hno,rfl⟩⟩
 ·obtain⟨h3,h4⟩:=cnt_merge (v:=v) key c (ap h2) hse hn _ rfl a
  exact⟨h3,fun _=>h4⟩
 ·exact⟨cnt_put_yes c a hp he (by omega),fun q=>absurd q h2⟩
 ·exact⟨cnt_put_no key c a fun x hx he=>hno x (a.found c.rises hx he) he,fun q=>absurd q h2⟩
theorem put1_key{kind s e v:Int}{key:ByteArray}{L L':List Pn}{n:Nat}(h:Put1 kind key s e v L L')(c:Cnt L n)(hn:n≤8900)(hk:∀ p∈L,p.key=key):∀ p∈L',p.key=key:=by
 intro q hq
 rcases h with ⟨h2,k,a,rfl⟩|⟨h2,k,a,⟨p,hp,he,rfl⟩|⟨hno,rfl⟩⟩
 ·rcases mem_ins.1 hq with rfl|hq
  ·have hpos:∀ q∈metOf s e L,1≤q.c:=fun q hq=>c.pos q (List.mem_filter.1 hq).1
   have hs0:sumC (restOf s e L)+sumC (metOf s e L)=sumC L:=(part_sum (meets s e) L).1;have hr0:=(sum_pos (L:=restOf s e L) fun q hq=>c.pos q (List.mem_filter.1 hq).1).1
   have:=c.cnt;exact (fold_join (metOf s e L) (one key s e v) (by simp only;omega) hpos (by simp only;omega)).2.2.1
  ·exact hk q (List.mem_filter.1 hq).1
 ·rw[Pane.set_split hp] at hq
  rcases List.mem_append.1 hq with hq|hq
  ·exact hk q (List.mem_of_mem_take hq)
  ·rcases List.mem_cons.1 hq with rfl|hq
   ·exact hk p (List.mem_of_getElem? hp)
   ·exact hk q (List.mem_of_mem_drop hq)
 ·rcases mem_ins.1 hq with rfl|hq
  ·rfl
  ·exact hk q hq
theorem put1_late{kind s e v late mark:Int}{key:ByteArray}{L L':List Pn}{n:Nat}(h:Put1 kind key s e v L L')(c:Cnt L n)(hn:n≤8900)(ho:¬e+late≤mark)(hL:∀ q∈L,¬q.e+late≤mark):∀ q∈L',¬q.e+late≤mark:=by
 intro q hq
 rcases h with ⟨h2,k,a,rfl⟩|⟨h2,k,a,⟨p,hp,he,rfl⟩|⟨hno,rfl⟩⟩
 ·rcases mem_ins.1 hq with rfl|hq
  ·have hpos:∀ q∈metOf s e L,1≤q.c:=fun q hq=>c.pos q (List.mem_filter.1 hq).1
   have hs0:sumC (restOf s e L)+sumC (metOf s e L)=sumC L:=(part_sum (meets s e) L).1;have hr0:=(sum_pos (L:=restOf s e L) fun q hq=>c.pos q (List.mem_filter.1 hq).1).1
   have:=c.cnt;have:=(fold_join (metOf s e L) (one key s e v) (by simp only;omega) hpos (by simp only;omega)).2.2.2.2.1
   simp only[joined] at this ⊢;omega
  ·exact hL q (List.mem_filter.1 hq).1
 ·rw[Pane.set_split hp] at hq
  rcases List.mem_append.1 hq with hq|hq
  ·exact hL q (List.mem_of_mem_take hq)
  ·rcases List.mem_cons.1 hq with rfl|hq
   ·exact hL p (List.mem_of_getElem? hp)
   ·exact hL q (List.mem_of_mem_drop hq)
 ·rcases mem_ins.1 hq with rfl|hq
  ·exact ho
  ·exact hL q hq
theorem put1_ok{kind s e v:Int}{key:ByteArray}{S:Lists}{L':List Pn}{N:Nat}(h:Put1 kind key s e v (S key) L')(O:Ok kind S N)(hse:s<e)(hN:N≤8900):Ok kind (S.set key L') (N+1):=by
 obtain⟨n,c,hn⟩:=O.cnt key
 obtain⟨c1,a1⟩:=put1_cnt h c (fun q=>O.apart q key) hse (by omega)
 exact ok_set O c1 (by omega) (put1_key h c (by omega) (O.key key)) a1
def live(a d l late mark:Int):Nat→Nat
 |0=>0
 |i+1=>live a d l late mark i+if a+i*d+l+late≤mark then 0 else 1
section
variable {kind v late mark a d l:Int} {key:ByteArray} {S S':Lists} {i c N:Nat}
theorem Tk.live(t:Tk kind key v late mark a d l S i c S'):c=live a d l late mark i:=by
 induction t with
 |zero=>rfl
 |over _ ho ih=>simp only[Grp.live];rw[if_pos ho,←ih];rfl
 |put _ ho _ ih=>simp only[Grp.live];rw[if_neg ho,←ih]
theorem Tk.ok(t:Tk kind key v late mark a d l S i c S')(O:Ok kind S N)(hl:1≤l)(hN:N+i≤8900):Ok kind S' (N+c):=by
 induction t with
 |zero=>exact O
 |over _ _ ih=>exact ih (by omega)
 |@put i c S1 L1 t1 _ hp ih=>exact put1_ok (N:=N+c) hp (ih (by omega)) (by omega) (by have:=t1.le;omega)
theorem Tk.noneOver(t:Tk kind key v late mark a d l S i c S')(O:Ok kind S N)(hl:1≤l)(hN:N+i≤8900)(h:NoneOver late mark S):NoneOver late mark S':=by
 induction t with
 |zero=>exact h
 |over _ _ ih=>exact ih (by omega)
 |@put i c S1 L1 t1 ho hp ih=>
  have O1:=t1.ok O hl (by omega)
  obtain⟨n,c1,hn⟩:=O1.cnt key;intro x q hq;by_cases e:x=key
  ·subst e
   rw[set_same] at hq;exact put1_late hp c1 (by have:=t1.le;omega) ho (fun q hq=>ih (by omega) _ q hq) q hq
  ·rw[set_other _ _ e] at hq
   exact ih (by omega) x q hq
end
end Grp
namespace Grp
open Small Foot Pane
set_option maxRecDepth 100000 in
theorem panes_ok{g m tg n cnt:Nat}{cf:C8}{S:Lists}{M:Tmr.Tm→Prop}{fm:ByteArray→Option Value}{FT Bk:Nat→Prop}(x:ByteArray)(w:World)(H:Hid (Gq w g m tg cf S M n cnt fm FT Bk))(hn:(S x).length≤9000)(hk:x.size≤maxLen):
  Calls Tryz.prog 136 #[gp g,.string x] w fun r w'=>∃ v',r=.returned v'∧Sl.Own Pn.k w.heap.size w' v' (S x)∧Below w.heap.size w w':=by
 obtain⟨v,b,hv,iv⟩:=H.out.list x
 have I0:=hid iv
 have hl:=H.out.map.look hk
 rw[hv] at hl
 have c8:=H.out.lies.cell (i:=8) rfl
 clear iv hv
 go_enter Tryz.func136,Tryz.ntmps136
 go_wp2_with fail
 refine (clone_ok v (S x) b _ I0 hn).mono ?_
 rintro r w1 ⟨v',rfl,o1,k1⟩
 have O1:=hid o1
 have K1:=hid k1
 clear o1 k1 hl c8
 go_wp2
 go_ret
 exact⟨v',rfl,O1.out,K1.out⟩
end Grp
namespace Grp
open Small Foot Pane
theorem made(w W:World)(cf:C8)(tg m g:Nat)(FT:Nat→Prop)(K:Below w.heap.size w W)(hl:Lies W g 190 (gcl cf m tg))(hm:Mp W m (fun _=>none) 0)(ht:Tmr.Ts W tg 0 (fun _=>False) FT)
  (h1:g≠m) (h2:¬FT g) (h3:¬FT m) (b1:w.heap.size≤g) (b2:w.heap.size≤m) (b3:From w.heap.size FT):
  Gq W g m tg cf (fun _=>[]) (fun _=>False) 0 0 (fun _=>none) FT (fun _=>False)∧From w.heap.size (Fp g m FT)∧Below w.heap.size w W:=
 ⟨⟨hl,hm,ht,h1,h2,h3,fun x=>.inl ⟨rfl,rfl⟩⟩,fun k hk=>by rcases hk with rfl|rfl|hk;exact b1;exact b2;exact b3 k hk,K⟩
set_option maxRecDepth 100000 in
theorem new_ok(cf:C8)(w:World)(M:Hid (Asg.may cf.k cf.s cf.l cf.g cf.z cf.h cf.r cf.c))(s1:cf.s≤9223372036854775807):
  Calls Tryz.prog 76 #[cf.v] w fun r w'=>∃ g m tg FT,r=.returned (.tuple #[gp g,.nilIface])∧Gq w' g m tg cf (fun _=>[]) (fun _=>False) 0 0 (fun _=>none) FT (fun _=>False)∧From w.heap.size (Fp g m FT)∧Below w.heap.size w w':=by
 have X0:=hid (Lies.new w 23 cf.cl)
 have K0:=hid (below1 w (Obj.cells #[.int .i64 cf.k,.int .i64 cf.s,.int .i64 cf.l,.int .i64 cf.g,.int .i64 cf.z,.int .i64 cf.h,.int .i64 cf.r,.int .i64 cf.c] 23))
 go_enter Tryz.func76,Tryz.ntmps76
 go_wp2_with fail
 refine (Asg.may_ok cf.k cf.s cf.l cf.g cf.z cf.h cf.r cf.c _ true (hid (by simp[M.out])) s1).mono ?_
 rintro e w1 ⟨rfl,k1⟩
 have X1:=hid (X0.out.next k1)
 have K1:=hid (after K0.out k1)
 clear k1
 go_wp2_with fail
 have hm:=fun w':World=>run_makeMap (P:=Tryz.prog) 186 w'
 have CS:Hid (∀ w',Below w1.heap.size w1 w'→w'.cell? ⟨w.heap.size,0,none⟩=some (.int .i64 cf.k)∧w'.cell? ⟨w.heap.size,1,none⟩=some (.int .i64 cf.s)∧w'.cell? ⟨w.heap.size,2,none⟩=some (.int .i64 cf.l)∧w'.cell? ⟨w.heap.size,3,none⟩=some (.int .i64 cf.g)∧w'.cell? ⟨w.heap.size,4,none⟩=some (.int .i64 cf.z)∧w'.cell? ⟨w.heap.size,5,none⟩=some (.int .i64 cf.h)∧w'.cell? ⟨w.heap.size,6,none⟩=some (.int .i64 cf.r)∧w'.cell? ⟨w.heap.size,7,none⟩=some (.int .i64 cf.c)∧Below w1.heap.size w1 w'):=hid fun w' hB=>
  ⟨(X1.out.next hB).cell (i:=0) rfl,(X1.out.next hB).cell (i:=1) rfl,(X1.out.next hB).cell (i:=2) rfl,(X1.out.next hB).cell (i:=3) rfl,(X1.out.next hB).cell (i:=4) rfl,(X1.out.next hB).cell (i:=5) rfl,(X1.out.next hB).cell (i:=6) rfl,(X1.out.next hB).cell (i:=7) rfl,hB⟩
 have CB:Hid (∀ w',w'.cell? ⟨w.heap.size,0,none⟩=some (.int .i64 cf.k)∧w'.cell? ⟨w.heap.size,1,none⟩=some (.int .i64 cf.s)∧w'.cell? ⟨w.heap.size,2,none⟩=some (.int .i64 cf.l)∧w'.cell? ⟨w.heap.size,3,none⟩=some (.int .i64 cf.g)∧w'.cell? ⟨w.heap.size,4,none⟩=some (.int .i64 cf.z)∧w'.cell? ⟨w.heap.size,5,none⟩=some (.int .i64 cf.h)∧w'.cell? ⟨w.heap.size,6,none⟩=some (.int .i64 cf.r)∧w'.cell? ⟨w.heap.size,7,none⟩=some (.int .i64 cf.c)∧Below w1.heap.size w1 w'→Below w1.heap.size w1 w'):=hid fun w' h=>h.2.2.2.2.2.2.2.2
 go_region_held3 (fun w'=>w'.cell? ⟨w.heap.size,0,none⟩=some (.int .i64 cf.k)∧w'.cell? ⟨w.heap.size,1,none⟩=some (.int .i64 cf.s)∧w'.cell? ⟨w.heap.size,2,none⟩=some (.int .i64 cf.l)∧w'.cell? ⟨w.heap.size,3,none⟩=some (.int .i64 cf.g)∧w'.cell? ⟨w.heap.size,4,none⟩=some (.int .i64 cf.z)∧w'.cell? ⟨w.heap.size,5,none⟩=some (.int .i64 cf.h)∧w'.cell? ⟨w.heap.size,6,none⟩=some (.int .i64 cf.r)∧w'.cell? ⟨w.heap.size,7,none⟩=some (.int .i64 cf.c)∧Below w1.heap.size w1 w')
  (first|exact CS.out _ (Below.refl _ _).drew|exact CS.out _ (after (by first|assumption|exact (Below.refl _ _).drew|exact CB.out _ (by assumption)) k9)|exact CS.out _ (after (by first|assumption|exact (Below.refl _ _).drew|exact CB.out _ (by assumption)) (below1 _ _)))
  (first|(go_at_call 112;refine (Tmr.new_foot _).mono ?_;rintro e w9 ⟨tg,FT,rfl,T9,F9,k9⟩))
 ·have k9:Below (w1.alloc (Obj.map #[] 0)).heap.size (w1.alloc (Obj.map #[] 0)) w9:=⟨k9.os,k9.tape,k9.output,k9.size,k9.block⟩
  have F9:From (w1.alloc (Obj.map #[] 0)).heap.size FT:=F9;have hs:(w1.alloc (Obj.map #[] 0)).heap.size=w1.heap.size+1:=by simp
  have hz:=k9.size;have hw:=K1.out.size;have KB:=below1 w9 (Obj.cells #[.int .i64 cf.k,.int .i64 cf.s,.int .i64 cf.l,.int .i64 cf.g,.int .i64 cf.z,.int .i64 cf.h,.int .i64 cf.r,.int .i64 cf.c,.map (some w1.heap.size),.pointer (some ⟨tg,0,none⟩)] 190)
  have FIN:=made w (w9.alloc (Obj.cells #[.int .i64 cf.k,.int .i64 cf.s,.int .i64 cf.l,.int .i64 cf.g,.int .i64 cf.z,.int .i64 cf.h,.int .i64 cf.r,.int .i64 cf.c,.map (some w1.heap.size),.pointer (some ⟨tg,0,none⟩)] 190)) cf tg w1.heap.size w9.heap.size FT (after K1.out (after (below1 w1 (Obj.map #[] 0)) (after k9 KB))) (Lies.new w9 190 (gcl cf w1.heap.size tg))
   ((Mp.made w1).kept (((KB.block _ (by omega)).trans (k9.block _ (by omega)))) ) (T9.next KB) (by omega) (fun q=>by have:=T9.in _ q;omega) (fun q=>by have:=F9 _ q;omega) (by omega) (by omega) (fun k hk=>by have:=F9 k hk;omega)
  go_wp2;go_ret2;exact⟨_,_,_,_,rfl,FIN⟩
 ·have k9:Below w1.heap.size w1 w9:=⟨k9.os,k9.tape,k9.output,k9.size,k9.block⟩
  have F9:From w1.heap.size FT:=F9;have hs:(w9.alloc (Obj.map #[] 0)).heap.size=w9.heap.size+1:=by simp
  have hz:=k9.size;have hw:=K1.out.size;have KB:=below1 (w9.alloc (Obj.map #[] 0)) (Obj.cells #[.int .i64 cf.k,.int .i64 cf.s,.int .i64 cf.l,.int .i64 cf.g,.int .i64 cf.z,.int .i64 cf.h,.int .i64 cf.r,.int .i64 cf.c,.map (some w9.heap.size),.pointer (some ⟨tg,0,none⟩)] 190);have hl:=Lies.new (w9.alloc (Obj.map #[] 0)) 190 (gcl cf w9.heap.size tg);rw[hs] at hl
  have FIN:=made w ((w9.alloc (Obj.map #[] 0)).alloc (Obj.cells #[.int .i64 cf.k,.int .i64 cf.s,.int .i64 cf.l,.int .i64 cf.g,.int .i64 cf.z,.int .i64 cf.h,.int .i64 cf.r,.int .i64 cf.c,.map (some w9.heap.size),.pointer (some ⟨tg,0,none⟩)] 190)) cf tg w9.heap.size (w9.heap.size+1) FT (after K1.out (after k9 (after (below1 w9 (Obj.map #[] 0)) KB))) hl
   ((Mp.made w9).kept (KB.block _ (by omega))) ((T9.next (below1 w9 (Obj.map #[] 0))).next KB) (by omega) (fun q=>by have:=T9.in _ q;omega) (fun q=>by have:=T9.in _ q;omega) (by omega) (by omega) (fun k hk=>by have:=F9 k hk;omega)
  go_wp2;go_ret2;exact⟨_,_,_,_,rfl,FIN⟩
end Grp
namespace Gr
open Small Foot Pane Grp
def Is(w:World)(g:Nat)(F:Nat→Prop)(cf:C8)(S:Lists)(N n:Nat):Prop:=
 ∃ m tg cnt fm FT Bk,Gq w g m tg cf S (duesOf S) n cnt fm FT Bk∧Ok cf.k S N∧n≤N∧cnt≤N∧(∀ k,F k↔(Fp g m FT k∨Bk k))∧∀ k,Bk k→k<w.heap.size
section
variable {w w':World} {g m tg n cnt N N':Nat} {cf:C8} {S:Lists} {M:Tmr.Tm→Prop} {f:ByteArray→Option Value} {FT Bk F:Nat→Prop}
theorem stay(h:Gq w g m tg cf S M n cnt f FT Bk)(kf:∀ i,Fp g m FT i→w'.heap[i]?=w.heap[i]?)(kb:∀ i,Bk i→w'.heap[i]?=w.heap[i]?)(s:w.heap.size≤w'.heap.size):Gq w' g m tg cf S M n cnt f FT Bk:=by
 refine⟨(kf g (.inl rfl)).trans h.lies,h.map.kept (kf m (.inr (.inl rfl))),h.ts.keep (fun i hi=>kf i (.inr (.inr hi))) s,h.ne,h.ng,h.nm,fun x=>?_⟩
 rcases h.lists x with q|⟨q,v,b,q1,q2,q3,q4,q5,q6⟩
 ·exact .inl q
 ·exact .inr ⟨q,v,b,q1,q2.keep (kb b q6) s,q3,q4,q5,q6⟩
theorem Is.keep(h:Is w g F cf S N n)(k:∀ i,F i→w'.heap[i]?=w.heap[i]?)(s:w.heap.size≤w'.heap.size):Is w' g F cf S N n:=by
 obtain⟨m,tg,cnt,fm,FT,Bk,q,o,hn,hc,hF,hB⟩:=h
 exact⟨m,tg,cnt,fm,FT,Bk,stay q (fun i hi=>k i ((hF i).2 (.inl hi))) (fun i hi=>k i ((hF i).2 (.inr hi))) s,o,hn,hc,hF,fun i hi=>Nat.lt_of_lt_of_le (hB i hi) s⟩
theorem Is.in(h:Is w g F cf S N n):In w F:=by
 obtain⟨m,tg,cnt,fm,FT,Bk,q,o,hn,hc,hF,hB⟩:=h
 intro k hk
 rcases (hF k).1 hk with r|r
 ·exact q.in k r
 ·exact hB k r
theorem Is.next(h:Is w g F cf S N n)(k:Below w.heap.size w w'):Is w' g F cf S N n:=h.keep (fun i hi=>k.block i (h.in i hi)) k.size
theorem Is.beside{G G':Nat→Prop}(h:Is w g F cf S N n)(k:Moves G G' w w')(a:Apart F G):Is w' g F cf S N n:=h.keep (fun i hi=>k.block i (h.in i hi) (a i hi)) k.size
theorem Is.ok(h:Is w g F cf S N n):Ok cf.k S N:=by
 obtain⟨m,tg,cnt,fm,FT,Bk,q,o,hn,hc,hF,hB⟩:=h
 exact o
theorem Is.few(h:Is w g F cf S N n):n≤N:=by
 obtain⟨m,tg,cnt,fm,FT,Bk,q,o,hn,hc,hF,hB⟩:=h
 exact hn
theorem ok_more{k:Int}(h:Ok k S N)(hN:N≤N'):Ok k S N':=⟨fun z=>by obtain⟨i,c,q⟩:=h.cnt z;exact⟨i,c,by omega⟩,h.key,h.apart⟩
theorem Is.more(h:Is w g F cf S N n)(hN:N≤N'):Is w g F cf S N' n:=by
 obtain⟨m,tg,cnt,fm,FT,Bk,q,o,hn,hc,hF,hB⟩:=h
 exact⟨m,tg,cnt,fm,FT,Bk,q,ok_more o hN,by omega,by omega,hF,hB⟩
theorem Is.fine(h:Is w g F cf S N n)(hN:N≤8880):Fine S:=h.ok.fine (by omega)
theorem Is.grown{b:Nat}(h:Is w g F cf S N n)(k:w.grownBy w' (some b))(hb:¬F b):Is w' g F cf S N n:=h.keep (fun i hi=>k.block i (h.in i hi) fun e=>hb (Option.some.inj e▸hi)) k.size
theorem moves_te{sv:Value}{O:List Pn}{c n' cnt':Nat}{S':Lists}{f':ByteArray→Option Value}{FT' Bk' F':Nat→Prop}(t:TE w g m tg cf n cnt N FT Bk sv O c S' n' cnt' f' FT' Bk' w')(hF:∀ k,F k↔(Fp g m FT k∨Bk k))(hF':∀ k,F' k↔(Fp g m FT' k∨Bk' k)):Moves F F' w w':=
 ⟨t.v.os,t.v.tape,t.v.output,t.v.size,fun k hk hn=>t.v.block k hk fun q=>hn ((hF k).2 (.inl q)),fun k hk=>by
  rcases (hF' k).1 hk with r|r
  ·exact⟨(t.v.new k r).1.elim (fun q=>.inl ((hF k).2 (.inl q))) .inr,(t.v.new k r).2⟩
  ·exact⟨(t.bk k r).1.elim (fun q=>.inl ((hF k).2 (.inr q))) .inr,(t.bk k r).2⟩⟩
end
theorem own_base{α:Type}{K:Kind α}{base base':Nat}{w:World}{v:Value}{L:List α}(h:Sl.Own K base w v L)(hb:base'≤base):Sl.Own K base' w v L:=by
 refine⟨h.1,?_⟩
 rcases h.2 with h|⟨g,cap,cur,h1,h2,h3⟩
 ·exact .inl h
 ·exact .inr ⟨g,cap,cur,h1,by omega,h3⟩
theorem own_grown{α:Type}{K:Kind α}{base b:Nat}{w w':World}{v:Value}{L:List α}(h:Sl.Own K base w v L)(k:w.grownBy w' (some b))(hb:b<base):Sl.Own K base w' v L:=
 h.move fun a ha=>k.block a (h.lt a ha).2 fun e=>by have:=(h.lt a ha).1;have:=Option.some.inj e;omega
theorem dues_none(y:Tmr.Tm):False↔duesOf (fun _=>[]) y:=⟨fun h=>h.elim,fun ⟨p,hp,_⟩=>by cases hp⟩
theorem ok_none(kind:Int)(N:Nat):Ok kind (fun _=>[]) N:=⟨fun x=>⟨0,Cnt.nil,Nat.zero_le _⟩,fun x p hp=>(by cases hp),fun _ x=>⟨fun p hp=>(by cases hp),List.Pairwise.nil⟩⟩
theorem dued{w:World}{g m tg n cnt:Nat}{cf:C8}{S:Lists}{M M':Tmr.Tm→Prop}{f:ByteArray→Option Value}{FT Bk:Nat→Prop}(h:Gq w g m tg cf S M n cnt f FT Bk)(e:∀ y,M y↔M' y):Gq w g m tg cf S M' n cnt f FT Bk:=
 ⟨h.lies,h.map,h.ts.congr e,h.ne,h.ng,h.nm,h.lists⟩
theorem new_ok(cf:C8)(w:World)(M:Hid (Asg.may cf.k cf.s cf.l cf.g cf.z cf.h cf.r cf.c))(s1:cf.s≤9223372036854775807):
  Calls Tryz.prog 76 #[cf.v] w fun r w'=>∃ g F,r=.returned (.tuple #[gp g,.nilIface])∧Is w' g F cf (fun _=>[]) 0 0∧From w.heap.size F∧Below w.heap.size w w':=by
 refine (Grp.new_ok cf w M s1).mono ?_
 rintro r w1 ⟨g,m,tg,FT,rfl,Q,F,k⟩
 exact⟨g,Fp g m FT,rfl,⟨m,tg,0,_,FT,_,dued Q dues_none,ok_none _ _,Nat.le_refl _,Nat.le_refl _,fun k=>by simp,fun k h=>h.elim⟩,F,k⟩
def Settled(w:World)(g:Nat)(F:Nat→Prop)(cf:C8)(S:Lists)(N n:Nat)(mark:Int)(r:Ending)(w':World):Prop:=
 ∃ sv O S' n' F',r=.returned sv∧Outs cf.z mark S O S'∧NoneOver cf.z mark S'∧O.length+n'=n∧Is w' g F' cf S' N n'∧Moves F F' w w'∧Sl.Own Pn.k w.heap.size w' sv O∧∀ b,sv.ownBlock=some b→¬F' b
theorem settle_ok{g N n:Nat}{cf:C8}{S:Lists}{F:Nat→Prop}(mark:Int)(w:World)(H:Hid (Is w g F cf S N n))(hN:N≤8880)(fz:Hid ((Lit.int .i64 cf.z).wf=true))(fk:Hid ((Lit.int .i64 mark).wf=true)):
  Calls Tryz.prog 102 #[gp g,.int .i64 mark] w (Settled w g F cf S N n mark):=by
 obtain⟨m,tg,cnt,fm,FT,Bk,q,o,hn,hc,hF,hB⟩:=H.out
 refine (Grp.settle_ok mark w (hid q) (hid (o.fine (by omega))) (hid hB) (by omega) fz fk).mono ?_
 rintro r w1 ⟨sv,O,S1,n1,cnt1,f1,FT1,Bk1,rfl,Q1,NO⟩
 have te:=Q1.te o
 exact⟨sv,O,S1,n1,fun k=>Fp g m FT1 k∨Bk1 k,rfl,Q1.outs,NO,Q1.len,⟨m,tg,cnt1,f1,FT1,Bk1,te.q,te.ok,by have:=Q1.len;omega,by have:=Q1.cnt;omega,fun _=>Iff.rfl,fun k hk=>(te.bk k hk).2⟩,moves_te te hF (fun _=>Iff.rfl),te.out,fun b hb q=>q.elim (te.ap b hb).1 (te.ap b hb).2⟩
def Took(w:World)(g:Nat)(F:Nat→Prop)(cf:C8)(S:Lists)(N n:Nat)(key:ByteArray)(v mark:Int)(x:Option (Nat×Int×Int×Int))(r:Ending)(w':World):Prop:=
 ∃ sv O S1 code c S' n' F',r=.returned (.tuple #[.int .i64 code,sv])∧Outs cf.z mark S O S1∧NoneOver cf.z mark S1∧Taken cf.k key v cf.z mark x S1 code c S'∧n'≤n+c∧Is w' g F' cf S' (N+c) n'∧Moves F F' w w'∧Sl.Own Pn.k w.heap.size w' sv O∧∀ b,sv.ownBlock=some b→¬F' b
theorem take_ok{g N n:Nat}{cf:C8}{S:Lists}{F:Nat→Prop}(key:ByteArray)(t v mark:Int)(x:Option (Nat×Int×Int×Int))(w:World)(H:Hid (Is w g F cf S N n))(hN:N≤8880)(M:Hid (Asg.may cf.k cf.s cf.l cf.g cf.z cf.h cf.r cf.c))(B:Hid (cf.s≤9223372036854775807∧cf.l≤9223372036854775807∧cf.g≤9223372036854775807∧cf.z≤9223372036854775807))
  (ft:Hid ((Lit.int .i64 t).wf=true)) (fk:Hid ((Lit.int .i64 mark).wf=true)) (hk:key.size≤maxLen) (T:Hid (Asg.Told cf.k cf.s cf.l cf.g cf.z t x)):
  Calls Tryz.prog 135 #[gp g,.string key,.int .i64 t,.int .i64 v,.int .i64 mark] w (Took w g F cf S N n key v mark x):=by
 obtain⟨m,tg,cnt,fm,FT,Bk,q,o,hn,hc,hF,hB⟩:=H.out
 refine (Grp.take_ok key t v mark x w (hid q) (hid o) (by omega) (hid hB) (by omega) (by omega) M B ft fk hk T).mono ?_
 rintro r w1 ⟨sv,O,S1,code,c,S',n',cnt',f',FT',Bk',rfl,ho,hno,htk,te⟩
 exact⟨sv,O,S1,code,c,S',n',fun k=>Fp g m FT' k∨Bk' k,rfl,ho,hno,htk,te.n,⟨m,tg,cnt',f',FT',Bk',te.q,te.ok,by have:=te.n;omega,by have:=te.cnt;omega,fun _=>Iff.rfl,fun k hk=>(te.bk k hk).2⟩,moves_te te hF (fun _=>Iff.rfl),te.out,fun b hb q=>q.elim (te.ap b hb).1 (te.ap b hb).2⟩
theorem panes_ok{g N n:Nat}{cf:C8}{S:Lists}{F:Nat→Prop}(x:ByteArray)(w:World)(H:Hid (Is w g F cf S N n))(hN:N≤8880)(hk:x.size≤maxLen):
  Calls Tryz.prog 136 #[gp g,.string x] w fun r w'=>∃ v',r=.returned v'∧Sl.Own Pn.k w.heap.size w' v' (S x)∧Below w.heap.size w w':=by
 have F:=H.out.fine hN
 obtain⟨m,tg,cnt,fm,FT,Bk,q,o,hn,hc,hF,hB⟩:=H.out
 exact Grp.panes_ok x w (hid q) (F.few x) hk
theorem told16{cf:C8}{t:Int}{z:Option (Nat×Int×Int×Int)}(M:Asg.may cf.k cf.s cf.l cf.g cf.z cf.h cf.r cf.c)(t0:-9223372036854775808≤t)(s1:cf.s≤9223372036854775807)(g1:cf.g≤9223372036854775807)(T:Asg.Told cf.k cf.s cf.l cf.g cf.z t z):∀ nn a d l,z=some (nn,a,d,l)→nn≤16∧1≤l:=fun nn a d l e=>by
 subst e
 obtain⟨h1,-,h2,-⟩:=told_fits M t0 s1 g1 T
 exact⟨h1,h2⟩
theorem tk_none{kind v late mark a d l:Int}{key:ByteArray}{S S':Lists}{i c:Nat}(t:Tk kind key v late mark a d l S i c S')(h:c=0):S'=S:=by
 induction t with
 |zero=>rfl
 |over _ _ ih=>exact ih h
 |put _ _ _ _=>omega
theorem taken16{kind v late mark code:Int}{key:ByteArray}{z:Option (Nat×Int×Int×Int)}{S S':Lists}{c:Nat}(h:Taken kind key v late mark z S code c S')(hz:∀ nn a d l,z=some (nn,a,d,l)→nn≤16∧1≤l):c≤16∧(code=0∨code=1∨code=4)∧(code≠0→S'=S):=by
 cases z with
 |none=>obtain⟨rfl,rfl,rfl⟩:=h;exact⟨by omega,by omega,fun _=>rfl⟩
 |some y=>
  obtain⟨nn,a,d,l⟩:=y;obtain⟨h1,h2⟩:=hz nn a d l rfl;obtain⟨tk,hc⟩:=h;have hle:=tk.le;refine⟨by omega,by rw[hc];split<;>simp,fun h0=>?_⟩
  have c0:c=0:=by
   by_cases e:c=0
   ·exact e
   ·rw[if_neg e] at hc;exact absurd hc h0
  exact tk_none tk c0
end Gr
end Go.Proofs.YtfjlnniahfbdfaaGreat
