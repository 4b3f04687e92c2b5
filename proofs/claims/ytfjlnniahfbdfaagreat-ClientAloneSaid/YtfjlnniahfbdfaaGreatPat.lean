/- A part of the proof. -/
import Derived.Test.YtfjlnniahfbdfaaGreatPac
import Derived.LoopTactic
import Derived.Lib.SliceRun
import Derived.Deep.RegionLaw
import Derived.Test.YtfjlnniahfbdfaaGreatPag
import Derived.Test.YtfjlnniahfbdfaaGreatPaa
import Derived.Laws.BitsAllLaws
import Derived.Laws.Strings
import Derived.BigQuiet
import Derived.Test.YtfjlnniahfbdfaaGreatRows
import Derived.WalkKit
import Derived.ProofKit
import Derived.OpenShut
import Derived.Lib.SmallJoins
import Derived.Deep.Slices
set_option linter.unusedVariables false
set_option maxHeartbeats 4000000
namespace Go.Proofs.YtfjlnniahfbdfaaGreat
open Lib (hid)
open Go.ChangeShapes Go.WideShapes Go.ChangeAt Go.RowKit
namespace Out
open Small
def Rd(w:World)(v:Value)(L:List Pn):Prop:=(∃ b,Sl.Is Pn.k w v L b)∨(L=[]∧∃ a cap,v=.slice (some a) 0 cap)
theorem Rd.len{w:World}{v:Value}{L:List Pn}(h:Rd w v L):∃ A cap,v=.slice A L.length cap:=by
 rcases h with ⟨b,h⟩|⟨rfl,a,cap,rfl⟩
 ·exact h.len
 ·exact⟨some a,cap,rfl⟩
theorem Rd.some_{w:World}{v:Value}{L:List Pn}(h:Rd w v L)(h0:0<L.length):∃ b off cap,v=.slice (some ⟨b,off,none⟩) L.length cap∧L.length≤cap∧cap≤maxLen∧b<w.heap.size∧∀ i x,L[i]?=some x→∀ j u,(Pn.cl x)[j]?=some u→w.cell? ⟨b,off+(i*7+j),none⟩=some u:=by
 rcases h with ⟨b,h⟩|⟨rfl,_⟩
 ·exact⟨b,h.some_ Pn.ok h0⟩
 ·simp at h0
theorem Rd.next{w w':World}{v:Value}{L:List Pn}(h:Rd w v L)(k:Below w.heap.size w w'):Rd w' v L:=by
 rcases h with ⟨b,h⟩|h
 ·exact .inl ⟨b,h.next k⟩
 ·exact .inr h
theorem Rd.own{w:World}{v:Value}{L:List Pn}{base:Nat}(h:Sl.Own Pn.k base w v L):Rd w v L:=by
 obtain⟨b,_,h⟩:=h.is
 exact .inl ⟨b,h⟩
theorem at_some{L:List Pn}{i:Nat}(h:i<L.length):∃ x,L[i]?=some x:=⟨L[i],by simp[h]⟩
theorem pane_cells{w:World}{b off:Nat}{L:List Pn}{i:Nat}{x:Pn}(hx:L[i]?=some x)(hc:∀ i x,L[i]?=some x→∀ j u,(Pn.cl x)[j]?=some u→w.cell? ⟨b,off+(i*7+j),none⟩=some u):
  w.cell? ⟨b,off+i*7,none⟩=some (.string x.key)∧w.cell? ⟨b,off+i*7+1,none⟩=some (.int .i64 x.s)∧w.cell? ⟨b,off+i*7+2,none⟩=some (.int .i64 x.e)∧w.cell? ⟨b,off+i*7+3,none⟩=some (.int .i64 x.c)∧
   w.cell? ⟨b,off+i*7+4,none⟩=some (.int .i64 x.m)∧w.cell? ⟨b,off+i*7+5,none⟩=some (.int .i64 x.l)∧w.cell? ⟨b,off+i*7+6,none⟩=some (.int .i64 x.u):=by
 have h:=hc i x hx
 simp only[←Nat.add_assoc] at h
 exact⟨h 0 _ rfl,h 1 _ rfl,h 2 _ rfl,h 3 _ rfl,h 4 _ rfl,h 5 _ rfl,h 6 _ rfl⟩
theorem neq_ok(a b:Pn)(w:World):(binOp .neq 133 a.v b.v).run Tryz.prog w=.ok (.bool (!decide (a=b))) w:=by
 have h:decide (a=b)=(a.key.toList == b.key.toList&&(a.s == b.s&&(a.e == b.e&&(a.c == b.c&&(a.m == b.m&&(a.l == b.l&&a.u == b.u)))))):=by
  obtain⟨a0,a1,a2,a3,a4,a5,a6⟩:=a;obtain⟨b0,b1,b2,b3,b4,b5,b6⟩:=b;rw[Bool.eq_iff_iff];simp[Pn.bytes_ext]
 rw[h]
 cases h0:(a.key.toList == b.key.toList)
 ·simp[go_sem,h0]
 cases h1:(a.s == b.s)
 ·simp[go_sem,h0,h1]
 cases h2:(a.e == b.e)
 ·simp[go_sem,h0,h1,h2]
 cases h3:(a.c == b.c)
 ·simp[go_sem,h0,h1,h2,h3]
 cases h4:(a.m == b.m)
 ·simp[go_sem,h0,h1,h2,h3,h4]
 cases h5:(a.l == b.l)
 ·simp[go_sem,h0,h1,h2,h3,h4,h5]
 cases h6:(a.u == b.u)
 ·simp[go_sem,h0,h1,h2,h3,h4,h5,h6]
 simp[go_sem,h0,h1,h2,h3,h4,h5,h6]
theorem take_next{L M:List Pn}{i:Nat}{p q:Pn}(h:L.take i=M.take i)(hp:L[i]?=some p)(hq:M[i]?=some q)(e:p=q):L.take (i+1)=M.take (i+1):=by
 rw[List.take_add_one,List.take_add_one,h,hp,hq,e]
theorem ne_at{L M:List Pn}{i:Nat}{p q:Pn}(hp:L[i]?=some p)(hq:M[i]?=some q)(e:p≠q):L≠M:=by
 rintro rfl
 rw[hp] at hq
 exact e (Option.some.inj hq)
set_option maxRecDepth 100000 in
theorem equal_ok(l m:Value)(L M:List Pn)(w:World)(H:Hid (Rd w l L))(G:Hid (Rd w m M))(hn:L.length≤9000)(hn2:M.length≤9000):
  Calls Tryz.prog 61 #[l,m] w fun r w'=>r=.returned (.bool (decide (L=M)))∧Below w.heap.size w w':=by
 obtain⟨AD,cap,hl⟩:=H.out.len
 obtain⟨AE,cap2,hm⟩:=G.out.len
 subst hl hm
 by_cases hlen:L.length=M.length
 ·have HL:=hid hlen
  have hlz:((L.length:Int) != (M.length:Int))=false:=by simp[hlen]
  have hlz2:(M.length:Int)=(L.length:Int):=by omega
  clear hlen;go_enter Tryz.func61,Tryz.ntmps61;go_wp2_with fail
  go_loopw [13] (fun si wr=>∃ (i:Nat),i≤L.length∧si=.int .i64 i∧Hid (L.take i=M.take i)∧Hid (Below w.heap.size w wr)) (fun si _=>L.length-(intOf si).toNat)
  case atStart=>exact⟨0,by omega,rfl,hid rfl,hid (Below.refl _ _)⟩
  case round=>
   obtain⟨i,hi,rfl,E,K⟩:=hrel;by_cases hlt:i<L.length
   ·obtain⟨b,off,cap',he,h2,h3,h4,hcell⟩:=H.out.some_ (by omega)
    obtain⟨rfl,rfl⟩:AD=some ⟨b,off,none⟩∧cap=cap':=by simpa using he
    obtain⟨c,off2,cap3,he2,h22,h23,h24,hcell2⟩:=G.out.some_ (by have:=HL.out;omega)
    obtain⟨rfl,rfl⟩:AE=some ⟨c,off2,none⟩∧cap2=cap3:=by simpa using he2
    obtain⟨p,hp⟩:=at_some hlt;obtain⟨q,hq⟩:=at_some (L:=M) (i:=i) (by have:=HL.out;omega)
    obtain⟨c0,c1,c2,c3,c4,c5,c6⟩:=pane_cells hp hcell;obtain⟨d0,d1,d2,d3,d4,d5,d6⟩:=pane_cells hq hcell2;have i0:(i:Int)<L.length:=by omega
    have ne:∀ w':World,(binOp .neq 133 (.agg #[.string p.key,.int .i64 p.s,.int .i64 p.e,.int .i64 p.c,.int .i64 p.m,.int .i64 p.l,.int .i64 p.u]) (.agg #[.string q.key,.int .i64 q.s,.int .i64 q.e,.int .i64 q.c,.int .i64 q.m,.int .i64 q.l,.int .i64 q.u])).run Tryz.prog w'=.ok (.bool (!decide (p=q))) w':=fun w'=>neq_ok p q w'
    have HP:=hid hp;have HQ:=hid hq;obtain⟨d,hd⟩:∃ d,decide (p=q)=d:=⟨_,rfl⟩;rw[hd] at ne;have HD:=hid hd;clear hcell he h2 h3 h4 hp hcell2 he2 h22 h23 h24 hq hd;go_wp2_with fail
    have f0:=Later.cell (cell_keep K.out c0);have f1:=Later.cell (cell_keep K.out c1);have f2:=Later.cell (cell_keep K.out c2);have f3:=Later.cell (cell_keep K.out c3);have f4:=Later.cell (cell_keep K.out c4);have f5:=Later.cell (cell_keep K.out c5);have f6:=Later.cell (cell_keep K.out c6);have g0:=Later.cell (cell_keep K.out d0);have g1:=Later.cell (cell_keep K.out d1);have g2:=Later.cell (cell_keep K.out d2);have g3:=Later.cell (cell_keep K.out d3);have g4:=Later.cell (cell_keep K.out d4);have g5:=Later.cell (cell_keep K.out d5);have g6:=Later.cell (cell_keep K.out d6);clear c0 c1 c2 c3 c4 c5 c6 d0 d1 d2 d3 d4 d5 d6;refine wp_region_later (by kernel_rfl) (by kernel_rfl) ?_
    repeat (go_big_quiet_step (fail))
    refine wpQuiet_nil ?_
    rintro _ ⟨u,rfl⟩;have K2:=hid (after K.out u.below);clear f0 f1 f2 f3 f4 f5 f6 g0 g1 g2 g3 g4 g5 g6;generalize u.w=w2 at *;cases d with
    |true=>
     go_wp2_with fail
     exact⟨⟨i+1,by omega,by go_num,hid (take_next E.out HP.out HQ.out (of_decide_eq_true HD.out)),K2⟩,by simp[intOf];omega⟩
    |false=>
     go_wp2;go_ret;exact⟨ret_bool (decide_eq_false (ne_at HP.out HQ.out (of_decide_eq_false HD.out))).symm,K2.out⟩
   ·obtain rfl:i=L.length:=by omega
    go_wp2;go_ret;exact⟨ret_bool (decide_eq_true (by have:=E.out;rwa [List.take_length,HL.out,List.take_length] at this)).symm,K.out⟩
 ·have hlz:((L.length:Int) != (M.length:Int))=true:=by simp;omega
  have HD:Hid (decide (L=M)=false):=hid (decide_eq_false fun h=>hlen (by rw[h]))
  clear hlen;go_enter Tryz.func61,Tryz.ntmps61;go_wp2;go_ret;exact⟨ret_bool HD.out.symm,Below.refl _ _⟩
end Out
namespace Out
open Small
set_option maxRecDepth 100000
theorem run_append_0(ty:TypeId){w:World}{v:Value}{L:List Pn}{base:Nat}(a:Addr)(cap:Nat)(h:Sl.Own Pn.k base w v L)(hn:L.length≤1048576)(hb:base≤w.heap.size):
  ∃ v' w',(Builtin.append_ #[Pn.k.t,Pn.k.t] ty #[v,.slice (some a) 0 cap]).run Tryz.prog w=.ok v' w'∧Sl.Own Pn.k base w' v' L∧w.grownBy w' v.ownBlock∧(v'.ownBlock=v.ownBlock∨v'.ownBlock=some w.heap.size):=by
 have O:=Pn.ok
 obtain⟨i0,hi,hz0,hz1,hz2⟩:=info_parts O.info
 have hsm:=O.small
 obtain⟨v',w',hr,q1,q2,_,q3⟩:=run_append_own_at (P:=Tryz.prog) w base Pn.k.t ty Pn.k.e i0 Pn.k.zero Pn.k.k Pn.k.bytes O.under hi hz0 hz1 hz2 O.zs O.pos v _ _ h a 0 cap [] (by simp)
  (fun j u hj=>by simp at hj) (fun u hu=>by simp at hu) (by unfold maxLen;omega) (Nat.le_trans (Nat.mul_le_mul (show L.length+0≤1048576 by omega) hsm) (by decide)) hb
 exact⟨v',w',hr,by rw[List.append_nil] at q1;exact q1,q2,q3⟩
theorem run_append_rd(ty:TypeId){w:World}{v x:Value}{L X:List Pn}{base:Nat}(h:Sl.Own Pn.k base w v L)(hx:Rd w x X)(hn:L.length+X.length≤1048576)(hb:base≤w.heap.size):
  ∃ v' w',(Builtin.append_ #[Pn.k.t,Pn.k.t] ty #[v,x]).run Tryz.prog w=.ok v' w'∧Sl.Own Pn.k base w' v' (L++X)∧w.grownBy w' v.ownBlock∧(v'.ownBlock=v.ownBlock∨v'.ownBlock=some w.heap.size):=by
 rcases hx with ⟨b,hx⟩|⟨rfl,a,cap,rfl⟩
 ·exact Sl.run_append Pn.ok ty h hx hn hb
 ·rw[List.append_nil]
  exact run_append_0 ty a cap h (by omega) hb
theorem wp_append_0{w:World}{o:Oper}{a:Act}{Kc:Act→World→Prop}{Q:Exit→Act→World→Prop}{b cap:Nat}{ad:Addr}(s x:Operand)(hop:o.op=Op.call {callee:=Callee.builtin Builtin.append,args:=#[s,x],argTypes:=#[Pn.k.t,Pn.k.t]})
  (hs:a.eval s=.slice (some ⟨b,0,none⟩) 0 0) (hx:a.eval x=.slice (some ad) 0 cap) (hK:Kc (a.put o.dst (.slice (some ⟨b,0,none⟩) 0 0)) w):o.wp Tryz.prog a w Kc Q:=by
 obtain⟨i0,hi,hz0,hz1,hz2⟩:=info_parts Pn.ok.info
 have hf:=run_firstCells_some (P:=Tryz.prog) w i0.size 0 ad 0 cap [] (by simp) (by simp)
 have hr:(Builtin.append_ #[Pn.k.t,Pn.k.t] o.type #[.slice (some ⟨b,0,none⟩) 0 0,.slice (some ad) 0 cap]).run Tryz.prog w=.ok (.slice (some ⟨b,0,none⟩) 0 0) w:=by
  simp[Builtin.append_,run_underlying Pn.ok.under,sizeOf,typeInfo,hi,Builtin.lenOf,hf,storeCells,Result.andThen]
 unfold Oper.wp
 simp[execOp,hop,resolve,invoke,builtin,hs,hx,hr,Result.andThen]
 exact hK
theorem clone_is(v:Value)(L:List Pn)(b:Nat)(w:World)(H:Hid (Sl.Is Pn.k w v L b))(hn:L.length≤9000):
  Calls Tryz.prog 71 #[v] w fun r w'=>∃ v',r=.returned v'∧Sl.Own Pn.k w.heap.size w' v' L∧Below w.heap.size w w':=by
 rcases H.out with ⟨rfl,rfl⟩|⟨off,cap,rfl,h2,h3,h4,h5⟩
 ·clear H
  go_enter Tryz.func71,Tryz.ntmps71;have e0:∀ w,(binOp .eql 41 (.slice none 0 0) (.slice none 0 0)).run Tryz.prog w=.ok (.bool true) w:=fun w=>Lib.run_eql_slice_nil w _ _ _ _ _ _ _ Tryz.underlying41
  go_wp2;go_ret;exact⟨_,rfl,Sl.Own.nil _ _ _,Below.refl _ _⟩
 ·clear h2 h3 h4 h5
  go_enter Tryz.func71,Tryz.ntmps71;have e0:∀ w,(binOp .eql 41 (.slice (some ⟨b,off,none⟩) L.length cap) (.slice none 0 0)).run Tryz.prog w=.ok (.bool false) w:=fun w=>Lib.run_eql_slice_nil w _ _ _ _ _ _ _ Tryz.underlying41
  go_wp2_with (at_builtin;refine wpList_plain rfl fun K' hK'=>Sl.wp_append_empty (K:=Pn.k) Pn.ok (.tmp 5) (.tmp 6) rfl (b:=w.heap.size) (base:=w.heap.size) (l2:=L) (b2:=b) rfl (heap_alloc_new _ _) (Nat.le_refl _) (by exact H.out.next (below1 _ _)) (by omega) (by simp) (fun u w8 x1 x2=>hK' _ _ ?_))
  have B:=hid (after (below1 _ _) x2);have X1:=hid x1;clear x1 x2;go_wp2;go_ret;exact⟨_,rfl,X1.out,B.out⟩
theorem clone_0(a:Addr)(cap:Nat)(w:World):
  Calls Tryz.prog 71 #[.slice (some a) 0 cap] w fun r w'=>∃ v',r=.returned v'∧Sl.Own Pn.k w.heap.size w' v' []∧Below w.heap.size w w':=by
 go_enter Tryz.func71,Tryz.ntmps71
 have e0:∀ w,(binOp .eql 41 (.slice (some a) 0 cap) (.slice none 0 0)).run Tryz.prog w=.ok (.bool false) w:=fun w=>Lib.run_eql_slice_nil w _ _ _ _ _ _ _ Tryz.underlying41
 go_wp2_with (at_builtin;refine wpList_plain rfl fun K' hK'=>wp_append_0 (.tmp 5) (.tmp 6) rfl (b:=w.heap.size) (ad:=a) (cap:=cap) rfl rfl (hK' _ _ ?_))
 go_ret
 exact⟨_,rfl,Sl.Own.empty (heap_alloc_new _ _) (Nat.le_refl _),below1 _ _⟩
theorem clone_ok(v:Value)(L:List Pn)(w:World)(H:Hid (Rd w v L))(hn:L.length≤9000):
  Calls Tryz.prog 71 #[v] w fun r w'=>∃ v',r=.returned v'∧Sl.Own Pn.k w.heap.size w' v' L∧Below w.heap.size w w':=by
 rcases H.out with ⟨b,h⟩|⟨rfl,a,cap,rfl⟩
 ·exact clone_is v L b w (hid h) hn
 ·exact clone_0 a cap w
end Out
namespace Out
open Small
structure Wr(F:Nat→Prop)(w w':World):Prop where
 os:w'.os=w.os
 tape:w'.tape=w.tape
 output:w'.output=w.output
 size:w.heap.size≤w'.heap.size
 block:∀ i,i<w.heap.size→¬F i→w'.heap[i]?=w.heap[i]?
end Out
open Small BigFrame
namespace Fnv
def step(n:Nat)(b:UInt8):Nat:=(n ^^^ b.toNat)*16777619%4294967296
def num(l:List UInt8):Nat:=l.foldl step 2166136261
theorem step_lt(n:Nat)(b:UInt8):step n b<4294967296:=Nat.mod_lt _ (by decide)
theorem fold_lt(l:List UInt8):∀ n:Nat,n<4294967296→l.foldl step n<4294967296:=by
 induction l with
 |nil=>exact fun n h=>h
 |cons b t ih=>exact fun n _=>ih _ (step_lt n b)
theorem num_lt(l:List UInt8):num l<4294967296:=fold_lt l _ (by decide)
theorem fold_snoc(f:Nat→UInt8→Nat)(l:List UInt8)(b:UInt8)(n:Nat):(l++[b]).foldl f n=f (l.foldl f n) b:=by rw[List.foldl_append,List.foldl_cons,List.foldl_nil]
theorem num_snoc(l:List UInt8)(b:UInt8):num (l++[b])=step (num l) b:=by
 unfold num
 exact fold_snoc step l b _
theorem take_next(s:ByteArray)(k:Nat)(h:k<s.size):s.data.toList.take (k+1)=s.data.toList.take k++[s[k]]:=by
 have h':k<s.data.toList.length:=by simpa using h
 rw[List.take_succ_eq_append_getElem h']
 rfl
theorem num_next(s:ByteArray)(k:Nat)(h:k<s.size):num (s.data.toList.take (k+1))=step (num (s.data.toList.take k)) s[k]:=by rw[take_next s k h,num_snoc]
theorem take_all(s:ByteArray):s.data.toList.take s.size=s.data.toList:=List.take_of_length_le (Nat.le_of_eq rfl)
theorem step_code(n:Nat)(b:UInt8)(h:n<4294967296):IntKind.u32.wrap (bits .xor .u32 (n:Int) (IntKind.u32.wrap (b.toNat:Int))*16777619)=((step n b:Nat):Int):=by
 have hb:=b.toNat_lt
 have e:IntKind.u32.wrap (b.toNat:Int)=(b.toNat:Int):=by rw[IntKind.wrap_u32'];omega
 rw[e,IntKind.wrap_u32',u32_xor_nat _ _ h (by omega)]
 unfold step
 omega
theorem sum_ok(s:ByteArray)(w:World)(hs:s.size≤9223372036854775807):
  Calls Tryz.prog 154 #[.string s] w fun r w'=>r=.returned (.int .u32 (num s.data.toList:Nat))∧Below w.heap.size w w':=by
 go_enter Tryz.func154,Tryz.ntmps154
 go_wp2
 go_loopw [3,7] (fun sum si wr=>∃ k:Nat,k≤s.size∧si=.int .i64 k∧sum=.int .u32 (num (s.data.toList.take k):Nat)∧Below w.heap.size w wr) (fun _ si _=>s.size-(intOf si).toNat)
 case atStart=>exact⟨0,Nat.zero_le _,rfl,rfl,Below.refl _ _⟩
 case round=>
  obtain⟨k,hk,rfl,rfl,hb⟩:=hrel;by_cases hlt:k<s.size
  ·have e:=hid (num_next s k hlt)
   have hn:=num_lt (s.data.toList.take k);generalize num (s.data.toList.take k)=n at *;go_wp2;go_roundw
   case rel=>
    refine⟨k+1,hlt,by go_num,?_,hb⟩
    rw[e.out,←step_code n _ hn];rfl
   case measure=>simp[intOf];omega
  ·obtain rfl:k=s.size:=by omega
   rw[take_all] at *;go_wp2;go_ret;exact⟨rfl,hb⟩
theorem may_ok(s:ByteArray)(w:World)(hs:s.size≤9223372036854775807):
  Calls Tryz.prog 119 #[.string s] w fun r w'=>r=.returned (.bool (decide (1≤s.size∧s.size≤20)))∧Below w.heap.size w w':=by
 go_enter Tryz.func119,Tryz.ntmps119
 go_wp2
 all_goals
  go_ret;exact⟨ret_bool (by rw[Bool.eq_iff_iff];simp;omega),Below.refl _ _⟩
def grp(n:Nat)(g:Int):Int:=if g<1 then 0 else n%g
theorem grp_in(n:Nat)(g:Int):0≤grp n g∧(1≤g→grp n g<g):=by
 unfold grp
 split
 ·omega
 ·exact⟨Int.emod_nonneg _ (by omega),fun h=>Int.emod_lt_of_pos _ (by omega)⟩
theorem group_ok(s:ByteArray)(g:Int)(w:World)(hs:s.size≤9223372036854775807)(g0:-9223372036854775808≤g)(g1:g≤9223372036854775807):
  Calls Tryz.prog 134 #[.string s,.int .i64 g] w fun r w'=>r=.returned (.int .i64 (grp (num s.data.toList) g))∧Below w.heap.size w w':=by
 have S:=hid fun w:World=>sum_ok s w hs
 have hn:=num_lt s.data.toList
 generalize num s.data.toList=n at *
 by_cases h:g<1
 ·have e:grp n g=0:=if_pos h
  rw[e];clear e;go_enter Tryz.func134,Tryz.ntmps134;go_wp2;go_ret;exact⟨rfl,Below.refl _ _⟩
 ·have e:grp n g=n%g:=if_neg h
  have e':=hid e;clear e;go_enter Tryz.func134,Tryz.ntmps134;go_wp2_with fail
  refine (S.out _).mono ?_
  rintro e w1 ⟨rfl,k1⟩;go_wp2;go_ret;refine⟨ret_int ?_,k1⟩
  rw[e'.out];have m0:=Int.emod_nonneg (n:Int) (b:=g) (by omega)
  have m1:=Int.emod_lt_of_pos (n:Int) (b:=g) (by omega)
  exact IntWalk.wrap64_in _ (by omega)
end Fnv
set_option maxRecDepth 100000
namespace Opens
theorem cells_cfg:Tryz.prog.cellsOf 23=8:=by kernel_rfl
theorem open_cfg{H:Type}{enc:TypeId×Value→H}{w:World}{base:Nat}{spare:Nat→Bool}{held:Bool}{r:Reach}{b0:Nat}{v:Value}{d:DataW H}{p:List MemPlace}
  (hv:Value.okWide Tryz.prog w r b0 23 v) (h:DataW.Trod enc Tryz.prog w base spare held 23 v d p):
  ∃ x0 x1 x2 x3 x4 x5 x6 x7:Int,v=.agg #[.int .i64 x0,.int .i64 x1,.int .i64 x2,.int .i64 x3,.int .i64 x4,.int .i64 x5,.int .i64 x6,.int .i64 x7]∧
    ((Lit.int .i64 x0).wf=true∧(Lit.int .i64 x1).wf=true∧(Lit.int .i64 x2).wf=true∧(Lit.int .i64 x3).wf=true∧(Lit.int .i64 x4).wf=true∧(Lit.int .i64 x5).wf=true∧(Lit.int .i64 x6).wf=true∧(Lit.int .i64 x7).wf=true):=by
 obtain⟨cs,rfl,hsz⟩:=okWide_struct Tryz.underlying23 hv
 obtain⟨row⟩:=cs
 match row,hsz.trans cells_cfg with
 |[c0,c1,c2,c3,c4,c5,c6,c7],_=>
  obtain⟨fuel,hf⟩:=h;obtain⟨ys,n,_,hy,_,hlen,hat⟩:=DataW.trod_struct Tryz.underlying23 hf
  match ys,hlen with
  |[y0,y1,y2,y3,y4,y5,y6,y7],_=>
   have g0:=hat 0 _ rfl;have g1:=hat 1 _ rfl;have g2:=hat 2 _ rfl;have g3:=hat 3 _ rfl;have g4:=hat 4 _ rfl;have g5:=hat 5 _ rfl;have g6:=hat 6 _ rfl;have g7:=hat 7 _ rfl;have ki:Tryz.prog.cellsOf 3=1:=by kernel_rfl
   have kl:Tryz.prog.cellsOf 2=1:=by kernel_rfl
   simp[Value.cells,ki,kl] at g0 g1 g2 g3 g4 g5 g6 g7;obtain⟨a0,e0,-,w0⟩:=DataW.trod_int Tryz.underlying3 g0;obtain⟨a1,e1,-,w1⟩:=DataW.trod_int Tryz.underlying2 g1;obtain⟨a2,e2,-,w2⟩:=DataW.trod_int Tryz.underlying2 g2;obtain⟨a3,e3,-,w3⟩:=DataW.trod_int Tryz.underlying2 g3;obtain⟨a4,e4,-,w4⟩:=DataW.trod_int Tryz.underlying2 g4;obtain⟨a5,e5,-,w5⟩:=DataW.trod_int Tryz.underlying3 g5;obtain⟨a6,e6,-,w6⟩:=DataW.trod_int Tryz.underlying3 g6;obtain⟨a7,e7,-,w7⟩:=DataW.trod_int Tryz.underlying3 g7;simp at e0 e1 e2 e3 e4 e5 e6 e7;subst e0 e1 e2 e3 e4 e5 e6 e7;exact⟨a0,a1,a2,a3,a4,a5,a6,a7,rfl,w0,w1,w2,w3,w4,w5,w6,w7⟩
end Opens
namespace Opens
set_option maxRecDepth 100000
theorem cells_each{w:World}{base:Nat}{a:Addr}{n:Nat}{cs:List Value}(h:w.cells? base a n=some cs):cs.length=n∧∀ j v,cs[j]?=some v→w.cell? (a.add j)=some v:=by
 obtain⟨h1,h2,h3⟩:=World.cells?_some h
 refine⟨h2,fun j v hj=>?_⟩
 have hl:j<cs.length:=by
  rcases Nat.lt_or_ge j cs.length with q|q
  ·exact q
  ·rw[List.getElem?_eq_none q] at hj;cases hj
 rw[h3 j (by omega),hj]
end Opens
namespace Out
open Small
theorem cellsI64:Tryz.prog.cellsOf 2=1:=by kernel_rfl
theorem cellsStr:Tryz.prog.cellsOf 9=1:=by kernel_rfl
theorem cellsN:Tryz.prog.cellsOf 3=1:=by kernel_rfl
section
variable {H:Type} {enc:TypeId×Value→H} {w:World} {base:Nat} {held:Bool} {spare:Nat→Bool}
end
instance:Inhabited (Value×List Pn):=⟨(.slice none 0 0,[])⟩
end Out
namespace Opens
end Opens
end Go.Proofs.YtfjlnniahfbdfaaGreat
