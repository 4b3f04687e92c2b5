/- A part of the proof. -/
import Derived.Test.YtfjlnniahfbdfaaGreatPaa
import Derived.Test.YtfjlnniahfbdfaaGreatPab
import Derived.Laws.StructEq
import Derived.Test.YtfjlnniahfbdfaaGreatRows
import Derived.WalkKit
import Derived.ProofKit
import Derived.OpenShut
import Derived.IntWalk
import Derived.Lib.Hide
import Derived.Below
import Derived.StillTailTactics
set_option linter.unusedVariables false
set_option maxHeartbeats 4000000
namespace Go.Proofs.YtfjlnniahfbdfaaGreat
open Lib (hid)
open Go.ChangeShapes Go.WideShapes Go.ChangeAt Go.RowKit Small
structure Pn where
 key:ByteArray
 s:Int
 e:Int
 c:Int
 m:Int
 l:Int
 u:Int
 deriving DecidableEq
instance:Inhabited Pn:=⟨⟨⟨#[]⟩,0,0,0,0,0,0⟩⟩
namespace Pn
abbrev tm(p:Pn):Tmr.Tm:=⟨p.key,p.s,p.e⟩
abbrev cl(p:Pn):List Value:=[.string p.key,.int .i64 p.s,.int .i64 p.e,.int .i64 p.c,.int .i64 p.m,.int .i64 p.l,.int .i64 p.u]
abbrev v(p:Pn):Value:=.agg #[.string p.key,.int .i64 p.s,.int .i64 p.e,.int .i64 p.c,.int .i64 p.m,.int .i64 p.l,.int .i64 p.u]
abbrev k:Kind Pn:=⟨41,133,7,64,.agg #[.string ⟨#[]⟩,.int .i64 0,.int .i64 0,.int .i64 0,.int .i64 0,.int .i64 0,.int .i64 0],Pn.cl⟩
theorem ok:Pn.k.Ok where
 under:=Tryz.underlying41
 elem:=by kernel_rfl
 info:=by kernel_rfl
 zs:=by kernel_rfl
 pos:=by decide
 len:=fun _=>rfl
 one:=fun x u h=>by simp at h;rcases h with rfl|rfl|rfl|rfl|rfl|rfl|rfl<;>rfl
 small:=by decide
theorem lit1(p:Pn)(w:World):(Instr.buildSlice Pn.k.t 1 #[(0,p.v)]).run Tryz.prog w=.ok (.slice (some ⟨w.heap.size,0,none⟩) 1 1) (w.alloc (.cells p.cl.toArray Pn.k.e)):=by
 simp[go_sem,Instr.buildSlice,Instr.fill,newRow]
theorem wp_load{w:World}{o:Oper}{a:Act}{Kc:Act→World→Prop}{Q:Exit→Act→World→Prop}(x:Operand)(p:Pn){b off:Nat}(hop:o.op=Op.load 133 x)(hx:a.eval x=.pointer (some ⟨b,off,none⟩))
 (h:∀ j u,p.cl[j]?=some u→w.cell? ⟨b,off+j,none⟩=some u) (hK:Kc (a.put o.dst p.v) w):o.wp Tryz.prog a w Kc Q:=by
 have h0:=h 0 _ rfl
 have h1:=h 1 _ rfl
 have h2:=h 2 _ rfl
 have h3:=h 3 _ rfl
 have h4:=h 4 _ rfl
 have h5:=h 5 _ rfl
 have h6:=h 6 _ rfl
 rw[Nat.add_zero] at h0
 have hr:(execOp a.eval o).run Tryz.prog w=.ok (.value p.v) w:=by
  generalize a.eval=ev at hx;simp[execOp,hop,hx,go_sem,h0,h1,h2,h3,h4,h5,h6]
 unfold Oper.wp
 rw[hr]
 exact hK
theorem val:Pn.k.Val Pn.v where
 load:=fun x w o a Kc Q p b off h1 h2 h3 h4=>wp_load p x h1 h2 h3 h4
 lit1:=lit1
theorem bytes_ext{a b:ByteArray}:a.toList=b.toList↔a=b:=by
 refine⟨fun h=>?_,fun h=>by rw[h]⟩
 obtain⟨⟨x⟩⟩:=a
 obtain⟨⟨y⟩⟩:=b
 have:x=y:=by simpa [ByteArray.toList_eq] using h
 rw[this]
theorem less_ok(a b:Pn)(w:World):Calls Tryz.prog 79 #[a.v,b.v] w fun r w'=>r=.returned (.bool (Tmr.lt a.tm b.tm))∧Below w.heap.size w w':=by
 have H:Hid (Tmr.lt a.tm b.tm=if a.e=b.e then (if a.s=b.s then Op.bytesLess a.key.toList b.key.toList else decide (a.s<b.s)) else decide (a.e<b.e)):=hid rfl
 by_cases he:a.e=b.e
 ·have he':(a.e == b.e)=true:=by simpa using he
  by_cases hs:a.s=b.s
  ·rw[H.out,if_pos he,if_pos hs]
   have hn1:(a.e != b.e)=false:=by simp[he]
   have hn2:(a.s != b.s)=false:=by simp[hs]
   clear he hs he' H;go_enter Tryz.func79,Tryz.ntmps79;go_wp2;go_ret;exact⟨rfl,below2 _ _ _⟩
  ·rw[H.out,if_pos he,if_neg hs]
   have hn1:(a.e != b.e)=false:=by simp[he]
   have hn2:(a.s != b.s)=true:=by simp[hs]
   clear he hs he' H;go_enter Tryz.func79,Tryz.ntmps79;go_wp2;go_ret;exact⟨rfl,below2 _ _ _⟩
 ·rw[H.out,if_neg he]
  have hn1:(a.e != b.e)=true:=by simp[he]
  clear he H;go_enter Tryz.func79,Tryz.ntmps79;go_wp2;go_ret;exact⟨rfl,below2 _ _ _⟩
end Pn
namespace Tmr
theorem pane_cells{w:World}{b off:Nat}{L:List Pn}{i:Nat}{x:Pn}(hx:L[i]?=some x)(hc:∀ i x,L[i]?=some x→∀ j u,(Pn.cl x)[j]?=some u→w.cell? ⟨b,off+(i*7+j),none⟩=some u):
  w.cell? ⟨b,off+i*7,none⟩=some (.string x.key)∧w.cell? ⟨b,off+i*7+1,none⟩=some (.int .i64 x.s)∧w.cell? ⟨b,off+i*7+2,none⟩=some (.int .i64 x.e)∧w.cell? ⟨b,off+i*7+3,none⟩=some (.int .i64 x.c)∧
   w.cell? ⟨b,off+i*7+4,none⟩=some (.int .i64 x.m)∧w.cell? ⟨b,off+i*7+5,none⟩=some (.int .i64 x.l)∧w.cell? ⟨b,off+i*7+6,none⟩=some (.int .i64 x.u):=by
 have h:=hc i x hx
 simp only[←Nat.add_assoc] at h
 exact⟨h 0 _ rfl,h 1 _ rfl,h 2 _ rfl,h 3 _ rfl,h 4 _ rfl,h 5 _ rfl,h 6 _ rfl⟩
end Tmr
namespace Num
abbrev good(n:Int):Value:=.tuple #[.int .i64 n,.nilIface]
abbrev bad(n:Int):Value:=.tuple #[.int .i64 0,.iface 134 (.int .i64 n)]
theorem fit{a:Int}(h:(Lit.int .i64 a).wf=true):-9223372036854775808≤a∧a≤9223372036854775807:=by
 simp[Lit.wf,IntKind.min,IntKind.max,IntKind.bits,IntKind.signed] at h
 omega
theorem add_ok(a b:Int)(w:World)(ha0:-9223372036854775808≤a)(ha1:a≤9223372036854775807)(hb0:-9223372036854775808≤b)(hb1:b≤9223372036854775807)
  (h0:-9223372036854775808≤a+b) (h1:a+b≤9223372036854775807):
  Calls Tryz.prog 170 #[.int .i64 a,.int .i64 b] w fun e w'=>e=.returned (good (a+b))∧w=w':=by
 have hq:(decide (a+b<a) == decide (b<0))=true:=by simp;omega
 go_enter Tryz.func170,Tryz.ntmps170
 go_wp2
 go_ret2
 exact⟨rfl,rfl⟩
theorem add_bad(a b:Int)(w:World)(ha0:-9223372036854775808≤a)(ha1:a≤9223372036854775807)(hb0:-9223372036854775808≤b)(hb1:b≤9223372036854775807)
  (h:a+b < -9223372036854775808∨9223372036854775807<a+b):
  Calls Tryz.prog 170 #[.int .i64 a,.int .i64 b] w fun e w'=>e=.returned (bad 3)∧w=w':=by
 have hq:(decide (wrap64 (a+b)<a) == decide (b<0))=false:=by
  have hv:(wrap64 (a+b)<a∧0≤b)∨(¬wrap64 (a+b)<a∧b<0):=by unfold wrap64;omega
  rcases hv with ⟨h1,h2⟩|⟨h1,h2⟩
  ·have h3:¬b<0:=by omega
   simp[h1,h3]
  ·simp[h1,h2]
 go_enter Tryz.func170,Tryz.ntmps170
 go_wp2
 go_ret2
 exact⟨rfl,rfl⟩
theorem sub_ok(a b:Int)(w:World)(ha0:-9223372036854775808≤a)(ha1:a≤9223372036854775807)(hb0:-9223372036854775808≤b)(hb1:b≤9223372036854775807)
  (h0:-9223372036854775808≤a-b) (h1:a-b≤9223372036854775807):
  Calls Tryz.prog 184 #[.int .i64 a,.int .i64 b] w fun e w'=>e=.returned (good (a-b))∧w=w':=by
 have hq:(decide (a<a-b) == decide (b<0))=true:=by simp;omega
 go_enter Tryz.func184,Tryz.ntmps184
 go_wp2
 go_ret2
 exact⟨rfl,rfl⟩
theorem sub_bad(a b:Int)(w:World)(ha0:-9223372036854775808≤a)(ha1:a≤9223372036854775807)(hb0:-9223372036854775808≤b)(hb1:b≤9223372036854775807)
  (h:a-b < -9223372036854775808∨9223372036854775807<a-b):
  Calls Tryz.prog 184 #[.int .i64 a,.int .i64 b] w fun e w'=>e=.returned (bad 3)∧w=w':=by
 have hq:(decide (a<wrap64 (a-b)) == decide (b<0))=false:=by
  have hv:(a<wrap64 (a-b)∧0≤b)∨(¬a<wrap64 (a-b)∧b<0):=by unfold wrap64;omega
  rcases hv with ⟨h1,h2⟩|⟨h1,h2⟩
  ·have h3:¬b<0:=by omega
   simp[h1,h3]
  ·simp[h1,h2]
 go_enter Tryz.func184,Tryz.ntmps184
 go_wp2
 go_ret2
 exact⟨rfl,rfl⟩
theorem quo_down(a b:Int)(hb:1≤b)(h:a.tmod b<0):a.tdiv b-1=a / b:=by
 have e1:=Int.tmod_add_mul_tdiv a b
 have e2:=Int.emod_add_mul_ediv a b
 have e3:=Int.emod_nonneg a (b:=b) (by omega)
 have e4:=Int.emod_lt_of_pos a (b:=b) (by omega)
 have e5:-b<a.tmod b:=by have:=Int.lt_tmod_of_pos a (b:=b) (by omega);omega
 have e6:b*(a.tdiv b-1-a / b)=a%b-(a.tmod b+b):=by rw[Int.mul_sub,Int.mul_sub];omega
 have e7:a.tdiv b-1-a / b<1:=by
  apply Int.lt_of_mul_lt_mul_left (a:=b) _ (by omega);rw[e6];omega
 have e8:-1<a.tdiv b-1-a / b:=by
  apply Int.lt_of_mul_lt_mul_left (a:=b) _ (by omega);rw[e6];omega
 omega
theorem quo_same(a b:Int)(hb:1≤b)(h:¬a.tmod b<0):a.tdiv b=a / b:=by
 have e1:=Int.tmod_add_mul_tdiv a b
 have e2:=Int.emod_add_mul_ediv a b
 have e3:=Int.emod_nonneg a (b:=b) (by omega)
 have e4:=Int.emod_lt_of_pos a (b:=b) (by omega)
 have e5:a.tmod b<b:=Int.tmod_lt_of_pos a (by omega)
 have e6:b*(a.tdiv b-a / b)=a%b-a.tmod b:=by rw[Int.mul_sub];omega
 have e7:a.tdiv b-a / b<1:=by
  apply Int.lt_of_mul_lt_mul_left (a:=b) _ (by omega);rw[e6];omega
 have e8:-1<a.tdiv b-a / b:=by
  apply Int.lt_of_mul_lt_mul_left (a:=b) _ (by omega);rw[e6];omega
 omega
theorem rem_down(a b:Int)(hb:1≤b)(h:a.tmod b<0):a.tmod b+b=a%b:=by
 have e1:=Int.tmod_add_mul_tdiv a b
 have e2:=Int.emod_add_mul_ediv a b
 have e3:=quo_down a b hb h
 have e4:b*(a.tdiv b-1)=b*(a / b):=by rw[e3]
 rw[Int.mul_sub] at e4;omega
theorem rem_same(a b:Int)(hb:1≤b)(h:¬a.tmod b<0):a.tmod b=a%b:=by
 have e1:=Int.tmod_add_mul_tdiv a b
 have e2:=Int.emod_add_mul_ediv a b
 have e3:=quo_same a b hb h
 rw[e3] at e1;omega
theorem floor_lo(a b:Int)(hb:1≤b)(h:a.tmod b<0)(ha0:-9223372036854775808≤a):-9223372036854775808≤a.tdiv b-1:=by
 rw[quo_down a b hb h]
 have e2:=Int.emod_add_mul_ediv a b
 have e3:=Int.emod_nonneg a (b:=b) (by omega)
 have e4:=Int.emod_lt_of_pos a (b:=b) (by omega)
 by_cases h1:b=1
 ·subst h1;simp at *
 ·have hq:a<0:=by
   rcases Int.lt_or_le a 0 with hl|hl
   ·exact hl
   ·have:=Int.tmod_nonneg b hl;omega
  have h5:a / b<0:=Int.ediv_neg_of_neg_of_pos hq (by omega)
  have h6:b*(a / b)≤2*(a / b):=Int.mul_le_mul_of_nonpos_right (by omega) (by omega)
  have h7:a-b<b*(a/b):=by omega
  have h8:a≤b*(a/b)+b:=by omega
  have h9:(b-2)*(a/b+1)≤0:=Int.mul_nonpos_of_nonneg_of_nonpos (by omega) (by omega)
  have h10:(b-2)*(a/b+1)=b*(a/b)+b-2*(a/b)-2:=by
   rw[Int.mul_add,Int.sub_mul];omega
  omega
theorem tdiv_bd(a b:Int)(hb:1≤b)(ha0:-9223372036854775808≤a)(ha1:a≤9223372036854775807):
  -9223372036854775808≤a.tdiv b∧a.tdiv b≤9223372036854775807:=by
 have:=Int.natAbs_tdiv_le_natAbs a b
 rcases Int.lt_or_le a 0 with hl|hl
 ·have h2:=Int.tdiv_nonneg (show 0≤-a by omega) (show 0≤b by omega)
  rw[Int.neg_tdiv] at h2;omega
 ·have:=Int.tdiv_nonneg hl (show 0≤b by omega);omega
theorem ret_int2{a b:Int}(v:Value)(h:a=b):Ending.returned (.tuple #[.int .i64 a,v])=.returned (.tuple #[.int .i64 b,v]):=by rw[h]
theorem floor_ok(a b:Int)(w:World)(ha0:-9223372036854775808≤a)(ha1:a≤9223372036854775807)(hb0:1≤b)(hb1:b≤9223372036854775807):
  Calls Tryz.prog 183 #[.int .i64 a,.int .i64 b] w fun e w'=>e=.returned (good (a / b))∧w=w':=by
 have hn:¬b<1:=by omega
 have t:=tdiv_bd a b hb0 ha0 ha1
 obtain⟨t0,t1⟩:=t
 by_cases h0:0≤a
 ·have hm:¬a%b<0:=by have:=Int.emod_nonneg a (b:=b) (by omega);omega
  go_enter Tryz.func183,Tryz.ntmps183;go_wp2;go_ret2;exact⟨ret_int2 _ (Int.tdiv_eq_ediv_of_nonneg h0),rfl⟩
 ·by_cases hm:a.tmod b<0
  ·have tl:=floor_lo a b hb0 hm ha0
   have e:=quo_down a b hb0 hm;have E:=hid e;clear e;go_enter Tryz.func183,Tryz.ntmps183;go_wp2;go_ret2;exact⟨ret_int2 _ E.out,rfl⟩
  ·have e:=quo_same a b hb0 hm
   have E:=hid e;clear e;go_enter Tryz.func183,Tryz.ntmps183;go_wp2;go_ret2;exact⟨ret_int2 _ E.out,rfl⟩
theorem down_of(a b r:Int)(v:Value)(w:World)(hv:v=good (a-r)∨v=bad 3)(ha0:-9223372036854775808≤a)(ha1:a≤9223372036854775807)(hb0:1≤b)(hb1:b≤9223372036854775807)
  (E:Hid (r=a%b)) (hsub:Hid (Calls Tryz.prog 184 #[.int .i64 a,.int .i64 (a%b)] w fun e w'=>e=.returned v∧w=w')):
  Calls Tryz.prog 182 #[.int .i64 a,.int .i64 b] w fun e w'=>e=.returned v∧w=w':=by
 have hn:¬b<1:=by omega
 have g0:=Int.emod_nonneg a (b:=b) (by omega)
 have g1:=Int.emod_lt_of_pos a (b:=b) (by omega)
 by_cases h0:0≤a
 ·have hm:¬a%b<0:=by omega
  rcases hv with rfl|rfl
  all_goals
   go_enter Tryz.func182,Tryz.ntmps182;go_wp2_with (go_at_call 184;refine (hsub.out).mono ?_;rintro e w' ⟨rfl,rfl⟩)
   go_ret2;exact⟨rfl,rfl⟩
 ·by_cases hm:a.tmod b<0
  ·have e:=rem_down a b hb0 hm
   have hr:-b<a.tmod b:=by have:=Int.lt_tmod_of_pos a (b:=b) (by omega);omega
   have F:=hid e;clear e;rcases hv with rfl|rfl
   all_goals
    go_enter Tryz.func182,Tryz.ntmps182;go_wp2_with (go_at_call 184;rw[F.out];refine (hsub.out).mono ?_;rintro e w' ⟨rfl,rfl⟩)
    go_ret2;exact⟨rfl,rfl⟩
  ·have e:=rem_same a b hb0 hm
   have F:=hid e;clear e;rcases hv with rfl|rfl
   all_goals
    go_enter Tryz.func182,Tryz.ntmps182;go_wp2_with (go_at_call 184;rw[F.out];refine (hsub.out).mono ?_;rintro e w' ⟨rfl,rfl⟩)
    go_ret2;exact⟨rfl,rfl⟩
theorem down_ok(a b:Int)(w:World)(ha0:-9223372036854775808≤a)(ha1:a≤9223372036854775807)(hb0:1≤b)(hb1:b≤9223372036854775807)
  (h0:-9223372036854775808≤a-a%b):
  Calls Tryz.prog 182 #[.int .i64 a,.int .i64 b] w fun e w'=>e=.returned (good (a-a%b))∧w=w':=by
 have g0:=Int.emod_nonneg a (b:=b) (by omega)
 have g1:=Int.emod_lt_of_pos a (b:=b) (by omega)
 exact down_of a b (a%b) _ w (.inl rfl) ha0 ha1 hb0 hb1 (hid rfl) (hid (sub_ok a (a%b) w ha0 ha1 (by omega) (by omega) h0 (by omega)))
theorem down_bad(a b:Int)(w:World)(ha0:-9223372036854775808≤a)(ha1:a≤9223372036854775807)(hb0:1≤b)(hb1:b≤9223372036854775807)
  (h0:a-a%b < -9223372036854775808):
  Calls Tryz.prog 182 #[.int .i64 a,.int .i64 b] w fun e w'=>e=.returned (bad 3)∧w=w':=by
 have g0:=Int.emod_nonneg a (b:=b) (by omega)
 have g1:=Int.emod_lt_of_pos a (b:=b) (by omega)
 exact down_of a b (a%b) _ w (.inr rfl) ha0 ha1 hb0 hb1 (hid rfl) (hid (sub_bad a (a%b) w ha0 ha1 (by omega) (by omega) (.inl h0)))
end Num
namespace Spn
set_option maxRecDepth 100000
abbrev win(s e:Int):Value:=.agg #[.int .i64 s,.int .i64 e]
theorem below1(w:World)(a:Obj):Below w.heap.size w (w.alloc a):=(Below.refl _ _).alloc (Nat.le_refl _) _
theorem below2(w:World)(a b:Obj):Below w.heap.size w ((w.alloc a).alloc b):=(below1 w a).alloc (by simp) _
theorem below3(w:World)(a b c:Obj):Below w.heap.size w (((w.alloc a).alloc b).alloc c):=(below2 w a b).alloc (by simp;omega) _
theorem after{a b c:World}(h:Below a.heap.size a b)(k:Below b.heap.size b c):Below a.heap.size a c:=h.trans (k.mono h.size)
theorem ret_win{a b c d:Int}(h:a=c)(k:b=d):Ending.returned (win a b)=.returned (win c d):=by rw[h,k]
theorem ret_int{a b:Int}(h:a=b):Ending.returned (.int .i64 a)=.returned (.int .i64 b):=by rw[h]
theorem turned{f:Nat}{vs:Array Value}{v:Value}{w:World}(h:Calls Tryz.prog f vs w fun e w'=>e=.returned v∧w=w'):Calls Tryz.prog f vs w fun e w'=>e=.returned v∧w'=w:=
 h.mono fun _ _ ⟨a,b⟩=>⟨a,b.symm⟩
theorem ret_bool{a b:Bool}(h:a=b):Ending.returned (.bool a)=.returned (.bool b):=by rw[h]
theorem may_ok(s e:Int)(w:World):
  Calls Tryz.prog 120 #[win s e] w fun r w'=>r=.returned (.bool (decide (s<e)))∧Below w.heap.size w w':=by
 go_enter Tryz.func120,Tryz.ntmps120
 go_wp2
 go_ret
 exact⟨rfl,below1 _ _⟩
theorem meet_ok(a b c d:Int)(w:World):
  Calls Tryz.prog 190 #[win a b,win c d] w fun r w'=>r=.returned (.bool (decide (max a c<min b d)))∧Below w.heap.size w w':=by
 go_enter Tryz.func190,Tryz.ntmps190
 go_wp2_with fail
 all_goals
  refine (may_ok _ _ _).mono ?_
  rintro e w1 ⟨rfl,k1⟩;go_wp2;go_ret;exact⟨ret_bool (by simp only[decide_eq_decide];omega),after (below2 _ _ _) k1⟩
theorem join_ok(a b c d:Int)(w:World):
  Calls Tryz.prog 191 #[win a b,win c d] w fun r w'=>r=.returned (win (min a c) (max b d))∧Below w.heap.size w w':=by
 go_enter Tryz.func191,Tryz.ntmps191
 go_wp2
 all_goals exact bodyPost_ret (v:=win _ _) (by simp[results,Tryz.results191,go_sem];exact⟨rfl,rfl⟩) rfl ⟨ret_win (by omega) (by omega),below3 _ _ _ _⟩
theorem over_ok(s e l m:Int)(w:World)(he0:-9223372036854775808≤e)(he1:e≤9223372036854775807)(hl0:-9223372036854775808≤l)(hl1:l≤9223372036854775807)
  (hm0:-9223372036854775808≤m) (hm1:m≤9223372036854775807):
  Calls Tryz.prog 156 #[win s e,.int .i64 l,.int .i64 m] w fun r w'=>r=.returned (.bool (decide (e+l≤m)))∧Below w.heap.size w w':=by
 by_cases h:-9223372036854775808≤e+l∧e+l≤9223372036854775807
 ·go_enter Tryz.func156,Tryz.ntmps156
  go_wp2_with fail
  refine (Num.add_ok e l _ he0 he1 hl0 hl1 h.1 h.2).mono ?_
  rintro e w' ⟨rfl,rfl⟩;go_wp2;go_ret;exact⟨rfl,below1 _ _⟩
 ·have hh:decide (e+l≤m)=decide (l<0):=by simp only[decide_eq_decide];omega
  rw[hh];have g:e+l < -9223372036854775808∨9223372036854775807<e+l:=by omega
  have g':=hid g;clear g h hh;go_enter Tryz.func156,Tryz.ntmps156;go_wp2_with fail
  refine (Num.add_bad e l _ he0 he1 hl0 hl1 g'.out).mono ?_
  rintro e w' ⟨rfl,rfl⟩;go_wp2;go_ret;exact⟨rfl,below1 _ _⟩
abbrev cmp3(a b:Int):Int:=if a<b then -1 else if b<a then 1 else 0
abbrev cmpW(a b c d:Int):Int:=if a<c then -1 else if c<a then 1 else cmp3 b d
theorem nan_ok(a:Int)(w:World):Calls Tryz.prog 225 #[.int .i64 a] w fun r w'=>r=.returned (.bool false)∧w=w':=by
 go_enter Tryz.func225,Tryz.ntmps225
 go_wp2
 go_ret
 exact⟨ret_bool (by simp),rfl⟩
theorem compare_ok(a b:Int)(w:World):Calls Tryz.prog 217 #[.int .i64 a,.int .i64 b] w fun r w'=>r=.returned (.int .i64 (cmp3 a b))∧w=w':=by
 go_enter Tryz.func217,Tryz.ntmps217
 go_wp2_with fail
 refine (nan_ok _ _).mono ?_
 rintro e w1 ⟨rfl,rfl⟩
 go_wp2_with fail
 refine (nan_ok _ _).mono ?_
 rintro e w1 ⟨rfl,rfl⟩
 go_wp2
 all_goals go_ret
 all_goals exact⟨ret_int (by unfold cmp3;omega),rfl⟩
theorem or_ok(a b c:Int)(p:Nat)(w:World)(h0:w.cell? ⟨p,0,none⟩=some (.int .i64 a))(h1:w.cell? ⟨p,1,none⟩=some (.int .i64 b))(hc:Hid (c=if a=0 then b else a)):
  Calls Tryz.prog 216 #[.slice (some ⟨p,0,none⟩) 2 2] w fun r w'=>r=.returned (.int .i64 c)∧w=w':=by
 go_enter Tryz.func216,Tryz.ntmps216
 go_wp2
 go_loop [8] (fun i=>i=.int .i64 0∨(i=.int .i64 1∧a=0)∨(i=.int .i64 2∧a=0∧b=0)) (fun i=>2-(intOf i).toNat)
 case atStart=>exact .inl rfl
 case round=>
  rcases hrel with rfl|⟨rfl,rfl⟩|⟨rfl,rfl,rfl⟩
  ·by_cases ha:a=0
   ·subst ha
    go_wp2;go_round
    case rel=>exact .inr (.inl (by simp))
    case measure=>simp[intOf]
   ·have hne:(a != 0)=true:=by simp[ha]
    go_wp2;go_ret;exact⟨ret_int (by rw[hc.out];simp[ha]),rfl⟩
  ·by_cases hb:b=0
   ·subst hb
    go_wp2;go_round
    case rel=>exact .inr (.inr (by simp))
    case measure=>simp[intOf]
   ·have hne:(b != 0)=true:=by simp[hb]
    go_wp2;go_ret;exact⟨ret_int (by rw[hc.out];simp),rfl⟩
  ·go_wp2
   go_ret;exact⟨ret_int (by rw[hc.out];simp),rfl⟩
theorem comp_ok(a b c d:Int)(w:World):
  Calls Tryz.prog 198 #[win a b,win c d] w fun r w'=>r=.returned (.int .i64 (cmpW a b c d))∧Below w.heap.size w w':=by
 go_enter Tryz.func198,Tryz.ntmps198
 go_wp2_with fail
 refine wp_region_still_tail 10 (by kernel_rfl) (by kernel_rfl) ?_
 obtain⟨wq,hwq⟩:∃ wq,wq=(((w.alloc (Obj.cells #[.int .i64 a,.int .i64 b] 129)).alloc (Obj.cells #[.int .i64 c,.int .i64 d] 129)).drew):=⟨_,rfl⟩
 change wpStill _ _ (World.drew _) _ _ _
 rw[←hwq]
 have k0:Below w.heap.size w wq:=by rw[hwq];exact (below2 _ _ _).drew
 have c0:wq.cell? ⟨w.heap.size,0,none⟩=some (.int .i64 a):=by rw[hwq];go_simp
 have c1:wq.cell? ⟨w.heap.size,1,none⟩=some (.int .i64 b):=by rw[hwq];go_simp
 have c2:wq.cell? ⟨w.heap.size+1,0,none⟩=some (.int .i64 c):=by rw[hwq];go_simp
 have c3:wq.cell? ⟨w.heap.size+1,1,none⟩=some (.int .i64 d):=by rw[hwq];go_simp
 clear hwq
 simp only[List.take_succ_cons,List.take_zero,List.drop_succ_cons,List.drop_zero]
 still_step
 still_step
 still_step
 still_step
 still_call (turned (compare_ok a c wq))
 still_step
 still_step
 still_step
 still_step
 still_call (turned (compare_ok b d wq))
 refine wpStill_nil ?_
 change wpList _ _ _ _ _ (World.drew _)
 obtain⟨wp,hwp⟩:∃ wp,wp=(((w.alloc (Obj.cells #[.int .i64 a,.int .i64 b] 129)).alloc (Obj.cells #[.int .i64 c,.int .i64 d] 129)).drew):=⟨_,rfl⟩
 rw[←hwp]
 have kp:Below w.heap.size w wp:=by rw[hwp];exact (below2 _ _ _).drew
 clear hwp k0 c0 c1 c2 c3
 go_wp2_with fail
 refine (or_ok (cmp3 a c) (cmp3 b d) (cmpW a b c d) _ _ (by go_simp) (by go_simp) (hid (by unfold cmpW cmp3;repeat' split;all_goals omega))).mono ?_
 rintro e w1 ⟨rfl,rfl⟩
 go_wp2
 go_ret
 exact⟨rfl,kp.alloc kp.size _⟩
end Spn
namespace Pane
abbrev Ah(x:Pn)(s e:Int):Prop:=x.s<s∨(x.s=s∧x.e<e)
abbrev Eq2(x:Pn)(s e:Int):Prop:=x.s=s∧x.e=e
def Rises(L:List Pn):Prop:=L.Pairwise fun p q=>Ah p q.s q.e
structure At(L:List Pn)(s e:Int)(k:Nat):Prop where
 le:k≤L.length
 lo:∀ i x,i<k→L[i]?=some x→Ah x s e
 hi:∀ i x,k≤i→L[i]?=some x→¬Ah x s e
theorem at_some{L:List Pn}{i:Nat}(h:i<L.length):∃ x,L[i]?=some x:=⟨L[i],by simp[h]⟩
theorem lt_of_at{L:List Pn}{i:Nat}{x:Pn}(h:L[i]?=some x):i<L.length:=(List.getElem?_eq_some_iff.1 h).1
theorem Rises.at{L:List Pn}(h:Rises L){i j:Nat}{x y:Pn}(hij:i<j)(hx:L[i]?=some x)(hy:L[j]?=some y):Ah x y.s y.e:=by
 obtain⟨h1,rfl⟩:=List.getElem?_eq_some_iff.1 hx
 obtain⟨h2,rfl⟩:=List.getElem?_eq_some_iff.1 hy
 exact List.pairwise_iff_getElem.1 h i j h1 h2 hij
theorem At.ex{L:List Pn}(h:Rises L)(s e:Int):∃ k,At L s e k:=by
 induction L with
 |nil=>exact⟨0,Nat.le_refl _,fun i x q _=>absurd q (by omega),fun i x _ hx=>by simp at hx⟩
 |cons p L ih=>
  obtain⟨h1,h2⟩:=List.pairwise_cons.1 h;by_cases hp:Ah p s e
  ·obtain⟨k,a⟩:=ih h2
   refine⟨k+1,by have:=a.le;simp;omega,fun i x q hx=>?_,fun i x q hx=>?_⟩
   ·cases i with
    |zero=>simp at hx;subst hx;exact hp
    |succ i=>exact a.lo i x (by omega) (by simpa using hx)
   ·cases i with
    |zero=>omega
    |succ i=>exact a.hi i x (by omega) (by simpa using hx)
  ·refine⟨0,by simp,fun i x q _=>absurd q (by omega),fun i x q hx=>?_⟩
   cases i with
   |zero=>simp at hx;subst hx;exact hp
   |succ i=>
    have hm:=h1 x (List.mem_of_getElem? (by simpa using hx))
    simp only[Ah] at hp hm ⊢;omega
theorem At.found{L:List Pn}(h:Rises L){s e:Int}{k:Nat}(a:At L s e k){x:Pn}(hx:x∈L)(he:Eq2 x s e):L[k]?=some x:=by
 obtain⟨i,hi⟩:=List.mem_iff_getElem?.1 hx
 rcases Nat.lt_trichotomy i k with q|q|q
 ·have:=a.lo i x q hi
  simp only[Ah,Eq2] at this he;omega
 ·subst q;exact hi
 ·obtain⟨y,hy⟩:=at_some (L:=L) (i:=k) (by have:=lt_of_at hi;omega)
  have h1:=h.at q hy hi;have h2:=a.hi k y (Nat.le_refl _) hy;simp only[Ah,Eq2] at h1 h2 he;omega
theorem rises_ins{L:List Pn}(h:Rises L){p:Pn}{k:Nat}(a:At L p.s p.e k)(hn:∀ x∈L,¬Eq2 x p.s p.e):Rises (L.take k++p::L.drop k):=by
 have ht:∀ x∈L.take k,Ah x p.s p.e:=fun x hx=>by
  obtain⟨i,hi⟩:=List.mem_iff_getElem?.1 hx;rw[List.getElem?_take] at hi
  split at hi
  ·exact a.lo i x (by assumption) hi
  ·cases hi
 have hd:∀ x∈L.drop k,Ah p x.s x.e:=fun x hx=>by
  obtain⟨i,hi⟩:=List.mem_iff_getElem?.1 hx;rw[List.getElem?_drop] at hi
  have h1:=a.hi _ x (by omega) hi
  have h2:=hn x (List.mem_of_mem_drop hx);simp only[Ah,Eq2] at h1 h2 ⊢;omega
 have hw:=h
 rw[←List.take_append_drop k L] at hw
 obtain⟨w1,w2,w3⟩:=List.pairwise_append.1 hw
 refine List.pairwise_append.2 ⟨w1,List.pairwise_cons.2 ⟨hd,w2⟩,fun x hx y hy=>?_⟩
 rcases List.mem_cons.1 hy with rfl|hy
 ·exact ht x hx
 ·exact w3 x hx y hy
theorem Rises.sub{L L':List Pn}(h:Rises L)(k:L'.Sublist L):Rises L':=List.Pairwise.sublist k h
theorem rises_cut{L:List Pn}(h:Rises L)(k:Nat):Rises (L.take k++L.drop (k+1)):=by
 refine h.sub ?_
 have e:L=L.take k++L.drop k:=(List.take_append_drop k L).symm
 have:(L.take k++L.drop (k+1)).Sublist (L.take k++L.drop k):=by
  refine List.Sublist.append (List.Sublist.refl _) ?_
  rw[←List.drop_drop];exact List.drop_sublist _ _
 rwa [←e] at this
theorem at_cut{L:List Pn}{s e:Int}{k:Nat}(a:At L s e k)(hk:k<L.length):At (L.take k++L.drop (k+1)) s e k:=by
 have hl:(L.take k).length=k:=by rw[List.length_take];omega
 refine⟨by rw[List.length_append,hl];omega,fun i x q hx=>?_,fun i x q hx=>?_⟩
 ·rw[List.getElem?_append_left (by omega),List.getElem?_take_of_lt q] at hx
  exact a.lo i x q hx
 ·rw[List.getElem?_append_right (by omega),hl,List.getElem?_drop] at hx
  exact a.hi _ x (by omega) hx
theorem filter_cut{L:List Pn}(h:Rises L){s e:Int}{k:Nat}(a:At L s e k){x:Pn}(hx:L[k]?=some x)(he:Eq2 x s e)(q:Pn→Bool)(hq:∀ y∈L,q y=true↔¬Eq2 y s e):L.filter q=L.take k++L.drop (k+1):=by
 have hk:=lt_of_at hx
 have e1:L=L.take k++x::L.drop (k+1):=by
  obtain⟨h1,h2⟩:=List.getElem?_eq_some_iff.1 hx
  conv=>lhs;rw[←List.take_append_drop k L,List.drop_eq_getElem_cons h1,h2]
 have ht:(L.take k).filter q=L.take k:=List.filter_eq_self.2 fun y hy=>(hq y (List.mem_of_mem_take hy)).2 fun ey=>by
  obtain⟨i,hi⟩:=List.mem_iff_getElem?.1 hy;rw[List.getElem?_take] at hi
  split at hi
  ·have:=a.lo i y (by assumption) hi
   simp only[Ah,Eq2] at this ey;omega
  ·cases hi
 have hd:(L.drop (k+1)).filter q=L.drop (k+1):=List.filter_eq_self.2 fun y hy=>(hq y (List.mem_of_mem_drop hy)).2 fun ey=>by
  obtain⟨i,hi⟩:=List.mem_iff_getElem?.1 hy;rw[List.getElem?_drop] at hi
  have:=h.at (i:=k) (j:=k+1+i) (by omega) hx hi
  simp only[Ah,Eq2] at this ey he;omega
 have hqx:q x=false:=by
  cases hc:q x
  ·rfl
  ·exact absurd he ((hq x (List.mem_of_getElem? hx)).1 hc)
 conv=>lhs;rw[e1]
 rw[List.filter_append,List.filter_cons,hqx,ht,hd]
 simp
theorem set_cut{L:List Pn}{k:Nat}(hk:k<L.length)(p:Pn):(L.take k++L.drop (k+1)).take k++p::(L.take k++L.drop (k+1)).drop k=L.set k p:=by
 have hl:(L.take k).length=k:=by rw[List.length_take];omega
 rw[List.take_left' hl,List.drop_left' hl]
 exact (List.set_eq_take_append_cons_drop ..).symm▸(by simp[hk])
end Pane
namespace Pane
abbrev win(s e:Int):Value:=.agg #[.int .i64 s,.int .i64 e]
theorem cmp_lt{a b c d:Int}:Spn.cmpW a b c d<0↔(a<c∨(a=c∧b<d)):=by
 unfold Spn.cmpW Spn.cmp3
 repeat' split
 all_goals omega
theorem cmp_eq{a b c d:Int}:Spn.cmpW a b c d=0↔(a=c∧b=d):=by
 unfold Spn.cmpW Spn.cmp3
 repeat' split
 all_goals omega
theorem close_ok(x:Pn)(s e:Int)(w:World):
  Calls Tryz.prog 197 #[x.v,win s e] w fun r w'=>r=.returned (.int .i64 (Spn.cmpW x.s x.e s e))∧Below w.heap.size w w':=by
 have C:=hid fun w:World=>Spn.comp_ok x.s x.e s e w
 generalize Spn.cmpW x.s x.e s e=q at *
 obtain⟨key,a,b,c,d,f,g⟩:=x
 simp only at C
 go_enter Tryz.func197,Tryz.ntmps197
 go_wp2_with fail
 refine (C.out _).mono ?_
 rintro r w1 ⟨rfl,k1⟩
 have K1:=hid k1
 clear k1
 go_wp2
 go_ret
 exact⟨rfl,after (below2 _ _ _) K1.out⟩
set_option maxRecDepth 100000 in
theorem search_ok(v:Value)(L:List Pn)(b k:Nat)(s e:Int)(fd:Bool)(w:World)(H:Hid (Sl.Is Pn.k w v L b))(hn:L.length≤9000)(A:Hid (At L s e k))(hf:Hid (fd=true↔∃ x,L[k]?=some x∧Eq2 x s e)):
  Calls Tryz.prog 196 #[v,win s e,.func (.func 197) #[] #[]] w fun r w'=>r=.returned (.tuple #[.int .i64 k,.bool fd])∧Below w.heap.size w w':=by
 obtain⟨AD,cap,rfl⟩:=H.out.len
 have hk:=A.out.le
 go_enter Tryz.func196,Tryz.ntmps196
 go_wp2_with fail
 have K0:=hid (below1 w (Obj.cells #[.int .i64 s,.int .i64 e] 129))
 have H0:=hid (H.out.next K0.out)
 have Z0:=hid (Lies.new w 129 [.int .i64 s,.int .i64 e])
 generalize w.alloc (Obj.cells #[.int .i64 s,.int .i64 e] 129)=w0 at *
 go_loopw [9,10] (fun si sj wr=>∃ (i j:Nat),i≤k∧k≤j∧j≤L.length∧si=.int .i64 i∧sj=.int .i64 j∧Hid (Below w0.heap.size w0 wr)) (fun si sj _=>(intOf sj-intOf si).toNat)
 case atStart=>exact⟨0,L.length,by omega,hk,Nat.le_refl _,rfl,rfl,hid (Below.refl _ _)⟩
 case round=>
  obtain⟨i,j,hi,hj,hjn,rfl,rfl,K⟩:=hrel;by_cases hlt:i<j
  ·obtain⟨off,cap',he,h2,h3,h4,hcell⟩:=H0.out.some_ Pn.ok (by omega)
   obtain⟨rfl,rfl⟩:AD=some ⟨b,off,none⟩∧cap=cap':=by simpa using he
   obtain⟨m,hm,hm1,hm2⟩:∃ m:Nat,((i:Int)+j) / 2=m∧i≤m∧m<j:=⟨(i+j) / 2,by omega,by omega,by omega⟩
   obtain⟨y,hy⟩:=at_some (L:=L) (i:=m) (by omega)
   have HY:=hid hy;obtain⟨c0,c1,c2,c3,c4,c5,c6⟩:=Tmr.pane_cells hy hcell;have z0:=Z0.out.cell (i:=0) rfl;have z1:=Z0.out.cell (i:=1) rfl;have w1:IntKind.i64.wrap ((i:Int)+j)=(i:Int)+j:=by rw[IntKind.wrap_i64];omega
   have C:=hid fun w:World=>close_ok y s e w
   have Q:=hid (cmp_lt (a:=y.s) (b:=y.e) (c:=s) (d:=e));have HM:=hid hm;clear hcell he hy h2 h3 h4 hm;generalize Spn.cmpW y.s y.e s e=cv at *;go_wp2_with fail
   rw[HM.out];have i0:(m:Int)<L.length:=by omega
   have f0:=Later.cell (cell_keep K.out c0);have f1:=Later.cell (cell_keep K.out c1);have f2:=Later.cell (cell_keep K.out c2);have f3:=Later.cell (cell_keep K.out c3);have f4:=Later.cell (cell_keep K.out c4);have f5:=Later.cell (cell_keep K.out c5);have f6:=Later.cell (cell_keep K.out c6);have g0:=Later.cell (cell_keep K.out z0);have g1:=Later.cell (cell_keep K.out z1);clear c0 c1 c2 c3 c4 c5 c6 z0 z1;refine wp_region_later (by kernel_rfl) (by kernel_rfl) ?_
   repeat (go_big_quiet_step (first|(go_at_call 197;with_reducible exact Later.call _ (C.out _))))
   refine wpQuiet_nil ?_
   rintro _ ⟨u,rfl⟩;have K2:=hid (after K.out u.below);clear f0 f1 f2 f3 f4 f5 f6 g0 g1;generalize u.w=w2 at *;by_cases hc:cv<0
   ·have hd:decide (cv<0)=true:=by simpa using hc
    go_wp2_with fail
    refine⟨⟨m+1,j,?_,hj,hjn,by go_num,rfl,K2⟩,by simp[intOf];omega⟩
    rcases Nat.lt_or_ge m k with q|q
    ·omega
    ·exact absurd (Q.out.1 hc) (A.out.hi m y q HY.out)
   ·have hd:decide (cv<0)=false:=by simpa using hc
    go_wp2_with fail
    refine⟨⟨i,m,hi,?_,by omega,rfl,rfl,K2⟩,by simp[intOf];omega⟩
    rcases Nat.lt_or_ge m k with q|q
    ·exact absurd (Q.out.2 (A.out.lo m y q HY.out)) hc
    ·exact q
  ·obtain rfl:i=k:=by omega
   obtain rfl:i=j:=by omega
   by_cases hin:i<L.length
   ·obtain⟨off,cap',he,h2,h3,h4,hcell⟩:=H0.out.some_ Pn.ok (by omega)
    obtain⟨rfl,rfl⟩:AD=some ⟨b,off,none⟩∧cap=cap':=by simpa using he
    obtain⟨y,hy⟩:=at_some (L:=L) (i:=i) (by omega)
    obtain⟨c0,c1,c2,c3,c4,c5,c6⟩:=Tmr.pane_cells hy hcell;have z0:=Z0.out.cell (i:=0) rfl;have z1:=Z0.out.cell (i:=1) rfl;have C:=hid fun w:World=>close_ok y s e w
    have Q:=hid (cmp_eq (a:=y.s) (b:=y.e) (c:=s) (d:=e));have hfd:Hid (fd=true↔Eq2 y s e):=hid (hf.out.trans ⟨fun ⟨x,h1,h2⟩=>by rw[hy] at h1;obtain rfl:=Option.some.inj h1;exact h2,fun h=>⟨y,hy,h⟩⟩)
    clear hcell he hy h2 h3 h4 hf;generalize Spn.cmpW y.s y.e s e=cv at *
    have hfd2:(cv == 0)=fd:=by
     rw[Bool.eq_iff_iff,hfd.out]
     simpa using Q.out
    have HF:=hid hfd2;clear hfd2 hfd Q;have i0:(i:Int)<L.length:=by omega
    go_wp2_with fail
    have f0:=Later.cell (cell_keep K.out c0);have f1:=Later.cell (cell_keep K.out c1);have f2:=Later.cell (cell_keep K.out c2);have f3:=Later.cell (cell_keep K.out c3);have f4:=Later.cell (cell_keep K.out c4);have f5:=Later.cell (cell_keep K.out c5);have f6:=Later.cell (cell_keep K.out c6);have g0:=Later.cell (cell_keep K.out z0);have g1:=Later.cell (cell_keep K.out z1);clear c0 c1 c2 c3 c4 c5 c6 z0 z1;refine wp_region_later (by kernel_rfl) (by kernel_rfl) ?_
    repeat (go_big_quiet_step (first|(go_at_call 197;with_reducible exact Later.call _ (C.out _))))
    refine wpQuiet_nil ?_
    rintro _ ⟨u,rfl⟩;have K2:=hid (after K.out u.below);clear f0 f1 f2 f3 f4 f5 f6 g0 g1;generalize u.w=w2 at *;go_wp2;go_ret2;refine⟨?_,after K0.out K2.out⟩
    rw[←HF.out];rfl
   ·obtain rfl:i=L.length:=by omega
    have hfd:fd=false:=by
     cases fd
     ·rfl
     ·obtain⟨x,h1,_⟩:=hf.out.1 rfl
      have:=lt_of_at h1;omega
    subst hfd;go_wp2_with fail
    refine wp_region_later (by kernel_rfl) (by kernel_rfl) ?_
    repeat (go_big_quiet_step (fail))
    refine wpQuiet_nil ?_
    rintro _ ⟨u,rfl⟩;have K2:=hid (after K.out u.below);generalize u.w=w2 at *;go_wp2;go_ret2;exact⟨rfl,after K0.out K2.out⟩
theorem place_ok(v:Value)(L:List Pn)(b k:Nat)(s e:Int)(fd:Bool)(w:World)(H:Hid (Sl.Is Pn.k w v L b))(hn:L.length≤9000)(A:Hid (At L s e k))(hf:Hid (fd=true↔∃ x,L[k]?=some x∧Eq2 x s e)):
  Calls Tryz.prog 175 #[v,win s e] w fun r w'=>r=.returned (.tuple #[.int .i64 k,.bool fd])∧Below w.heap.size w w':=by
 go_enter Tryz.func175,Tryz.ntmps175
 go_wp2_with fail
 refine (search_ok v L b k s e fd _ (hid (H.out.next (below1 _ _))) hn A hf).mono ?_
 rintro r w1 ⟨rfl,k1⟩
 have K1:=hid (after (below1 _ _) k1)
 clear k1
 go_wp2
 go_ret2
 exact⟨rfl,K1.out⟩
end Pane
end Go.Proofs.YtfjlnniahfbdfaaGreat
