/- A part of the proof. -/
import Derived.Test.YtfjlnniahfbdfaaGreatPac
import Derived.Below
import Derived.Laws.StructEq
set_option linter.unusedVariables false
set_option maxHeartbeats 4000000
namespace Go.Proofs.YtfjlnniahfbdfaaGreat
open Lib (hid)
open Go.ChangeShapes Go.WideShapes Go.ChangeAt Go.RowKit
namespace Ref01
abbrev big(h l:Int):Value:=.agg #[.int .i64 h,.int .i64 l]
theorem ret_big{h l h' l':Int}(a:h=h')(b:l=l'):Ending.returned (big h l)=.returned (big h' l'):=by rw[a,b]
theorem wide_ok(n:Int)(w:World)(h0:-9223372036854775808≤n)(h1:n≤9223372036854775807):
  Calls Tryz.prog 115 #[.int .i64 n] w fun e w'=>e=.returned (big (n / 4294967296) (n%4294967296))∧Below w.heap.size w w':=by
 by_cases hn:0≤n
 ·have hm:¬n%4294967296<0:=by omega
  go_enter Tryz.func115,Tryz.ntmps115;go_wp2;exact bodyPost_ret (v:=big _ _) (by simp[results,Tryz.results115,go_sem]) rfl ⟨rfl,(Below.refl _ _).alloc (Nat.le_refl _) _⟩
 ·have hr:-4294967296<n.tmod 4294967296:=by have:=Int.lt_tmod_of_pos n (b:=4294967296) (by omega);omega
  have hd:=Num.tdiv_bd n 4294967296 (by omega) h0 h1
  by_cases hm:n.tmod 4294967296<0
  ·have hl:=Num.floor_lo n 4294967296 (by omega) hm h0
   have E:=hid (Num.quo_down n 4294967296 (by omega) hm)
   have F:=hid (Num.rem_down n 4294967296 (by omega) hm)
   go_enter Tryz.func115,Tryz.ntmps115;go_wp2;refine bodyPost_ret (v:=big _ _) (by simp[results,Tryz.results115,go_sem]) rfl ⟨ret_big E.out F.out,(Below.refl _ _).alloc (Nat.le_refl _) _⟩
  ·have E:=hid (Num.quo_same n 4294967296 (by omega) hm)
   have F:=hid (Num.rem_same n 4294967296 (by omega) hm)
   go_enter Tryz.func115,Tryz.ntmps115;go_wp2;refine bodyPost_ret (v:=big _ _) (by simp[results,Tryz.results115,go_sem]) rfl ⟨ret_big E.out F.out,(Below.refl _ _).alloc (Nat.le_refl _) _⟩
theorem below4(w:World)(a b c d:Obj):Below w.heap.size w ((((w.alloc a).alloc b).alloc c).alloc d):=
 ((((Below.refl _ _).alloc (Nat.le_refl _) _).alloc (by simp) _).alloc (by simp;omega) _).alloc (by simp;omega) _
theorem plus_ok(h l k m s t:Int)(w:World)(a0:-4294967296≤h)(a1:h≤4294967296)(b0:-4294967296≤k)(b1:k≤4294967296)
  (c0:0≤l) (c1:l<4294967296) (d0:0≤m) (d1:m<4294967296) (hs:Hid (s*4294967296+t=(h+k)*4294967296+(l+m))) (t0:0≤t) (t1:t<4294967296):
  Calls Tryz.prog 114 #[big h l,big k m] w fun e w'=>e=.returned (big s t)∧Below w.heap.size w w':=by
 by_cases hc:4294967296≤l+m
 ·go_enter Tryz.func114,Tryz.ntmps114
  go_wp2;refine bodyPost_ret (v:=big s t) ?_ rfl ⟨rfl,below4 _ _ _ _ _⟩
  have e:=hs.out;simp[results,Tryz.results114,go_sem];omega
 ·go_enter Tryz.func114,Tryz.ntmps114
  go_wp2;refine bodyPost_ret (v:=big s t) ?_ rfl ⟨rfl,below4 _ _ _ _ _⟩
  have e:=hs.out;simp[results,Tryz.results114,go_sem];omega
theorem minus_ok(h l k m s t:Int)(w:World)(a0:-4294967296≤h)(a1:h≤4294967296)(b0:-4294967296≤k)(b1:k≤4294967296)
  (c0:0≤l) (c1:l<4294967296) (d0:0≤m) (d1:m<4294967296) (hs:Hid (s*4294967296+t=(h-k)*4294967296+(l-m))) (t0:0≤t) (t1:t<4294967296):
  Calls Tryz.prog 167 #[big h l,big k m] w fun e w'=>e=.returned (big s t)∧Below w.heap.size w w':=by
 by_cases hc:l-m<0
 ·go_enter Tryz.func167,Tryz.ntmps167
  go_wp2;refine bodyPost_ret (v:=big s t) ?_ rfl ⟨rfl,below4 _ _ _ _ _⟩
  have e:=hs.out;simp[results,Tryz.results167,go_sem];omega
 ·go_enter Tryz.func167,Tryz.ntmps167
  go_wp2;refine bodyPost_ret (v:=big s t) ?_ rfl ⟨rfl,below4 _ _ _ _ _⟩
  have e:=hs.out;simp[results,Tryz.results167,go_sem];omega
theorem fits_yes(h l:Int)(w:World)(a0:-2147483648≤h)(a1:h≤2147483647)(c0:0≤l)(c1:l<4294967296):
  Calls Tryz.prog 166 #[big h l] w fun e w'=>e=.returned (.tuple #[.int .i64 (h*4294967296+l),.bool true])∧Below w.heap.size w w':=by
 go_enter Tryz.func166,Tryz.ntmps166
 go_wp2
 go_ret2
 exact⟨rfl,(Below.refl _ _).alloc (Nat.le_refl _) _⟩
theorem fits_no(h l:Int)(w:World)(a:h < -2147483648∨2147483647<h):
  Calls Tryz.prog 166 #[big h l] w fun e w'=>e=.returned (.tuple #[.int .i64 0,.bool false])∧Below w.heap.size w w':=by
 rcases a with a|a
 ·go_enter Tryz.func166,Tryz.ntmps166
  go_wp2;go_ret2;exact⟨rfl,(Below.refl _ _).alloc (Nat.le_refl _) _⟩
 ·have a':¬h < -2147483648:=by omega
  go_enter Tryz.func166,Tryz.ntmps166;go_wp2;go_ret2;exact⟨rfl,(Below.refl _ _).alloc (Nat.le_refl _) _⟩
theorem below_after{a b c:World}(h:Below a.heap.size a b)(k:Below b.heap.size b c):Below a.heap.size a c:=h.trans (k.mono h.size)
theorem add_yes(a b:Int)(w:World)(ha0:-9223372036854775808≤a)(ha1:a≤9223372036854775807)(hb0:-9223372036854775808≤b)(hb1:b≤9223372036854775807)
  (h0:-9223372036854775808≤a+b) (h1:a+b≤9223372036854775807):
  Calls Tryz.prog 165 #[.int .i64 a,.int .i64 b] w fun e w'=>e=.returned (.tuple #[.int .i64 (a+b),.bool true])∧Below w.heap.size w w':=by
 go_enter Tryz.func165,Tryz.ntmps165
 go_wp2_with fail
 refine (wide_ok a _ ha0 ha1).mono ?_
 rintro e w1 ⟨rfl,k1⟩
 go_wp2_with fail
 refine (wide_ok b _ hb0 hb1).mono ?_
 rintro e w2 ⟨rfl,k2⟩
 go_wp2_with fail
 refine (plus_ok (a / 4294967296) (a%4294967296) (b / 4294967296) (b%4294967296) ((a+b) / 4294967296) ((a+b)%4294967296) _
  (by omega) (by omega) (by omega) (by omega) (by omega) (by omega) (by omega) (by omega) (hid (by omega)) (by omega) (by omega)).mono ?_
 rintro e w3 ⟨rfl,k3⟩
 go_wp2_with fail
 refine (fits_yes ((a+b) / 4294967296) ((a+b)%4294967296) _ (by omega) (by omega) (by omega) (by omega)).mono ?_
 rintro e w4 ⟨rfl,k4⟩
 go_wp2
 go_ret2
 exact⟨Num.ret_int2 _ (by omega),below_after (below_after (below_after k1 k2) k3) k4⟩
theorem add_no(a b:Int)(w:World)(ha0:-9223372036854775808≤a)(ha1:a≤9223372036854775807)(hb0:-9223372036854775808≤b)(hb1:b≤9223372036854775807)
  (h:a+b < -9223372036854775808∨9223372036854775807<a+b):
  Calls Tryz.prog 165 #[.int .i64 a,.int .i64 b] w fun e w'=>e=.returned (.tuple #[.int .i64 0,.bool false])∧Below w.heap.size w w':=by
 go_enter Tryz.func165,Tryz.ntmps165
 go_wp2_with fail
 refine (wide_ok a _ ha0 ha1).mono ?_
 rintro e w1 ⟨rfl,k1⟩
 go_wp2_with fail
 refine (wide_ok b _ hb0 hb1).mono ?_
 rintro e w2 ⟨rfl,k2⟩
 go_wp2_with fail
 refine (plus_ok (a / 4294967296) (a%4294967296) (b / 4294967296) (b%4294967296) ((a+b) / 4294967296) ((a+b)%4294967296) _
  (by omega) (by omega) (by omega) (by omega) (by omega) (by omega) (by omega) (by omega) (hid (by omega)) (by omega) (by omega)).mono ?_
 rintro e w3 ⟨rfl,k3⟩
 go_wp2_with fail
 refine (fits_no ((a+b) / 4294967296) ((a+b)%4294967296) _ (by omega)).mono ?_
 rintro e w4 ⟨rfl,k4⟩
 go_wp2
 go_ret2
 exact⟨rfl,below_after (below_after (below_after k1 k2) k3) k4⟩
theorem sub_yes(a b:Int)(w:World)(ha0:-9223372036854775808≤a)(ha1:a≤9223372036854775807)(hb0:-9223372036854775808≤b)(hb1:b≤9223372036854775807)
  (h0:-9223372036854775808≤a-b) (h1:a-b≤9223372036854775807):
  Calls Tryz.prog 147 #[.int .i64 a,.int .i64 b] w fun e w'=>e=.returned (.tuple #[.int .i64 (a-b),.bool true])∧Below w.heap.size w w':=by
 go_enter Tryz.func147,Tryz.ntmps147
 go_wp2_with fail
 refine (wide_ok a _ ha0 ha1).mono ?_
 rintro e w1 ⟨rfl,k1⟩
 go_wp2_with fail
 refine (wide_ok b _ hb0 hb1).mono ?_
 rintro e w2 ⟨rfl,k2⟩
 go_wp2_with fail
 refine (minus_ok (a / 4294967296) (a%4294967296) (b / 4294967296) (b%4294967296) ((a-b) / 4294967296) ((a-b)%4294967296) _
  (by omega) (by omega) (by omega) (by omega) (by omega) (by omega) (by omega) (by omega) (hid (by omega)) (by omega) (by omega)).mono ?_
 rintro e w3 ⟨rfl,k3⟩
 go_wp2_with fail
 refine (fits_yes ((a-b) / 4294967296) ((a-b)%4294967296) _ (by omega) (by omega) (by omega) (by omega)).mono ?_
 rintro e w4 ⟨rfl,k4⟩
 go_wp2
 go_ret2
 exact⟨Num.ret_int2 _ (by omega),below_after (below_after (below_after k1 k2) k3) k4⟩
theorem sub_no(a b:Int)(w:World)(ha0:-9223372036854775808≤a)(ha1:a≤9223372036854775807)(hb0:-9223372036854775808≤b)(hb1:b≤9223372036854775807)
  (h:a-b < -9223372036854775808∨9223372036854775807<a-b):
  Calls Tryz.prog 147 #[.int .i64 a,.int .i64 b] w fun e w'=>e=.returned (.tuple #[.int .i64 0,.bool false])∧Below w.heap.size w w':=by
 go_enter Tryz.func147,Tryz.ntmps147
 go_wp2_with fail
 refine (wide_ok a _ ha0 ha1).mono ?_
 rintro e w1 ⟨rfl,k1⟩
 go_wp2_with fail
 refine (wide_ok b _ hb0 hb1).mono ?_
 rintro e w2 ⟨rfl,k2⟩
 go_wp2_with fail
 refine (minus_ok (a / 4294967296) (a%4294967296) (b / 4294967296) (b%4294967296) ((a-b) / 4294967296) ((a-b)%4294967296) _
  (by omega) (by omega) (by omega) (by omega) (by omega) (by omega) (by omega) (by omega) (hid (by omega)) (by omega) (by omega)).mono ?_
 rintro e w3 ⟨rfl,k3⟩
 go_wp2_with fail
 refine (fits_no ((a-b) / 4294967296) ((a-b)%4294967296) _ (by omega)).mono ?_
 rintro e w4 ⟨rfl,k4⟩
 go_wp2
 go_ret2
 exact⟨rfl,below_after (below_after (below_after k1 k2) k3) k4⟩
theorem down_of(a b n:Int)(ok:Bool)(w:World)(ha0:-9223372036854775808≤a)(ha1:a≤9223372036854775807)(hb0:1≤b)(hb1:b≤9223372036854775807)
  (hsub:Hid (Calls Tryz.prog 147 #[.int .i64 a,.int .i64 (a%b)] w fun e w'=>e=.returned (.tuple #[.int .i64 n,.bool ok])∧Below w.heap.size w w')):
  Calls Tryz.prog 146 #[.int .i64 a,.int .i64 b] w fun e w'=>e=.returned (.tuple #[.int .i64 n,.bool ok])∧Below w.heap.size w w':=by
 have g0:=Int.emod_nonneg a (b:=b) (by omega)
 have g1:=Int.emod_lt_of_pos a (b:=b) (by omega)
 by_cases h0:0≤a
 ·have hm:¬a%b<0:=by omega
  go_enter Tryz.func146,Tryz.ntmps146;go_wp2_with (go_at_call 147;refine (hsub.out).mono ?_;rintro e w' ⟨rfl,k1⟩)
  go_ret2;exact⟨rfl,k1⟩
 ·by_cases hm:a.tmod b<0
  ·have hr:-b<a.tmod b:=by have:=Int.lt_tmod_of_pos a (b:=b) (by omega);omega
   have F:=hid (Num.rem_down a b hb0 hm);go_enter Tryz.func146,Tryz.ntmps146;go_wp2_with (go_at_call 147;rw[F.out];refine (hsub.out).mono ?_;rintro e w' ⟨rfl,k1⟩)
   go_ret2;exact⟨rfl,k1⟩
  ·have F:=hid (Num.rem_same a b hb0 hm)
   go_enter Tryz.func146,Tryz.ntmps146;go_wp2_with (go_at_call 147;rw[F.out];refine (hsub.out).mono ?_;rintro e w' ⟨rfl,k1⟩)
   go_ret2;exact⟨rfl,k1⟩
theorem down_yes(a b:Int)(w:World)(ha0:-9223372036854775808≤a)(ha1:a≤9223372036854775807)(hb0:1≤b)(hb1:b≤9223372036854775807)
  (h0:-9223372036854775808≤a-a%b):
  Calls Tryz.prog 146 #[.int .i64 a,.int .i64 b] w fun e w'=>e=.returned (.tuple #[.int .i64 (a-a%b),.bool true])∧Below w.heap.size w w':=by
 have g0:=Int.emod_nonneg a (b:=b) (by omega)
 have g1:=Int.emod_lt_of_pos a (b:=b) (by omega)
 exact down_of a b _ _ w ha0 ha1 hb0 hb1 (hid (sub_yes a (a%b) w ha0 ha1 (by omega) (by omega) h0 (by omega)))
theorem down_no(a b:Int)(w:World)(ha0:-9223372036854775808≤a)(ha1:a≤9223372036854775807)(hb0:1≤b)(hb1:b≤9223372036854775807)
  (h0:a-a%b < -9223372036854775808):
  Calls Tryz.prog 146 #[.int .i64 a,.int .i64 b] w fun e w'=>e=.returned (.tuple #[.int .i64 0,.bool false])∧Below w.heap.size w w':=by
 have g0:=Int.emod_nonneg a (b:=b) (by omega)
 have g1:=Int.emod_lt_of_pos a (b:=b) (by omega)
 exact down_of a b _ _ w ha0 ha1 hb0 hb1 (hid (sub_no a (a%b) w ha0 ha1 (by omega) (by omega) (.inl h0)))
end Ref01
namespace RefSpan
open Ref01 Spn
theorem above_ok(h l k m:Int)(w:World)(c0:0≤l)(c1:l<4294967296)(d0:0≤m)(d1:m<4294967296):
  Calls Tryz.prog 113 #[big h l,big k m] w fun r w'=>r=.returned (.bool (decide (k*4294967296+m<h*4294967296+l)))∧Below w.heap.size w w':=by
 by_cases h1:k<h
 ·have hd:(decide (k*4294967296+m<h*4294967296+l))=true:=by simp;omega
  rw[hd];clear hd;go_enter Tryz.func113,Tryz.ntmps113;go_wp2;go_ret;exact⟨rfl,below2 _ _ _⟩
 ·by_cases h2:h=k
  ·subst h2
   have hd:(decide (h*4294967296+m<h*4294967296+l))=decide (m<l):=by simp only[decide_eq_decide];omega
   rw[hd];clear hd;go_enter Tryz.func113,Tryz.ntmps113;go_wp2;go_ret;exact⟨rfl,below2 _ _ _⟩
  ·have hd:(decide (k*4294967296+m<h*4294967296+l))=false:=by simp;omega
   have hq:(h == k)=false:=by simp[h2]
   rw[hd];clear hd;go_enter Tryz.func113,Tryz.ntmps113;go_wp2;go_ret;exact⟨rfl,below2 _ _ _⟩
theorem over_ok(s e l m:Int)(w:World)(he0:-9223372036854775808≤e)(he1:e≤9223372036854775807)(hl0:-9223372036854775808≤l)(hl1:l≤9223372036854775807)
  (hm0:-9223372036854775808≤m) (hm1:m≤9223372036854775807):
  Calls Tryz.prog 78 #[win s e,.int .i64 l,.int .i64 m] w fun r w'=>r=.returned (.bool (decide (e+l≤m)))∧Below w.heap.size w w':=by
 go_enter Tryz.func78,Tryz.ntmps78
 go_wp2_with fail
 refine (wide_ok e _ he0 he1).mono ?_
 rintro r w1 ⟨rfl,k1⟩
 go_wp2_with fail
 refine (wide_ok l _ hl0 hl1).mono ?_
 rintro r w2 ⟨rfl,k2⟩
 go_wp2_with fail
 refine (plus_ok (e / 4294967296) (e%4294967296) (l / 4294967296) (l%4294967296) ((e+l) / 4294967296) ((e+l)%4294967296) _
  (by omega) (by omega) (by omega) (by omega) (by omega) (by omega) (by omega) (by omega) (hid (by omega)) (by omega) (by omega)).mono ?_
 rintro r w3 ⟨rfl,k3⟩
 go_wp2_with fail
 refine (wide_ok m _ hm0 hm1).mono ?_
 rintro r w4 ⟨rfl,k4⟩
 go_wp2_with fail
 refine (above_ok _ _ _ _ _ (by omega) (by omega) (by omega) (by omega)).mono ?_
 rintro r w5 ⟨rfl,k5⟩
 go_wp2
 go_ret
 refine⟨ret_bool ?_,after (below1 _ _) (after k1 (after k2 (after k3 (after k4 k5))))⟩
 rw[←decide_not]
 simp only[decide_eq_decide]
 omega
theorem comp_ok(a b c d:Int)(w:World):
  Calls Tryz.prog 118 #[win a b,win c d] w fun r w'=>r=.returned (.int .i64 (cmpW a b c d))∧Below w.heap.size w w':=by
 by_cases h1:a<c
 ·go_enter Tryz.func118,Tryz.ntmps118
  go_wp2;go_ret;exact⟨ret_int (by unfold cmpW cmp3;split<;>omega),below2 _ _ _⟩
 ·by_cases h2:a=c
  ·subst h2
   by_cases h3:b<d
   ·go_enter Tryz.func118,Tryz.ntmps118
    go_wp2;go_ret;exact⟨ret_int (by unfold cmpW cmp3;repeat' split;all_goals omega),below2 _ _ _⟩
   ·by_cases h4:b=d
    ·subst h4
     go_enter Tryz.func118,Tryz.ntmps118;go_wp2;go_ret;exact⟨ret_int (by unfold cmpW cmp3;repeat' split;all_goals omega),below2 _ _ _⟩
    ·have hq:(b == d)=false:=by simp[h4]
     go_enter Tryz.func118,Tryz.ntmps118;go_wp2;go_ret;exact⟨ret_int (by unfold cmpW cmp3;repeat' split;all_goals omega),below2 _ _ _⟩
  ·have hq:(a == c)=false:=by simp[h2]
   go_enter Tryz.func118,Tryz.ntmps118;go_wp2;go_ret;exact⟨ret_int (by unfold cmpW cmp3;repeat' split;all_goals omega),below2 _ _ _⟩
theorem meet_ok(a b c d:Int)(w:World):
  Calls Tryz.prog 149 #[win a b,win c d] w fun r w'=>r=.returned (.bool (decide (max a c<min b d)))∧Below w.heap.size w w':=by
 obtain⟨x,hx⟩:∃ x,x=decide (max a c<min b d):=⟨_,rfl⟩
 rw[←hx]
 have X:=hid hx
 clear hx
 by_cases h1:a<c
 ·by_cases h2:c<b
  ·go_enter Tryz.func149,Tryz.ntmps149
   go_wp2;go_ret;exact⟨ret_bool (by rw[X.out];simp only[decide_eq_decide];omega),below2 _ _ _⟩
  ·go_enter Tryz.func149,Tryz.ntmps149
   go_wp2;go_ret;exact⟨ret_bool (by rw[X.out];symm;rw[decide_eq_false_iff_not];omega),below2 _ _ _⟩
 ·by_cases h2:a<b
  ·go_enter Tryz.func149,Tryz.ntmps149
   go_wp2;go_ret;exact⟨ret_bool (by rw[X.out];simp only[decide_eq_decide];omega),below2 _ _ _⟩
  ·go_enter Tryz.func149,Tryz.ntmps149
   go_wp2;go_ret;exact⟨ret_bool (by rw[X.out];symm;rw[decide_eq_false_iff_not];omega),below2 _ _ _⟩
theorem join_ok(a b c d x y:Int)(w:World)(hx:Hid (x=min a c))(hy:Hid (y=max b d)):
  Calls Tryz.prog 150 #[win a b,win c d] w fun r w'=>r=.returned (win x y)∧Below w.heap.size w w':=by
 by_cases h1:c<a
 ·by_cases h2:b<d
  ·go_enter Tryz.func150,Tryz.ntmps150
   go_wp2;refine bodyPost_ret (v:=win c d) (by simp[results,Tryz.results150,go_sem]) rfl ⟨ret_win (by rw[hx.out];omega) (by rw[hy.out];omega),below3 _ _ _ _⟩
  ·go_enter Tryz.func150,Tryz.ntmps150
   go_wp2;refine bodyPost_ret (v:=win c b) (by simp[results,Tryz.results150,go_sem]) rfl ⟨ret_win (by rw[hx.out];omega) (by rw[hy.out];omega),below3 _ _ _ _⟩
 ·by_cases h2:b<d
  ·go_enter Tryz.func150,Tryz.ntmps150
   go_wp2;refine bodyPost_ret (v:=win a d) (by simp[results,Tryz.results150,go_sem]) rfl ⟨ret_win (by rw[hx.out];omega) (by rw[hy.out];omega),below3 _ _ _ _⟩
  ·go_enter Tryz.func150,Tryz.ntmps150
   go_wp2;refine bodyPost_ret (v:=win a b) (by simp[results,Tryz.results150,go_sem]) rfl ⟨ret_win (by rw[hx.out];omega) (by rw[hy.out];omega),below3 _ _ _ _⟩
end RefSpan
end Go.Proofs.YtfjlnniahfbdfaaGreat
