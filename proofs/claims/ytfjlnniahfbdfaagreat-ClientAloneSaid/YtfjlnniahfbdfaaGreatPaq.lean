/- A part of the proof. -/
import Derived.Test.YtfjlnniahfbdfaaGreatPai
import Derived.OwnWalk
import Derived.Laws.OwnMore
import Derived.LoopTactic
set_option linter.unusedVariables false
set_option maxHeartbeats 4000000
namespace Go.Proofs.YtfjlnniahfbdfaaGreat
open Lib (hid)
open Go.ChangeShapes Go.WideShapes Go.ChangeAt Go.RowKit
namespace Asg
open Base
def mayW(k s l g:Int):Prop:=(k=0∧0<s)∨(k=1∧0<l∧l≤s∧(s-1) / l≤15)∨(k=2∧0<g)
def may(k s l g z h r c:Int):Prop:=mayW k s l g∧0≤z∧1≤h∧h≤8∧1≤r∧r≤16∧1≤c∧c≤16
theorem within_ok(n m:Int)(w:World):Calls Tryz.prog 105 #[.int .i64 n,.int .i64 m] w fun e w'=>e=.returned (.bool (decide (1≤n)&&decide (n≤m)))∧w=w':=by
 by_cases h:1≤n
 ·go_enter Tryz.func105,Tryz.ntmps105
  go_wp2;go_ret;exact⟨ret_bool (by simp[h]),rfl⟩
 ·have hd:(decide (1≤n)&&decide (n≤m))=false:=by simp[h]
  rw[hd];clear hd;go_enter Tryz.func105,Tryz.ntmps105;go_wp2;go_ret;exact⟨rfl,rfl⟩
theorem within_yes(n m:Int)(w:World)(h:1≤n)(k:n≤m):Calls Tryz.prog 105 #[.int .i64 n,.int .i64 m] w fun e w'=>e=.returned (.bool true)∧w=w':=
 (within_ok n m w).mono fun _ _ ⟨a,b⟩=>⟨a.trans (ret_bool (by simp[h,k])),b⟩
theorem within_no(n m:Int)(w:World)(h:¬(1≤n∧n≤m)):Calls Tryz.prog 105 #[.int .i64 n,.int .i64 m] w fun e w'=>e=.returned (.bool false)∧w=w':=
 (within_ok n m w).mono fun _ _ ⟨a,b⟩=>⟨a.trans (ret_bool (by rw[Bool.and_eq_false_iff];simp only[decide_eq_false_iff_not];omega)),b⟩
theorem maySlides_ok(s l:Int)(w:World)(h0:1≤s)(h1:s≤9223372036854775807)(k0:1≤l):
  Calls Tryz.prog 143 #[.int .i64 s,.int .i64 l] w fun e w'=>e=.returned (.bool (decide ((s-1) / l≤15)))∧w=w':=by
 have hd:(s-1).tdiv l=(s-1) / l:=Int.tdiv_eq_ediv_of_nonneg (by omega)
 have hb:=Num.tdiv_bd (s-1) l k0 (by omega) (by omega)
 obtain⟨hb0,hb1⟩:=hb
 rw[hd] at hb0 hb1
 have D:=hid hd
 clear hd
 have hn:¬l=0:=by omega
 go_enter Tryz.func143,Tryz.ntmps143
 go_wp2
 go_ret
 exact⟨ret_bool (by first|rfl|rw[D.out]),rfl⟩
theorem maySlides_yes(s l:Int)(w:World)(h0:1≤s)(h1:s≤9223372036854775807)(k0:1≤l)(h:Hid ((s-1) / l≤15)):
  Calls Tryz.prog 143 #[.int .i64 s,.int .i64 l] w fun e w'=>e=.returned (.bool true)∧w=w':=
 (maySlides_ok s l w h0 h1 k0).mono fun _ _ ⟨a,b⟩=>⟨a.trans (ret_bool (by simp[h.out])),b⟩
theorem maySlides_no(s l:Int)(w:World)(h0:1≤s)(h1:s≤9223372036854775807)(k0:1≤l)(h:Hid (15<(s-1) / l)):
  Calls Tryz.prog 143 #[.int .i64 s,.int .i64 l] w fun e w'=>e=.returned (.bool false)∧w=w':=
 (maySlides_ok s l w h0 h1 k0).mono fun _ _ ⟨a,b⟩=>⟨a.trans (ret_bool (by have:=h.out;simp;omega)),b⟩
theorem mayWindows_ok(k s l g z h r c:Int)(w:World)(b:Bool)(B:Hid (b=true↔mayW k s l g))(s1:s≤9223372036854775807):
  Calls Tryz.prog 104 #[cfg k s l g z h r c] w fun e w'=>e=.returned (.bool b)∧Below w.heap.size w w':=by
 by_cases h0:k=0
 ·subst h0
  go_enter Tryz.func104,Tryz.ntmps104;go_wp2;go_ret;exact⟨ret_bool (by rw[Bool.eq_iff_iff,B.out];unfold mayW;simp),below1 _ _⟩
 ·have q0:(k == 0)=false:=by simp[h0]
  by_cases h1:k=1
  ·subst h1
   by_cases h2:0<l
   ·by_cases h3:l≤s
    ·by_cases h4:(s-1) / l≤15
     ·have H4:=hid h4
      clear h4;obtain rfl:b=true:=B.out.2 (.inr (.inl ⟨rfl,h2,h3,H4.out⟩));go_enter Tryz.func104,Tryz.ntmps104;go_wp2_with fail
      refine (maySlides_yes s l _ (by omega) s1 (by omega) H4).mono ?_
      rintro e w' ⟨rfl,rfl⟩;go_wp2;go_ret;exact⟨rfl,below1 _ _⟩
     ·have H4:Hid (15<(s-1) / l):=hid (by omega)
      clear h4
      obtain rfl:b=false:=by
       rw[←Bool.not_eq_true,B.out];unfold mayW;have:=H4.out;omega
      go_enter Tryz.func104,Tryz.ntmps104;go_wp2_with fail
      refine (maySlides_no s l _ (by omega) s1 (by omega) H4).mono ?_
      rintro e w' ⟨rfl,rfl⟩;go_wp2;go_ret;exact⟨rfl,below1 _ _⟩
    ·obtain rfl:b=false:=by
      rw[←Bool.not_eq_true,B.out];unfold mayW;omega
     go_enter Tryz.func104,Tryz.ntmps104;go_wp2;go_ret;exact⟨rfl,below1 _ _⟩
   ·obtain rfl:b=false:=by
     rw[←Bool.not_eq_true,B.out];unfold mayW;omega
    go_enter Tryz.func104,Tryz.ntmps104;go_wp2;go_ret;exact⟨rfl,below1 _ _⟩
  ·have q1:(k == 1)=false:=by simp[h1]
   by_cases h2:k=2
   ·subst h2
    go_enter Tryz.func104,Tryz.ntmps104;go_wp2;go_ret;exact⟨ret_bool (by rw[Bool.eq_iff_iff,B.out];unfold mayW;simp),below1 _ _⟩
   ·have q2:(k == 2)=false:=by simp[h2]
    obtain rfl:b=false:=by
     rw[←Bool.not_eq_true,B.out];unfold mayW;omega
    clear h0 h1 h2;go_enter Tryz.func104,Tryz.ntmps104;go_wp2;go_ret;exact⟨rfl,below1 _ _⟩
theorem may_ok(k s l g z h r c:Int)(w:World)(b:Bool)(B:Hid (b=true↔may k s l g z h r c))(s1:s≤9223372036854775807):
  Calls Tryz.prog 62 #[cfg k s l g z h r c] w fun e w'=>e=.returned (.bool b)∧Below w.heap.size w w':=by
 have C0:=hid (Cfg.new w k s l g z h r c)
 by_cases hw:mayW k s l g
 ·have HW:Hid (∀ w,Calls Tryz.prog 104 #[cfg k s l g z h r c] w fun e w'=>e=.returned (.bool true)∧Below w.heap.size w w'):=
   hid fun w=>mayWindows_ok k s l g z h r c w true (hid (by simp[hw])) s1
  have E0:Hid (b=true↔(0≤z∧1≤h∧h≤8∧1≤r∧r≤16∧1≤c∧c≤16)):=hid (by rw[B.out];unfold may;simp[hw])
  clear hw B;by_cases hz:0≤z
  ·by_cases hh:1≤h∧h≤8
   ·obtain⟨hh0,hh1⟩:=hh
    by_cases hr:1≤r∧r≤16
    ·obtain⟨hr0,hr1⟩:=hr
     by_cases hc:1≤c∧c≤16
     ·obtain⟨hc0,hc1⟩:=hc
      obtain rfl:b=true:=E0.out.2 ⟨hz,hh0,hh1,hr0,hr1,hc0,hc1⟩;go_enter Tryz.func62,Tryz.ntmps62;go_wp2_with fail
      refine (HW.out _).mono ?_
      rintro e w1 ⟨rfl,k1⟩;obtain⟨c0,c1,c2,c3,c4,c5,c6,c7⟩:=C0.out.next k1;go_wp2_with fail
      refine (within_yes h 8 _ hh0 hh1).mono ?_
      rintro e w' ⟨rfl,rfl⟩;go_wp2_with fail
      refine (within_yes r 16 _ hr0 hr1).mono ?_
      rintro e w' ⟨rfl,rfl⟩;go_wp2_with fail
      refine (within_yes c 16 _ hc0 hc1).mono ?_
      rintro e w' ⟨rfl,rfl⟩;go_wp2;go_ret;exact⟨rfl,after (below1 _ _) k1⟩
     ·obtain rfl:b=false:=by rw[←Bool.not_eq_true,E0.out];omega
      have H:=hid hc;clear hc;go_enter Tryz.func62,Tryz.ntmps62;go_wp2_with fail
      refine (HW.out _).mono ?_
      rintro e w1 ⟨rfl,k1⟩;obtain⟨c0,c1,c2,c3,c4,c5,c6,c7⟩:=C0.out.next k1;go_wp2_with fail
      refine (within_yes h 8 _ hh0 hh1).mono ?_
      rintro e w' ⟨rfl,rfl⟩;go_wp2_with fail
      refine (within_yes r 16 _ hr0 hr1).mono ?_
      rintro e w' ⟨rfl,rfl⟩;go_wp2_with fail
      refine (within_no c 16 _ (by have:=H.out;omega)).mono ?_
      rintro e w' ⟨rfl,rfl⟩;go_wp2;go_ret;exact⟨rfl,after (below1 _ _) k1⟩
    ·obtain rfl:b=false:=by rw[←Bool.not_eq_true,E0.out];omega
     have H:=hid hr;clear hr;go_enter Tryz.func62,Tryz.ntmps62;go_wp2_with fail
     refine (HW.out _).mono ?_
     rintro e w1 ⟨rfl,k1⟩;obtain⟨c0,c1,c2,c3,c4,c5,c6,c7⟩:=C0.out.next k1;go_wp2_with fail
     refine (within_yes h 8 _ hh0 hh1).mono ?_
     rintro e w' ⟨rfl,rfl⟩;go_wp2_with fail
     refine (within_no r 16 _ (by have:=H.out;omega)).mono ?_
     rintro e w' ⟨rfl,rfl⟩;go_wp2;go_ret;exact⟨rfl,after (below1 _ _) k1⟩
   ·obtain rfl:b=false:=by rw[←Bool.not_eq_true,E0.out];omega
    have H:=hid hh;clear hh;go_enter Tryz.func62,Tryz.ntmps62;go_wp2_with fail
    refine (HW.out _).mono ?_
    rintro e w1 ⟨rfl,k1⟩;obtain⟨c0,c1,c2,c3,c4,c5,c6,c7⟩:=C0.out.next k1;go_wp2_with fail
    refine (within_no h 8 _ (by have:=H.out;omega)).mono ?_
    rintro e w' ⟨rfl,rfl⟩;go_wp2;go_ret;exact⟨rfl,after (below1 _ _) k1⟩
  ·obtain rfl:b=false:=by rw[←Bool.not_eq_true,E0.out];omega
   go_enter Tryz.func62,Tryz.ntmps62;go_wp2_with fail
   refine (HW.out _).mono ?_
   rintro e w1 ⟨rfl,k1⟩;obtain⟨c0,c1,c2,c3,c4,c5,c6,c7⟩:=C0.out.next k1;go_wp2;go_ret;exact⟨rfl,after (below1 _ _) k1⟩
 ·have HW:Hid (∀ w,Calls Tryz.prog 104 #[cfg k s l g z h r c] w fun e w'=>e=.returned (.bool false)∧Below w.heap.size w w'):=
   hid fun w=>mayWindows_ok k s l g z h r c w false (hid (by simp[hw])) s1
  obtain rfl:b=false:=by
   rw[←Bool.not_eq_true,B.out];unfold may;simp[hw]
  clear hw B;go_enter Tryz.func62,Tryz.ntmps62;go_wp2_with fail
  refine (HW.out _).mono ?_
  rintro e w1 ⟨rfl,k1⟩;obtain⟨c0,c1,c2,c3,c4,c5,c6,c7⟩:=C0.out.next k1;go_wp2;go_ret;exact⟨rfl,after (below1 _ _) k1⟩
theorem ceil_le(s l:Int)(h0:1≤l)(h1:l≤s):(0<s%l→(s / l+1≤16↔(s-1) / l≤15))∧(¬0<s%l→(s / l≤16↔(s-1) / l≤15)):=by
 have e1:=Int.emod_add_mul_ediv s l
 have e2:=Int.emod_nonneg s (b:=l) (by omega)
 have e3:=Int.emod_lt_of_pos s (b:=l) (by omega)
 constructor
 ·intro h
  have e:(s-1) / l=s / l:=by
   rw[Int.ediv_eq_iff_of_pos (by omega)]
   rw[Int.mul_comm (s / l) l];omega
  rw[e];omega
 ·intro h
  have e:(s-1) / l=s / l-1:=by
   rw[Int.ediv_eq_iff_of_pos (by omega)]
   rw[Int.sub_mul,Int.mul_comm (s / l) l];omega
  rw[e];omega
theorem refMay_ok(k s l g z h r c:Int)(w:World)(b:Bool)(B:Hid (b=true↔may k s l g z h r c))(s1:s≤9223372036854775807):
  Calls Tryz.prog 7 #[cfg k s l g z h r c] w fun e w'=>e=.returned (.bool b)∧Below w.heap.size w w':=by
 by_cases hz:0≤z∧1≤h∧h≤8∧1≤r∧r≤16∧1≤c∧c≤16
 ·have E0:Hid (b=true↔mayW k s l g):=hid (by rw[B.out];unfold may;simp[hz])
  obtain⟨hz0,hh0,hh1,hr0,hr1,hc0,hc1⟩:=hz;clear B;by_cases h0:k=0
  ·subst h0
   go_enter Tryz.func7,Tryz.ntmps7;go_wp2;go_ret;exact⟨ret_bool (by rw[Bool.eq_iff_iff,E0.out];unfold mayW;simp),below1 _ _⟩
  ·have q0:(k == 0)=false:=by simp[h0]
   by_cases h1:k=1
   ·subst h1
    by_cases h2:0<l
    ·by_cases h3:l≤s
     ·have hc:=ceil_le s l (by omega) h3
      have bd:0≤s / l:=Int.ediv_nonneg (by omega) (by omega)
      have bu:s / l≤s:=Int.ediv_le_self l (by omega)
      have hn:¬l<1:=by omega
      have hn':¬l=0:=by omega
      have E1:Hid (b=true↔(s-1) / l≤15):=hid (by rw[E0.out];unfold mayW;omega)
      by_cases h4:0<s%l
      ·have F:=hid (hc.1 h4)
       clear hc q0 h0 E0
       have bu2:s / l<9223372036854775807:=by
        rcases Int.lt_or_le l 2 with hl|hl
        ·obtain rfl:l=1:=by omega
         simp at h4
        ·have:=Int.ediv_lt_self_of_pos_of_ne_one (x:=s) (y:=l) (by omega) (by omega);omega
       go_enter Tryz.func7,Tryz.ntmps7;go_wp2;go_ret;exact⟨ret_bool (by rw[Bool.eq_iff_iff,E1.out,←F.out];simp),below1 _ _⟩
      ·have F:=hid (hc.2 h4)
       clear hc q0 h0 E0;go_enter Tryz.func7,Tryz.ntmps7;go_wp2;go_ret;exact⟨ret_bool (by rw[Bool.eq_iff_iff,E1.out,←F.out];simp),below1 _ _⟩
     ·obtain rfl:b=false:=by rw[←Bool.not_eq_true,E0.out];unfold mayW;omega
      have hn:¬l<1:=by omega
      go_enter Tryz.func7,Tryz.ntmps7;go_wp2;go_ret;exact⟨rfl,below1 _ _⟩
    ·obtain rfl:b=false:=by rw[←Bool.not_eq_true,E0.out];unfold mayW;omega
     have hn:l<1:=by omega
     go_enter Tryz.func7,Tryz.ntmps7;go_wp2;go_ret;exact⟨rfl,below1 _ _⟩
   ·have q1:(k == 1)=false:=by simp[h1]
    by_cases h2:k=2
    ·subst h2
     go_enter Tryz.func7,Tryz.ntmps7;go_wp2;go_ret;exact⟨ret_bool (by rw[Bool.eq_iff_iff,E0.out];unfold mayW;simp),below1 _ _⟩
    ·have q2:(k == 2)=false:=by simp[h2]
     obtain rfl:b=false:=by rw[←Bool.not_eq_true,E0.out];unfold mayW;omega
     clear h0 h1 h2;go_enter Tryz.func7,Tryz.ntmps7;go_wp2;go_ret;exact⟨rfl,below1 _ _⟩
 ·obtain rfl:b=false:=by rw[←Bool.not_eq_true,B.out];unfold may;exact fun h=>hz h.2
  clear B;by_cases c1:z<0
  ·clear hz
   go_enter Tryz.func7,Tryz.ntmps7;go_wp2;go_ret;exact⟨rfl,below1 _ _⟩
  ·by_cases c2:h<1
   ·clear hz
    go_enter Tryz.func7,Tryz.ntmps7;go_wp2;go_ret;exact⟨rfl,below1 _ _⟩
   ·by_cases c3:8<h
    ·clear hz
     go_enter Tryz.func7,Tryz.ntmps7;go_wp2;go_ret;exact⟨rfl,below1 _ _⟩
    ·by_cases c4:r<1
     ·clear hz
      go_enter Tryz.func7,Tryz.ntmps7;go_wp2;go_ret;exact⟨rfl,below1 _ _⟩
     ·by_cases c5:16<r
      ·clear hz
       go_enter Tryz.func7,Tryz.ntmps7;go_wp2;go_ret;exact⟨rfl,below1 _ _⟩
      ·by_cases c6:c<1
       ·clear hz
        go_enter Tryz.func7,Tryz.ntmps7;go_wp2;go_ret;exact⟨rfl,below1 _ _⟩
       ·have c7:16<c:=by omega
        clear hz;go_enter Tryz.func7,Tryz.ntmps7;go_wp2;go_ret;exact⟨rfl,below1 _ _⟩
end Asg
namespace Asg
open Base
theorem windowFrom_ok(a l z:Int)(w:World)(a0:-9223372036854775808≤a)(a1:a≤9223372036854775807)(l0:1≤l)(l1:l≤9223372036854775807)(z0:0≤z)(z1:z≤9223372036854775807)(h:a+l+z≤9223372036854775807):
  Calls Tryz.prog 185 #[.int .i64 a,.int .i64 l,.int .i64 z] w fun e w'=>e=.returned (.tuple #[win a (a+l),.nilIface])∧Below w.heap.size w w':=by
 go_enter Tryz.func185,Tryz.ntmps185
 go_wp2_with fail
 refine (Num.add_ok a l _ a0 a1 (by omega) l1 (by omega) (by omega)).mono ?_
 rintro e w' ⟨rfl,rfl⟩
 go_wp2_with fail
 refine (Num.add_ok (a+l) z _ (by omega) (by omega) (by omega) z1 (by omega) (by omega)).mono ?_
 rintro e w' ⟨rfl,rfl⟩
 go_wp2
 exact bodyPost_ret (v:=.tuple #[win a (a+l),.nilIface]) (by simp[results,Tryz.results185,go_sem]) rfl ⟨rfl,below1 _ _⟩
theorem windowFrom_bad(a l z:Int)(w:World)(a0:-9223372036854775808≤a)(a1:a≤9223372036854775807)(l0:1≤l)(l1:l≤9223372036854775807)(z0:0≤z)(z1:z≤9223372036854775807)(h:9223372036854775807<a+l+z):
  Calls Tryz.prog 185 #[.int .i64 a,.int .i64 l,.int .i64 z] w fun e w'=>e=.returned (.tuple #[win 0 0,.iface 134 (.int .i64 3)])∧Below w.heap.size w w':=by
 by_cases h1:a+l≤9223372036854775807
 ·go_enter Tryz.func185,Tryz.ntmps185
  go_wp2_with fail
  refine (Num.add_ok a l _ a0 a1 (by omega) l1 (by omega) h1).mono ?_
  rintro e w' ⟨rfl,rfl⟩;go_wp2_with fail
  refine (Num.add_bad (a+l) z _ (by omega) (by omega) (by omega) z1 (.inr h)).mono ?_
  rintro e w' ⟨rfl,rfl⟩;go_wp2;exact bodyPost_ret (v:=.tuple #[win 0 0,.iface 134 (.int .i64 3)]) (by simp[results,Tryz.results185,go_sem]) rfl ⟨rfl,below1 _ _⟩
 ·have h2:9223372036854775807<a+l:=by omega
  have H2:=hid h2;clear h1 h2 h;go_enter Tryz.func185,Tryz.ntmps185;go_wp2_with fail
  refine (Num.add_bad a l _ a0 a1 (by omega) l1 (.inr H2.out)).mono ?_
  rintro e w' ⟨rfl,rfl⟩;go_wp2;exact bodyPost_ret (v:=.tuple #[win 0 0,.iface 134 (.int .i64 3)]) (by simp[results,Tryz.results185,go_sem]) rfl ⟨rfl,below1 _ _⟩
def cells(a d l:Int):Nat→List Value
 |0=>[]
 |n+1=>cells a d l n++[.int .i64 (a+n*d),.int .i64 (a+n*d+l)]
theorem cells_len(a d l:Int)(n:Nat):(cells a d l n).length=n*2:=by
 induction n with
 |zero=>rfl
 |succ n ih=>simp[cells,ih];omega
theorem cells_at(a d l:Int)(n i:Nat)(h:i<n):(cells a d l n)[i*2]?=some (.int .i64 (a+i*d))∧(cells a d l n)[i*2+1]?=some (.int .i64 (a+i*d+l)):=by
 induction n with
 |zero=>omega
 |succ n ih=>
  have hl:=cells_len a d l n;by_cases hi:i<n
  ·obtain⟨h0,h1⟩:=ih hi
   rw[cells,List.getElem?_append_left (by omega),List.getElem?_append_left (by omega)]
   exact⟨h0,h1⟩
  ·obtain rfl:i=n:=by omega
   rw[cells,List.getElem?_append_right (by omega),List.getElem?_append_right (by omega),hl]
   simp
def Wins(w:World)(g n:Nat)(a d l:Int):Prop:=∀ i:Nat,i<n→w.cell? ⟨g,i*2,none⟩=some (.int .i64 (a+i*d))∧w.cell? ⟨g,i*2+1,none⟩=some (.int .i64 (a+i*d+l))
theorem Wins.next{w w':World}{g n:Nat}{a d l:Int}(k:Below w.heap.size w w')(h:Wins w g n a d l):Wins w' g n a d l:=fun i hi=>⟨cell_keep k (h i hi).1,cell_keep k (h i hi).2⟩
theorem Wins.of_own{w:World}{base g n c:Nat}{a d l:Int}{e:TypeId}(h:w.ownsRow base e 2 (.slice (some ⟨g,0,none⟩) n c) n (cells a d l n)):Wins w g n a d l:=by
 intro i hi
 obtain⟨h0,h1⟩:=cells_at a d l n i hi
 have x0:=h.cells (g:=g) rfl _ _ h0
 have x1:=h.cells (g:=g) rfl _ _ h1
 rw[Addr.add_lit,Nat.zero_add] at x0 x1
 exact⟨x0,x1⟩
theorem Tryz.infoWin:(Tryz.prog.info? 129).map (fun i=>(i.zero,i.size,i.bytes))=some (some (.agg #[.int .i64 0,.int .i64 0]),2,16):=by kernel_rfl
def Made(w:World)(n:Nat)(a d l:Int)(e:Ending)(w':World):Prop:=
 ∃ g c:Nat,e=.returned (.tuple #[.slice (some ⟨g,0,none⟩) n c,.nilIface])∧Wins w' g n a d l∧Below w.heap.size w w'∧w.heap.size≤g
def Fails(v:Value)(w:World)(e:Ending)(w':World):Prop:=e=.returned (.tuple #[.slice none 0 0,v])∧Below w.heap.size w w'
theorem own_next{w w':World}{base:Nat}{e:TypeId}{size:Nat}{v:Value}{n:Nat}{xs:List Value}(k:Below w.heap.size w w')(h:w.ownsRow base e size v n xs):w'.ownsRow base e size v n xs:=by
 refine⟨h.1,?_⟩
 rcases h.2 with h0|⟨g,cap,cur,h1,h2,h3,h4⟩
 ·exact .inl h0
 ·refine .inr ⟨g,cap,cur,h1,h2,?_,h4⟩
  have hg:g<w.heap.size:=by
   rcases Nat.lt_or_ge g w.heap.size with hlt|hge
   ·exact hlt
   ·rw[Array.getElem?_eq_none hge] at h3;cases h3
  exact (k.block g hg).trans h3
theorem two_one(x y:Int):∀ u∈[Value.int .i64 x,Value.int .i64 y],u.oneCell'=true:=by
 intro u hu
 simp at hu
 rcases hu with rfl|rfl<;>rfl
theorem two_cells(w1:World)(x y:Int):∀ j u,[Value.int .i64 x,Value.int .i64 y][j]?=some u→
  ((w1.alloc (Obj.cells #[.int .i64 x,.int .i64 y] 129)).alloc (Obj.cells #[.int .i64 x,.int .i64 y] 129)).cell? ((⟨w1.heap.size+1,0,none⟩:Addr).add j)=some u:=by
 intro j u hu
 match j,hu with
 |0,hu=>simp at hu;subst hu;go_simp
 |1,hu=>simp at hu;subst hu;rw[Addr.add_lit];go_simp
theorem own_step{w:World}{base n:Nat}{a d l:Int}{e:TypeId}{u:Value}(h:w.ownsRow base e 2 u (n+1) (cells a d l n++[.int .i64 (a+n*d),.int .i64 (a+n*d+l)])):w.ownsRow base e 2 u (n+1) (cells a d l (n+1)):=h
theorem mul_bd(d:Int)(n i:Nat)(hd:0≤d)(hi:i<n):0≤(i:Int)*d∧(i:Int)*d≤((n:Int)-1)*d:=
 ⟨Int.mul_nonneg (by omega) hd,Int.mul_le_mul_of_nonneg_right (by omega) hd⟩
theorem windowsFrom_ok(a d l z:Int)(n:Nat)(w:World)(n0:1≤n)(n1:n≤16)(a0:-9223372036854775808≤a)(d0:0≤d)(d1:d≤9223372036854775807)(l0:1≤l)(l1:l≤9223372036854775807)(z0:0≤z)(z1:z≤9223372036854775807)
  (m1:Hid (((n:Int)-1)*d≤9223372036854775807)) (h:Hid (a+((n:Int)-1)*d+l+z≤9223372036854775807)):
  Calls Tryz.prog 169 #[.int .i64 a,.int .i64 d,.int .i64 n,.int .i64 l,.int .i64 z] w (Made w n a d l):=by
 obtain⟨i0,hi,hz0,hz1,hz2⟩:=info_parts Tryz.infoWin
 go_enter Tryz.func169,Tryz.ntmps169
 go_wp2_with (at_make;refine wpList_make_own _ rfl _ _ 196 rfl w.heap.size 129 i0 (.agg #[.int .i64 0,.int .i64 0]) 2 Tryz.underlying196 hi hz0 hz1 _ _ _ n rfl rfl rfl ?b2 ?b3 (Nat.le_refl _) ?_)
 case b2=>rw[hz2];omega
 case b3=>unfold maxLen;omega
 intro w0 hown0 hgrow0
 go_wp2
 go_loopw [12,19] (fun out si wr=>∃ i:Nat,i≤n∧si=.int .i64 i∧out=.slice (some ⟨w.heap.size,0,none⟩) i n∧
   Hid (wr.ownsRow w.heap.size 129 2 (.slice (some ⟨w.heap.size,0,none⟩) i n) i (cells a d l i))∧Below w.heap.size w wr)
  (fun _ si _=>n-(intOf si).toNat)
 case atStart=>exact⟨0,Nat.zero_le _,rfl,rfl,hid hown0,(Below.refl _ _).grown hgrow0 (Nat.le_refl _) (fun k h=>by cases h)⟩
 case round=>
  obtain⟨i,hin,rfl,rfl,Hown,hnx⟩:=hrel;by_cases hlt:i<n
  ·have hb:=mul_bd d n i d0 hlt
   have hm:=m1.out;have hh:=h.out;obtain⟨b0,b1⟩:=hb;have b2:(i:Int)*d≤9223372036854775807:=by omega
   have b3:a+(i:Int)*d≤9223372036854775807:=by omega
   have b4:a+(i:Int)*d+l+z≤9223372036854775807:=by omega
   clear hm hh b1;go_wp2_with fail
   refine (windowFrom_ok (a+i*d) l z _ (by omega) b3 l0 l1 z0 z1 b4).mono ?_
   rintro e w1 ⟨rfl,k1⟩;have O1:=hid (((own_next k1 Hown.out).alloc (Obj.cells #[.int .i64 (a+i*d),.int .i64 (a+i*d+l)] 129)).alloc (Obj.cells #[.int .i64 (a+i*d),.int .i64 (a+i*d+l)] 129));have Y:=hid (two_cells w1 (a+i*d) (a+i*d+l));go_wp2_with (at_builtin;refine wpList_append_fits _ rfl (.tmp 36) (.tmp 38) 196 rfl w.heap.size 129 i0 2 Tryz.underlying196 hi hz1 w.heap.size i n (cells a d l i) rfl O1.out ⟨w1.heap.size+1,0,none⟩ 1 1 [.int .i64 (a+i*d),.int .i64 (a+i*d+l)] rfl rfl Y.out (two_one _ _) (by omega) ?_;intro w2 hown2 hgrow2;have O2:=hid hown2;clear hown2)
   go_roundw
   case rel=>
    have hs1:=hnx.size;have hs2:=k1.size;exact⟨i+1,by omega,by go_num,rfl,hid (own_step O2.out),((after hnx k1).trans (below2 _ _ _ |>.mono (by omega))).grown hgrow2 (by simp;omega) (fun k hk=>by cases hk;exact Nat.le_refl _)⟩
   case measure=>simp[intOf];omega
  ·obtain rfl:i=n:=by omega
   go_wp2;go_ret2;exact⟨_,_,rfl,Wins.of_own Hown.out,hnx,(World.ownsRow.lt Hown.out _ rfl).1⟩
theorem windowsFrom_bad(a d l z:Int)(n:Nat)(w:World)(n0:1≤n)(n1:n≤16)(a0:-9223372036854775808≤a)(d0:0≤d)(d1:d≤9223372036854775807)(l0:1≤l)(l1:l≤9223372036854775807)(z0:0≤z)(z1:z≤9223372036854775807)
  (m1:Hid (((n:Int)-1)*d≤9223372036854775807)) (m2:Hid (a+((n:Int)-1)*d≤9223372036854775807)) (h:Hid (9223372036854775807<a+((n:Int)-1)*d+l+z)):
  Calls Tryz.prog 169 #[.int .i64 a,.int .i64 d,.int .i64 n,.int .i64 l,.int .i64 z] w (Fails (.iface 134 (.int .i64 3)) w):=by
 obtain⟨i0,hi,hz0,hz1,hz2⟩:=info_parts Tryz.infoWin
 go_enter Tryz.func169,Tryz.ntmps169
 go_wp2_with (at_make;refine wpList_make_own _ rfl _ _ 196 rfl w.heap.size 129 i0 (.agg #[.int .i64 0,.int .i64 0]) 2 Tryz.underlying196 hi hz0 hz1 _ _ _ n rfl rfl rfl ?b2 ?b3 (Nat.le_refl _) ?_)
 case b2=>rw[hz2];omega
 case b3=>unfold maxLen;omega
 intro w0 hown0 hgrow0
 go_wp2
 go_loopw [12,19] (fun out si wr=>∃ i:Nat,i<n∧si=.int .i64 i∧out=.slice (some ⟨w.heap.size,0,none⟩) i n∧
   Hid (wr.ownsRow w.heap.size 129 2 (.slice (some ⟨w.heap.size,0,none⟩) i n) i (cells a d l i))∧Below w.heap.size w wr)
  (fun _ si _=>n-(intOf si).toNat)
 case atStart=>exact⟨0,by omega,rfl,rfl,hid hown0,(Below.refl _ _).grown hgrow0 (Nat.le_refl _) (fun k h=>by cases h)⟩
 case round=>
  obtain⟨i,hlt,rfl,rfl,Hown,hnx⟩:=hrel;have hb:=mul_bd d n i d0 hlt;have hm:=m1.out;have hm2:=m2.out;have hh:=h.out;obtain⟨b0,b1⟩:=hb;have b2:(i:Int)*d≤9223372036854775807:=by omega
  have b3:a+(i:Int)*d≤9223372036854775807:=by omega
  by_cases b4:a+(i:Int)*d+l+z≤9223372036854775807
  ·have b5:i+1<n:=by
    by_cases he:i+1=n
    ·have e:(n:Int)-1=i:=by omega
     rw[e] at hh;omega
    ·omega
   clear hm hm2 hh b1;go_wp2_with fail
   refine (windowFrom_ok (a+i*d) l z _ (by omega) b3 l0 l1 z0 z1 b4).mono ?_
   rintro e w1 ⟨rfl,k1⟩;have O1:=hid (((own_next k1 Hown.out).alloc (Obj.cells #[.int .i64 (a+i*d),.int .i64 (a+i*d+l)] 129)).alloc (Obj.cells #[.int .i64 (a+i*d),.int .i64 (a+i*d+l)] 129));have Y:=hid (two_cells w1 (a+i*d) (a+i*d+l));go_wp2_with (at_builtin;refine wpList_append_fits _ rfl (.tmp 36) (.tmp 38) 196 rfl w.heap.size 129 i0 2 Tryz.underlying196 hi hz1 w.heap.size i n (cells a d l i) rfl O1.out ⟨w1.heap.size+1,0,none⟩ 1 1 [.int .i64 (a+i*d),.int .i64 (a+i*d+l)] rfl rfl Y.out (two_one _ _) (by omega) ?_;intro w2 hown2 hgrow2;have O2:=hid hown2;clear hown2)
   go_roundw
   case rel=>
    have hs1:=hnx.size;have hs2:=k1.size;exact⟨i+1,b5,by go_num,rfl,hid (own_step O2.out),((after hnx k1).trans (below2 _ _ _ |>.mono (by omega))).grown hgrow2 (by simp;omega) (fun k hk=>by cases hk;exact Nat.le_refl _)⟩
   case measure=>simp[intOf];omega
  ·have b5:=hid (show 9223372036854775807<a+(i:Int)*d+l+z by omega)
   clear hm hm2 hh b1 b4;go_wp2_with fail
   refine (windowFrom_bad (a+i*d) l z _ (by omega) b3 l0 l1 z0 z1 b5.out).mono ?_
   rintro e w1 ⟨rfl,k1⟩;go_wp2;go_ret2;exact⟨rfl,(after hnx k1).trans ((below1 _ _).mono (by have:=hnx.size;have:=k1.size;omega))⟩
theorem windowsFrom_made(a d l z N:Int)(n:Nat)(w:World)(hN:N=n)(n0:1≤n)(n1:n≤16)(a0:-9223372036854775808≤a)(d0:0≤d)(d1:d≤9223372036854775807)(l0:1≤l)(l1:l≤9223372036854775807)(z0:0≤z)(z1:z≤9223372036854775807)
  (m1:Hid (((n:Int)-1)*d≤9223372036854775807)) (h:Hid (a+((n:Int)-1)*d+l+z≤9223372036854775807)):
  Calls Tryz.prog 169 #[.int .i64 a,.int .i64 d,.int .i64 N,.int .i64 l,.int .i64 z] w (Made w n a d l):=by
 subst hN
 exact windowsFrom_ok a d l z n w n0 n1 a0 d0 d1 l0 l1 z0 z1 m1 h
theorem windowsFrom_fails(a d l z N:Int)(n:Nat)(w:World)(hN:N=n)(n0:1≤n)(n1:n≤16)(a0:-9223372036854775808≤a)(d0:0≤d)(d1:d≤9223372036854775807)(l0:1≤l)(l1:l≤9223372036854775807)(z0:0≤z)(z1:z≤9223372036854775807)
  (m1:Hid (((n:Int)-1)*d≤9223372036854775807)) (m2:Hid (a+((n:Int)-1)*d≤9223372036854775807)) (h:Hid (9223372036854775807<a+((n:Int)-1)*d+l+z)):
  Calls Tryz.prog 169 #[.int .i64 a,.int .i64 d,.int .i64 N,.int .i64 l,.int .i64 z] w (Fails (.iface 134 (.int .i64 3)) w):=by
 subst hN
 exact windowsFrom_bad a d l z n w n0 n1 a0 d0 d1 l0 l1 z0 z1 m1 m2 h
end Asg
namespace Asg
open Base
theorem floor_q(a b q:Int)(w:World)(ha0:-9223372036854775808≤a)(ha1:a≤9223372036854775807)(hb0:1≤b)(hb1:b≤9223372036854775807)(hq:Hid (a / b=q)):
  Calls Tryz.prog 183 #[.int .i64 a,.int .i64 b] w fun e w'=>e=.returned (Num.good q)∧w=w':=by
 rw[←hq.out]
 exact Num.floor_ok a b w ha0 ha1 hb0 hb1
theorem ahead(t s l:Int)(l0:1≤l)(ls:l≤s)(h:(s-1) / l≤15):
  ∃ q:Nat,(s-1-t%l) / l=q∧q≤15∧(q:Int)*l≤s-1-t%l∧s-1-t%l<(q:Int)*l+l:=by
 have e0:=Int.emod_nonneg t (b:=l) (by omega)
 have e1:=Int.emod_lt_of_pos t (b:=l) (by omega)
 have n0:0≤(s-1-t%l) / l:=Int.ediv_nonneg (by omega) (by omega)
 have n1:(s-1-t%l) / l≤(s-1) / l:=Int.ediv_le_ediv (by omega) (by omega)
 have e3:=Int.emod_add_mul_ediv (s-1-t%l) l
 have e4:=Int.emod_nonneg (s-1-t%l) (b:=l) (by omega)
 have e5:=Int.emod_lt_of_pos (s-1-t%l) (b:=l) (by omega)
 refine⟨((s-1-t%l) / l).toNat,by omega,by omega,?_,?_⟩
 ·rw[Int.toNat_of_nonneg n0,Int.mul_comm];omega
 ·rw[Int.toNat_of_nonneg n0,Int.mul_comm];omega
theorem slides_made(t s l z:Int)(q:Nat)(w:World)(t0:-9223372036854775808≤t)(t1:t≤9223372036854775807)(l0:1≤l)(ls:l≤s)(s1:s≤9223372036854775807)(z0:0≤z)(z1:z≤9223372036854775807)
  (q1:q≤15) (E:Hid ((s-1-t%l) / l=q)) (b:Hid ((q:Int)*l≤s-1-t%l)) (f0:Hid (-9223372036854775808≤t-t%l-q*l)) (h:Hid (t-t%l+s+z≤9223372036854775807)):
  Calls Tryz.prog 168 #[.int .i64 t,.int .i64 s,.int .i64 l,.int .i64 z] w (Made w (q+1) (t-t%l-q*l) l s):=by
 have e0:=Int.emod_nonneg t (b:=l) (by omega)
 have e1:=Int.emod_lt_of_pos t (b:=l) (by omega)
 have m0:0≤(q:Int)*l:=Int.mul_nonneg (by omega) (by omega)
 have b':=b.out
 have f:=f0.out
 go_enter Tryz.func168,Tryz.ntmps168
 go_wp2_with fail
 refine (Num.down_ok t l _ t0 t1 l0 (by omega) (by omega)).mono ?_
 rintro e w' ⟨rfl,rfl⟩
 go_wp2_with fail
 refine (floor_q _ l q _ (by omega) (by omega) l0 (by omega) (hid (by rw[←E.out];congr 1;omega))).mono ?_
 rintro e w' ⟨rfl,rfl⟩
 go_wp2_with fail
 refine (Num.sub_ok (t-t%l) (q*l) _ (by omega) (by omega) (by omega) (by omega) f (by omega)).mono ?_
 rintro e w' ⟨rfl,rfl⟩
 go_wp2_with fail
 refine (windowsFrom_made (t-t%l-q*l) l s z _ (q+1) _ (by omega) (by omega) (by omega) f (by omega) (by omega) (by omega) s1 z0 z1
  (hid (by rw[show (((q+1:Nat):Int)-1)=q by omega];omega)) (hid (by rw[show (((q+1:Nat):Int)-1)=q by omega];have:=h.out;omega))).mono ?_
 rintro e w1 ⟨g,c,rfl,W,k,hg⟩
 have W':=hid W
 clear W
 go_wp2
 go_ret2
 exact⟨g,c,rfl,W'.out,k,hg⟩
theorem slides_fails(t s l z:Int)(q:Nat)(w:World)(t0:-9223372036854775808≤t)(t1:t≤9223372036854775807)(l0:1≤l)(ls:l≤s)(s1:s≤9223372036854775807)(z0:0≤z)(z1:z≤9223372036854775807)
  (q1:q≤15) (E:Hid ((s-1-t%l) / l=q)) (b:Hid ((q:Int)*l≤s-1-t%l)) (h:Hid (t-t%l-q*l < -9223372036854775808∨9223372036854775807<t-t%l+s+z)):
  Calls Tryz.prog 168 #[.int .i64 t,.int .i64 s,.int .i64 l,.int .i64 z] w (Fails (.iface 134 (.int .i64 3)) w):=by
 have e0:=Int.emod_nonneg t (b:=l) (by omega)
 have e1:=Int.emod_lt_of_pos t (b:=l) (by omega)
 have m0:0≤(q:Int)*l:=Int.mul_nonneg (by omega) (by omega)
 have b':=b.out
 by_cases f1:t-t%l < -9223372036854775808
 ·have F:=hid f1
  clear f1;go_enter Tryz.func168,Tryz.ntmps168;go_wp2_with fail
  refine (Num.down_bad t l _ t0 t1 l0 (by omega) F.out).mono ?_
  rintro e w' ⟨rfl,rfl⟩;go_wp2;go_ret2;exact⟨rfl,Below.refl _ _⟩
 ·by_cases f2:t-t%l-q*l < -9223372036854775808
  ·have F:=hid f2
   clear f2;go_enter Tryz.func168,Tryz.ntmps168;go_wp2_with fail
   refine (Num.down_ok t l _ t0 t1 l0 (by omega) (by omega)).mono ?_
   rintro e w' ⟨rfl,rfl⟩;go_wp2_with fail
   refine (floor_q _ l q _ (by omega) (by omega) l0 (by omega) (hid (by rw[←E.out];congr 1;omega))).mono ?_
   rintro e w' ⟨rfl,rfl⟩;go_wp2_with fail
   refine (Num.sub_bad (t-t%l) (q*l) _ (by omega) (by omega) (by omega) (by omega) (.inl F.out)).mono ?_
   rintro e w' ⟨rfl,rfl⟩;go_wp2;go_ret2;exact⟨rfl,Below.refl _ _⟩
  ·have f:-9223372036854775808≤t-t%l-q*l:=by omega
   have H:=hid (show 9223372036854775807<t-t%l+s+z by have:=h.out;omega)
   clear f1 f2;go_enter Tryz.func168,Tryz.ntmps168;go_wp2_with fail
   refine (Num.down_ok t l _ t0 t1 l0 (by omega) (by omega)).mono ?_
   rintro e w' ⟨rfl,rfl⟩;go_wp2_with fail
   refine (floor_q _ l q _ (by omega) (by omega) l0 (by omega) (hid (by rw[←E.out];congr 1;omega))).mono ?_
   rintro e w' ⟨rfl,rfl⟩;go_wp2_with fail
   refine (Num.sub_ok (t-t%l) (q*l) _ (by omega) (by omega) (by omega) (by omega) f (by omega)).mono ?_
   rintro e w' ⟨rfl,rfl⟩;go_wp2_with fail
   refine (windowsFrom_fails (t-t%l-q*l) l s z _ (q+1) _ (by omega) (by omega) (by omega) f (by omega) (by omega) (by omega) s1 z0 z1
    (hid (by rw[show (((q+1:Nat):Int)-1)=q by omega];omega)) (hid (by rw[show (((q+1:Nat):Int)-1)=q by omega];omega))
    (hid (by rw[show (((q+1:Nat):Int)-1)=q by omega];have:=H.out;omega))).mono ?_
   rintro e w1 ⟨rfl,k⟩;go_wp2;go_ret2;exact⟨rfl,k⟩
def Gives(R:Value→Value→World→Prop)(w:World)(e:Ending)(w':World):Prop:=∃ u v:Value,e=.returned (.tuple #[u,v])∧R u v w'∧Below w.heap.size w w'
def GivesN(R:Value→Value→World→Prop)(w:World)(e:Ending)(w':World):Prop:=∃ u v:Value,e=.returned (.tuple #[u,v])∧R u v w'∧Below w.heap.size w w'∧∀ b,u.ownBlock=some b→w.heap.size≤b
def madeR(last:Value)(n:Nat)(a d l:Int)(u v:Value)(w':World):Prop:=∃ g c:Nat,u=.slice (some ⟨g,0,none⟩) n c∧v=last∧Wins w' g n a d l
def failsR(x u v:Value)(w':World):Prop:=u=.slice none 0 0∧v=x
theorem Made.givesN{w w':World}{n:Nat}{a d l:Int}{e:Ending}(h:Made w n a d l e w'):GivesN (madeR .nilIface n a d l) w e w':=by
 obtain⟨g,c,rfl,W,k,hg⟩:=h
 exact⟨_,_,rfl,⟨g,c,rfl,rfl,W⟩,k,fun b hb=>by cases hb;exact hg⟩
theorem Fails.givesN{w w':World}{v:Value}{e:Ending}(h:Fails v w e w'):GivesN (failsR v) w e w':=by
 obtain⟨rfl,k⟩:=h
 exact⟨_,_,rfl,⟨rfl,rfl⟩,k,fun b hb=>by cases hb⟩
theorem of_zero(R:Value→Value→World→Prop)(s l g z h r c t:Int)(w:World)(s1:s≤9223372036854775807)(M:Hid (may 0 s l g z h r c))
  (S:Hid (∀ w,Calls Tryz.prog 168 #[.int .i64 t,.int .i64 s,.int .i64 s,.int .i64 z] w (GivesN R w))):
  Calls Tryz.prog 155 #[cfg 0 s l g z h r c,.int .i64 t] w (GivesN R w):=by
 have C0:=hid (Cfg.new w 0 s l g z h r c)
 go_enter Tryz.func155,Tryz.ntmps155
 go_wp2_with fail
 refine (may_ok 0 s l g z h r c _ true (hid (by simp[M.out])) s1).mono ?_
 rintro e w1 ⟨rfl,k1⟩
 obtain⟨c0,c1,c2,c3,c4,c5,c6,c7⟩:=C0.out.next k1
 go_wp2_with fail
 refine (S.out _).mono ?_
 rintro e w2 ⟨u,v,rfl,hR,k2,hf⟩
 have HR:=hid hR
 have HF:=hid hf
 clear hR hf
 go_wp2
 go_ret2
 exact⟨_,_,rfl,HR.out,after (after (below1 _ _) k1) k2,fun b hb=>Nat.le_trans (Below.size (after (below1 _ _) k1)) (HF.out b hb)⟩
theorem of_one(R:Value→Value→World→Prop)(s l g z h r c t:Int)(w:World)(s1:s≤9223372036854775807)(M:Hid (may 1 s l g z h r c))
  (S:Hid (∀ w,Calls Tryz.prog 168 #[.int .i64 t,.int .i64 s,.int .i64 l,.int .i64 z] w (GivesN R w))):
  Calls Tryz.prog 155 #[cfg 1 s l g z h r c,.int .i64 t] w (GivesN R w):=by
 have C0:=hid (Cfg.new w 1 s l g z h r c)
 go_enter Tryz.func155,Tryz.ntmps155
 go_wp2_with fail
 refine (may_ok 1 s l g z h r c _ true (hid (by simp[M.out])) s1).mono ?_
 rintro e w1 ⟨rfl,k1⟩
 obtain⟨c0,c1,c2,c3,c4,c5,c6,c7⟩:=C0.out.next k1
 go_wp2_with fail
 refine (S.out _).mono ?_
 rintro e w2 ⟨u,v,rfl,hR,k2,hf⟩
 have HR:=hid hR
 have HF:=hid hf
 clear hR hf
 go_wp2
 go_ret2
 exact⟨_,_,rfl,HR.out,after (after (below1 _ _) k1) k2,fun b hb=>Nat.le_trans (Below.size (after (below1 _ _) k1)) (HF.out b hb)⟩
theorem of_two(R:Value→Value→World→Prop)(s l g z h r c t:Int)(w:World)(s1:s≤9223372036854775807)(M:Hid (may 2 s l g z h r c))
  (S:Hid (∀ w,Calls Tryz.prog 169 #[.int .i64 t,.int .i64 0,.int .i64 1,.int .i64 g,.int .i64 z] w (GivesN R w))):
  Calls Tryz.prog 155 #[cfg 2 s l g z h r c,.int .i64 t] w (GivesN R w):=by
 have C0:=hid (Cfg.new w 2 s l g z h r c)
 go_enter Tryz.func155,Tryz.ntmps155
 go_wp2_with fail
 refine (may_ok 2 s l g z h r c _ true (hid (by simp[M.out])) s1).mono ?_
 rintro e w1 ⟨rfl,k1⟩
 obtain⟨c0,c1,c2,c3,c4,c5,c6,c7⟩:=C0.out.next k1
 go_wp2_with fail
 refine (S.out _).mono ?_
 rintro e w2 ⟨u,v,rfl,hR,k2,hf⟩
 have HR:=hid hR
 have HF:=hid hf
 clear hR hf
 go_wp2
 go_ret2
 exact⟨_,_,rfl,HR.out,after (after (below1 _ _) k1) k2,fun b hb=>Nat.le_trans (Below.size (after (below1 _ _) k1)) (HF.out b hb)⟩
def slideOf(k s l:Int):Int:=if k=0 then s else l
inductive Told(k s l g z t:Int):Option (Nat×Int×Int×Int)→Prop
 |slidesYes (q:Nat) (hk:k=0∨k=1) (q1:q≤15) (b:(q:Int)*slideOf k s l≤s-1-t%slideOf k s l) (b':s-1-t%slideOf k s l<(q:Int)*slideOf k s l+slideOf k s l)
  (f:-9223372036854775808≤t-t%slideOf k s l-q*slideOf k s l) (h:t-t%slideOf k s l+s+z≤9223372036854775807):Told k s l g z t (some (q+1,t-t%slideOf k s l-q*slideOf k s l,slideOf k s l,s))
 |slidesNo (q:Nat) (hk:k=0∨k=1) (q1:q≤15) (b:(q:Int)*slideOf k s l≤s-1-t%slideOf k s l) (b':s-1-t%slideOf k s l<(q:Int)*slideOf k s l+slideOf k s l)
  (f:t-t%slideOf k s l-q*slideOf k s l < -9223372036854775808∨9223372036854775807<t-t%slideOf k s l+s+z):Told k s l g z t none
 |sessionYes (hk:k=2) (h:t+g+z≤9223372036854775807):Told k s l g z t (some (1,t,0,g))
 |sessionNo (hk:k=2) (h:9223372036854775807<t+g+z):Told k s l g z t none
def ofR:Option (Nat×Int×Int×Int)→Value→Value→World→Prop
 |some (n,a,d,l)=>madeR .nilIface n a d l
 |none=>failsR (.iface 134 (.int .i64 3))
theorem slide_may{k s l g z h r c:Int}(hk:k=0∨k=1)(M:may k s l g z h r c):1≤slideOf k s l∧slideOf k s l≤s∧(s-1) / slideOf k s l≤15:=by
 obtain⟨hw,-⟩:=M
 unfold mayW at hw
 unfold slideOf
 rcases hk with rfl|rfl
 ·simp at hw
  simp only[if_pos];refine⟨by omega,by omega,?_⟩
  rw[Int.ediv_eq_zero_of_lt (by omega) (by omega)];omega
 ·simp at hw
  simp only[if_neg (show ¬(1:Int)=0 by omega)]
  exact⟨by omega,hw.2.1,hw.2.2⟩
theorem tells(k s l g z h r c t:Int)(t0:-9223372036854775808≤t)(t1:t≤9223372036854775807)(M:may k s l g z h r c):∃ x,Told k s l g z t x:=by
 by_cases h2:k=2
 ·by_cases hf:t+g+z≤9223372036854775807
  ·exact⟨_,.sessionYes h2 hf⟩
  ·exact⟨_,.sessionNo h2 (by omega)⟩
 ·have hk:k=0∨k=1:=by obtain⟨hw,-⟩:=M;unfold mayW at hw;omega
  obtain⟨a0,a1,a2⟩:=slide_may hk M;obtain⟨q,-,q1,b,b'⟩:=ahead t s (slideOf k s l) a0 a1 a2;by_cases hf:-9223372036854775808≤t-t%slideOf k s l-q*slideOf k s l∧t-t%slideOf k s l+s+z≤9223372036854775807
  ·exact⟨_,.slidesYes q hk q1 b b' hf.1 hf.2⟩
  ·exact⟨_,.slidesNo q hk q1 b b' (by omega)⟩
theorem quo_of(x l:Int)(q:Nat)(l0:1≤l)(b:(q:Int)*l≤x)(b':x<(q:Int)*l+l):x / l=q:=by
 rw[Int.ediv_eq_iff_of_pos (by omega)]
 omega
theorem of_okN(k s l g z h r c t:Int)(x:Option (Nat×Int×Int×Int))(w:World)(s1:s≤9223372036854775807)(l1:l≤9223372036854775807)(g1:g≤9223372036854775807)(z1:z≤9223372036854775807)
  (t0:-9223372036854775808≤t) (t1:t≤9223372036854775807) (M:may k s l g z h r c) (T:Told k s l g z t x):
  Calls Tryz.prog 155 #[cfg k s l g z h r c,.int .i64 t] w (GivesN (ofR x) w):=by
 have z0:0≤z:=M.2.1
 cases T with
 |slidesYes q hk q1 b b' f hh=>
  obtain⟨a0,a1,a2⟩:=slide_may hk M
  have S:∀ w,Calls Tryz.prog 168 #[.int .i64 t,.int .i64 s,.int .i64 (slideOf k s l),.int .i64 z] w (GivesN (ofR (some (q+1,t-t%slideOf k s l-q*slideOf k s l,slideOf k s l,s))) w):=fun w=>
   (slides_made t s (slideOf k s l) z q w t0 t1 a0 a1 s1 z0 z1 q1 (hid (quo_of _ _ _ a0 b b')) (hid b) (hid f) (hid hh)).mono fun _ _=>Made.givesN
  rcases hk with rfl|rfl
  ·exact of_zero _ s l g z h r c t w s1 (hid M) (hid S)
  ·exact of_one _ s l g z h r c t w s1 (hid M) (hid S)
 |slidesNo q hk q1 b b' f=>
  obtain⟨a0,a1,a2⟩:=slide_may hk M
  have S:∀ w,Calls Tryz.prog 168 #[.int .i64 t,.int .i64 s,.int .i64 (slideOf k s l),.int .i64 z] w (GivesN (ofR none) w):=fun w=>
   (slides_fails t s (slideOf k s l) z q w t0 t1 a0 a1 s1 z0 z1 q1 (hid (quo_of _ _ _ a0 b b')) (hid b) (hid f)).mono fun _ _=>Fails.givesN
  rcases hk with rfl|rfl
  ·exact of_zero _ s l g z h r c t w s1 (hid M) (hid S)
  ·exact of_one _ s l g z h r c t w s1 (hid M) (hid S)
 |sessionYes hk hh=>
  subst hk;have g0:1≤g:=by have:=M.1;unfold mayW at this;omega
  refine of_two _ s l g z h r c t w s1 (hid M) (hid fun w=>?_)
  exact (windowsFrom_made t 0 g z 1 1 w (by omega) (by omega) (by omega) t0 (by omega) (by omega) g0 g1 z0 z1 (hid (by omega)) (hid (by omega))).mono fun _ _=>Made.givesN
 |sessionNo hk hh=>
  subst hk;have g0:1≤g:=by have:=M.1;unfold mayW at this;omega
  refine of_two _ s l g z h r c t w s1 (hid M) (hid fun w=>?_)
  exact (windowsFrom_fails t 0 g z 1 1 w (by omega) (by omega) (by omega) t0 (by omega) (by omega) g0 g1 z0 z1 (hid (by omega)) (hid (by omega)) (hid (by omega))).mono fun _ _=>Fails.givesN
end Asg
end Go.Proofs.YtfjlnniahfbdfaaGreat
