/- A part of the proof. -/
import Derived.Test.YtfjlnniahfbdfaaGreatPay
import Derived.Stop.Asserts
import Derived.RowKitTokens
import Derived.WalkKit
import Derived.Test.YtfjlnniahfbdfaaGreatPbe
import Derived.Test.YtfjlnniahfbdfaaGreatPaf
set_option linter.unusedVariables false
set_option maxHeartbeats 4000000
namespace Go.Proofs.YtfjlnniahfbdfaaGreat
open Lib (hid)
open Go.ChangeShapes Go.WideShapes Go.ChangeAt Go.RowKit
set_option maxRecDepth 100000
namespace Cn
section
open Go.Extern.Stop Go.Stop Go.Extern
def isM : Array Value → Sem Value := Extern.ReflectliteType.method fun t => do Extern.Rtype.noPackHeld "Comparable" t; pure (.bool (← typeInfo t).comparable)
theorem isTypeOf:∃ b,∀ (v:Value) (w:World),(Extern.ReflectliteType.typeOf #[.iface 134 v]).run Tryz.prog w=.ok (.iface 258 (.agg #[.pointer (some ⟨b,134,none⟩)])) w∧(isM #[.agg #[.pointer (some ⟨b,134,none⟩)]]).run Tryz.prog w=.ok (.bool true) w:=⟨0,fun v w=>⟨by kernel_rfl,by kernel_rfl⟩⟩
theorem isMethod (k : Nat) (v : Value) (w : World) : (Go.method (k + 1) 258 v "Comparable").run Tryz.prog w = .ok (258, v) w := by kernel_rfl
theorem noIs(v:Value)(xT:TypeId)(w:World):(Instr.typeAssert (.iface 134 v) xT 260 true).run Tryz.prog w=.ok (.tuple #[.nilIface,.bool false]) w:=run_typeAssert_lacksB Tryz.underlying260 (by kernel_rfl) (by kernel_rfl) v xT w
theorem noUnwrap(v:Value)(xT:TypeId)(w:World):(Instr.typeAssert (.iface 134 v) xT 263 true).run Tryz.prog w=.ok (.tuple #[.nilIface,.bool false]) w:=run_typeAssert_lacksB Tryz.underlying263 (by kernel_rfl) (by kernel_rfl) v xT w
theorem noUnwraps(v:Value)(xT:TypeId)(w:World):(Instr.typeAssert (.iface 134 v) xT 265 true).run Tryz.prog w=.ok (.tuple #[.nilIface,.bool false]) w:=run_typeAssert_lacksB Tryz.underlying265 (by kernel_rfl) (by kernel_rfl) v xT w
theorem isH8(args:Array Value)(w:World):Sem.run Tryz.prog (callFunc 152 args) w=(Sem.run Tryz.prog (Extern.ReflectliteType.typeOf args) w).andThen fun v w'=>Result.ok (Next.value v) w':=
 @run_callFunc_extern Tryz.prog 152 _ Extern.ReflectliteType.typeOf Tryz.func152 (by kernel_rfl) (by kernel_rfl) (by kernel_rfl) (by kernel_rfl) args w
theorem isH32(args:Array Value)(w:World):Sem.run Tryz.prog (callFunc 258 args) w=(Sem.run Tryz.prog (isM args) w).andThen fun v w'=>Result.ok (Next.value v) w':=
 @run_callFunc_extern Tryz.prog 258 _ isM Tryz.func258 (by kernel_rfl) (by kernel_rfl) (by kernel_rfl) (by kernel_rfl) args w
theorem is_same(n:Int)(w:World):Calls Tryz.prog 124 #[.iface 134 (.int .i64 n),.iface 134 (.int .i64 n)] w fun e w'=>e=.returned (.bool true)∧w=w':=by
 obtain⟨b,tb⟩:=isTypeOf
 have h8:=isH8
 have h32:=isH32
 have tT:=fun v w=>(tb v w).1
 have cT:=fun w=>(tb (.int .i64 0) w).2
 have mR:=isMethod
 have heq:∀ w,(binOp .eql 73 (.iface 134 (.int .i64 n)) (.iface 134 (.int .i64 n))).run Tryz.prog w=.ok (.bool true) w:=fun w=>by rw[Errs.eql_code,beq_self_eq_true]
 clear tb
 go_enter Tryz.func124,Tryz.ntmps124
 go_wp2
 refine wp_loop_rounds 1 ?_
 rw[rounds_succ]
 go_wp2
 go_ret
 exact⟨rfl,rfl⟩
theorem is_other(n m:Int)(hn:(n == m)=false)(w:World):Calls Tryz.prog 124 #[.iface 134 (.int .i64 n),.iface 134 (.int .i64 m)] w fun e w'=>e=.returned (.bool false)∧w=w':=by
 obtain⟨b,tb⟩:=isTypeOf
 have h8:=isH8
 have h32:=isH32
 have tT:=fun v w=>(tb v w).1
 have cT:=fun w=>(tb (.int .i64 0) w).2
 have mR:=isMethod
 have nE:=noIs
 have uE:=noUnwrap
 have vE:=noUnwraps
 have heq:∀ w,(binOp .eql 73 (.iface 134 (.int .i64 n)) (.iface 134 (.int .i64 m))).run Tryz.prog w=.ok (.bool false) w:=fun w=>by rw[Errs.eql_code,hn]
 clear tb hn
 go_enter Tryz.func124,Tryz.ntmps124
 go_wp2
 refine wp_loop_rounds 1 ?_
 rw[rounds_succ]
 go_wp2
 go_ret
 exact⟨rfl,rfl⟩
end
end Cn
namespace Ms
open Small Foot Bx Ca
theorem put_full(g:Nat)(room:Int)(v:Value)(L:List M)(x:M)(w:World)(H:Hid (Box w g room false v L))(hn:room≤(L.length:Int)):
  Calls Tryz.prog 38 #[gp g,val x] w fun r w'=>r=.returned (.iface 134 (.int .i64 4))∧Below w.heap.size w w':=by
 obtain⟨A0,cp,hv⟩:=H.out.val
 subst hv
 obtain⟨B0,hB0⟩:∃ W,w.alloc (Obj.cells (cl x).toArray 55)=W:=⟨_,rfl⟩
 have K0:=hid (hB0▸below1 w (Obj.cells (cl x).toArray 55))
 have H0:=hid (H.out.next K0.out)
 go_enter Tryz.func38,Tryz.ntmps38
 go_upto_region 1 with fail
 clear hB0
 have c0:=H0.out.lies.cell (i:=0) rfl
 have c1:=H0.out.lies.cell (i:=1) rfl
 have c2:=H0.out.lies.cell (i:=2) rfl
 go_wp2_with fail
 go_quiet (fail)
 go_wp2
 go_ret
 exact⟨rfl,after K0.out (below_drewN _ _)⟩
theorem put_shut(g:Nat)(room:Int)(v:Value)(L:List M)(x:M)(w:World)(H:Hid (Box w g room true v L)):
  Calls Tryz.prog 38 #[gp g,val x] w fun r w'=>r=.returned (.iface 134 (.int .i64 5))∧Below w.heap.size w w':=by
 obtain⟨B0,hB0⟩:∃ W,w.alloc (Obj.cells (cl x).toArray 55)=W:=⟨_,rfl⟩
 have K0:=hid (hB0▸below1 w (Obj.cells (cl x).toArray 55))
 have H0:=hid (H.out.next K0.out)
 go_enter Tryz.func38,Tryz.ntmps38
 go_upto_region 1 with fail
 clear hB0
 have c2:=H0.out.lies.cell (i:=2) rfl
 go_wp2
 go_ret
 exact⟨rfl,K0.out⟩
end Ms
namespace Cn
open Small Foot Fm Ca
section
variable {w0 w w':World} {E:Ev} {s s':St} {R R':Nat→Nat→Prop}
theorem CM.lst(H:CM w0 E s R w){i g:Nat}(e:E.bs[i]?=some g):E.bn=E.bs.length∧i<E.bs.length∧∃ bl off,E.ba=some ⟨bl,off,none⟩∧w.cell? ⟨bl,off+i,none⟩=some (gp g):=by
 have hl:=(List.getElem?_eq_some_iff.1 e).1
 obtain⟨b,_,hi⟩:=H.list.is
 obtain⟨off,cap,e2,-,-,-,hc⟩:=hi.some_ pok (by omega)
 simp only[Value.slice.injEq] at e2
 exact⟨e2.2.1,hl,b,off,e2.1,by simpa using hc i g e 0 _ rfl⟩
theorem eput_any{i g:Nat}{Post:Value→World→Prop}(H:Hid (CM w0 E s R w))(e:E.bs[i]?=some g)(m:Ms.M)(P:Hid (∀ w1,Below w.heap.size w w1→Calls Tryz.prog 38 #[gp g,Ms.val m] w1 fun r w'=>∃ v,r=.returned v∧Post v w')):
  Calls Tryz.prog 123 #[E.v,.int .i64 i,Ms.val m] w fun r w'=>∃ v,r=.returned v∧Post v w':=by
 obtain⟨bnl0,hl,bl,off,hba0,-⟩:=H.out.lst e
 have bnl:=hid bnl0
 have hba:=hid hba0
 clear bnl0 hba0
 have B0:=below2 w (Obj.cells #[.int .i64 E.cf.k,.int .i64 E.cf.s,.int .i64 E.cf.l,.int .i64 E.cf.g,.int .i64 E.cf.z,.int .i64 E.cf.h,.int .i64 E.cf.r,.int .i64 E.cf.c,gp E.gc,gp (E.b+1),.slice E.ba E.bn E.bc] 32) (Obj.cells #[.int .i64 m.kind,.int .i64 m.fr,.int .i64 m.call.op,.string m.call.key,.int .i64 m.call.t,.int .i64 m.call.v,.int .i64 m.call.e,.int .i64 m.call.u,.int .i64 m.call.s,.int .i64 m.group,Ms.stv m.st] 55)
 have L0:=hid ((Lies.new w 32 E.cl).next (below1 _ (Obj.cells #[.int .i64 m.kind,.int .i64 m.fr,.int .i64 m.call.op,.string m.call.key,.int .i64 m.call.t,.int .i64 m.call.v,.int .i64 m.call.e,.int .i64 m.call.u,.int .i64 m.call.s,.int .i64 m.group,Ms.stv m.st] 55)))
 have M0:=Lies.new (w.alloc (Obj.cells #[.int .i64 E.cf.k,.int .i64 E.cf.s,.int .i64 E.cf.l,.int .i64 E.cf.g,.int .i64 E.cf.z,.int .i64 E.cf.h,.int .i64 E.cf.r,.int .i64 E.cf.c,gp E.gc,gp (E.b+1),.slice E.ba E.bn E.bc] 32)) 55 (Ms.cl m)
 simp only[World.size_alloc] at M0
 have M0:=hid M0
 have H0:=hid (H.out.next B0)
 have B0:=hid B0
 go_enter Tryz.func123,Tryz.ntmps123
 go_upto_region 1 with fail
 generalize hW:((w.alloc (Obj.cells #[.int .i64 E.cf.k,.int .i64 E.cf.s,.int .i64 E.cf.l,.int .i64 E.cf.g,.int .i64 E.cf.z,.int .i64 E.cf.h,.int .i64 E.cf.r,.int .i64 E.cf.c,gp E.gc,gp (E.b+1),.slice E.ba E.bn E.bc] 32)).alloc (Obj.cells #[.int .i64 m.kind,.int .i64 m.fr,.int .i64 m.call.op,.string m.call.key,.int .i64 m.call.t,.int .i64 m.call.v,.int .i64 m.call.e,.int .i64 m.call.u,.int .i64 m.call.s,.int .i64 m.group,Ms.stv m.st] 55))=w1 at L0 M0 H0 B0 ⊢
 clear hW
 generalize w.heap.size=g1 at L0 M0 ⊢
 obtain⟨-,-,bl',off',hba',hcell⟩:=H0.out.lst e
 rw[hba.out] at hba'
 obtain⟨rfl,rfl⟩:bl=bl'∧off=off':=by simpa using hba'
 have c10:=L0.out.cell (i:=10) rfl
 rw[bnl.out,hba.out] at c10
 have i0:¬((i:Int)<0):=by omega
 have i1:¬((E.bs.length:Int)≤(i:Int)):=by omega
 have i2:(0:Int)≤(i:Int):=by omega
 have i3:(i:Int)<(E.bs.length:Int):=by omega
 clear hba' hl
 go_upto_region 3 with fail
 have l10:=Later.cell c10
 have lc:=Later.cell hcell
 have m0:=Later.cell (M0.out.cell (i:=0) rfl)
 have m1:=Later.cell (M0.out.cell (i:=1) rfl)
 have m2:=Later.cell (M0.out.cell (i:=2) rfl)
 have m3:=Later.cell (M0.out.cell (i:=3) rfl)
 have m4:=Later.cell (M0.out.cell (i:=4) rfl)
 have m5:=Later.cell (M0.out.cell (i:=5) rfl)
 have m6:=Later.cell (M0.out.cell (i:=6) rfl)
 have m7:=Later.cell (M0.out.cell (i:=7) rfl)
 have m8:=Later.cell (M0.out.cell (i:=8) rfl)
 have m9:=Later.cell (M0.out.cell (i:=9) rfl)
 have m10:=Later.cell (M0.out.cell (i:=10) rfl)
 clear c10 hcell
 refine wp_region_later_tail 6 (by kernel_rfl) (by kernel_rfl) ?_
 simp only[List.take_succ_cons,List.take_zero,List.drop_succ_cons,List.drop_zero]
 repeat (go_big_quiet_step (fail))
 refine wpQuiet_nil ?_
 rintro _ ⟨u,rfl⟩
 have B2:=hid (after B0.out u.below)
 clear l10 lc m0 m1 m2 m3 m4 m5 m6 m7 m8 m9 m10
 generalize u.w=w2 at B2 ⊢
 go_wp2_with fail
 refine (P.out w2 B2.out).mono ?_
 rintro r w3 ⟨v,rfl,hv⟩
 have HV:=hid hv
 clear hv
 dsimp only
 go_wp2
 go_ret
 exact⟨_,rfl,HV.out⟩
abbrev St.msg(s:St)(i:Nat)(m:Ms.M):St:={s with L:=fun j=>if j=i then s.L i++[m] else s.L j}
theorem eput_ok{i g:Nat}(H:Hid (CM w0 E s R w))(e:E.bs[i]?=some g)(m:Ms.M)(hs:s.sb i=false)(hL:(s.L i).length<E.cf.c)(hc:E.cf.c≤16):
  Calls Tryz.prog 123 #[E.v,.int .i64 i,Ms.val m] w fun r w'=>r=.returned .nilIface∧∃ R',CM w0 E (s.msg i m) R' w'∧On TT R w R' w':=by
 refine (eput_any (Post:=fun v w'=>v=.nilIface∧∃ R',CM w0 E (s.msg i m) R' w'∧On TT R w R' w') H e m (hid fun w1 k1=>?_)).mono fun r w' ⟨v,h1,h2,h3⟩=>⟨by rw[h1,h2],h3⟩
 have h1:=H.out.next k1
 obtain⟨bv,hb,hr⟩:=h1.box i g e
 rw[hs] at hb
 refine (Ms.put_ok g E.cf.c bv (s.L i) m w1 (hid hb) (by omega) hc).mono ?_
 rintro r w2 ⟨v',rfl,b2,m2⟩
 obtain⟨R',c2,o2,-⟩:=h1.onBox e hr b2 m2
 refine⟨_,rfl,rfl,R',?_,(On.below H.out.fam k1).trans o2⟩
 have:(fun j=>if j=i then false else s.sb j)=s.sb:=funext fun j=>by
  by_cases hj:j=i
  ·subst hj;simp[hs]
  ·simp[hj]
 rw[this] at c2
 exact c2
theorem eput_full{i g:Nat}(H:Hid (CM w0 E s R w))(e:E.bs[i]?=some g)(m:Ms.M)(hs:s.sb i=false)(hL:E.cf.c≤(s.L i).length):
  Calls Tryz.prog 123 #[E.v,.int .i64 i,Ms.val m] w fun r w'=>r=.returned (.iface 134 (.int .i64 4))∧Below w.heap.size w w':=by
 refine (eput_any (Post:=fun v w'=>v=.iface 134 (.int .i64 4)∧Below w.heap.size w w') H e m (hid fun w1 k1=>?_)).mono fun r w' ⟨v,h1,h2,h3⟩=>⟨by rw[h1,h2],h3⟩
 have h1:=H.out.next k1
 obtain⟨bv,hb,hr⟩:=h1.box i g e
 rw[hs] at hb
 refine (Ms.put_full g E.cf.c bv (s.L i) m w1 (hid hb) hL).mono ?_
 rintro r w2 ⟨rfl,k2⟩
 exact⟨_,rfl,rfl,after k1 k2⟩
theorem eput_shut{i g:Nat}(H:Hid (CM w0 E s R w))(e:E.bs[i]?=some g)(m:Ms.M)(hs:s.sb i=true):
  Calls Tryz.prog 123 #[E.v,.int .i64 i,Ms.val m] w fun r w'=>r=.returned (.iface 134 (.int .i64 5))∧Below w.heap.size w w':=by
 refine (eput_any (Post:=fun v w'=>v=.iface 134 (.int .i64 5)∧Below w.heap.size w w') H e m (hid fun w1 k1=>?_)).mono fun r w' ⟨v,h1,h2,h3⟩=>⟨by rw[h1,h2],h3⟩
 have h1:=H.out.next k1
 obtain⟨bv,hb,hr⟩:=h1.box i g e
 rw[hs] at hb
 refine (Ms.put_shut g E.cf.c bv (s.L i) m w1 (hid hb)).mono ?_
 rintro r w2 ⟨rfl,k2⟩
 exact⟨_,rfl,rfl,after k1 k2⟩
theorem drop_none(H:Hid (CM w0 E s R w))(hh:s.g.held=none):Calls Tryz.prog 93 #[gp E.x] w fun r w'=>r=.returned (.tuple #[])∧w=w':=by
 obtain⟨cv,rv,q,-⟩:=H.out.client
 have c7:=q.lies.cell (i:=7) rfl
 rw[hh] at c7
 clear q hh
 go_enter Tryz.func93,Tryz.ntmps93
 go_wp2
 go_end0
 exact⟨rfl,rfl⟩
abbrev St.free(s:St):St:={s with hk:=0,hd:=false,g:={s.g with held:=none}}
theorem drop_some(H:Hid (CM w0 E s R w))(hh:s.g.held=some E.gc)(h1:s.hd=true)(h2:s.hk=E.num):Calls Tryz.prog 93 #[gp E.x] w fun r w'=>r=.returned (.tuple #[])∧∃ R',CM w0 E s.free R' w'∧On TT R w R' w':=by
 obtain⟨cv,rv,q,hr⟩:=H.out.client
 have c0:=q.lies.cell (i:=0) rfl
 have c7:=q.lies.cell (i:=7) rfl
 rw[hh] at c7
 have HR:=hid hr
 have Q0:=hid q
 have C0:=hid H.out.ctl
 rw[h1,h2] at C0
 have HH:=hid hh
 clear q hh h1 h2 hr
 go_enter Tryz.func93,Tryz.ntmps93
 go_upto_region 1 with fail
 have d0:=Later.cell c0
 have d7:=Later.cell c7
 clear c0 c7
 refine wp_region_later_tail 9 (by kernel_rfl) (by kernel_rfl) ?_
 simp only[List.take_succ_cons,List.take_zero,List.drop_succ_cons,List.drop_zero]
 repeat (go_big_quiet_step (fail))
 refine wpQuiet_nil ?_
 rintro _ ⟨u,rfl⟩
 have B1:=hid u.below
 clear d0 d7
 generalize u.w=w1 at B1 ⊢
 have C1:=hid (Lies.next C0.out B1.out)
 have H1:=hid (H.out.next B1.out)
 go_wp2_with fail
 refine (Ct.drop_ok C1).mono ?_
 rintro r w2 ⟨rfl,e1,e2⟩
 obtain⟨R2,c2,o2⟩:=H1.out.on17 e1 e2
 obtain⟨cv2,rv2,q2,hr2⟩:=c2.client
 have f7:=q2.lies.open_ 7
 have c7:=q2.lies.cell (i:=7) rfl
 have Q2:=hid (And.intro q2 hr2)
 have C2:=hid c2
 have O2:=hid ((On.below H.out.fam B1.out).trans o2)
 clear e1 e2 c2 o2 q2 hr2
 dsimp only
 go_wp2
 go_end0
 obtain⟨q3,m3⟩:=Q2.out.1.put (g':={s.g with held:=none}) 7 (.pointer none) rfl
 rw[←Q2.out.2] at m3
 have m3':Moves (R2 18) (CF E.x cv2 rv2) w2 (w2.setCell ⟨E.x,7,none⟩ (.pointer none)):=by rw[Q2.out.2] at m3 ⊢;exact m3
 obtain⟨R3,c3,o3⟩:=C2.out.on18 q3 m3' (fun r hr=>.inl hr) (.inl rfl) (.inr rfl)
 exact⟨rfl,R3,c3,O2.out.trans o3⟩
structure Bo(R:Nat→Nat→Prop)(w:World)(g:Nat)(T:TypeId)(cs:List Value):Prop where
 lies:Lies w g T cs
 out:∀ i,¬R i g
theorem Bo.on{T:Nat→Prop}{g:Nat}{t:TypeId}{cs:List Value}(h:Bo R w g t cs)(k:On T R w R' w'):Bo R' w' g t cs:=
 ⟨(k.free g h.lies.lt h.out).1.trans h.lies,(k.free g h.lies.lt h.out).2⟩
theorem Bo.new{g:Nat}{t:TypeId}{cs:List Value}(f:Fam w0 w R)(l:Lies w' g t cs)(hg:w.heap.size≤g):Bo R w' g t cs:=
 ⟨l,fun i q=>by have:=f.in_ i g q;omega⟩
theorem Bo.next{g:Nat}{t:TypeId}{cs:List Value}(h:Bo R w g t cs)(k:Below w.heap.size w w'):Bo R w' g t cs:=⟨h.lies.next k,h.out⟩
theorem Bo.far{g g':Nat}{t:TypeId}{cs:List Value}(h:Bo R w g t cs)(k:w.grownBy w' (some g'))(hn:g≠g'):Bo R w' g t cs:=⟨(k.block g h.lies.lt fun e=>hn (Option.some.inj e)).trans h.lies,h.out⟩
theorem On.aside{T:Nat→Prop}{g:Nat}{we:World}{R0:Nat→Nat→Prop}(f:Fam w0 we R0)(h:On T R0 we R w)(k:w.grownBy w' (some g))(hg:we.heap.size≤g):On T R0 we R w':=
 ⟨Nat.le_trans h.size k.size,fun i hi=>⟨(h.kp i hi).1,fun b hb=>(k.block b (Nat.lt_of_lt_of_le (f.in_ i b hb) h.size) fun e=>by have:=f.in_ i b hb;have:=Option.some.inj e;omega).trans ((h.kp i hi).2 b hb)⟩,
  fun a ha hn=>⟨(k.block a (Nat.lt_of_lt_of_le ha h.size) fun e=>by have:=Option.some.inj e;omega).trans (h.free a ha hn).1,(h.free a ha hn).2⟩⟩
def Old(n:Nat)(s:St):Prop:=(∀ r∈s.rs,∀ a,r.pv.ownBlock=some a→a<n)∧∀ a,s.g.r.pv.ownBlock=some a→a<n
theorem CM.old(h:CM w0 E s R w):Old w.heap.size s:=⟨fun r hr a ha=>((h.reps r hr).1.lt a ha).2,fun a ha=>(h.now.1.lt a ha).2⟩
theorem CM.aside{g n:Nat}(h:CM w0 E s R w)(k:w.grownBy w' (some g))(hn:∀ i,¬R i g)(lo:w0.heap.size≤g)(o:Old n s)(hg:n≤g):CM w0 E s R w':=by
 have st:∀ b,b<w.heap.size→b≠g→w'.heap[b]?=w.heap[b]?:=fun b hb hne=>k.block b hb fun e=>hne (Option.some.inj e)
 have K:∀ i,Kp R R w w' i:=fun i=>⟨rfl,fun b hb=>st b (h.fam.in_ i b hb) fun e=>hn i (e▸hb)⟩
 have vb:∀ v X,VB w0 R w v X→(∀ a,v.ownBlock=some a→a<n)→VB w0 R w' v X:=fun v X q ho=>⟨q.1.move fun a ha=>st a (q.1.lt a ha).2 (by have:=ho a ha;omega),q.2⟩
 have f:Fam w0 w' R:=⟨fun i=>(h.fam.in_ i).next k.size,h.fam.lo,h.fam.ap,h.fam.below.grown k h.fam.below.size fun j hj=>by cases hj;exact lo⟩
 exact⟨f,h.few,fun i=>h.kbox (K i),(h.ktable (K 16)).1,h.r16,(h.kctl (K 17)).1,h.r17,h.kclient (K 18),fun r hr=>vb _ _ (h.reps r hr) (o.1 r hr),vb _ _ h.now o.2,h.khand (K 19),(h.klist (K 21)).1,h.r21⟩
def Nw(w:World)(R':Nat→Nat→Prop)(w':World)(r:Rp):Prop:=Sl.Own Pn.k w.heap.size w' r.pv r.P∧∀ a,r.pv.ownBlock=some a→∀ i,¬R' i a
theorem Nw.zero:Nw w R' w' r0:=⟨Sl.Own.nil _ _ _,fun a h=>by cases h⟩
theorem Nw.far{w2:World}{g:Nat}{r:Rp}(h:Nw w R' w' r)(k:w'.grownBy w2 (some g))(hg:g<w.heap.size):Nw w R' w2 r:=⟨h.1.move fun a ha=>k.block a (h.1.lt a ha).2 fun e=>by have:=(h.1.lt a ha).1;have:=Option.some.inj e;omega,h.2⟩
theorem Nw.less{w2:World}{r:Rp}(h:Nw w R' w' r)(k:w2.heap.size≤w.heap.size):Nw w2 R' w' r:=⟨own_base h.1 k,h.2⟩
def Held(E:Ev)(s:St):Prop:=s.g.held=none∨(s.g.held=some E.gc∧s.hd=true∧s.hk=E.num)
def St.dropped(s:St):St:=if s.g.held=none then s else s.free
theorem dropped_rs:s.dropped.rs=s.rs:=by unfold St.dropped;split<;>rfl
theorem drop_any(H:Hid (CM w0 E s R w))(hh:Hid (Held E s)):Calls Tryz.prog 93 #[gp E.x] w fun r w'=>r=.returned (.tuple #[])∧∃ R',CM w0 E s.dropped R' w'∧On TT R w R' w':=by
 rcases hh.out with h|⟨h,h1,h2⟩
 ·refine (drop_none H h).mono ?_
  rintro r w1 ⟨rfl,rfl⟩;exact⟨rfl,R,by unfold St.dropped;rw[if_pos h];exact H.out,On.refl⟩
 ·refine (drop_some H h h1 h2).mono ?_
  rintro r w1 ⟨rfl,R',c,o⟩;exact⟨rfl,R',by unfold St.dropped;rw[if_neg (by rw[h];simp)];exact c,o⟩
end
end Cn
end Go.Proofs.YtfjlnniahfbdfaaGreat
