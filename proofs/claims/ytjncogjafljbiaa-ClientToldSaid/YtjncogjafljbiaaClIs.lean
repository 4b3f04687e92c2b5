/-
  errors.Is between codes: whether they are one.
-/
import Derived.Test.YtjncogjafljbiaaErrs
import Derived.Stop.Asserts
import Derived.RowKitTokens
import Derived.WalkKit
namespace Go.Proofs.Ytjncogjafljbiaa
open Go.ChangeShapes Go.WideShapes Go.ChangeAt Go.RowKit
set_option linter.unusedVariables false
set_option maxRecDepth 100000
namespace Cn
/-! ### errors.Is between codes -/
section
open Go.Extern.Stop Go.Stop Go.Extern
def isM : Array Value → Sem Value := Extern.ReflectliteType.method fun t => do Extern.Rtype.noPackHeld "Comparable" t; pure (.bool (← typeInfo t).comparable)
theorem isTypeOf : ∃ b, ∀ (v : Value) (w : World), (Extern.ReflectliteType.typeOf #[.iface 91 v]).run Try.prog w = .ok (.iface 156 (.agg #[.pointer (some ⟨b, 91, none⟩)])) w ∧ (isM #[.agg #[.pointer (some ⟨b, 91, none⟩)]]).run Try.prog w = .ok (.bool true) w := ⟨0, fun v w => ⟨by kernel_rfl, by kernel_rfl⟩⟩
theorem isMethod (k : Nat) (v : Value) (w : World) : (Go.method (k + 1) 156 v "Comparable").run Try.prog w = .ok (110, v) w := by kernel_rfl
theorem noIs (v : Value) (xT : TypeId) (w : World) : (Instr.typeAssert (.iface 91 v) xT 158 true).run Try.prog w = .ok (.tuple #[.nilIface, .bool false]) w := run_typeAssert_lacksB Try.underlying158 (by kernel_rfl) (by kernel_rfl) v xT w
theorem noUnwrap (v : Value) (xT : TypeId) (w : World) : (Instr.typeAssert (.iface 91 v) xT 161 true).run Try.prog w = .ok (.tuple #[.nilIface, .bool false]) w := run_typeAssert_lacksB Try.underlying161 (by kernel_rfl) (by kernel_rfl) v xT w
theorem noUnwraps (v : Value) (xT : TypeId) (w : World) : (Instr.typeAssert (.iface 91 v) xT 163 true).run Try.prog w = .ok (.tuple #[.nilIface, .bool false]) w := run_typeAssert_lacksB Try.underlying163 (by kernel_rfl) (by kernel_rfl) v xT w
set_option maxHeartbeats 1600000
theorem isH8 (args : Array Value) (w : World) : Sem.run Try.prog (callFunc 86 args) w = (Sem.run Try.prog (Extern.ReflectliteType.typeOf args) w).andThen fun v w' => Result.ok (Next.value v) w' :=
  @run_callFunc_extern Try.prog 86 _ Extern.ReflectliteType.typeOf Try.func86 (by kernel_rfl) (by kernel_rfl) (by kernel_rfl) (by kernel_rfl) args w
theorem isH32 (args : Array Value) (w : World) : Sem.run Try.prog (callFunc 110 args) w = (Sem.run Try.prog (isM args) w).andThen fun v w' => Result.ok (Next.value v) w' :=
  @run_callFunc_extern Try.prog 110 _ isM Try.func110 (by kernel_rfl) (by kernel_rfl) (by kernel_rfl) (by kernel_rfl) args w
theorem is_same (n : Int) (w : World) : Calls Try.prog 77 #[.iface 91 (.int .i64 n), .iface 91 (.int .i64 n)] w fun e w' => e = .returned (.bool true) ∧ w = w' := by
  obtain ⟨b, tb⟩ := isTypeOf
  have h8 := isH8
  have h32 := isH32
  have tT := fun v w => (tb v w).1
  have cT := fun w => (tb (.int .i64 0) w).2
  have mR := isMethod
  have heq : ∀ w, (binOp .eql 47 (.iface 91 (.int .i64 n)) (.iface 91 (.int .i64 n))).run Try.prog w = .ok (.bool true) w := fun w => by rw [Errs.eql_code, beq_self_eq_true]
  clear tb
  go_enter Try.func77, Try.ntmps77
  go_wp2
  refine wp_loop_rounds 1 ?_
  rw [rounds_succ]
  go_wp2
  go_ret
  exact ⟨rfl, rfl⟩
theorem is_other (n m : Int) (hn : (n == m) = false) (w : World) : Calls Try.prog 77 #[.iface 91 (.int .i64 n), .iface 91 (.int .i64 m)] w fun e w' => e = .returned (.bool false) ∧ w = w' := by
  obtain ⟨b, tb⟩ := isTypeOf
  have h8 := isH8
  have h32 := isH32
  have tT := fun v w => (tb v w).1
  have cT := fun w => (tb (.int .i64 0) w).2
  have mR := isMethod
  have nE := noIs
  have uE := noUnwrap
  have vE := noUnwraps
  have heq : ∀ w, (binOp .eql 47 (.iface 91 (.int .i64 n)) (.iface 91 (.int .i64 m))).run Try.prog w = .ok (.bool false) w := fun w => by rw [Errs.eql_code, hn]
  clear tb hn
  go_enter Try.func77, Try.ntmps77
  go_wp2
  refine wp_loop_rounds 1 ?_
  rw [rounds_succ]
  go_wp2
  go_ret
  exact ⟨rfl, rfl⟩
end
end Cn
end Go.Proofs.Ytjncogjafljbiaa
