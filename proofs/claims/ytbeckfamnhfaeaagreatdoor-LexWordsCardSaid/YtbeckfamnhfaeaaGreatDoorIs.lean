/- errors.Is at a *api.Fault that wraps ErrLex: true at ErrLex, false at the numbers below it. (After the guide's worked text on errors.Is, with this program's numbers.) -/
import Derived.Test.YtbeckfamnhfaeaaGreatDoorSk
import Derived.LaidEql
import Derived.Stop.Asserts
import Derived.RowKitTokens
namespace Go.Proofs.YtbeckfamnhfaeaaGreatDoor
open Go.RowKit Go.Extern.Stop Go.Stop Go.Extern

theorem Tryz.isTypeOf (v : Value) (w : World) : (Extern.ReflectliteType.typeOf #[.iface 42 v]).run Tryz.prog w = .ok (.iface 98 (.agg #[.pointer (some ⟨7, 42, none⟩)])) w := by kernel_rfl
theorem Tryz.isMethodComparable (v : Value) (w : World) : (Go.method 283 98 v "Comparable").run Tryz.prog w = .ok (137, v) w := by kernel_rfl
theorem Tryz.noIsF (v : Value) (xT : TypeId) (w : World) : (Instr.typeAssert (.iface 49 v) xT 109 true).run Tryz.prog w = .ok (.tuple #[.nilIface, .bool false]) w := run_typeAssert_lacksB Tryz.underlying109 (by kernel_rfl) (by kernel_rfl) v xT w
theorem Tryz.hasUnwrapF (v : Value) (xT : TypeId) (w : World) : (Instr.typeAssert (.iface 49 v) xT 105 true).run Tryz.prog w = .ok (.tuple #[.iface 49 v, .bool true]) w := run_typeAssert_hasB Tryz.underlying105 (by kernel_rfl) v xT w
theorem Tryz.noIsE (v : Value) (xT : TypeId) (w : World) : (Instr.typeAssert (.iface 42 v) xT 109 true).run Tryz.prog w = .ok (.tuple #[.nilIface, .bool false]) w := run_typeAssert_lacksB Tryz.underlying109 (by kernel_rfl) (by kernel_rfl) v xT w
theorem Tryz.noUnwrapE (v : Value) (xT : TypeId) (w : World) : (Instr.typeAssert (.iface 42 v) xT 105 true).run Tryz.prog w = .ok (.tuple #[.nilIface, .bool false]) w := run_typeAssert_lacksB Tryz.underlying105 (by kernel_rfl) (by kernel_rfl) v xT w
theorem Tryz.noUnwrapsE (v : Value) (xT : TypeId) (w : World) : (Instr.typeAssert (.iface 42 v) xT 106 true).run Tryz.prog w = .ok (.tuple #[.nilIface, .bool false]) w := run_typeAssert_lacksB Tryz.underlying106 (by kernel_rfl) (by kernel_rfl) v xT w
theorem Tryz.methodUnwrap (v : Value) (w : World) : (Go.method 283 49 v "Unwrap").run Tryz.prog w = .ok (131, v) w := by kernel_rfl
theorem Tryz.eql1 (w : World) : (binOp .eql 26 (.iface 42 (.int .i64 5)) (.iface 42 (.int .i64 1))).run Tryz.prog w = .ok (.bool false) w := by kernel_rfl
theorem Tryz.eql5 (w : World) : (binOp .eql 26 (.iface 42 (.int .i64 5)) (.iface 42 (.int .i64 5))).run Tryz.prog w = .ok (.bool true) w := by kernel_rfl
theorem Tryz.isComparable (w : World) : ((Extern.ReflectliteType.method fun t => do Rtype.noPackHeld "Comparable" t; (fun a => Value.bool a.comparable) <$> typeInfo t) #[.agg #[.pointer (some ⟨7, 42, none⟩)]]).run Tryz.prog w = .ok (.bool true) w := by kernel_rfl

set_option maxHeartbeats 4000000 in
set_option maxRecDepth 20000 in
theorem is_five (g : Nat) (n : Int) (w : World) (hg : w.heap[g]? = some (.cells #[.int .i64 n, .iface 42 (.int .i64 5)] 54 (0, 0))) :
    Calls Tryz.prog 19 #[.iface 49 (.pointer (some ⟨g, 0, none⟩)), .iface 42 (.int .i64 5)] w fun e w' => e = .returned (.bool true) ∧ w = w' := by
  have h1 : w.cell? ⟨g, 1, none⟩ = some (.iface 42 (.int .i64 5)) := by simp [World.cell?, hg]
  have h41 := @run_callFunc_extern Tryz.prog 41 _ Extern.ReflectliteType.typeOf Tryz.func41 (by kernel_rfl) (by kernel_rfl) (by kernel_rfl) (by kernel_rfl)
  have h137 := @run_callFunc_extern Tryz.prog 137 _ (Extern.ReflectliteType.method fun t => do Rtype.noPackHeld "Comparable" t; pure (.bool (← typeInfo t).comparable)) Tryz.func137 (by kernel_rfl) (by kernel_rfl) (by kernel_rfl) (by kernel_rfl)
  have tT := Tryz.isTypeOf
  have cT := Tryz.isComparable
  have mR := Tryz.isMethodComparable
  have nF := Tryz.noIsF
  have uF := Tryz.hasUnwrapF
  have mU := Tryz.methodUnwrap
  have e5 := Tryz.eql5
  have hty := run_eql_iface_types (P := Tryz.prog) 49 42 (.pointer (some ⟨g, 0, none⟩)) (.int .i64 5) Tryz.underlying26 (by decide) w
  clear hg
  go_enter Tryz.func19, Tryz.ntmps19
  go_wp2
  refine wp_loop_rounds 2 ?_
  rw [rounds_succ]
  go_wp2
  rw [rounds_succ]
  go_wp2
  go_ret
  exact ⟨rfl, rfl⟩
set_option maxHeartbeats 4000000 in
set_option maxRecDepth 20000 in
theorem is_not (g : Nat) (n k : Int) (w : World) (he : ∀ w : World, (binOp .eql 26 (.iface 42 (.int .i64 5)) (.iface 42 (.int .i64 k))).run Tryz.prog w = .ok (.bool false) w) (hg : w.heap[g]? = some (.cells #[.int .i64 n, .iface 42 (.int .i64 5)] 54 (0, 0))) :
    Calls Tryz.prog 19 #[.iface 49 (.pointer (some ⟨g, 0, none⟩)), .iface 42 (.int .i64 k)] w fun e w' => e = .returned (.bool false) ∧ w = w' := by
  have h1 : w.cell? ⟨g, 1, none⟩ = some (.iface 42 (.int .i64 5)) := by simp [World.cell?, hg]
  have h41 := @run_callFunc_extern Tryz.prog 41 _ Extern.ReflectliteType.typeOf Tryz.func41 (by kernel_rfl) (by kernel_rfl) (by kernel_rfl) (by kernel_rfl)
  have h137 := @run_callFunc_extern Tryz.prog 137 _ (Extern.ReflectliteType.method fun t => do Rtype.noPackHeld "Comparable" t; pure (.bool (← typeInfo t).comparable)) Tryz.func137 (by kernel_rfl) (by kernel_rfl) (by kernel_rfl) (by kernel_rfl)
  have tT := Tryz.isTypeOf
  have cT := Tryz.isComparable
  have mR := Tryz.isMethodComparable
  have nF := Tryz.noIsF
  have uF := Tryz.hasUnwrapF
  have mU := Tryz.methodUnwrap
  have nE := Tryz.noIsE
  have uE := Tryz.noUnwrapE
  have vE := Tryz.noUnwrapsE
  have hty := run_eql_iface_types (P := Tryz.prog) 49 42 (.pointer (some ⟨g, 0, none⟩)) (.int .i64 k) Tryz.underlying26 (by decide) w
  clear hg
  go_enter Tryz.func19, Tryz.ntmps19
  go_wp2
  refine wp_loop_rounds 2 ?_
  rw [rounds_succ]
  go_wp2
  rw [rounds_succ]
  go_wp2
  go_ret
  exact ⟨rfl, rfl⟩
theorem Tryz.eql2 (w : World) : (binOp .eql 26 (.iface 42 (.int .i64 5)) (.iface 42 (.int .i64 2))).run Tryz.prog w = .ok (.bool false) w := by kernel_rfl
theorem Tryz.eql3 (w : World) : (binOp .eql 26 (.iface 42 (.int .i64 5)) (.iface 42 (.int .i64 3))).run Tryz.prog w = .ok (.bool false) w := by kernel_rfl
theorem Tryz.eql4 (w : World) : (binOp .eql 26 (.iface 42 (.int .i64 5)) (.iface 42 (.int .i64 4))).run Tryz.prog w = .ok (.bool false) w := by kernel_rfl
end Go.Proofs.YtbeckfamnhfaeaaGreatDoor
