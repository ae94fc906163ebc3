/- Parts of the proof: LAs, As2, LexS, Pz, LexF, LuaM, LexN, LIs, LTo, Pp, Td. -/
import Derived.LaidEql
import Derived.Stop.Asserts
import Derived.RowKitTokens
import Derived.Test.YtfpeecjafccfjaaGreatDoorK12
namespace Go.Proofs.YtfpeecjafccfjaaGreatDoor
open Go.RowKit Go.Extern.Stop Go.Stop Go.Extern
theorem as_nil (t : Value) (w : World) :
    Calls Tryz.prog 20 #[.nilIface, t] w fun e w' => e = .returned (.bool false) ∧ w' = w := by
  go_enter Tryz.func20, Tryz.ntmps20
  go_wp2
  go_ret
  exact ⟨rfl, rfl⟩
theorem Tryz.valueOf51 (t : Addr) (w : World) : (ReflectliteValue.unpack (.iface 65 (.pointer (some t)))).run Tryz.prog w
    = .ok (.agg #[.pointer (some ⟨7, 65, none⟩), .pointer (some ⟨w.heap.size, 0, none⟩), .int .u64 150]) (w.alloc (.cells #[.pointer (some t)] 65)) := by kernel_rfl
theorem Tryz.type51 (a : Addr) (w : World) : (ReflectliteValue.methodAny (ReflectliteValue.valueError "reflectlite.Value.Type" 0) (fun t _ _ _ => ReflectliteType.toType t) #[.agg #[.pointer (some ⟨7, 65, none⟩), .pointer (some a), .int .u64 150]]).run Tryz.prog w
    = .ok (.iface 135 (.agg #[.pointer (some ⟨7, 65, none⟩)])) w := by kernel_rfl
theorem Tryz.methodKind (h : Value) (w : World) : (Go.method 368 135 (.agg #[h]) "Kind").run Tryz.prog w = .ok (240, h) w := by kernel_rfl
theorem Tryz.kind51 (w : World) : ((ReflectliteType.abiMethod fun t => (fun a : Nat => Value.int IntKind.u8 (a : Int)) <$> Rtype.kind t) #[.pointer (some ⟨7, 65, none⟩)]).run Tryz.prog w = .ok (.int .u8 22) w := by kernel_rfl
theorem Tryz.kind49 (w : World) : ((ReflectliteType.abiMethod fun t => (fun a : Nat => Value.int IntKind.u8 (a : Int)) <$> Rtype.kind t) #[.pointer (some ⟨7, 64, none⟩)]).run Tryz.prog w = .ok (.int .u8 22) w := by kernel_rfl
theorem rlm (z : Sem Value) (f : TypeId → Addr → Nat → Nat → Sem Value) (v : Value) :
    ReflectliteValue.method z f #[v] = (do match ← ReflectliteValue.parts v with | none => z | some (t, a, fl) => f t a fl (fl % 32)) := rfl
theorem Tryz.parts51 (a : Addr) (w : World) : (ReflectliteValue.parts (.agg #[.pointer (some ⟨7, 65, none⟩), .pointer (some a), .int .u64 150])).run Tryz.prog w = .ok (some (65, a, 150)) w := by kernel_rfl
theorem Tryz.isNil51 (a p : Addr) (W : World) (ha : W.cell? a = some (.pointer (some p))) :
    (ReflectliteValue.method (ReflectliteValue.valueError "reflectlite.Value.IsNil" 0) ReflectliteValue.isNil #[.agg #[.pointer (some ⟨7, 65, none⟩), .pointer (some a), .int .u64 150]]).run Tryz.prog W = .ok (.bool false) W := by
  rw [rlm]
  simp only [Sem.run_bind, Tryz.parts51, Result.andThen]
  simp [ReflectliteValue.isNil, loadVar, isAgg, underlying, Tryz.underlying65, ha, Result.andThen]
theorem Tryz.methodElem (h : Value) (w : World) : (Go.method 368 135 (.agg #[h]) "Elem").run Tryz.prog w = .ok (253, .agg #[h]) w := by kernel_rfl
theorem Tryz.methodImplements (h : Value) (w : World) : (Go.method 368 135 (.agg #[h]) "Implements").run Tryz.prog w = .ok (254, .agg #[h]) w := by kernel_rfl
theorem Tryz.methodAssignableTo (h : Value) (w : World) : (Go.method 368 135 (.agg #[h]) "AssignableTo").run Tryz.prog w = .ok (251, .agg #[h]) w := by kernel_rfl
theorem Tryz.elem51 (w : World) : (ReflectliteType.method ReflectliteType.elem #[.agg #[.pointer (some ⟨7, 65, none⟩)]]).run Tryz.prog w = .ok (.iface 135 (.agg #[.pointer (some ⟨7, 64, none⟩)])) w := by kernel_rfl
theorem Tryz.implements49 (w : World) : (ReflectliteType.relation "Implements" ReflectliteType.implements_ #[.agg #[.pointer (some ⟨7, 64, none⟩)], .iface 135 (.agg #[.pointer (some ⟨7, 27, none⟩)])]).run Tryz.prog w = .ok (.bool true) w := by kernel_rfl
theorem Tryz.typeOf49 (v : Value) (w : World) : (ReflectliteType.typeOf #[.iface 64 v]).run Tryz.prog w = .ok (.iface 135 (.agg #[.pointer (some ⟨7, 64, none⟩)])) w := by kernel_rfl
theorem Tryz.assignable49 (w : World) : (ReflectliteType.relation "AssignableTo" ReflectliteType.assignableTo #[.agg #[.pointer (some ⟨7, 64, none⟩)], .iface 135 (.agg #[.pointer (some ⟨7, 64, none⟩)])]).run Tryz.prog w = .ok (.bool true) w := by kernel_rfl
theorem Tryz.valueOf49 (e : Addr) (w : World) : (ReflectliteValue.unpack (.iface 64 (.pointer (some e)))).run Tryz.prog w
    = .ok (.agg #[.pointer (some ⟨7, 64, none⟩), .pointer (some ⟨w.heap.size, 0, none⟩), .int .u64 150]) (w.alloc (.cells #[.pointer (some e)] 64)) := by kernel_rfl
theorem Tryz.elemOf51 (w : World) : (Rtype.elem? 65).run Tryz.prog w = .ok (some 64) w := by kernel_rfl
theorem Tryz.mk49 (p : Addr) (w : World) : (ReflectliteValue.mk 64 p ReflectliteValue.flagAddr).run Tryz.prog w = .ok (.agg #[.pointer (some ⟨7, 64, none⟩), .pointer (some p), .int .u64 406]) w := by kernel_rfl
theorem Tryz.elemV51 (a p : Addr) (W : World) (ha : W.cell? a = some (.pointer (some p))) :
    (ReflectliteValue.method (ReflectliteValue.valueError "reflectlite.Value.Elem" 0) ReflectliteValue.elem #[.agg #[.pointer (some ⟨7, 65, none⟩), .pointer (some a), .int .u64 150]]).run Tryz.prog W
      = .ok (.agg #[.pointer (some ⟨7, 64, none⟩), .pointer (some p), .int .u64 406]) W := by
  rw [rlm]
  simp only [Sem.run_bind, Tryz.parts51, Result.andThen]
  simp [ReflectliteValue.elem, loadVar, isAgg, underlying, Tryz.underlying65, ha, Result.andThen, Tryz.elemOf51, Tryz.mk49]
theorem rls (v x : Value) : ReflectliteValue.set #[v, x] = (do
    let (some (dst, a, fl), some (src, b, _)) := (← ReflectliteValue.parts v, ← ReflectliteValue.parts x)
      | unsupported (.noEntry "extern/(internal/reflectlite.Value).Set.zeroValue")
    if fl / ReflectliteValue.flagAddr % 2 == 0 then unsupported (.noEntry "extern/(internal/reflectlite.Value).Set.unaddressable")
    let val ← loadVar src b
    if ← Rtype.directlyAssignable dst src then storeVar dst a val
    else if ← Rtype.implements dst src then
      if (← Rtype.kind src) == 20 then
        match val with
        | .nilIface => unsupported (.noEntry "extern/reflectlite: a nil value of one interface type handed on as a value of another")
        | _ => storeVar dst a val
      else storeVar dst a (.iface src val)
    else panicString ("reflectlite.Set: value of type " ++ (← Rtype.spelt src) ++ " is not assignable to type " ++ (← Rtype.spelt dst))
    pure (.tuple #[])) := rfl
theorem Tryz.parts49a (a : Addr) (w : World) : (ReflectliteValue.parts (.agg #[.pointer (some ⟨7, 64, none⟩), .pointer (some a), .int .u64 406])).run Tryz.prog w = .ok (some (64, a, 406)) w := by kernel_rfl
theorem Tryz.parts49 (a : Addr) (w : World) : (ReflectliteValue.parts (.agg #[.pointer (some ⟨7, 64, none⟩), .pointer (some a), .int .u64 150])).run Tryz.prog w = .ok (some (64, a, 150)) w := by kernel_rfl
theorem Tryz.direct49 (w : World) : (Rtype.directlyAssignable 64 64).run Tryz.prog w = .ok true w := by kernel_rfl
theorem Tryz.set49 (ta b e : Addr) (old : Value) (W : World) (hb : W.cell? b = some (.pointer (some e))) (ht : W.cell? ta = some old) (hf : W.frozen? ta = false) :
    (ReflectliteValue.set #[.agg #[.pointer (some ⟨7, 64, none⟩), .pointer (some ta), .int .u64 406], .agg #[.pointer (some ⟨7, 64, none⟩), .pointer (some b), .int .u64 150]]).run Tryz.prog W
      = .ok (.tuple #[]) (W.setCell ta (.pointer (some e))) := by
  rw [rls]
  simp only [Sem.run_bind, Tryz.parts49a, Tryz.parts49, Result.andThen]
  simp [ReflectliteValue.flagAddr, loadVar, isAgg, underlying, Tryz.underlying64, hb, Result.andThen, Tryz.direct49, storeVar, Value.cells, storeCells, Addr.add]
  rw [run_store Tryz.prog W ta _ _ (by rfl)]
  simp [ht, hf]
set_option maxHeartbeats 4000000 in
theorem as_hit (e t : Addr) (old : Value) (w : World) (hg : w.cell? ⟨0, 0, none⟩ = some (.iface 135 (.agg #[.pointer (some ⟨7, 27, none⟩)]))) (ht0 : w.cell? t = some old) (hf0 : w.frozen? t = false) :
    Calls Tryz.prog 20 #[.iface 64 (.pointer (some e)), .iface 65 (.pointer (some t))] w fun ev w' => ev = .returned (.bool true) ∧ w' = ((((w.alloc (.cells #[.pointer (some t)] 65)).alloc (.cells #[.pointer (some ⟨7, 65, none⟩), .pointer (some ⟨w.heap.size, 0, none⟩), .int .u64 150] 97)).alloc (.cells #[.pointer (some ⟨7, 65, none⟩), .pointer (some ⟨w.heap.size, 0, none⟩), .int .u64 150] 97)).alloc (.cells #[.pointer (some e)] 64)).setCell t (.pointer (some e)) := by
  have h6 := @run_callFunc_extern Tryz.prog 43 _ (fun args => ReflectliteValue.unpack (args.getD 0 (.tuple #[]))) Tryz.func43 (by kernel_rfl) (by kernel_rfl) (by kernel_rfl) (by kernel_rfl)
  have h7 := @run_callFunc_extern Tryz.prog 44 _ (ReflectliteValue.methodAny (ReflectliteValue.valueError "reflectlite.Value.Type" 0) (fun t _ _ _ => ReflectliteType.toType t)) Tryz.func44 (by kernel_rfl) (by kernel_rfl) (by kernel_rfl) (by kernel_rfl)
  have h8 := @run_callFunc_extern Tryz.prog 45 _ (ReflectliteValue.method (ReflectliteValue.valueError "reflectlite.Value.IsNil" 0) ReflectliteValue.isNil) Tryz.func45 (by kernel_rfl) (by kernel_rfl) (by kernel_rfl) (by kernel_rfl)
  have h27 := @run_callFunc_extern Tryz.prog 240 _ (ReflectliteType.abiMethod fun t => do pure (.int .u8 (← Rtype.kind t))) Tryz.func240 (by kernel_rfl) (by kernel_rfl) (by kernel_rfl) (by kernel_rfl)
  have h37 := @run_callFunc_extern Tryz.prog 253 _ (ReflectliteType.method ReflectliteType.elem) Tryz.func253 (by kernel_rfl) (by kernel_rfl) (by kernel_rfl) (by kernel_rfl)
  have h38 := @run_callFunc_extern Tryz.prog 254 _ (ReflectliteType.relation "Implements" ReflectliteType.implements_) Tryz.func254 (by kernel_rfl) (by kernel_rfl) (by kernel_rfl) (by kernel_rfl)
  have h10 := @run_callFunc_extern Tryz.prog 48 _ ReflectliteType.typeOf Tryz.func48 (by kernel_rfl) (by kernel_rfl) (by kernel_rfl) (by kernel_rfl)
  have h35 := @run_callFunc_extern Tryz.prog 251 _ (ReflectliteType.relation "AssignableTo" ReflectliteType.assignableTo) Tryz.func251 (by kernel_rfl) (by kernel_rfl) (by kernel_rfl) (by kernel_rfl)
  have h11 := @run_callFunc_extern Tryz.prog 94 _ (ReflectliteValue.method (ReflectliteValue.valueError "reflectlite.Value.Elem" 0) ReflectliteValue.elem) Tryz.func94 (by kernel_rfl) (by kernel_rfl) (by kernel_rfl) (by kernel_rfl)
  have h12 := @run_callFunc_extern Tryz.prog 95 _ ReflectliteValue.set Tryz.func95 (by kernel_rfl) (by kernel_rfl) (by kernel_rfl) (by kernel_rfl)
  have tO := Tryz.typeOf49
  have mA := Tryz.methodAssignableTo
  have a25 := Tryz.assignable49
  have v25 := Tryz.valueOf49
  have f6 := Tryz.valueOf51
  have f7 := Tryz.type51
  have mK := Tryz.methodKind
  have mE := Tryz.methodElem
  have mI := Tryz.methodImplements
  have k27 := Tryz.kind51
  have k25 := Tryz.kind49
  have e27 := Tryz.elem51
  have i25 := Tryz.implements49
  have n8 := Tryz.isNil51 ⟨w.heap.size, 0, none⟩ t ((w.alloc (.cells #[.pointer (some t)] 65)).alloc (.cells #[.pointer (some ⟨7, 65, none⟩), .pointer (some ⟨w.heap.size, 0, none⟩), .int .u64 150] 97)) (by simp)
  have hlt : 0 < w.heap.size := by
    rcases Nat.eq_zero_or_pos w.heap.size with h0 | h
    · simp [World.cell?, h0] at hg
    · exact h
  have hg2 : ((w.alloc (.cells #[.pointer (some t)] 65)).alloc (.cells #[.pointer (some ⟨7, 65, none⟩), .pointer (some ⟨w.heap.size, 0, none⟩), .int .u64 150] 97)).cell? ⟨0, 0, none⟩ = some (.iface 135 (.agg #[.pointer (some ⟨7, 27, none⟩)])) := by
    rw [World.cell?_alloc_lt _ _ ⟨0, 0, none⟩ (by simp), World.cell?_alloc_lt _ _ ⟨0, 0, none⟩ hlt]; exact hg
  have htl : t.block < w.heap.size := by
    rcases Nat.lt_or_ge t.block w.heap.size with h | h
    · exact h
    · simp [World.cell?, Array.getElem?_eq_none h] at ht0
  have el := Tryz.elemV51 ⟨w.heap.size, 0, none⟩ t (((w.alloc (.cells #[.pointer (some t)] 65)).alloc (.cells #[.pointer (some ⟨7, 65, none⟩), .pointer (some ⟨w.heap.size, 0, none⟩), .int .u64 150] 97)).alloc (.cells #[.pointer (some ⟨7, 65, none⟩), .pointer (some ⟨w.heap.size, 0, none⟩), .int .u64 150] 97)) (by rw [World.cell?_alloc_lt _ _ ⟨w.heap.size, 0, none⟩ (by simp; omega)]; simp)
  have st := Tryz.set49 t ⟨w.heap.size + 1 + 1 + 1, 0, none⟩ e old ((((w.alloc (.cells #[.pointer (some t)] 65)).alloc (.cells #[.pointer (some ⟨7, 65, none⟩), .pointer (some ⟨w.heap.size, 0, none⟩), .int .u64 150] 97)).alloc (.cells #[.pointer (some ⟨7, 65, none⟩), .pointer (some ⟨w.heap.size, 0, none⟩), .int .u64 150] 97)).alloc (.cells #[.pointer (some e)] 64))
    (by rw [World.cell?_alloc_at _ _ _ _ (by simp)]; rfl)
    (by rw [World.cell?_alloc_lt _ _ t (by simp; omega), World.cell?_alloc_lt _ _ t (by simp; omega), World.cell?_alloc_lt _ _ t (by simp; omega), World.cell?_alloc_lt _ _ t htl]; exact ht0)
    (by rw [World.frozen?_alloc_old _ _ t (by simp; omega), World.frozen?_alloc_old _ _ t (by simp; omega), World.frozen?_alloc_old _ _ t (by simp; omega), World.frozen?_alloc_old _ _ t (Nat.ne_of_lt htl)]; exact hf0)
  go_enter Tryz.func20, Tryz.ntmps20
  go_wp2
  refine wp_loop_rounds 1 ?_
  rw [rounds_succ]
  go_wp2
  go_ret
  exact ⟨rfl, rfl⟩
end Go.Proofs.YtfpeecjafccfjaaGreatDoor
namespace Go.Proofs.YtfpeecjafccfjaaGreatDoor
open Go.RowKit Go.Extern.Stop Go.Stop Go.Extern
theorem Tryz.valueOf51m (t : Addr) (w : World) : (ReflectliteValue.unpack (.iface 58 (.pointer (some t)))).run Tryz.prog w
    = .ok (.agg #[.pointer (some ⟨7, 58, none⟩), .pointer (some ⟨w.heap.size, 0, none⟩), .int .u64 150]) (w.alloc (.cells #[.pointer (some t)] 58)) := by kernel_rfl
theorem Tryz.type51m (a : Addr) (w : World) : (ReflectliteValue.methodAny (ReflectliteValue.valueError "reflectlite.Value.Type" 0) (fun t _ _ _ => ReflectliteType.toType t) #[.agg #[.pointer (some ⟨7, 58, none⟩), .pointer (some a), .int .u64 150]]).run Tryz.prog w
    = .ok (.iface 135 (.agg #[.pointer (some ⟨7, 58, none⟩)])) w := by kernel_rfl
theorem Tryz.kind51m (w : World) : ((ReflectliteType.abiMethod fun t => (fun a : Nat => Value.int IntKind.u8 (a : Int)) <$> Rtype.kind t) #[.pointer (some ⟨7, 58, none⟩)]).run Tryz.prog w = .ok (.int .u8 22) w := by kernel_rfl
theorem Tryz.kind49m (w : World) : ((ReflectliteType.abiMethod fun t => (fun a : Nat => Value.int IntKind.u8 (a : Int)) <$> Rtype.kind t) #[.pointer (some ⟨7, 56, none⟩)]).run Tryz.prog w = .ok (.int .u8 22) w := by kernel_rfl
theorem Tryz.parts51m (a : Addr) (w : World) : (ReflectliteValue.parts (.agg #[.pointer (some ⟨7, 58, none⟩), .pointer (some a), .int .u64 150])).run Tryz.prog w = .ok (some (58, a, 150)) w := by kernel_rfl
theorem Tryz.isNil51m (a p : Addr) (W : World) (ha : W.cell? a = some (.pointer (some p))) :
    (ReflectliteValue.method (ReflectliteValue.valueError "reflectlite.Value.IsNil" 0) ReflectliteValue.isNil #[.agg #[.pointer (some ⟨7, 58, none⟩), .pointer (some a), .int .u64 150]]).run Tryz.prog W = .ok (.bool false) W := by
  rw [rlm]
  simp only [Sem.run_bind, Tryz.parts51m, Result.andThen]
  simp [ReflectliteValue.isNil, loadVar, isAgg, underlying, Tryz.underlying58, ha, Result.andThen]
theorem Tryz.elem51m (w : World) : (ReflectliteType.method ReflectliteType.elem #[.agg #[.pointer (some ⟨7, 58, none⟩)]]).run Tryz.prog w = .ok (.iface 135 (.agg #[.pointer (some ⟨7, 56, none⟩)])) w := by kernel_rfl
theorem Tryz.implements49m (w : World) : (ReflectliteType.relation "Implements" ReflectliteType.implements_ #[.agg #[.pointer (some ⟨7, 56, none⟩)], .iface 135 (.agg #[.pointer (some ⟨7, 27, none⟩)])]).run Tryz.prog w = .ok (.bool true) w := by kernel_rfl
theorem Tryz.typeOf49m (v : Value) (w : World) : (ReflectliteType.typeOf #[.iface 56 v]).run Tryz.prog w = .ok (.iface 135 (.agg #[.pointer (some ⟨7, 56, none⟩)])) w := by kernel_rfl
theorem Tryz.assignable49m (w : World) : (ReflectliteType.relation "AssignableTo" ReflectliteType.assignableTo #[.agg #[.pointer (some ⟨7, 56, none⟩)], .iface 135 (.agg #[.pointer (some ⟨7, 56, none⟩)])]).run Tryz.prog w = .ok (.bool true) w := by kernel_rfl
theorem Tryz.valueOf49m (e : Addr) (w : World) : (ReflectliteValue.unpack (.iface 56 (.pointer (some e)))).run Tryz.prog w
    = .ok (.agg #[.pointer (some ⟨7, 56, none⟩), .pointer (some ⟨w.heap.size, 0, none⟩), .int .u64 150]) (w.alloc (.cells #[.pointer (some e)] 56)) := by kernel_rfl
theorem Tryz.elemOf51m (w : World) : (Rtype.elem? 58).run Tryz.prog w = .ok (some 56) w := by kernel_rfl
theorem Tryz.mk49m (p : Addr) (w : World) : (ReflectliteValue.mk 56 p ReflectliteValue.flagAddr).run Tryz.prog w = .ok (.agg #[.pointer (some ⟨7, 56, none⟩), .pointer (some p), .int .u64 406]) w := by kernel_rfl
theorem Tryz.elemV51m (a p : Addr) (W : World) (ha : W.cell? a = some (.pointer (some p))) :
    (ReflectliteValue.method (ReflectliteValue.valueError "reflectlite.Value.Elem" 0) ReflectliteValue.elem #[.agg #[.pointer (some ⟨7, 58, none⟩), .pointer (some a), .int .u64 150]]).run Tryz.prog W
      = .ok (.agg #[.pointer (some ⟨7, 56, none⟩), .pointer (some p), .int .u64 406]) W := by
  rw [rlm]
  simp only [Sem.run_bind, Tryz.parts51m, Result.andThen]
  simp [ReflectliteValue.elem, loadVar, isAgg, underlying, Tryz.underlying58, ha, Result.andThen, Tryz.elemOf51m, Tryz.mk49m]
theorem Tryz.parts49am (a : Addr) (w : World) : (ReflectliteValue.parts (.agg #[.pointer (some ⟨7, 56, none⟩), .pointer (some a), .int .u64 406])).run Tryz.prog w = .ok (some (56, a, 406)) w := by kernel_rfl
theorem Tryz.parts49m (a : Addr) (w : World) : (ReflectliteValue.parts (.agg #[.pointer (some ⟨7, 56, none⟩), .pointer (some a), .int .u64 150])).run Tryz.prog w = .ok (some (56, a, 150)) w := by kernel_rfl
theorem Tryz.direct49m (w : World) : (Rtype.directlyAssignable 56 56).run Tryz.prog w = .ok true w := by kernel_rfl
theorem Tryz.set49m (ta b e : Addr) (old : Value) (W : World) (hb : W.cell? b = some (.pointer (some e))) (ht : W.cell? ta = some old) (hf : W.frozen? ta = false) :
    (ReflectliteValue.set #[.agg #[.pointer (some ⟨7, 56, none⟩), .pointer (some ta), .int .u64 406], .agg #[.pointer (some ⟨7, 56, none⟩), .pointer (some b), .int .u64 150]]).run Tryz.prog W
      = .ok (.tuple #[]) (W.setCell ta (.pointer (some e))) := by
  rw [rls]
  simp only [Sem.run_bind, Tryz.parts49am, Tryz.parts49m, Result.andThen]
  simp [ReflectliteValue.flagAddr, loadVar, isAgg, underlying, Tryz.underlying56, hb, Result.andThen, Tryz.direct49m, storeVar, Value.cells, storeCells, Addr.add]
  rw [run_store Tryz.prog W ta _ _ (by rfl)]
  simp [ht, hf]
set_option maxHeartbeats 4000000 in
theorem as_hitM (e t : Addr) (old : Value) (w : World) (hg : w.cell? ⟨0, 0, none⟩ = some (.iface 135 (.agg #[.pointer (some ⟨7, 27, none⟩)]))) (ht0 : w.cell? t = some old) (hf0 : w.frozen? t = false) :
    Calls Tryz.prog 20 #[.iface 56 (.pointer (some e)), .iface 58 (.pointer (some t))] w fun ev w' => ev = .returned (.bool true) ∧ w' = ((((w.alloc (.cells #[.pointer (some t)] 58)).alloc (.cells #[.pointer (some ⟨7, 58, none⟩), .pointer (some ⟨w.heap.size, 0, none⟩), .int .u64 150] 97)).alloc (.cells #[.pointer (some ⟨7, 58, none⟩), .pointer (some ⟨w.heap.size, 0, none⟩), .int .u64 150] 97)).alloc (.cells #[.pointer (some e)] 56)).setCell t (.pointer (some e)) := by
  have h6 := @run_callFunc_extern Tryz.prog 43 _ (fun args => ReflectliteValue.unpack (args.getD 0 (.tuple #[]))) Tryz.func43 (by kernel_rfl) (by kernel_rfl) (by kernel_rfl) (by kernel_rfl)
  have h7 := @run_callFunc_extern Tryz.prog 44 _ (ReflectliteValue.methodAny (ReflectliteValue.valueError "reflectlite.Value.Type" 0) (fun t _ _ _ => ReflectliteType.toType t)) Tryz.func44 (by kernel_rfl) (by kernel_rfl) (by kernel_rfl) (by kernel_rfl)
  have h8 := @run_callFunc_extern Tryz.prog 45 _ (ReflectliteValue.method (ReflectliteValue.valueError "reflectlite.Value.IsNil" 0) ReflectliteValue.isNil) Tryz.func45 (by kernel_rfl) (by kernel_rfl) (by kernel_rfl) (by kernel_rfl)
  have h27 := @run_callFunc_extern Tryz.prog 240 _ (ReflectliteType.abiMethod fun t => do pure (.int .u8 (← Rtype.kind t))) Tryz.func240 (by kernel_rfl) (by kernel_rfl) (by kernel_rfl) (by kernel_rfl)
  have h37 := @run_callFunc_extern Tryz.prog 253 _ (ReflectliteType.method ReflectliteType.elem) Tryz.func253 (by kernel_rfl) (by kernel_rfl) (by kernel_rfl) (by kernel_rfl)
  have h38 := @run_callFunc_extern Tryz.prog 254 _ (ReflectliteType.relation "Implements" ReflectliteType.implements_) Tryz.func254 (by kernel_rfl) (by kernel_rfl) (by kernel_rfl) (by kernel_rfl)
  have h10 := @run_callFunc_extern Tryz.prog 48 _ ReflectliteType.typeOf Tryz.func48 (by kernel_rfl) (by kernel_rfl) (by kernel_rfl) (by kernel_rfl)
  have h35 := @run_callFunc_extern Tryz.prog 251 _ (ReflectliteType.relation "AssignableTo" ReflectliteType.assignableTo) Tryz.func251 (by kernel_rfl) (by kernel_rfl) (by kernel_rfl) (by kernel_rfl)
  have h11 := @run_callFunc_extern Tryz.prog 94 _ (ReflectliteValue.method (ReflectliteValue.valueError "reflectlite.Value.Elem" 0) ReflectliteValue.elem) Tryz.func94 (by kernel_rfl) (by kernel_rfl) (by kernel_rfl) (by kernel_rfl)
  have h12 := @run_callFunc_extern Tryz.prog 95 _ ReflectliteValue.set Tryz.func95 (by kernel_rfl) (by kernel_rfl) (by kernel_rfl) (by kernel_rfl)
  have tO := Tryz.typeOf49m
  have mA := Tryz.methodAssignableTo
  have a25 := Tryz.assignable49m
  have v25 := Tryz.valueOf49m
  have f6 := Tryz.valueOf51m
  have f7 := Tryz.type51m
  have mK := Tryz.methodKind
  have mE := Tryz.methodElem
  have mI := Tryz.methodImplements
  have k27 := Tryz.kind51m
  have k25 := Tryz.kind49m
  have e27 := Tryz.elem51m
  have i25 := Tryz.implements49m
  have n8 := Tryz.isNil51m ⟨w.heap.size, 0, none⟩ t ((w.alloc (.cells #[.pointer (some t)] 58)).alloc (.cells #[.pointer (some ⟨7, 58, none⟩), .pointer (some ⟨w.heap.size, 0, none⟩), .int .u64 150] 97)) (by simp)
  have hlt : 0 < w.heap.size := by
    rcases Nat.eq_zero_or_pos w.heap.size with h0 | h
    · simp [World.cell?, h0] at hg
    · exact h
  have hg2 : ((w.alloc (.cells #[.pointer (some t)] 58)).alloc (.cells #[.pointer (some ⟨7, 58, none⟩), .pointer (some ⟨w.heap.size, 0, none⟩), .int .u64 150] 97)).cell? ⟨0, 0, none⟩ = some (.iface 135 (.agg #[.pointer (some ⟨7, 27, none⟩)])) := by
    rw [World.cell?_alloc_lt _ _ ⟨0, 0, none⟩ (by simp), World.cell?_alloc_lt _ _ ⟨0, 0, none⟩ hlt]; exact hg
  have htl : t.block < w.heap.size := by
    rcases Nat.lt_or_ge t.block w.heap.size with h | h
    · exact h
    · simp [World.cell?, Array.getElem?_eq_none h] at ht0
  have el := Tryz.elemV51m ⟨w.heap.size, 0, none⟩ t (((w.alloc (.cells #[.pointer (some t)] 58)).alloc (.cells #[.pointer (some ⟨7, 58, none⟩), .pointer (some ⟨w.heap.size, 0, none⟩), .int .u64 150] 97)).alloc (.cells #[.pointer (some ⟨7, 58, none⟩), .pointer (some ⟨w.heap.size, 0, none⟩), .int .u64 150] 97)) (by rw [World.cell?_alloc_lt _ _ ⟨w.heap.size, 0, none⟩ (by simp; omega)]; simp)
  have st := Tryz.set49m t ⟨w.heap.size + 1 + 1 + 1, 0, none⟩ e old ((((w.alloc (.cells #[.pointer (some t)] 58)).alloc (.cells #[.pointer (some ⟨7, 58, none⟩), .pointer (some ⟨w.heap.size, 0, none⟩), .int .u64 150] 97)).alloc (.cells #[.pointer (some ⟨7, 58, none⟩), .pointer (some ⟨w.heap.size, 0, none⟩), .int .u64 150] 97)).alloc (.cells #[.pointer (some e)] 56))
    (by rw [World.cell?_alloc_at _ _ _ _ (by simp)]; rfl)
    (by rw [World.cell?_alloc_lt _ _ t (by simp; omega), World.cell?_alloc_lt _ _ t (by simp; omega), World.cell?_alloc_lt _ _ t (by simp; omega), World.cell?_alloc_lt _ _ t htl]; exact ht0)
    (by rw [World.frozen?_alloc_old _ _ t (by simp; omega), World.frozen?_alloc_old _ _ t (by simp; omega), World.frozen?_alloc_old _ _ t (by simp; omega), World.frozen?_alloc_old _ _ t (Nat.ne_of_lt htl)]; exact hf0)
  go_enter Tryz.func20, Tryz.ntmps20
  go_wp2
  refine wp_loop_rounds 1 ?_
  rw [rounds_succ]
  go_wp2
  go_ret
  exact ⟨rfl, rfl⟩
end Go.Proofs.YtfpeecjafccfjaaGreatDoor
namespace Go.Proofs.YtfpeecjafccfjaaGreatDoor
theorem nl_suffix {r l : List UInt8} (h : r <:+ l) : nl r ≤ nl l := h.sublist.count_le 10
theorem cut_suffix (l sep : List UInt8) (h : (Lib.cut l sep).2.2 = true) : (Lib.cut l sep).2.1 <:+ l := by
  unfold Lib.cut at h ⊢
  split
  · exact List.drop_suffix _ _
  · rename_i h0
    rw [if_neg h0] at h
    cases h
theorem brk_suffix {l t r : List UInt8} (h : brk l = some (t, r)) : r <:+ l := by
  unfold brk at h
  split at h
  · rename_i hc
    injection h with h
    injection h with _ h
    rw [← h]
    exact (cut_suffix _ _ hc).trans (List.drop_suffix _ _)
  · cases h
theorem comm_suffix {l r : List UInt8} (h : comm l = some r) : r <:+ l := by
  unfold comm at h
  split at h
  · cases e : brk l with
    | none => rw [e] at h; cases h
    | some z =>
      obtain ⟨t, r'⟩ := z
      rw [e] at h
      simp only [Option.map_some, Option.some.injEq] at h
      rw [← h]
      exact brk_suffix e
  · injection h with h
    rw [← h]
    exact List.drop_suffix _ _
theorem Skip.suffix {l : List UInt8} {q : Except (List UInt8) (List UInt8)} (h : Skip l q) : ∀ {r}, q = .ok r → r <:+ l := by
  induction h with
  | done h1 h2 => intro r e; cases e; rw [← h1]; exact List.dropWhile_suffix _
  | @more l r1 r' o h1 h2 h3 ih =>
    intro r e
    have a := ih e
    have b := comm_suffix h2
    have c : (45 :: 45 :: r1) <:+ l := by rw [← h1]; exact List.dropWhile_suffix _
    exact a.trans (b.trans (((List.suffix_cons 45 r1).trans (List.suffix_cons 45 _)).trans c))
  | bad => intro r e; cases e
theorem code_suffix {b : Int} {p : UInt8 → Bool} {least most : Nat} {l m r : List UInt8} (h : code b p least most l = some (m, r)) : r <:+ l := by
  unfold code at h
  split at h
  · injection h with h
    injection h with _ h
    rw [← h]
    exact List.drop_suffix _ _
  · cases h
theorem esc_suffix {l m r : List UInt8} (h : esc l = some (m, r)) : r <:+ l := by
  cases l with
  | nil => cases h
  | cons c t =>
    have h : escC c t = some (m, r) := h
    have ht := List.suffix_cons c t
    cases e : lett c with
    | some y =>
      rw [escC_lett _ e] at h
      injection h with h
      injection h with _ h
      rw [← h]
      exact ht
    | none =>
      cases e1 : selfB c
      · by_cases e2 : c.toNat = 122
        · rw [escC_z _ e e1 e2] at h
          injection h with h
          injection h with _ h
          rw [← h]
          exact (List.dropWhile_suffix _).trans ht
        · by_cases e3 : c.toNat = 120
          · rw [escC_x _ e e1 e3] at h
            exact (code_suffix h).trans ht
          · cases e4 : dgB c
            · rw [escC_no _ e e1 e2 e3 e4] at h
              cases h
            · rw [escC_d _ e e1 e2 e3 e4] at h
              exact code_suffix h
      · rw [escC_self _ e e1] at h
        injection h with h
        injection h with _ h
        rw [← h]
        exact ht
theorem Quo.suffix {q : UInt8} {l : List UInt8} {o : Option (List UInt8 × List UInt8)} (h : Quo q l o) : ∀ {t r}, o = some (t, r) → r <:+ l := by
  induction h with
  | shut => intro t r e; cases e; exact List.suffix_cons _ _
  | none => intro t r e; cases e
  | line => intro t r e; cases e
  | @esc r1 m r' o' h1 h2 h3 ih =>
    intro t r e
    cases o' with
    | none => cases e
    | some z =>
      obtain ⟨t', r''⟩ := z
      simp only [Option.map_some, Option.some.injEq, Prod.mk.injEq] at e
      rw [← e.2]
      exact ((ih rfl).trans (esc_suffix h2)).trans (List.suffix_cons _ _)
  | bad => intro t r e; cases e
  | @byte c r1 o' h1 h2 h3 h4 ih =>
    intro t r e
    cases o' with
    | none => cases e
    | some z =>
      obtain ⟨t', r''⟩ := z
      simp only [Option.map_some, Option.some.injEq, Prod.mk.injEq] at e
      rw [← e.2]
      exact (ih rfl).trans (List.suffix_cons _ _)
theorem Tok.suffix {l : List UInt8} {k n : Int} {s r : List UInt8} (h : Tok l (some (k, n, s, r))) : r <:+ l := by
  generalize ho : some (k, n, s, r) = o at h
  cases h with
  | eof => simp only [Option.some.injEq, Prod.mk.injEq] at ho; rw [ho.2.2.2]; exact List.suffix_refl _
  | name => simp only [Option.some.injEq, Prod.mk.injEq] at ho; rw [ho.2.2.2]; exact List.dropWhile_suffix _
  | num => simp only [Option.some.injEq, Prod.mk.injEq] at ho; rw [ho.2.2.2]; exact List.dropWhile_suffix _
  | numBad => cases ho
  | @text c t o' h1 h2 h3 h4 =>
    cases o' with
    | none => cases ho
    | some z =>
      obtain ⟨a, b⟩ := z
      simp only [Option.map_some, Option.some.injEq, Prod.mk.injEq] at ho
      rw [ho.2.2.2]
      exact (h4.suffix rfl).trans (List.suffix_cons _ _)
  | @long c t h1 h2 h3 h4 =>
    cases e : brk (c :: t) with
    | none => rw [e] at ho; cases ho
    | some z =>
      obtain ⟨a, b⟩ := z
      rw [e] at ho
      simp only [Option.map_some, Option.some.injEq, Prod.mk.injEq] at ho
      rw [ho.2.2.2]
      exact brk_suffix e
  | @sign c t h1 h2 h3 h4 =>
    cases e : Go.Proofs.YtfpeecjafccfjaaGreatDoor.sign (c :: t) with
    | none => rw [e] at ho; cases ho
    | some z =>
      obtain ⟨a, b⟩ := z
      rw [e] at ho
      simp only [Option.map_some, Option.some.injEq, Prod.mk.injEq] at ho
      rw [ho.2.2.2]
      unfold Go.Proofs.YtfpeecjafccfjaaGreatDoor.sign at e
      split at e
      · injection e with e; injection e with _ e; rw [← e]; exact List.drop_suffix _ _
      · split at e
        · injection e with e; injection e with _ e; rw [← e]; exact List.drop_suffix _ _
        · split at e
          · injection e with e; injection e with _ e; rw [← e]; exact List.drop_suffix _ _
          · cases e
def Rising (M : Int) : Int → List Tk → Prop
  | _, [] => True
  | n, t :: ts => n ≤ t.2.1 ∧ t.2.1 ≤ M ∧ Rising M t.2.1 ts
theorem Rising.weak {M n n' : Int} {ts : List Tk} (h : Rising M n ts) (hn : n' ≤ n) : Rising M n' ts := by
  cases ts with
  | nil => trivial
  | cons t ts => exact ⟨by have := h.1; omega, h.2.1, h.2.2⟩
theorem LexR.rising {L : Int} {l : List UInt8} {q : Except Int (List Tk)} (h : LexR L l q) : ∀ {ts}, q = .ok ts → Rising L (L - nl l) ts := by
  induction h with
  | skipBad => intro ts e; cases e
  | tokBad => intro ts e; cases e
  | eof h1 => intro ts e; cases e; exact ⟨by show L - _ ≤ L; omega, Int.le_refl _, trivial⟩
  | @step l r r' s k n o' h1 h2 h3 h4 ih =>
    intro ts e
    cases o' with
    | error => cases e
    | ok ts' =>
      have e' : (k, L - nl r, n, s) :: ts' = ts := by injection e
      rw [← e']
      have a := nl_suffix (h1.suffix rfl)
      have b := nl_suffix h3.suffix
      exact ⟨by show L - (nl l : Int) ≤ L - (nl r : Int); omega, by show L - (nl r : Int) ≤ L; omega, (ih rfl).weak (by show L - (nl r : Int) ≤ L - (nl r' : Int); omega)⟩
theorem Rising.mem {M : Int} : ∀ {n : Int} {ts : List Tk}, Rising M n ts → ∀ t ∈ ts, n ≤ t.2.1 ∧ t.2.1 ≤ M
  | _, [], _, _, h => by cases h
  | n, t :: ts, h, x, hx => by
    rcases List.mem_cons.1 hx with rfl | hx
    · exact ⟨h.1, h.2.1⟩
    · have := Rising.mem h.2.2 x hx
      have := h.1
      omega
theorem Rising.drop {M : Int} : ∀ {n : Int} {ts : List Tk} (k : Nat), Rising M n ts → ∃ n', Rising M n' (ts.drop k) ∧ (k = 0 → n' = n) ∧ (∀ j t, k = j + 1 → ts[j]? = some t → n' = t.2.1)
  | n, ts, 0, h => ⟨n, h, fun _ => rfl, fun j t e => by omega⟩
  | n, [], k + 1, h => ⟨n, trivial, fun e => by omega, fun j t e ht => by simp at ht⟩
  | n, t :: ts, k + 1, h => by
    obtain ⟨n', h1, h2, h3⟩ := Rising.drop k h.2.2
    refine ⟨n', h1, fun e => by omega, fun j x e hx => ?_⟩
    cases j with
    | zero =>
      obtain rfl : t = x := by simpa using hx
      exact h2 (by omega)
    | succ j => exact h3 j x (by omega) (by simpa using hx)
end Go.Proofs.YtfpeecjafccfjaaGreatDoor
namespace Go.Proofs.YtfpeecjafccfjaaGreatDoor
open Go.RowKit
set_option maxHeartbeats 1000000 in
theorem fault_p (n k : Int) (w : World) : Calls Tryz.prog 21 #[.int .i64 n, .int .i64 k] w fun e w' => e = .returned (.iface 64 (.pointer (some ⟨w.heap.size, 0, none⟩))) ∧ w' = w.alloc (.cells #[.int .i64 n, .iface 60 (.int .i64 k)] 68) := by
  go_enter Tryz.func21, Tryz.ntmps21
  go_wp2
  go_ret
  exact ⟨rfl, rfl⟩
def FltE (W : World) (v : Value) (n k : Int) : Prop := ∃ g, v = .iface 64 (.pointer (some ⟨g, 0, none⟩)) ∧ W.heap[g]? = some (.cells #[.int .i64 n, .iface 60 (.int .i64 k)] 68 (0, 0))
theorem src_mk {K : Ast → List TkP → Prop} {E : Int → Prop} {N : Nat} {t : TkP} {r : List TkP} (hl : (t :: r).length < N) (h2 : (t :: r).length ≤ 20000) (hw : Wf (t :: r)) (H : Gw srcL (t :: r) K E) : WpSeq [stsP N, wpEof] ⟨hdL 18 t.2.1, [], t :: r, 0⟩ (FinK K) E := by
  refine ⟨hl, by dsimp only; omega, by simp only [List.length_nil]; omega, hw.lin, ?_⟩
  refine (Gw.call (Gw.look (Gw.call H))).mono fun (l : List Ast) ts' p hq n' hn' => ?_
  have hz : Ast.sizeL l + 2 * ts'.length ≤ Ast.sizeL [] + 2 * (t :: r).length := hq.1
  have hq2 := hq.2.ret.2
  obtain ⟨u, us, rfl⟩ := (PL.wf (n := .sts []) p hw).fin.cons
  have G := Gw.look hq2
  dsimp only at hn'
  rw [sizeL_nil] at hz hn'
  exact ⟨u, us, rfl, fun h0 => ⟨by dsimp only; omega, (G.pos h0).ret⟩, fun h0 => (G.neg h0).bad⟩
theorem ps_new {w : World} {g c : Nat} {ts : List TkP} (h : Toks w (.slice (some ⟨g, 0, none⟩) ts.length c) ts) (hf : Fin ts) (hl : ts.length ≤ 20000) (hg : g < w.heap.size) : PS (w.alloc (.cells #[.slice (some ⟨g, 0, none⟩) ts.length c, .int .i64 0, .slice none 0 0] 52)) w.heap.size (· = w.heap.size) ts [] :=
  ⟨⟨ts, 0, g, c, .slice none 0 0, [], World.alloc_heap_new w _, h.below (allocB w _), hg, rfl, hl, ⟨World.ownsRow_nil _ _ _ _, fun k hk => by simp [Value.ownBlock] at hk, fun t ht => by simp at ht⟩, rfl⟩, hf, rfl, fun k hk => by subst hk; simp⟩
theorem row_nums {W : World} {B : Nat} {v : Value} {zs : List Int} (h : W.ownsRow B 3 1 v zs.length (zs.map (Value.int .i64))) : NumsR W v zs := by
  obtain ⟨A, c, rfl, hc⟩ := row_form h
  refine ⟨A, c, rfl, hc, ?_⟩
  rcases Nat.eq_zero_or_pos zs.length with h0 | h0
  · exact .inl (List.eq_nil_of_length_eq_zero h0)
  · obtain ⟨g, c2, e1, h1, h2⟩ := h.form h0
    injection e1 with e1 _ _
    subst e1
    refine .inr ⟨g, 0, rfl, h2, fun j z hj => ?_⟩
    have := h.cells (g := g) rfl j (.int .i64 z) (by rw [List.getElem?_map, hj]; rfl)
    rwa [addr_pl, ← Nat.zero_add j] at this
theorem row_strs {W : World} {B : Nat} {v : Value} {zs : List ByteArray} (h : W.ownsRow B 9 1 v zs.length (zs.map Value.string)) : StrsR W v zs := by
  obtain ⟨A, c, rfl, hc⟩ := row_form h
  refine ⟨A, c, rfl, hc, ?_⟩
  rcases Nat.eq_zero_or_pos zs.length with h0 | h0
  · exact .inl (List.eq_nil_of_length_eq_zero h0)
  · obtain ⟨g, c2, e1, h1, h2⟩ := h.form h0
    injection e1 with e1 _ _
    subst e1
    refine .inr ⟨g, 0, rfl, h2, fun j z hj => ?_⟩
    have := h.cells (g := g) rfl j (.string z) (by rw [List.getElem?_map, hj]; rfl)
    rwa [addr_pl, ← Nat.zero_add j] at this
theorem nd_cells : ∀ (L : List NdV) (p j : Nat) (t : NdV), L[p]? = some t → j < 7 → (L.flatMap ndCells)[p * 7 + j]? = (ndCells t)[j]?
  | [], p, j, t, h, _ => by simp at h
  | u :: L, 0, j, t, h, hj => by
    obtain rfl : u = t := by simpa using h
    rw [List.flatMap_cons, Nat.zero_mul, Nat.zero_add, List.getElem?_append_left (by rw [ndCells_len]; exact hj)]
  | u :: L, p + 1, j, t, h, hj => by
    have := nd_cells L p j t (by simpa using h) hj
    rw [List.flatMap_cons, List.getElem?_append_right (by rw [ndCells_len]; omega), ndCells_len, show (p + 1) * 7 + j - 7 = p * 7 + j by omega]
    exact this
theorem NsIn.nodes {W : World} {b : Nat} {O : Nat → Prop} {v : Value} {L : List NdV} (a6 : NsIn W b O v L) {T : List Nd} (a7 : L.map (·.1) = T) : Nodes W v T := by
  have hL : L.length = T.length := by rw [← a7, List.length_map]
  obtain ⟨A, c, e, hc⟩ := row_form a6.row
  subst e
  rw [hL] at hc
  refine ⟨A, c, by rw [hL], hc, ?_⟩
  rcases Nat.eq_zero_or_pos L.length with h0 | h0
  · exact .inl (List.eq_nil_of_length_eq_zero (by omega))
  · obtain ⟨g, c2, e1, h1, h2⟩ := a6.row.form h0
    injection e1 with e1 _ _
    subst e1
    refine .inr ⟨g, 0, rfl, h2, fun j x hj => ?_⟩
    have hLj : ∃ t, L[j]? = some t ∧ t.1 = x := by
      rw [← a7, List.getElem?_map] at hj
      cases hq : L[j]? with
      | none => rw [hq] at hj; simp at hj
      | some t => rw [hq] at hj; exact ⟨t, rfl, by simpa using hj⟩
    obtain ⟨t, ht, rfl⟩ := hLj
    have hcell : ∀ k, k < 7 → W.cell? ⟨g, 0 + j * 7 + k, none⟩ = (ndCells t)[k]? := fun k hk => by
      have hq := nd_cells L j k t ht hk
      have hk' : k < (ndCells t).length := by rw [ndCells_len]; exact hk
      rw [List.getElem?_eq_getElem hk'] at hq ⊢
      have := a6.row.cells (g := g) rfl (j * 7 + k) _ hq
      rw [addr_pl] at this
      rw [Nat.zero_add]
      exact this
    have hn := a6.each t (List.mem_of_getElem? ht)
    exact ⟨t.2.1, t.2.2, ⟨hcell 0 (by omega), hcell 1 (by omega), hcell 2 (by omega), hcell 3 (by omega), hcell 4 (by omega), hcell 5 (by omega), hcell 6 (by omega)⟩, row_strs hn.names, row_nums hn.kids⟩
theorem PS.nodes {W : World} {b : Nat} {O : Nat → Prop} {ts : List TkP} {T : List Nd} (h : PS W b O ts T) : ∃ A c, W.cell? ⟨b, 2, none⟩ = some (.slice A T.length c) ∧ ∀ (W' : World) (O1 : Nat → Prop), Fr O1 W W' → (∀ k, O k → ¬ O1 k) → Nodes W' (.slice A T.length c) T := by
  obtain ⟨TS, i, g0, c0, nv, L, a1, a2, a3, a4, a5, a6, a7⟩ := h.ex
  have hL : L.length = T.length := by rw [← a7, List.length_map]
  obtain ⟨A, c, e, hc⟩ := row_form a6.row
  subst e
  refine ⟨A, c, by rw [← hL]; simp [World.cell?, a1], fun W' O1 hf hd => ?_⟩
  have hb : ∀ k, O k → W'.heap[k]? = W.heap[k]? := fun k hk => hf.block k (h.own k hk).2 (hd k hk)
  have a8 : NsIn W' b O (.slice A L.length c) L := ⟨row_kept a6.row fun k hk => hb k (a6.own k hk), a6.own, fun t ht => (a6.each t ht).kept hf hd (fun _ h => h)⟩
  rw [← hL]
  exact a8.nodes a7
theorem tok_kind {r : List UInt8} {q : Option (Int × Int × List UInt8 × List UInt8)} (h : Tok r q) : ∀ {k n : Int} {s r' : List UInt8}, q = some (k, n, s, r') → r ≠ [] → 1 ≤ k ∧ (k = 2 → s ≠ [61]) := by
  have mp : ∀ {o : Option (List UInt8 × List UInt8)} {m k n : Int} {s r' : List UInt8}, o.map (fun x => (m, (0 : Int), x.1, x.2)) = some (k, n, s, r') → k = m := fun {o m k n s r'} e => by
    cases o with
    | none => simp at e
    | some x => simp at e; exact e.1.symm
  cases h with
  | eof => intro k n s r' _ hr; exact absurd rfl hr
  | @name c r hc =>
    intro k n s r' e _
    injection e with e
    injection e with e1 e
    injection e with _ e
    injection e with e3 _
    refine ⟨by rw [← e1]; split <;> decide, fun _ h => ?_⟩
    rw [h] at e3
    have hn : nmB c = true := by unfold nmB; rw [hc]; rfl
    rw [List.takeWhile_cons, if_pos hn] at e3
    injection e3 with e4 _
    rw [e4] at hc
    exact absurd hc (by decide)
  | num h1 h2 h3 =>
    intro k n s r' e _
    injection e with e
    injection e with e1 e
    rw [← e1]
    exact ⟨by decide, fun h => absurd h (by decide)⟩
  | numBad h1 h2 h3 => intro k n s r' e _; cases e
  | text h1 h2 h3 h4 => intro k n s r' e _; rw [mp e]; exact ⟨by decide, fun h => absurd h (by decide)⟩
  | long h1 h2 h3 h4 => intro k n s r' e _; rw [mp e]; exact ⟨by decide, fun h => absurd h (by decide)⟩
  | sign h1 h2 h3 h4 => intro k n s r' e _; rw [mp e]; exact ⟨by decide, fun h => absurd h (by decide)⟩
theorem lex_wf {L : Int} {l : List UInt8} {o : Except Int (List Tk)} (h : LexR L l o) : (nl l : Int) < L → ∀ ts, o = .ok ts → Wf ts := by
  induction h with
  | skipBad => intro _ ts e; cases e
  | tokBad => intro _ ts e; cases e
  | eof _ =>
    intro hL ts e
    injection e with e
    subst e
    exact ⟨⟨[], _, rfl, rfl, by simp⟩, fun t ht => by
      obtain rfl := List.mem_singleton.1 ht
      exact ⟨by dsimp only; omega, fun h => by simp at h⟩⟩
  | @step l r r' s k n o h1 h2 h3 h4 ih =>
    intro hL ts e
    cases o with
    | error x => cases e
    | ok ts0 =>
      injection e with e
      subst e
      have hr := nl_suffix (h1.suffix rfl)
      have hr' := nl_suffix h3.suffix
      have hw := ih (by omega) ts0 rfl
      have hk := tok_kind h3 rfl h2
      obtain ⟨us, e, e1, e2, e3⟩ := hw.fin
      refine ⟨⟨(k, L - nl r, n, s) :: us, e, by rw [e1]; rfl, e2, fun u hu => ?_⟩, fun t ht => ?_⟩
      · rcases List.mem_cons.1 hu with rfl | hu
        · dsimp only; omega
        · exact e3 u hu
      · rcases List.mem_cons.1 ht with rfl | ht
        · exact ⟨by dsimp only; omega, hk.2⟩
        · exact hw.lin t ht
end Go.Proofs.YtfpeecjafccfjaaGreatDoor
namespace Go.Proofs.YtfpeecjafccfjaaGreatDoor
def qtF (q : UInt8) : List UInt8 → Option (List UInt8 × List UInt8)
  | [] => none
  | c :: r => if c = q then some ([], r) else if c = 10 ∨ c = 92 then none else (qtF q r).map fun x => (c :: x.1, x.2)
theorem qtF_sound {q : UInt8} : ∀ {l : List UInt8} {z : List UInt8 × List UInt8}, qtF q l = some z → Quo q l (some z)
  | [], z, h => by cases h
  | c :: r, z, h => by
    unfold qtF at h
    by_cases h1 : c = q
    · rw [if_pos h1] at h
      injection h with h
      rw [← h, h1]
      exact .shut
    · rw [if_neg h1] at h
      by_cases h2 : c = 10 ∨ c = 92
      · rw [if_pos h2] at h; cases h
      · rw [if_neg h2] at h
        cases hq : qtF q r with
        | none => rw [hq] at h; cases h
        | some x =>
          rw [hq] at h
          injection h with h
          rw [← h]
          exact .byte (o := some x) h1 (fun e => h2 (.inl e)) (fun e => h2 (.inr e)) (qtF_sound hq)
def tkF : List UInt8 → Option (Int × Int × List UInt8 × List UInt8)
  | [] => none
  | c :: r => if ltB c then some (if wordB ((c :: r).takeWhile nmB) then 2 else 1, 0, (c :: r).takeWhile nmB, (c :: r).dropWhile nmB)
    else if dgB c then (if numO 9223372036854775807 ((c :: r).takeWhile nuB) then some (3, sgn (numN 9223372036854775807 ((c :: r).takeWhile nuB) : Int), [], (c :: r).dropWhile nuB) else none)
    else if quB c then (qtF c r).map fun x => (4, 0, x.1, x.2)
    else if 0 < opn (c :: r) then none
    else (sign (c :: r)).map fun x => (5, 0, x.1, x.2)
theorem tkF_sound {l : List UInt8} {z : Int × Int × List UInt8 × List UInt8} (h : tkF l = some z) : Tok l (some z) := by
  cases l with
  | nil => cases h
  | cons c r =>
    change (if ltB c = true then some (if wordB ((c :: r).takeWhile nmB) then 2 else 1, 0, (c :: r).takeWhile nmB, (c :: r).dropWhile nmB)
      else if dgB c = true then (if numO 9223372036854775807 ((c :: r).takeWhile nuB) = true then some (3, sgn (numN 9223372036854775807 ((c :: r).takeWhile nuB) : Int), [], (c :: r).dropWhile nuB) else none)
      else if quB c = true then (qtF c r).map fun x => (4, 0, x.1, x.2)
      else if 0 < opn (c :: r) then none
      else (sign (c :: r)).map fun x => (5, 0, x.1, x.2)) = some z at h
    by_cases h1 : ltB c = true
    · rw [if_pos h1] at h
      rw [← h]
      exact .name h1
    · rw [if_neg h1] at h
      have h1 : ltB c = false := by simpa using h1
      by_cases h2 : dgB c = true
      · rw [if_pos h2] at h
        by_cases h3 : numO 9223372036854775807 ((c :: r).takeWhile nuB) = true
        · rw [if_pos h3] at h
          rw [← h]
          exact .num h1 h2 h3
        · rw [if_neg h3] at h; cases h
      · rw [if_neg h2] at h
        have h2 : dgB c = false := by simpa using h2
        by_cases h3 : quB c = true
        · rw [if_pos h3] at h
          cases hq : qtF c r with
          | none => rw [hq] at h; cases h
          | some x =>
            rw [hq] at h
            rw [← h]
            exact .text (o := some x) h1 h2 h3 (qtF_sound hq)
        · rw [if_neg h3] at h
          have h3 : quB c = false := by simpa using h3
          by_cases h4 : 0 < opn (c :: r)
          · rw [if_pos h4] at h; cases h
          · rw [if_neg h4] at h
            rw [← h]
            exact .sign h1 h2 h3 h4
def lxF (L : Int) : Nat → List UInt8 → Option (List Tk)
  | 0, _ => none
  | n + 1, l => if Lib.hasPrefix (l.dropWhile blB) [45, 45] then none else
    match l.dropWhile blB with
    | [] => some [(0, L, 0, [])]
    | c :: t => match tkF (c :: t) with
      | none => none
      | some (k, m, s, r) => (lxF L n r).map ((k, L - nl (c :: t), m, s) :: ·)
theorem lxF_sound {L : Int} : ∀ (n : Nat) (l : List UInt8) (ts : List Tk), lxF L n l = some ts → LexR L l (.ok ts)
  | 0, l, ts, h => by cases h
  | n + 1, l, ts, h => by
    unfold lxF at h
    by_cases hp : Lib.hasPrefix (l.dropWhile blB) [45, 45] = true
    · rw [if_pos hp] at h; cases h
    · rw [if_neg hp] at h
      have hp : Lib.hasPrefix (l.dropWhile blB) [45, 45] = false := by simpa using hp
      cases hd : l.dropWhile blB with
      | nil =>
        rw [hd] at h hp
        injection h with h
        rw [← h]
        exact .eof (.done hd hp)
      | cons c t =>
        rw [hd] at h hp
        dsimp only at h
        cases ht : tkF (c :: t) with
        | none => rw [ht] at h; cases h
        | some z =>
          obtain ⟨k, m, s, r⟩ := z
          rw [ht] at h
          dsimp only at h
          cases hr : lxF L n r with
          | none => rw [hr] at h; cases h
          | some ts' =>
            rw [hr] at h
            injection h with h
            rw [← h]
            exact .step (o := .ok ts') (.done hd hp) (by simp) (tkF_sound ht) (lxF_sound n r ts' hr)
end Go.Proofs.YtfpeecjafccfjaaGreatDoor
namespace Go.Proofs.YtfpeecjafccfjaaGreatDoor
def SmN (x : Nd) : Prop := -9223372036854775808 ≤ x.num ∧ x.num ≤ 9223372036854775807 ∧ x.s.size ≤ 8000 ∧ x.names.length ≤ 5000 ∧ -9223372036854775808 ≤ x.op ∧ x.op ≤ 9223372036854775807
mutual
def SmA : Ast → Prop
  | .mk h ks => SmN h ∧ SmL ks
def SmL : List Ast → Prop
  | [] => True
  | a :: xs => SmA a ∧ SmL xs
end
theorem smL_nil : SmL [] := by unfold SmL; trivial
theorem smL_cons {a : Ast} {l : List Ast} (h : SmA a) (k : SmL l) : SmL (a :: l) := by unfold SmL; exact ⟨h, k⟩
theorem smL_app {a b : List Ast} (h : SmL a) (k : SmL b) : SmL (a ++ b) := by
  induction a with
  | nil => exact k
  | cons x a ih =>
    unfold SmL at h
    exact smL_cons h.1 (ih h.2)
theorem sm_nd {k l : Int} {ks : List Ast} (h : SmL ks) : SmA (nd k l ks) := by
  unfold nd SmA SmN
  exact ⟨⟨by dsimp only; decide, by dsimp only; decide, by dsimp only; decide, by simp, by dsimp only; decide, by dsimp only; decide⟩, h⟩
theorem sm_ndS {k l : Int} {s : List UInt8} {ks : List Ast} (hs : s.length ≤ 8000) (h : SmL ks) : SmA (ndS k l (bts s) ks) := by
  unfold ndS SmA SmN
  exact ⟨⟨by dsimp only; decide, by dsimp only; decide, by show (bts s).size ≤ 8000; exact hs, by simp, by dsimp only; decide, by dsimp only; decide⟩, h⟩
theorem sm_ndO {k l o : Int} {ks : List Ast} (h0 : 1 ≤ o) (h1 : o ≤ 23) (h : SmL ks) : SmA (ndO k l o ks) := by
  unfold ndO SmA SmN
  exact ⟨⟨by dsimp only; decide, by dsimp only; decide, by dsimp only; decide, by simp, by dsimp only; omega, by dsimp only; omega⟩, h⟩
theorem sm_ndN {k l n : Int} {ks : List Ast} (h0 : -9223372036854775808 ≤ n) (h1 : n ≤ 9223372036854775807) (h : SmL ks) : SmA (ndN k l n ks) := by
  unfold ndN SmA SmN
  exact ⟨⟨h0, h1, by dsimp only; decide, by simp, by dsimp only; decide, by dsimp only; decide⟩, h⟩
theorem sm_ndA {k l n : Int} {ns : List ByteArray} {ks : List Ast} (h0 : -9223372036854775808 ≤ n) (h1 : n ≤ 9223372036854775807) (hn : ns.length ≤ 5000) (h : SmL ks) : SmA (ndA k l n ns ks) := by
  unfold ndA SmA SmN
  exact ⟨⟨h0, h1, by dsimp only; decide, hn, by dsimp only; decide, by dsimp only; decide⟩, h⟩
theorem sm_s {a : Ast} (h : SmA a) : a.hd.s.size ≤ 8000 := by
  cases a with
  | mk x ks => unfold SmA SmN at h; exact h.1.2.2.1
theorem smA_ndS' {k l : Int} {a : Ast} {ks : List Ast} (h : SmA a) (hk : SmL ks) : SmA (ndS k l a.hd.s ks) := by
  unfold ndS SmA SmN
  exact ⟨⟨by dsimp only; decide, by dsimp only; decide, sm_s h, by simp⟩, hk⟩
structure TkS (t : TkP) : Prop where
  n0 : -9223372036854775808 ≤ t.2.2.1
  n1 : t.2.2.1 ≤ 9223372036854775807
  s : t.2.2.2.length ≤ 8000
structure TS (ts : List TkP) : Prop where
  all : ∀ t ∈ ts, TkS t
  len : ts.length ≤ 4900
theorem TS.tl {t : TkP} {ts : List TkP} (h : TS (t :: ts)) : TS ts := ⟨fun u hu => h.all u (List.mem_cons_of_mem _ hu), by have := h.len; rw [List.length_cons] at this; omega⟩
theorem TS.hd {t : TkP} {ts : List TkP} (h : TS (t :: ts)) : TkS t := h.all t (List.mem_cons_self ..)
def ResS : (n : NT) → Nat → VT n → Nat → Prop
  | .blk, _, v, _ => SmA v
  | .sts l, _, v, _ => SmL l → SmL v
  | .ret _, _, v, _ => SmA v
  | .sta, _, v, _ => SmA v
  | .els l, _, v, _ => SmL l → SmL v
  | .loo _, _, v, _ => SmA v
  | .fnm _, _, v, _ => SmA v
  | .fnx _ x, _, v, _ => SmA x → SmA v
  | .loc _, _, v, _ => SmA v
  | .bdy _ self, _, v, _ => self.length ≤ 1 → SmA v
  | .prm l, L, v, L' => v.1.length + L' ≤ l.length + L ∧ (v.2 = 0 ∨ v.2 = 1)
  | .nam, L, v, L' => List.length v + L' ≤ L
  | .nmm l, L, v, L' => List.length v + L' ≤ l.length + L
  | .lst, L, v, L' => SmL v ∧ List.length v + L' ≤ L + 1
  | .lsm l, L, v, L' => SmL l → SmL v ∧ List.length v + L' ≤ l.length + L
  | .tgs _ l, L, v, _ => SmL l → l.length + L ≤ 5000 → SmA v
  | .suf, _, v, _ => SmA v
  | .sfx x, _, v, _ => SmA x → SmA v
  | .arg, _, v, _ => SmL v
  | .tbl l, _, v, _ => SmL l → SmL v
  | .itm, _, v, _ => SmA v
  | .exp _, _, v, _ => SmA v
  | .lvm _ x, _, v, _ => SmA x → SmA v
  | .una, _, v, _ => SmA v
  | .lef, _, v, _ => SmA v
def PostS (n : NT) (ts : List TkP) (v : VT n) (ts' : List TkP) : Prop := TS ts → TS ts' ∧ ts'.length ≤ ts.length ∧ ResS n ts.length v ts'.length
section
variable {α : Type} {Q : α → List TkP → Prop}
abbrev Sp (g : GL α) (ts : List TkP) (Q : α → List TkP → Prop) : Prop := Wp PostS g ts Q
theorem s_look {f : TkP → GL α} {ts : List TkP} (hT : TS ts) (h : ∀ t ts', ts = t :: ts' → TkS t → TS ts' → TS (t :: ts') → Sp (f t) (t :: ts') Q) : Sp (.look f) ts Q := fun t ts' e => by
  subst e
  exact h t ts' rfl hT.hd hT.tl hT
theorem s_tok {f : TkP → GL α} {t : TkP} {ts : List TkP} (h : Sp (f t) ts Q) : Sp (.tok f) (t :: ts) Q := fun u us e => by
  injection e with e1 e2
  subst e1 e2
  exact h
theorem s_call {n : NT} {k : VT n → GL α} {ts : List TkP} (hT : TS ts) (h : ∀ v ts', TS ts' → ts'.length ≤ ts.length → ResS n ts.length v ts'.length → Sp (k v) ts' Q) : Sp (.call n k) ts Q := fun v ts' hp => by
  obtain ⟨h1, h2, h3⟩ := hp hT
  exact h v ts' h1 h2 h3
theorem s_ite {c : Prop} [Decidable c] {g g' : GL α} {ts : List TkP} (h1 : c → Sp g ts Q) (h2 : ¬ c → Sp g' ts Q) : Sp (if c then g else g') ts Q := by
  by_cases h : c
  · rw [if_pos h]; exact h1 h
  · rw [if_neg h]; exact h2 h
theorem s_want {s : List UInt8} {k : TkP → GL α} {ts : List TkP} (hT : TS ts) (h : ∀ t ts', ts.length = ts'.length + 1 → TkS t → TS ts' → Sp (k t) ts' Q) : Sp (want s k) ts Q := s_look hT fun t ts' e h1 h2 _ => s_ite (fun _ => s_tok (h t ts' (by rw [e]; rfl) h1 h2)) fun _ => trivial
theorem s_name {k : TkP → GL α} {ts : List TkP} (hT : TS ts) (h : ∀ t ts', ts.length = ts'.length + 1 → TkS t → TS ts' → Sp (k t) ts' Q) : Sp (name k) ts Q := s_look hT fun t ts' e h1 h2 _ => s_ite (fun _ => s_tok (h t ts' (by rw [e]; rfl) h1 h2)) fun _ => trivial
theorem s_take {s : List UInt8} {a b : GL α} {ts : List TkP} (hT : TS ts) (h1 : ∀ ts', ts.length = ts'.length + 1 → TS ts' → Sp a ts' Q) (h2 : Sp b ts Q) : Sp (take s a b) ts Q := s_look hT fun t ts' e _ h4 _ => s_ite (fun _ => s_tok (h1 ts' (by rw [e]; rfl) h4)) fun _ => by rw [← e]; exact h2
theorem s_post {n : NT} {ts : List TkP} (h : TS ts → Sp (bodyL n) ts fun v ts' => TS ts' ∧ ts'.length ≤ ts.length ∧ ResS n ts.length v ts'.length) : Sp (bodyL n) ts (PostS n ts) := by
  by_cases hT : TS ts
  · exact Wp.weak _ _ _ _ (fun v ts' h _ => h) (h hT)
  · exact Wp.always _ _ _ fun v ts' h => (hT h).elim
end
set_option maxHeartbeats 8000000 in
theorem s_all (n : NT) (ts : List TkP) : Sp (bodyL n) ts (PostS n ts) := by
  refine s_post fun hT => ?_
  cases n <;> unfold bodyL
  case lvm s x =>
    refine s_look hT fun t ts' e h1 h2 h3 => ?_
    subst e
    cases ho : binO t with
    | none => exact ⟨h3, Nat.le_refl _, fun h => h⟩
    | some o => exact s_ite (fun _ => s_tok (s_call h2 fun (y : Ast) ts2 h4 h5 (h6 : SmA y) => s_call h4 fun (z : Ast) ts3 h7 h8 h9 => ⟨h7, by simp; omega, fun hx => h9 (sm_ndO (binO_op ho).1 (by have := (binO_op ho).2; omega) (smL_cons hx (smL_cons h6 smL_nil)))⟩)) fun _ => ⟨h3, Nat.le_refl _, fun h => h⟩
  case una =>
    refine s_look hT fun t ts' e h1 h2 h3 => ?_
    subst e
    cases ho : unaO t with
    | none => exact s_call h3 fun (v : Ast) ts2 h4 h5 (h6 : SmA v) => ⟨h4, h5, h6⟩
    | some o => exact s_tok (s_call h2 fun (v : Ast) ts2 h4 h5 (h6 : SmA v) => ⟨h4, by simp; omega, sm_ndO (by have := (unaO_op ho).1; omega) (unaO_op ho).2 (smL_cons h6 smL_nil)⟩)
  all_goals
    repeat' first
      | (refine s_ite (fun _ => ?_) (fun _ => ?_))
      | (refine s_want (by assumption) fun _ _ _ _ _ => ?_)
      | (refine s_name (by assumption) fun _ _ _ _ _ => ?_)
      | (refine s_take (by assumption) (fun _ _ _ => ?_) ?_)
      | (refine s_look (by assumption) fun _ _ e _ _ _ => ?_; subst e)
      | (refine s_tok ?_)
      | (refine s_call (by assumption) fun _ _ _ _ _ => ?_)
      | exact trivial
    all_goals try refine (show TS _ ∧ _ ∧ _ from ⟨by assumption, by (try simp only [List.length_cons] at *); omega, ?_⟩)
    all_goals try simp only [ResS] at *
    all_goals
      repeat' first
        | assumption
        | exact smL_nil
        | (intro hx)
        | (refine smL_cons ?_ ?_)
        | (refine smL_app ?_ ?_)
        | (refine sm_nd ?_)
        | (refine sm_ndS (TkS.s (by assumption)) ?_)
        | (refine smA_ndS' (by assumption) ?_)
        | (refine sm_ndN ?_ ?_ ?_)
        | (refine sm_ndA ?_ ?_ ?_ ?_)
        | (refine And.intro ?_ ?_)
        | exact TkS.n0 (by assumption)
        | exact TkS.n1 (by assumption)
        | exact (show SmL _ ∧ _ from by assumption).1
        | (refine (show SmL _ → SmL _ from by assumption) ?_)
        | (refine (show SmA _ → SmA _ from by assumption) ?_)
        | (refine (show _ ≤ 1 → SmA _ from by assumption) ?_)
        | (refine (show SmL _ → _ ≤ 5000 → SmA _ from by assumption) ?_ ?_)
        | (refine (show SmL _ → SmL _ ∧ _ from by assumption) ?_ |>.1)
        | decide
        | omega
        | (simp; done)
    all_goals have h5 := TS.len hT
    all_goals try (have h6 := (show SmL _ ∧ _ from by assumption).2)
    all_goals (try simp only [List.length_append, List.length_cons, List.length_nil] at *)
    all_goals try omega
    all_goals first
      | (show 1 + _ ≤ 5000; omega)
      | exact Nat.le_trans ((show SmL _ → SmL _ ∧ List.length _ + _ ≤ _ from by assumption) (smL_cons (by assumption) smL_nil)).2 (by show 1 + _ ≤ _; omega)
      | exact Nat.le_trans ((show SmL _ → SmL _ ∧ List.length _ + _ ≤ _ from by assumption) (smL_app (by assumption) (smL_cons (by assumption) smL_nil))).2 (by show _ + 1 + _ ≤ _; omega)
      | (show _ + 1 + _ ≤ 5000; omega)
theorem PL.small {n : NT} {ts ts' : List TkP} {v : VT n} (h : PL (bodyL n) ts (.ok (v, ts'))) (hT : TS ts) : TS ts' ∧ ts'.length ≤ ts.length ∧ ResS n ts.length v ts'.length := h.holds s_all hT
end Go.Proofs.YtfpeecjafccfjaaGreatDoor
namespace Go.Proofs.YtfpeecjafccfjaaGreatDoor
open Go.RowKit
theorem code_small {b : Int} {p : UInt8 → Bool} {least most : Nat} {l m r : List UInt8} (h : code b p least most l = some (m, r)) : m.length ≤ 1 := by
  unfold code at h
  split at h
  · injection h with h
    injection h with h _
    rw [← h]
    exact Nat.le_refl _
  · cases h
theorem esc_small {l m r : List UInt8} (h : esc l = some (m, r)) : m.length ≤ 1 := by
  cases l with
  | nil => cases h
  | cons c t =>
    have h : escC c t = some (m, r) := h
    unfold escC at h
    repeat' split at h
    all_goals first
      | exact code_small h
      | (injection h with h; injection h with h _; rw [← h]; simp; done)
      | cases h
theorem Quo.small {q : UInt8} {l : List UInt8} {o : Option (List UInt8 × List UInt8)} (h : Quo q l o) : ∀ {t r}, o = some (t, r) → t.length ≤ l.length := by
  induction h with
  | shut => intro t r e; cases e; simp
  | none => intro t r e; cases e
  | line => intro t r e; cases e
  | @esc r1 m r' o' h1 h2 h3 ih =>
    intro t r e
    cases o' with
    | none => cases e
    | some z =>
      obtain ⟨t', r''⟩ := z
      simp only [Option.map_some, Option.some.injEq, Prod.mk.injEq] at e
      have h5 := ih rfl
      have h6 := (esc_suffix h2).length_le
      have h7 := esc_small h2
      rw [← e.1, List.length_append, List.length_cons]
      omega
  | bad => intro t r e; cases e
  | @byte c r1 o' h1 h2 h3 h4 ih =>
    intro t r e
    cases o' with
    | none => cases e
    | some z =>
      obtain ⟨t', r''⟩ := z
      simp only [Option.map_some, Option.some.injEq, Prod.mk.injEq] at e
      have h5 := ih rfl
      rw [← e.1, List.length_cons, List.length_cons]
      omega
theorem cut_small (l sep : List UInt8) : (Lib.cut l sep).1.length ≤ l.length := by
  unfold Lib.cut
  split
  · simp only [List.length_take]; omega
  · exact Nat.le_refl _
theorem trim_small (l p : List UInt8) : (Lib.trimPrefix l p).length ≤ l.length := by
  unfold Lib.trimPrefix
  split
  · simp
  · exact Nat.le_refl _
theorem brk_small {l t r : List UInt8} (h : brk l = some (t, r)) : t.length ≤ l.length := by
  unfold brk at h
  split at h
  · injection h with h
    injection h with h _
    rw [← h]
    exact Nat.le_trans (trim_small _ _) (Nat.le_trans (cut_small _ _) (by simp))
  · cases h
theorem sign_small {l t r : List UInt8} (h : sign l = some (t, r)) : t.length ≤ l.length := by
  unfold sign at h
  repeat' split at h
  all_goals first
    | (injection h with h; injection h with h _; rw [← h]; simp only [List.length_take]; omega)
    | cases h
theorem tw_small (p : UInt8 → Bool) (l : List UInt8) : (l.takeWhile p).length ≤ l.length := (List.takeWhile_prefix p).length_le
structure TokS (l : List UInt8) (k n : Int) (s : List UInt8) : Prop where
  len : s.length ≤ l.length
  n0 : -9223372036854775808 ≤ n
  n1 : n ≤ 9223372036854775807
  name : k = 1 → l.length ≤ 65536 → nameB (bts s) = true
theorem nameB_tw {c : UInt8} {r : List UInt8} (hc : ltB c = true) (hw : wordB ((c :: r).takeWhile nmB) = false) (hl : ((c :: r).takeWhile nmB).length ≤ 65536) : nameB (bts ((c :: r).takeWhile nmB)) = true := by
  have hn : nmB c = true := by unfold nmB; rw [hc]; rfl
  have h1 : (c :: r).takeWhile nmB = c :: r.takeWhile nmB := by rw [List.takeWhile_cons, if_pos hn]
  have hd : dgBR c = false := by
    cases h : dgBR c with
    | false => rfl
    | true =>
      exfalso
      unfold dgBR at h
      unfold ltB at hc
      simp only [Bool.or_eq_true, decide_eq_true_eq] at h hc
      omega
  have ha0 : ((c :: r).takeWhile nmB).all nmB = true := List.all_takeWhile
  have ha : ((c :: r).takeWhile nmB).all nmBR = true := ha0
  unfold nameB
  have e1 : (bts ((c :: r).takeWhile nmB)).size = ((c :: r).takeWhile nmB).length := rfl
  have e2 : (bts ((c :: r).takeWhile nmB)).data.toList = (c :: r).takeWhile nmB := by simp [bts]
  rw [e1, e2, ha, show wordBR ((c :: r).takeWhile nmB) = false from hw]
  have e3 : firstB ((c :: r).takeWhile nmB) = false := by rw [h1]; exact hd
  rw [e3]
  have h0 : ((c :: r).takeWhile nmB).length ≠ 0 := by rw [h1]; simp
  simp [h0, hl]
theorem Tok.small {l : List UInt8} {q : Option (Int × Int × List UInt8 × List UInt8)} (h : Tok l q) : ∀ {k n : Int} {s r : List UInt8}, q = some (k, n, s, r) → TokS l k n s := by
  have mp : ∀ {o : Option (List UInt8 × List UInt8)} {m k n : Int} {s r' : List UInt8}, o.map (fun x => (m, (0 : Int), x.1, x.2)) = some (k, n, s, r') → k = m ∧ n = 0 ∧ o = some (s, r') := fun {o m k n s r'} e => by
    cases o with
    | none => simp at e
    | some x =>
      obtain ⟨x1, x2⟩ := x
      simp at e
      exact ⟨e.1.symm, e.2.1.symm, by rw [e.2.2.1, e.2.2.2]⟩
  cases h with
  | eof => intro k n s r e; cases e; exact ⟨Nat.le_refl _, by decide, by decide, fun h => absurd h (by decide)⟩
  | @name c r hc =>
    intro k n s r' e
    injection e with e
    injection e with e1 e
    injection e with e2 e
    injection e with e3 _
    subst e2 e3
    refine ⟨tw_small _ _, by decide, by decide, fun hk hl => nameB_tw hc ?_ (Nat.le_trans (tw_small _ _) hl)⟩
    cases hw : wordB ((c :: r).takeWhile nmB) with
    | false => rfl
    | true => rw [hw] at e1; rw [hk] at e1; exact absurd e1 (by decide)
  | num h1 h2 h3 =>
    intro k n s r e
    injection e with e
    injection e with e1 e
    injection e with e2 e
    injection e with e3 _
    subst e1 e2 e3
    refine ⟨Nat.zero_le _, by unfold sgn; omega, by unfold sgn; omega, fun h => absurd h (by decide)⟩
  | numBad h1 h2 h3 => intro k n s r e; cases e
  | text h1 h2 h3 h4 =>
    intro k n s r e
    obtain ⟨rfl, rfl, e3⟩ := mp e
    subst e3
    exact ⟨Nat.le_trans (h4.small rfl) (by simp), by decide, by decide, fun h => absurd h (by decide)⟩
  | long h1 h2 h3 h4 =>
    intro k n s r e
    obtain ⟨rfl, rfl, e3⟩ := mp e
    exact ⟨brk_small e3, by decide, by decide, fun h => absurd h (by decide)⟩
  | sign h1 h2 h3 h4 =>
    intro k n s r e
    obtain ⟨rfl, rfl, e3⟩ := mp e
    exact ⟨sign_small e3, by decide, by decide, fun h => absurd h (by decide)⟩
theorem lex_small {L : Int} {l : List UInt8} {o : Except Int (List Tk)} (h : LexR L l o) : l.length ≤ 8000 → ∀ ts, o = .ok ts → ∀ t ∈ ts, TkS t ∧ (t.1 = 1 → nameB (bts t.2.2.2) = true) := by
  induction h with
  | skipBad => intro _ ts e; cases e
  | tokBad => intro _ ts e; cases e
  | eof _ =>
    intro hL ts e t ht
    injection e with e
    subst e
    obtain rfl := List.mem_singleton.1 ht
    exact ⟨⟨by simp, by simp, by simp⟩, fun h => by simp at h⟩
  | @step l r r' s k n o h1 h2 h3 h4 ih =>
    intro hL ts e t ht
    cases o with
    | error x => cases e
    | ok ts0 =>
      injection e with e
      subst e
      have hr := (h1.suffix rfl).length_le
      have hr' := h3.suffix.length_le
      have hk := h3.small rfl
      have hlen := hk.len
      rcases List.mem_cons.1 ht with rfl | ht
      · exact ⟨⟨hk.n0, hk.n1, by dsimp only; omega⟩, fun h => hk.name h (by omega)⟩
      · exact ih (by omega) ts0 rfl t ht
end Go.Proofs.YtfpeecjafccfjaaGreatDoor
namespace Go.Proofs.YtfpeecjafccfjaaGreatDoor
open Go.RowKit Go.Extern.Stop Go.Stop Go.Extern
theorem Tryz.isTypeOf (v : Value) (w : World) : (Extern.ReflectliteType.typeOf #[.iface 60 v]).run Tryz.prog w = .ok (.iface 135 (.agg #[.pointer (some ⟨7, 60, none⟩)])) w := by kernel_rfl
theorem Tryz.isMethodComparable (v : Value) (w : World) : (Go.method 368 135 v "Comparable").run Tryz.prog w = .ok (252, v) w := by kernel_rfl
theorem Tryz.noIsF (v : Value) (xT : TypeId) (w : World) : (Instr.typeAssert (.iface 64 v) xT 146 true).run Tryz.prog w = .ok (.tuple #[.nilIface, .bool false]) w := run_typeAssert_lacksB Tryz.underlying146 (by kernel_rfl) (by kernel_rfl) v xT w
theorem Tryz.hasUnwrapF (v : Value) (xT : TypeId) (w : World) : (Instr.typeAssert (.iface 64 v) xT 142 true).run Tryz.prog w = .ok (.tuple #[.iface 64 v, .bool true]) w := run_typeAssert_hasB Tryz.underlying142 (by kernel_rfl) v xT w
theorem Tryz.noIsE (v : Value) (xT : TypeId) (w : World) : (Instr.typeAssert (.iface 60 v) xT 146 true).run Tryz.prog w = .ok (.tuple #[.nilIface, .bool false]) w := run_typeAssert_lacksB Tryz.underlying146 (by kernel_rfl) (by kernel_rfl) v xT w
theorem Tryz.noUnwrapE (v : Value) (xT : TypeId) (w : World) : (Instr.typeAssert (.iface 60 v) xT 142 true).run Tryz.prog w = .ok (.tuple #[.nilIface, .bool false]) w := run_typeAssert_lacksB Tryz.underlying142 (by kernel_rfl) (by kernel_rfl) v xT w
theorem Tryz.noUnwrapsE (v : Value) (xT : TypeId) (w : World) : (Instr.typeAssert (.iface 60 v) xT 143 true).run Tryz.prog w = .ok (.tuple #[.nilIface, .bool false]) w := run_typeAssert_lacksB Tryz.underlying143 (by kernel_rfl) (by kernel_rfl) v xT w
theorem Tryz.methodUnwrap (v : Value) (w : World) : (Go.method 368 64 v "Unwrap").run Tryz.prog w = .ok (245, v) w := by kernel_rfl
theorem Tryz.eql1 (w : World) : (binOp .eql 27 (.iface 60 (.int .i64 5)) (.iface 60 (.int .i64 1))).run Tryz.prog w = .ok (.bool false) w := by kernel_rfl
theorem Tryz.eql5 (w : World) : (binOp .eql 27 (.iface 60 (.int .i64 5)) (.iface 60 (.int .i64 5))).run Tryz.prog w = .ok (.bool true) w := by kernel_rfl
theorem Tryz.isComparable (w : World) : ((Extern.ReflectliteType.method fun t => do Rtype.noPackHeld "Comparable" t; (fun a => Value.bool a.comparable) <$> typeInfo t) #[.agg #[.pointer (some ⟨7, 60, none⟩)]]).run Tryz.prog w = .ok (.bool true) w := by kernel_rfl
set_option maxHeartbeats 4000000 in
set_option maxRecDepth 20000 in
theorem is_five (g : Nat) (n : Int) (w : World) (hg : w.heap[g]? = some (.cells #[.int .i64 n, .iface 60 (.int .i64 5)] 68 (0, 0))) :
    Calls Tryz.prog 23 #[.iface 64 (.pointer (some ⟨g, 0, none⟩)), .iface 60 (.int .i64 5)] w fun e w' => e = .returned (.bool true) ∧ w = w' := by
  have h1 : w.cell? ⟨g, 1, none⟩ = some (.iface 60 (.int .i64 5)) := by simp [World.cell?, hg]
  have h41 := @run_callFunc_extern Tryz.prog 48 _ Extern.ReflectliteType.typeOf Tryz.func48 (by kernel_rfl) (by kernel_rfl) (by kernel_rfl) (by kernel_rfl)
  have h137 := @run_callFunc_extern Tryz.prog 252 _ (Extern.ReflectliteType.method fun t => do Rtype.noPackHeld "Comparable" t; pure (.bool (← typeInfo t).comparable)) Tryz.func252 (by kernel_rfl) (by kernel_rfl) (by kernel_rfl) (by kernel_rfl)
  have tT := Tryz.isTypeOf
  have cT := Tryz.isComparable
  have mR := Tryz.isMethodComparable
  have nF := Tryz.noIsF
  have uF := Tryz.hasUnwrapF
  have mU := Tryz.methodUnwrap
  have e5 := Tryz.eql5
  have hty := run_eql_iface_types (P := Tryz.prog) 64 60 (.pointer (some ⟨g, 0, none⟩)) (.int .i64 5) Tryz.underlying27 (by decide) w
  clear hg
  go_enter Tryz.func23, Tryz.ntmps23
  go_wp2
  refine wp_loop_rounds 2 ?_
  rw [rounds_succ]
  go_wp2
  rw [rounds_succ]
  go_wp2
  go_ret
  exact ⟨rfl, rfl⟩
set_option maxHeartbeats 4000000 in
set_option maxRecDepth 20000 in
theorem is_not (g : Nat) (n k : Int) (w : World) (he : ∀ w : World, (binOp .eql 27 (.iface 60 (.int .i64 5)) (.iface 60 (.int .i64 k))).run Tryz.prog w = .ok (.bool false) w) (hg : w.heap[g]? = some (.cells #[.int .i64 n, .iface 60 (.int .i64 5)] 68 (0, 0))) :
    Calls Tryz.prog 23 #[.iface 64 (.pointer (some ⟨g, 0, none⟩)), .iface 60 (.int .i64 k)] w fun e w' => e = .returned (.bool false) ∧ w = w' := by
  have h1 : w.cell? ⟨g, 1, none⟩ = some (.iface 60 (.int .i64 5)) := by simp [World.cell?, hg]
  have h41 := @run_callFunc_extern Tryz.prog 48 _ Extern.ReflectliteType.typeOf Tryz.func48 (by kernel_rfl) (by kernel_rfl) (by kernel_rfl) (by kernel_rfl)
  have h137 := @run_callFunc_extern Tryz.prog 252 _ (Extern.ReflectliteType.method fun t => do Rtype.noPackHeld "Comparable" t; pure (.bool (← typeInfo t).comparable)) Tryz.func252 (by kernel_rfl) (by kernel_rfl) (by kernel_rfl) (by kernel_rfl)
  have tT := Tryz.isTypeOf
  have cT := Tryz.isComparable
  have mR := Tryz.isMethodComparable
  have nF := Tryz.noIsF
  have uF := Tryz.hasUnwrapF
  have mU := Tryz.methodUnwrap
  have nE := Tryz.noIsE
  have uE := Tryz.noUnwrapE
  have vE := Tryz.noUnwrapsE
  have hty := run_eql_iface_types (P := Tryz.prog) 64 60 (.pointer (some ⟨g, 0, none⟩)) (.int .i64 k) Tryz.underlying27 (by decide) w
  clear hg
  go_enter Tryz.func23, Tryz.ntmps23
  go_wp2
  refine wp_loop_rounds 2 ?_
  rw [rounds_succ]
  go_wp2
  rw [rounds_succ]
  go_wp2
  go_ret
  exact ⟨rfl, rfl⟩
theorem Tryz.eql2 (w : World) : (binOp .eql 27 (.iface 60 (.int .i64 5)) (.iface 60 (.int .i64 2))).run Tryz.prog w = .ok (.bool false) w := by kernel_rfl
theorem Tryz.eql3 (w : World) : (binOp .eql 27 (.iface 60 (.int .i64 5)) (.iface 60 (.int .i64 3))).run Tryz.prog w = .ok (.bool false) w := by kernel_rfl
theorem Tryz.eql4 (w : World) : (binOp .eql 27 (.iface 60 (.int .i64 5)) (.iface 60 (.int .i64 4))).run Tryz.prog w = .ok (.bool false) w := by kernel_rfl
end Go.Proofs.YtfpeecjafccfjaaGreatDoor
namespace Go.Proofs.YtfpeecjafccfjaaGreatDoor
open Go.RowKit
structure EnvL (w : World) : Prop where
  mx : Mx w
  et : w.cell? ⟨0, 0, none⟩ = some (.iface 135 (.agg #[.pointer (some ⟨7, 27, none⟩)]))
  big : 7 ≤ w.heap.size
theorem EnvL.below {w w' : World} (h : EnvL w) (hb : Below w.heap.size w w') : EnvL w' :=
  ⟨h.mx.below hb, (hb.cell (p := ⟨0, 0, none⟩) (by have := h.big; show 0 < _; omega)).trans h.et, Nat.le_trans h.big hb.size⟩
theorem as_told (g : Nat) (w : World) (h : EnvL w) : Calls Tryz.prog 20 #[.iface 64 (.pointer (some ⟨g, 0, none⟩)), .iface 65 (.pointer (some ⟨w.heap.size, 0, none⟩))] (w.alloc (.cells #[.pointer none] 64)) fun e w' =>
    e = .returned (.bool true) ∧ w'.cell? ⟨w.heap.size, 0, none⟩ = some (.pointer (some ⟨g, 0, none⟩)) ∧ Below w.heap.size w w' := by
  have hB := (Below.refl w.heap.size w).alloc (Nat.le_refl _) (.cells #[.pointer none] 64)
  have hE := h.below hB
  have hx := Boxed.new w 64 (.pointer none)
  refine (as_hit ⟨g, 0, none⟩ ⟨w.heap.size, 0, none⟩ (.pointer none) (w.alloc (.cells #[.pointer none] 64)) hE.et hx.cell hx.frozen).mono ?_
  rintro e w' ⟨rfl, rfl⟩
  exact ⟨rfl, (((((hx.alloc _).alloc _).alloc _).alloc _).set _).cell, (((((hB.alloc (by simp) _).alloc (by simp; omega) _).alloc (by simp; omega) _).alloc (by simp; omega) _)).setCell (Nat.le_refl _) _⟩
set_option maxHeartbeats 2000000 in
theorem told_any (v : Value) (n : Int) (w : World) (h : EnvL w) (hf : Flt w v n) : Calls Tryz.prog 10 #[v] w fun e w' => e = .returned (.tuple #[.int .i64 5, .int .i64 n]) ∧ Below w.heap.size w w' := by
  obtain ⟨g, rfl, hg⟩ := hf
  have hgl : g < w.heap.size := (Array.getElem?_eq_some_iff.1 hg).1
  have A1 := Lib.hid (as_told g w h)
  have HG := Lib.hid hg
  clear h hg
  go_enter Tryz.func10, Tryz.ntmps10
  go_wp2_with fail
  refine A1.out.mono ?_; rintro e w1 ⟨rfl, hc, hb⟩
  have hg1 : w1.heap[g]? = _ := (hb.block g hgl).trans HG.out
  have HB := Lib.hid hb
  have I5 := Lib.hid (is_five g n w1 hg1)
  have N1 := Lib.hid (is_not g n 1 w1 Tryz.eql1 hg1)
  have N2 := Lib.hid (is_not g n 2 w1 Tryz.eql2 hg1)
  have N3 := Lib.hid (is_not g n 3 w1 Tryz.eql3 hg1)
  have N4 := Lib.hid (is_not g n 4 w1 Tryz.eql4 hg1)
  have hc0 : w1.cell? ⟨g, 0, none⟩ = some (.int .i64 n) := by simp [World.cell?, hg1]
  clear hg1 hb
  go_wp2_with fail
  go_loop [5] (fun i => ∃ k : Nat, 1 ≤ k ∧ k ≤ 5 ∧ i = .int .i64 k) (fun i => 5 - (intOf i).toNat)
  case atStart => exact ⟨1, by omega, by omega, rfl⟩
  case round =>
    obtain ⟨k, hk1, hk5, rfl⟩ := hrel
    rcases (show k = 1 ∨ k = 2 ∨ k = 3 ∨ k = 4 ∨ k = 5 by omega) with rfl | rfl | rfl | rfl | rfl
    · go_wp2_with (go_at_call 23; refine N1.out.mono ?_; rintro e w' ⟨rfl, rfl⟩)
      go_round
      case rel => exact ⟨2, by omega, by omega, rfl⟩
      case measure => simp [intOf]
    · go_wp2_with (go_at_call 23; refine N2.out.mono ?_; rintro e w' ⟨rfl, rfl⟩)
      go_round
      case rel => exact ⟨3, by omega, by omega, rfl⟩
      case measure => simp [intOf]
    · go_wp2_with (go_at_call 23; refine N3.out.mono ?_; rintro e w' ⟨rfl, rfl⟩)
      go_round
      case rel => exact ⟨4, by omega, by omega, rfl⟩
      case measure => simp [intOf]
    · go_wp2_with (go_at_call 23; refine N4.out.mono ?_; rintro e w' ⟨rfl, rfl⟩)
      go_round
      case rel => exact ⟨5, by omega, by omega, rfl⟩
      case measure => simp [intOf]
    · go_wp2_with (go_at_call 23; refine I5.out.mono ?_; rintro e w' ⟨rfl, rfl⟩)
      go_quiet (fail)
      go_wp2_with fail
      go_ret2
      exact ⟨rfl, HB.out.trans ⟨rfl, rfl, rfl, Nat.le_refl _, fun _ _ => rfl⟩⟩
end Go.Proofs.YtfpeecjafccfjaaGreatDoor
namespace Go.Proofs.YtfpeecjafccfjaaGreatDoor
open Go.RowKit
theorem below_set {B : Nat} {w W : World} {n j : Nat} {v : Value} (h : Below B w W) (hn : B ≤ n) : Below B w (W.setCell ⟨n, j, none⟩ v) := ⟨h.os, h.tape, h.output, by simpa [World.setCell] using h.size, fun k hk => (Below.heap_setCell _ _ _ k (by show k ≠ n; omega)).trans (h.block k hk)⟩
theorem keep_set {W : World} {n j g : Nat} {v : Value} {o : Obj} (h : W.heap[g]? = some o) (hn : g ≠ n) : (W.setCell ⟨n, j, none⟩ v).heap[g]? = some o := (Below.heap_setCell _ _ _ g hn).trans h
theorem as_toldM (g : Nat) (w : World) (h : EnvL w) : Calls Tryz.prog 20 #[.iface 56 (.pointer (some ⟨g, 0, none⟩)), .iface 58 (.pointer (some ⟨w.heap.size, 0, none⟩))] (w.alloc (.cells #[.pointer none] 56)) fun e w' =>
    e = .returned (.bool true) ∧ w'.cell? ⟨w.heap.size, 0, none⟩ = some (.pointer (some ⟨g, 0, none⟩)) ∧ Below w.heap.size w w' := by
  have hB := (Below.refl w.heap.size w).alloc (Nat.le_refl _) (.cells #[.pointer none] 56)
  have hE := h.below hB
  have hx := Boxed.new w 56 (.pointer none)
  refine (as_hitM ⟨g, 0, none⟩ ⟨w.heap.size, 0, none⟩ (.pointer none) (w.alloc (.cells #[.pointer none] 56)) hE.et hx.cell hx.frozen).mono ?_
  rintro e w' ⟨rfl, rfl⟩
  exact ⟨rfl, (((((hx.alloc _).alloc _).alloc _).alloc _).set _).cell, (((((hB.alloc (by simp) _).alloc (by simp; omega) _).alloc (by simp; omega) _).alloc (by simp; omega) _)).setCell (Nat.le_refl _) _⟩
def noTree : Value := .agg #[.slice none 0 0, .int .i64 0]
def ParsePost (s : ByteArray) (w : World) (e : Ending) (w' : World) : Prop :=
  Below w.heap.size w w' ∧ ∃ o, LexR (lastL s) s.data.toList o ∧ match o with
    | .error n => ∃ v, e = .returned (.tuple #[noTree, v]) ∧ FltE w' v n 5
    | .ok ts => ts.length ≤ s.size + 1 ∧ ∃ q, PL srcL ts q ∧ match q with
      | .error l => ∃ v, e = .returned (.tuple #[noTree, v]) ∧ FltE w' v l 6
      | .ok (a, _) => (100 < a.depth ∧ ∃ v, e = .returned (.tuple #[noTree, v]) ∧ FltE w' v 1 7) ∨
        (a.depth ≤ 100 ∧ ∃ (v : Value) (T : List Nd) (p : Nat), e = .returned (.tuple #[v, .nilIface]) ∧ TreeV w' v T (p : Int) ∧ Lies [] T [a] [(p : Int)])
set_option maxRecDepth 20000 in
set_option maxHeartbeats 8000000 in
theorem parse_p (s : ByteArray) (w : World) (hs : s.size ≤ 8000) (hE : EnvL w) : Calls Tryz.prog 9 #[.string s] w (ParsePost s w) := by
  have h7 := hE.big
  have hM := hE.mx
  have hlx := fun W (h1 : 7 ≤ W.heap.size) (h2 : Mx W) => lex_any s W (by omega) h1 h2
  have HL := Lib.hid (hlx (w.alloc (.cells #[.slice none 0 0, .int .i64 0] 25)) (by simp; omega) (hM.below (allocB w _)))
  have HS := Lib.hid hs
  have HE := Lib.hid hE
  clear hlx hE hM hs h7
  go_enter Tryz.func9, Tryz.ntmps9
  go_wp2_with fail
  refine HL.out.mono ?_; rintro e w1 ⟨b1, o, ho, h1⟩
  have B1 := Lib.hid (thenBR (allocB w (.cells #[.slice none 0 0, .int .i64 0] 25)) b1)
  have rb : ∀ W, Below w1.heap.size w1 W → W.heap[w.heap.size]? = some (.cells #[.slice none 0 0, .int .i64 0] 25 (0, 0)) := fun W hW => ((thenBR b1 hW).block w.heap.size (by simp)).trans (World.alloc_heap_new w _)
  have RB := Lib.hid rb
  have d0 : w1.cell? ⟨w.heap.size, 0, none⟩ = some (.slice none 0 0) := by simp [World.cell?, rb w1 (Below.refl _ _)]
  have d1 : w1.cell? ⟨w.heap.size, 1, none⟩ = some (.int .i64 0) := by simp [World.cell?, rb w1 (Below.refl _ _)]
  have y0 : w1.frozen? ⟨w.heap.size, 0, none⟩ = false := by simp [World.frozen?, rb w1 (Below.refl _ _)]
  have y1 : w1.frozen? ⟨w.heap.size, 1, none⟩ = false := by simp [World.frozen?, rb w1 (Below.refl _ _)]
  have HO := Lib.hid ho
  cases o with
  | error n =>
    obtain ⟨v, rfl, g, rfl, hf⟩ := h1
    have HF := Lib.hid hf
    clear b1 rb ho hf
    have hgn : g ≠ w.heap.size := fun e => by
      have h1 := RB.out w1 (Below.refl _ _)
      rw [← e, HF.out] at h1
      simp at h1
    go_wp2_with fail
    refine bodyPost_ret (v := .tuple #[noTree, .iface 64 (.pointer (some ⟨g, 0, none⟩))]) ?_ rfl ⟨?_, .error n, HO.out, _, rfl, g, rfl, ?_⟩
    · simp [results, Tryz.results9, go_sem, noTree, d0, d1]
    · exact below_set (below_set (B1.out) (Nat.le_refl _)) (Nat.le_refl _)
    · exact keep_set (keep_set HF.out hgn) hgn
  | ok ts =>
    obtain ⟨hlen, v, rfl, hT⟩ := h1
    have hwf := lex_wf ho (by unfold lastL; omega) ts rfl
    obtain ⟨g, cp, rfl, hcp, hgl, hcells⟩ := hT.ex
    obtain ⟨t, r, hts⟩ := hwf.fin.cons
    have hT2 : Toks w1 (.slice (some ⟨g, 0, none⟩) ts.length cp) ts := hT
    have hps := ps_new hT2 hwf.fin (by have := HS.out; omega) hgl
    have hsrc := src_mk (N := ts.length + 1) (t := t) (r := r) (by rw [hts]; exact Nat.lt_succ_self _) (by rw [← hts]; have := HS.out; omega) (hts ▸ hwf) (hts ▸ Gw.self srcL ts)
    rw [hts] at hps
    have HN := Lib.hid (node_at' (w1.alloc (.cells #[.slice (some ⟨g, 0, none⟩) (t :: r).length cp, .int .i64 0, .slice none 0 0] 52)) (w1.alloc (.cells #[.slice (some ⟨g, 0, none⟩) (t :: r).length cp, .int .i64 0, .slice none 0 0] 52)) (w1.heap.size + 1) (by simp) hps (Fr.refl _ _) (hdZ 18) rfl [mval 18 w1.heap.size, mval 19 w1.heap.size] [stsP (ts.length + 1), wpEof] (by simp) ⟨(all_read (ts.length + 1)).sts.part (enters_of Tryz.func18 (by kernel_rfl) rfl) _ _ _, eof_part _ _ _, trivial⟩ hsrc)
    subst hts
    have HLN := Lib.hid hlen
    clear hT hT2 hps hsrc hwf hcells ho rb b1 hlen
    go_wp2_with fail
    refine HN.out.mono ?_; intro e w3 h3
    have b3 : Below w1.heap.size w1 w3 := Below.trans (allocB w1 _) (h3.1.below (B := w1.heap.size) (fun k hk => by omega) (by simp))
    have B3 := Lib.hid (thenBR B1.out b3)
    have HB13 := Lib.hid b3
    have hbl : w1.heap.size < w3.heap.size := Nat.lt_of_lt_of_le (by simp) h3.1.size
    have hwl : w.heap.size < w1.heap.size := (Array.getElem?_eq_some_iff.1 (RB.out w1 (Below.refl _ _))).1
    have rb3 := RB.out w3 b3
    have RB3 := Lib.hid rb3
    have e0 : w3.cell? ⟨w.heap.size, 0, none⟩ = some (.slice none 0 0) := by simp [World.cell?, rb3]
    have e1 : w3.cell? ⟨w.heap.size, 1, none⟩ = some (.int .i64 0) := by simp [World.cell?, rb3]
    have z0 : w3.frozen? ⟨w.heap.size, 0, none⟩ = false := by simp [World.frozen?, rb3]
    have z1 : w3.frozen? ⟨w.heap.size, 1, none⟩ = false := by simp [World.frozen?, rb3]
    have hwl3 : w.heap.size < w3.heap.size := by omega
    clear rb3 b3 d0 d1 y0 y1
    rcases h3.2 with ⟨p, a, ts2, O2, T2, rfl, p2, x2, l2, k2⟩ | ⟨le, v, er, rfl, ⟨g', rfl, m2, m3⟩, k2⟩
    · obtain ⟨A, c2, cT, hnodes⟩ := p2.nodes
      have hsz : T2.length = a.size := by rw [l2.len, sz1]; simp
      have hle : T2.length ≤ 16384 := by
        have := src_size k2
        have := HLN.out
        have := HS.out
        omega
      have q1 : decide ((16384 : Int) < (T2.length : Int)) = false := decide_eq_false (by omega)
      have hrep : ∃ js, Rep T2 a p js ∧ js.Nodup ∧ js.length = T2.length := by
        obtain ⟨_, js, hr, hperm⟩ := l2
        unfold Reps at hr
        obtain ⟨k, ks', j1, j2, ek, hr1, hr2, ej⟩ := hr
        unfold Reps at hr2
        obtain ⟨_, rfl⟩ := hr2
        have ek2 : k = p := by injection ek with ek _; omega
        subst ek2
        rw [List.append_nil] at ej
        subst ej
        exact ⟨_, hr1, hperm.nodup_iff.2 (List.nodup_range' ..), by rw [hperm.length_eq, List.length_range']; simp⟩
      have hdp : deepT T2 (p : Int) = a.depth := by
        obtain ⟨js, r1, r2, r3⟩ := hrep
        exact deep_rep r1 r2 r3 hle
      have L2 := Lib.hid l2
      have K2 := Lib.hid k2
      have HNd := Lib.hid hnodes
      have HOw := Lib.hid (fun k (hk : O2 k) => (p2.own k hk).1)
      have HD := Lib.hid (fun W (hW : Below w3.heap.size w3 W) => deep_any (.agg #[.slice A T2.length c2, .int .i64 (p : Int)]) T2 (p : Int) W ⟨_, rfl, hnodes W (fun _ => False) (Fr.of_below hW) (fun _ _ h => h)⟩)
      rw [hdp] at HD
      have HLE := Lib.hid hle
      clear h3 p2 x2 l2 k2 hnodes HN hsz hle hrep hdp
      go_wp2_with fail
      refine (as_nil _ _).mono ?_; rintro e w4 ⟨rfl, rfl⟩
      have b45 : Below w3.heap.size w3 ((w3.alloc (.cells #[.pointer none] 56)).alloc (.cells #[.slice A T2.length c2, .int .i64 (p : Int)] 25)) := thenBR (allocB w3 _) (allocB _ _)
      have HD2 := Lib.hid (HD.out _ b45)
      have B45 := Lib.hid b45
      clear b45 HD
      go_wp2_with fail
      refine HD2.out.mono ?_; rintro e w6 ⟨rfl, b6⟩
      have B6 := Lib.hid (thenBR B45.out b6)
      have rb6 := RB.out w6 (thenBR HB13.out B6.out)
      have f0 : w6.cell? ⟨w.heap.size, 0, none⟩ = some (.slice none 0 0) := by simp [World.cell?, rb6]
      have f1 : w6.cell? ⟨w.heap.size, 1, none⟩ = some (.int .i64 0) := by simp [World.cell?, rb6]
      have g0 : w6.frozen? ⟨w.heap.size, 0, none⟩ = false := by simp [World.frozen?, rb6]
      have g1 : w6.frozen? ⟨w.heap.size, 1, none⟩ = false := by simp [World.frozen?, rb6]
      have hw6 : w3.heap.size + 1 < w6.heap.size := by have := b6.size; simp at this; omega
      have hwl6 : w.heap.size < w6.heap.size := by omega
      have t0 : w6.cell? ⟨w3.heap.size + 1, 0, none⟩ = some (.slice A T2.length c2) := by
        refine (b6.cell (p := ⟨w3.heap.size + 1, 0, none⟩) (by simp)).trans ?_
        have := acell (w3.alloc (.cells #[.pointer none] 56)) #[.slice A T2.length c2, .int .i64 (p : Int)] 25 0
        rw [asize] at this
        exact this
      have t1 : w6.cell? ⟨w3.heap.size + 1, 1, none⟩ = some (.int .i64 (p : Int)) := by
        refine (b6.cell (p := ⟨w3.heap.size + 1, 1, none⟩) (by simp)).trans ?_
        have := acell (w3.alloc (.cells #[.pointer none] 56)) #[.slice A T2.length c2, .int .i64 (p : Int)] 25 1
        rw [asize] at this
        exact this
      clear rb6 b6 HD2 e0 e1 z0 z1 cT
      have B6w := Lib.hid (thenBR B3.out B6.out)
      by_cases hdeep : 100 < a.depth
      · have q2 : decide ((100 : Int) < (a.depth : Int)) = true := decide_eq_true (by omega)
        have HDP := Lib.hid hdeep
        clear hdeep
        go_wp2_with fail
        refine (fault_p 1 7 w6).mono ?_; rintro e w7 ⟨rfl, rfl⟩
        go_wp2_with fail
        refine bodyPost_ret (v := .tuple #[noTree, .iface 64 (.pointer (some ⟨w6.heap.size, 0, none⟩))]) ?_ rfl ⟨?_, .ok (t :: r), HO.out, HLN.out, .ok (a, ts2), K2.out, .inl ⟨HDP.out, _, rfl, w6.heap.size, rfl, ?_⟩⟩
        · have hl1 : w.heap.size < ((w6.setCell ⟨w.heap.size, 0, none⟩ (.slice none 0 0)).setCell ⟨w.heap.size, 1, none⟩ (.int .i64 0)).heap.size := by simpa [World.setCell] using hwl6
          have k0 : (((w6.setCell ⟨w.heap.size, 0, none⟩ (.slice none 0 0)).setCell ⟨w.heap.size, 1, none⟩ (.int .i64 0)).alloc (.cells #[.int .i64 1, .iface 60 (.int .i64 7)] 68)).cell? ⟨w.heap.size, 0, none⟩ = some (.slice none 0 0) := by rw [World.cell?_alloc_lt _ _ _ hl1]; simp [go_sem, f0]
          have k1 : (((w6.setCell ⟨w.heap.size, 0, none⟩ (.slice none 0 0)).setCell ⟨w.heap.size, 1, none⟩ (.int .i64 0)).alloc (.cells #[.int .i64 1, .iface 60 (.int .i64 7)] 68)).cell? ⟨w.heap.size, 1, none⟩ = some (.int .i64 0) := by rw [World.cell?_alloc_lt _ _ _ hl1]; simp [go_sem, f1]
          simp [results, Tryz.results9, go_sem, noTree, k0, k1]
        · exact thenBR (below_set (below_set B6w.out (Nat.le_refl _)) (Nat.le_refl _)) (allocB _ _)
        · have := World.alloc_heap_new ((w6.setCell ⟨w.heap.size, 0, none⟩ (.slice none 0 0)).setCell ⟨w.heap.size, 1, none⟩ (.int .i64 0)) (.cells #[.int .i64 1, .iface 60 (.int .i64 7)] 68)
          simpa [World.setCell] using this
      · have q2 : decide ((100 : Int) < (a.depth : Int)) = false := decide_eq_false (by omega)
        have HDP := Lib.hid hdeep
        have rb6' := RB.out w6 (thenBR HB13.out B6.out)
        have fr6 := ((Fr.of_below (O := (· = w.heap.size)) B6.out).trans (Fr.set1 rb6' (show (25 : Nat) ≠ 9 by decide) 0 (.slice A T2.length c2)) (Ext.refl _ _)).trans (Fr.set1 (set_cells rb6' (k := 0) (.slice A T2.length c2)) (show (25 : Nat) ≠ 9 by decide) 1 (.int .i64 (p : Int))) (Ext.refl _ _)
        have HN6 := Lib.hid (HNd.out _ _ fr6 (fun k hk e => by have := HOw.out k hk; omega))
        clear rb6' fr6
        clear hdeep
        go_wp2_with fail
        refine bodyPost_ret (v := .tuple #[.agg #[.slice A T2.length c2, .int .i64 (p : Int)], .nilIface]) ?_ rfl ⟨?_, .ok (t :: r), HO.out, HLN.out, .ok (a, ts2), K2.out, .inr ⟨Nat.le_of_not_lt HDP.out, _, T2, p, rfl, ⟨_, rfl, ?_⟩, L2.out⟩⟩
        · simp [results, Tryz.results9, go_sem, f0, f1]
        · exact below_set (below_set B6w.out (Nat.le_refl _)) (Nat.le_refl _)
        · exact HN6.out
    · have hgl3 : g' < w3.heap.size := (Array.getElem?_eq_some_iff.1 m3).1
      have hA := as_toldM g' w3 (HE.out.below B3.out)
      have HA := Lib.hid hA
      have M3 := Lib.hid m3
      have K2 := Lib.hid k2
      have hgw : g' ≠ w.heap.size := by simp at m2; omega
      clear h3 m2 m3 k2 HN hA e0 e1 z0 z1
      go_wp2_with fail
      refine HA.out.mono ?_; rintro e w4 ⟨rfl, c4, b4⟩
      have rb4 := RB.out w4 (thenBR HB13.out b4)
      have f0 : w4.cell? ⟨w.heap.size, 0, none⟩ = some (.slice none 0 0) := by simp [World.cell?, rb4]
      have f1 : w4.cell? ⟨w.heap.size, 1, none⟩ = some (.int .i64 0) := by simp [World.cell?, rb4]
      have g0 : w4.frozen? ⟨w.heap.size, 0, none⟩ = false := by simp [World.frozen?, rb4]
      have g1 : w4.frozen? ⟨w.heap.size, 1, none⟩ = false := by simp [World.frozen?, rb4]
      have hm4 : w4.heap[g']? = _ := (b4.block g' hgl3).trans M3.out
      have j0 : w4.cell? ⟨g', 0, none⟩ = some (.int .i64 6) := by simp [World.cell?, hm4]
      have j1 : w4.cell? ⟨g', 1, none⟩ = some (.int .i64 le) := by simp [World.cell?, hm4]
      have hwl4 : w.heap.size < w4.heap.size := Nat.lt_of_lt_of_le hwl3 b4.size
      have hgl4 : g' < w4.heap.size := Nat.lt_of_lt_of_le hgl3 b4.size
      have h3l4 : w3.heap.size < w4.heap.size := World.block_lt_of_cell? w4 _ c4
      have B4 := Lib.hid (thenBR B3.out b4)
      clear rb4 hm4 b4 HA
      go_wp2_with fail
      go_region_with (first | (go_at_call 21; refine (fault_p le 6 _).mono ?_; rintro e w5 ⟨rfl, rfl⟩))
      all_goals
        have hl1 : w.heap.size < ((w4.setCell ⟨w.heap.size, 0, none⟩ (.slice none 0 0)).setCell ⟨w.heap.size, 1, none⟩ (.int .i64 0)).heap.size := by simpa [World.setCell] using hwl4
        have k0 : (((w4.setCell ⟨w.heap.size, 0, none⟩ (.slice none 0 0)).setCell ⟨w.heap.size, 1, none⟩ (.int .i64 0)).alloc (.cells #[.int .i64 le, .iface 60 (.int .i64 6)] 68)).cell? ⟨w.heap.size, 0, none⟩ = some (.slice none 0 0) := by rw [World.cell?_alloc_lt _ _ _ hl1]; simp [go_sem, f0]
        have k1 : (((w4.setCell ⟨w.heap.size, 0, none⟩ (.slice none 0 0)).setCell ⟨w.heap.size, 1, none⟩ (.int .i64 0)).alloc (.cells #[.int .i64 le, .iface 60 (.int .i64 6)] 68)).cell? ⟨w.heap.size, 1, none⟩ = some (.int .i64 0) := by rw [World.cell?_alloc_lt _ _ _ hl1]; simp [go_sem, f1]
        go_wp2
        refine bodyPost_ret (v := .tuple #[noTree, .iface 64 (.pointer (some ⟨w4.heap.size, 0, none⟩))]) ?_ rfl ⟨?_, .ok (t :: r), HO.out, HLN.out, .error le, K2.out, _, rfl, w4.heap.size, rfl, ?_⟩
        · simp [results, Tryz.results9, go_sem, noTree, k0, k1, Act.put]
        · have hb := thenBR (below_set (j := 1) (v := .int .i64 0) (below_set (j := 0) (v := .slice none 0 0) B4.out (Nat.le_refl _)) (Nat.le_refl _)) (allocB _ (.cells #[.int .i64 le, .iface 60 (.int .i64 6)] 68))
          exact ⟨hb.os, hb.tape, hb.output, hb.size, hb.block⟩
        · have := World.alloc_heap_new ((w4.setCell ⟨w.heap.size, 0, none⟩ (.slice none 0 0)).setCell ⟨w.heap.size, 1, none⟩ (.int .i64 0)) (.cells #[.int .i64 le, .iface 60 (.int .i64 6)] 68)
          simpa [World.setCell, World.drew] using this
end Go.Proofs.YtfpeecjafccfjaaGreatDoor
namespace Go.Proofs.YtfpeecjafccfjaaGreatDoor
open Go.RowKit Go.Extern.Stop Go.Stop Go.Extern
set_option maxHeartbeats 4000000 in
set_option maxRecDepth 20000 in
theorem is_hitG (g : Nat) (n m : Int) (w : World) (he : ∀ w : World, (binOp .eql 27 (.iface 60 (.int .i64 m)) (.iface 60 (.int .i64 m))).run Tryz.prog w = .ok (.bool true) w) (hg : w.heap[g]? = some (.cells #[.int .i64 n, .iface 60 (.int .i64 m)] 68 (0, 0))) :
    Calls Tryz.prog 23 #[.iface 64 (.pointer (some ⟨g, 0, none⟩)), .iface 60 (.int .i64 m)] w fun e w' => e = .returned (.bool true) ∧ w = w' := by
  have h1 : w.cell? ⟨g, 1, none⟩ = some (.iface 60 (.int .i64 m)) := by simp [World.cell?, hg]
  have h41 := @run_callFunc_extern Tryz.prog 48 _ Extern.ReflectliteType.typeOf Tryz.func48 (by kernel_rfl) (by kernel_rfl) (by kernel_rfl) (by kernel_rfl)
  have h137 := @run_callFunc_extern Tryz.prog 252 _ (Extern.ReflectliteType.method fun t => do Rtype.noPackHeld "Comparable" t; pure (.bool (← typeInfo t).comparable)) Tryz.func252 (by kernel_rfl) (by kernel_rfl) (by kernel_rfl) (by kernel_rfl)
  have tT := Tryz.isTypeOf
  have cT := Tryz.isComparable
  have mR := Tryz.isMethodComparable
  have nF := Tryz.noIsF
  have uF := Tryz.hasUnwrapF
  have mU := Tryz.methodUnwrap
  have e5 := he
  have hty := run_eql_iface_types (P := Tryz.prog) 64 60 (.pointer (some ⟨g, 0, none⟩)) (.int .i64 m) Tryz.underlying27 (by decide) w
  clear hg
  go_enter Tryz.func23, Tryz.ntmps23
  go_wp2
  refine wp_loop_rounds 2 ?_
  rw [rounds_succ]
  go_wp2
  rw [rounds_succ]
  go_wp2
  go_ret
  exact ⟨rfl, rfl⟩
set_option maxHeartbeats 4000000 in
set_option maxRecDepth 20000 in
theorem is_notG (g : Nat) (n m k : Int) (w : World) (he : ∀ w : World, (binOp .eql 27 (.iface 60 (.int .i64 m)) (.iface 60 (.int .i64 k))).run Tryz.prog w = .ok (.bool false) w) (hg : w.heap[g]? = some (.cells #[.int .i64 n, .iface 60 (.int .i64 m)] 68 (0, 0))) :
    Calls Tryz.prog 23 #[.iface 64 (.pointer (some ⟨g, 0, none⟩)), .iface 60 (.int .i64 k)] w fun e w' => e = .returned (.bool false) ∧ w = w' := by
  have h1 : w.cell? ⟨g, 1, none⟩ = some (.iface 60 (.int .i64 m)) := by simp [World.cell?, hg]
  have h41 := @run_callFunc_extern Tryz.prog 48 _ Extern.ReflectliteType.typeOf Tryz.func48 (by kernel_rfl) (by kernel_rfl) (by kernel_rfl) (by kernel_rfl)
  have h137 := @run_callFunc_extern Tryz.prog 252 _ (Extern.ReflectliteType.method fun t => do Rtype.noPackHeld "Comparable" t; pure (.bool (← typeInfo t).comparable)) Tryz.func252 (by kernel_rfl) (by kernel_rfl) (by kernel_rfl) (by kernel_rfl)
  have tT := Tryz.isTypeOf
  have cT := Tryz.isComparable
  have mR := Tryz.isMethodComparable
  have nF := Tryz.noIsF
  have uF := Tryz.hasUnwrapF
  have mU := Tryz.methodUnwrap
  have nE := Tryz.noIsE
  have uE := Tryz.noUnwrapE
  have vE := Tryz.noUnwrapsE
  have hty := run_eql_iface_types (P := Tryz.prog) 64 60 (.pointer (some ⟨g, 0, none⟩)) (.int .i64 k) Tryz.underlying27 (by decide) w
  clear hg
  go_enter Tryz.func23, Tryz.ntmps23
  go_wp2
  refine wp_loop_rounds 2 ?_
  rw [rounds_succ]
  go_wp2
  rw [rounds_succ]
  go_wp2
  go_ret
  exact ⟨rfl, rfl⟩
theorem Tryz.eqlG6_1 (w : World) : (binOp .eql 27 (.iface 60 (.int .i64 6)) (.iface 60 (.int .i64 1))).run Tryz.prog w = .ok (.bool false) w := by kernel_rfl
theorem Tryz.eqlG6_2 (w : World) : (binOp .eql 27 (.iface 60 (.int .i64 6)) (.iface 60 (.int .i64 2))).run Tryz.prog w = .ok (.bool false) w := by kernel_rfl
theorem Tryz.eqlG6_3 (w : World) : (binOp .eql 27 (.iface 60 (.int .i64 6)) (.iface 60 (.int .i64 3))).run Tryz.prog w = .ok (.bool false) w := by kernel_rfl
theorem Tryz.eqlG6_4 (w : World) : (binOp .eql 27 (.iface 60 (.int .i64 6)) (.iface 60 (.int .i64 4))).run Tryz.prog w = .ok (.bool false) w := by kernel_rfl
theorem Tryz.eqlG6_5 (w : World) : (binOp .eql 27 (.iface 60 (.int .i64 6)) (.iface 60 (.int .i64 5))).run Tryz.prog w = .ok (.bool false) w := by kernel_rfl
theorem Tryz.eqlG6_6 (w : World) : (binOp .eql 27 (.iface 60 (.int .i64 6)) (.iface 60 (.int .i64 6))).run Tryz.prog w = .ok (.bool true) w := by kernel_rfl
set_option maxHeartbeats 4000000 in
theorem told_6 (v : Value) (n : Int) (w : World) (h : EnvL w) (hf : FltE w v n 6) : Calls Tryz.prog 10 #[v] w fun e w' => e = .returned (.tuple #[.int .i64 6, .int .i64 n]) ∧ Below w.heap.size w w' := by
  obtain ⟨g, rfl, hg⟩ := hf
  have hgl : g < w.heap.size := (Array.getElem?_eq_some_iff.1 hg).1
  have A1 := Lib.hid (as_told g w h)
  have HG := Lib.hid hg
  clear h hg
  go_enter Tryz.func10, Tryz.ntmps10
  go_wp2_with fail
  refine A1.out.mono ?_; rintro e w1 ⟨rfl, hc, hb⟩
  have hg1 : w1.heap[g]? = _ := (hb.block g hgl).trans HG.out
  have HB := Lib.hid hb
  have I6 := Lib.hid (is_hitG g n 6 w1 Tryz.eqlG6_6 hg1)
  have N1 := Lib.hid (is_notG g n 6 1 w1 Tryz.eqlG6_1 hg1)
  have N2 := Lib.hid (is_notG g n 6 2 w1 Tryz.eqlG6_2 hg1)
  have N3 := Lib.hid (is_notG g n 6 3 w1 Tryz.eqlG6_3 hg1)
  have N4 := Lib.hid (is_notG g n 6 4 w1 Tryz.eqlG6_4 hg1)
  have N5 := Lib.hid (is_notG g n 6 5 w1 Tryz.eqlG6_5 hg1)
  have hc0 : w1.cell? ⟨g, 0, none⟩ = some (.int .i64 n) := by simp [World.cell?, hg1]
  clear hg1 hb
  go_wp2_with fail
  go_loop [5] (fun i => ∃ k : Nat, 1 ≤ k ∧ k ≤ 6 ∧ i = .int .i64 k) (fun i => 6 - (intOf i).toNat)
  case atStart => exact ⟨1, by omega, by omega, rfl⟩
  case round =>
    obtain ⟨k, hk1, hk5, rfl⟩ := hrel
    rcases (show k = 1 ∨ k = 2 ∨ k = 3 ∨ k = 4 ∨ k = 5 ∨ k = 6 by omega) with rfl | rfl | rfl | rfl | rfl | rfl
    · go_wp2_with (go_at_call 23; refine N1.out.mono ?_; rintro e w' ⟨rfl, rfl⟩)
      go_round
      case rel => exact ⟨2, by omega, by omega, rfl⟩
      case measure => simp [intOf]
    · go_wp2_with (go_at_call 23; refine N2.out.mono ?_; rintro e w' ⟨rfl, rfl⟩)
      go_round
      case rel => exact ⟨3, by omega, by omega, rfl⟩
      case measure => simp [intOf]
    · go_wp2_with (go_at_call 23; refine N3.out.mono ?_; rintro e w' ⟨rfl, rfl⟩)
      go_round
      case rel => exact ⟨4, by omega, by omega, rfl⟩
      case measure => simp [intOf]
    · go_wp2_with (go_at_call 23; refine N4.out.mono ?_; rintro e w' ⟨rfl, rfl⟩)
      go_round
      case rel => exact ⟨5, by omega, by omega, rfl⟩
      case measure => simp [intOf]
    · go_wp2_with (go_at_call 23; refine N5.out.mono ?_; rintro e w' ⟨rfl, rfl⟩)
      go_round
      case rel => exact ⟨6, by omega, by omega, rfl⟩
      case measure => simp [intOf]
    · go_wp2_with (go_at_call 23; refine I6.out.mono ?_; rintro e w' ⟨rfl, rfl⟩)
      go_quiet (fail)
      go_wp2_with fail
      go_ret2
      exact ⟨rfl, HB.out.trans ⟨rfl, rfl, rfl, Nat.le_refl _, fun _ _ => rfl⟩⟩
theorem Tryz.eqlG7_1 (w : World) : (binOp .eql 27 (.iface 60 (.int .i64 7)) (.iface 60 (.int .i64 1))).run Tryz.prog w = .ok (.bool false) w := by kernel_rfl
theorem Tryz.eqlG7_2 (w : World) : (binOp .eql 27 (.iface 60 (.int .i64 7)) (.iface 60 (.int .i64 2))).run Tryz.prog w = .ok (.bool false) w := by kernel_rfl
theorem Tryz.eqlG7_3 (w : World) : (binOp .eql 27 (.iface 60 (.int .i64 7)) (.iface 60 (.int .i64 3))).run Tryz.prog w = .ok (.bool false) w := by kernel_rfl
theorem Tryz.eqlG7_4 (w : World) : (binOp .eql 27 (.iface 60 (.int .i64 7)) (.iface 60 (.int .i64 4))).run Tryz.prog w = .ok (.bool false) w := by kernel_rfl
theorem Tryz.eqlG7_5 (w : World) : (binOp .eql 27 (.iface 60 (.int .i64 7)) (.iface 60 (.int .i64 5))).run Tryz.prog w = .ok (.bool false) w := by kernel_rfl
theorem Tryz.eqlG7_6 (w : World) : (binOp .eql 27 (.iface 60 (.int .i64 7)) (.iface 60 (.int .i64 6))).run Tryz.prog w = .ok (.bool false) w := by kernel_rfl
theorem Tryz.eqlG7_7 (w : World) : (binOp .eql 27 (.iface 60 (.int .i64 7)) (.iface 60 (.int .i64 7))).run Tryz.prog w = .ok (.bool true) w := by kernel_rfl
set_option maxHeartbeats 4000000 in
theorem told_7 (v : Value) (n : Int) (w : World) (h : EnvL w) (hf : FltE w v n 7) : Calls Tryz.prog 10 #[v] w fun e w' => e = .returned (.tuple #[.int .i64 7, .int .i64 n]) ∧ Below w.heap.size w w' := by
  obtain ⟨g, rfl, hg⟩ := hf
  have hgl : g < w.heap.size := (Array.getElem?_eq_some_iff.1 hg).1
  have A1 := Lib.hid (as_told g w h)
  have HG := Lib.hid hg
  clear h hg
  go_enter Tryz.func10, Tryz.ntmps10
  go_wp2_with fail
  refine A1.out.mono ?_; rintro e w1 ⟨rfl, hc, hb⟩
  have hg1 : w1.heap[g]? = _ := (hb.block g hgl).trans HG.out
  have HB := Lib.hid hb
  have I7 := Lib.hid (is_hitG g n 7 w1 Tryz.eqlG7_7 hg1)
  have N1 := Lib.hid (is_notG g n 7 1 w1 Tryz.eqlG7_1 hg1)
  have N2 := Lib.hid (is_notG g n 7 2 w1 Tryz.eqlG7_2 hg1)
  have N3 := Lib.hid (is_notG g n 7 3 w1 Tryz.eqlG7_3 hg1)
  have N4 := Lib.hid (is_notG g n 7 4 w1 Tryz.eqlG7_4 hg1)
  have N5 := Lib.hid (is_notG g n 7 5 w1 Tryz.eqlG7_5 hg1)
  have N6 := Lib.hid (is_notG g n 7 6 w1 Tryz.eqlG7_6 hg1)
  have hc0 : w1.cell? ⟨g, 0, none⟩ = some (.int .i64 n) := by simp [World.cell?, hg1]
  clear hg1 hb
  go_wp2_with fail
  go_loop [5] (fun i => ∃ k : Nat, 1 ≤ k ∧ k ≤ 7 ∧ i = .int .i64 k) (fun i => 7 - (intOf i).toNat)
  case atStart => exact ⟨1, by omega, by omega, rfl⟩
  case round =>
    obtain ⟨k, hk1, hk5, rfl⟩ := hrel
    rcases (show k = 1 ∨ k = 2 ∨ k = 3 ∨ k = 4 ∨ k = 5 ∨ k = 6 ∨ k = 7 by omega) with rfl | rfl | rfl | rfl | rfl | rfl | rfl
    · go_wp2_with (go_at_call 23; refine N1.out.mono ?_; rintro e w' ⟨rfl, rfl⟩)
      go_round
      case rel => exact ⟨2, by omega, by omega, rfl⟩
      case measure => simp [intOf]
    · go_wp2_with (go_at_call 23; refine N2.out.mono ?_; rintro e w' ⟨rfl, rfl⟩)
      go_round
      case rel => exact ⟨3, by omega, by omega, rfl⟩
      case measure => simp [intOf]
    · go_wp2_with (go_at_call 23; refine N3.out.mono ?_; rintro e w' ⟨rfl, rfl⟩)
      go_round
      case rel => exact ⟨4, by omega, by omega, rfl⟩
      case measure => simp [intOf]
    · go_wp2_with (go_at_call 23; refine N4.out.mono ?_; rintro e w' ⟨rfl, rfl⟩)
      go_round
      case rel => exact ⟨5, by omega, by omega, rfl⟩
      case measure => simp [intOf]
    · go_wp2_with (go_at_call 23; refine N5.out.mono ?_; rintro e w' ⟨rfl, rfl⟩)
      go_round
      case rel => exact ⟨6, by omega, by omega, rfl⟩
      case measure => simp [intOf]
    · go_wp2_with (go_at_call 23; refine N6.out.mono ?_; rintro e w' ⟨rfl, rfl⟩)
      go_round
      case rel => exact ⟨7, by omega, by omega, rfl⟩
      case measure => simp [intOf]
    · go_wp2_with (go_at_call 23; refine I7.out.mono ?_; rintro e w' ⟨rfl, rfl⟩)
      go_quiet (fail)
      go_wp2_with fail
      go_ret2
      exact ⟨rfl, HB.out.trans ⟨rfl, rfl, rfl, Nat.le_refl _, fun _ _ => rfl⟩⟩
theorem told_nil (w : World) : Calls Tryz.prog 10 #[.nilIface] w fun e w' => e = .returned (.tuple #[.int .i64 0, .int .i64 0]) ∧ w = w' := by
  go_enter Tryz.func10, Tryz.ntmps10
  go_wp2_with fail
  go_ret2
  exact ⟨rfl, rfl⟩
end Go.Proofs.YtfpeecjafccfjaaGreatDoor
