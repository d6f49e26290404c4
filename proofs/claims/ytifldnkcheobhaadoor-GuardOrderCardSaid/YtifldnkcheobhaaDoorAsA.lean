/- What errors.As does at the targets that cause hands it: closed facts on the model's entries. -/
import Derived.Test.YtifldnkcheobhaaDoorCaD
import Derived.LaidEql
import Derived.Stop.Asserts
import Derived.RowKitTokens
namespace Go.Proofs.YtifldnkcheobhaaDoor
open Go.RowKit Go.Extern.Stop Go.Stop Go.Extern
set_option maxRecDepth 100000
set_option linter.unusedVariables false
set_option linter.unusedSimpArgs false
set_option maxHeartbeats 4000000

theorem rlm (z : Sem Value) (f : TypeId → Addr → Nat → Nat → Sem Value) (v : Value) :
    ReflectliteValue.method z f #[v] = (do match ← ReflectliteValue.parts v with | none => z | some (t, a, fl) => f t a fl (fl % 32)) := rfl
theorem rls (v x : Value) : ReflectliteValue.set #[v, x] = (do
    let (some (dst, a, fl), some (src, b, _)) := (← ReflectliteValue.parts v, ← ReflectliteValue.parts x)
      | unsupported (.noEntry "extern/(internal/reflectlite.Value).Set.zeroValue")
    if fl / ReflectliteValue.flagAddr % 2 == 0 then unsupported (.noEntry "extern/(internal/reflectlite.Value).Set.unaddressable")
    let val ← loadVar src b
    if ← Rtype.directlyAssignable dst src then storeVar dst a val
    else if ← Rtype.implements dst src then
      if (← Rtype.kind src) == 20 then
        match val with
        | .nilIface => unsupported (.noEntry "extern/reflectlite: a nil value of one interface type handed on as a value of another")
        | _ => storeVar dst a val
      else storeVar dst a (.iface src val)
    else panicString ("reflectlite.Set: value of type " ++ (← Rtype.spelt src) ++ " is not assignable to type " ++ (← Rtype.spelt dst))
    pure (.tuple #[])) := rfl
theorem typeOf_any (T : TypeId) (v : Value) (w : World) : (ReflectliteType.typeOf #[.iface T v]).run Tryd.prog w = .ok (.iface 150 (.agg #[.pointer (some ⟨6, T, none⟩)])) w := by kernel_rfl
theorem methodKind (D : Nat) (h : Value) (w : World) : (Go.method (D + 20) 150 (.agg #[h]) "Kind").run Tryd.prog w = .ok (102, h) w := by kernel_rfl
theorem methodElem (D : Nat) (h : Value) (w : World) : (Go.method (D + 20) 150 (.agg #[h]) "Elem").run Tryd.prog w = .ok (117, .agg #[h]) w := by kernel_rfl
theorem methodImplements (D : Nat) (h : Value) (w : World) : (Go.method (D + 20) 150 (.agg #[h]) "Implements").run Tryd.prog w = .ok (118, .agg #[h]) w := by kernel_rfl
theorem methodAssignableTo (D : Nat) (h : Value) (w : World) : (Go.method (D + 20) 150 (.agg #[h]) "AssignableTo").run Tryd.prog w = .ok (115, .agg #[h]) w := by kernel_rfl
theorem methodUnwrap (D : Nat) (h : Value) (w : World) : (Go.method (D + 20) 118 h "Unwrap").run Tryd.prog w = .ok (107, h) w := by kernel_rfl

/-! The target **cause.failure. -/
theorem valueOfF (t : Addr) (w : World) : (ReflectliteValue.unpack (.iface 115 (.pointer (some t)))).run Tryd.prog w
    = .ok (.agg #[.pointer (some ⟨6, 115, none⟩), .pointer (some ⟨w.heap.size, 0, none⟩), .int .u64 150]) (w.alloc (.cells #[.pointer (some t)] 115)) := by kernel_rfl
theorem typeF (a : Nat) (w : World) : (ReflectliteValue.methodAny (ReflectliteValue.valueError "reflectlite.Value.Type" 0) (fun t _ _ _ => ReflectliteType.toType t) #[.agg #[.pointer (some ⟨6, 115, none⟩), .pointer (some ⟨a, 0, none⟩), .int .u64 150]]).run Tryd.prog w
    = .ok (.iface 150 (.agg #[.pointer (some ⟨6, 115, none⟩)])) w := by kernel_rfl
theorem kindPF (w : World) : ((ReflectliteType.abiMethod fun t => (fun a : Nat => Value.int IntKind.u8 (a : Int)) <$> Rtype.kind t) #[.pointer (some ⟨6, 115, none⟩)]).run Tryd.prog w = .ok (.int .u8 22) w := by kernel_rfl
theorem kindF (w : World) : ((ReflectliteType.abiMethod fun t => (fun a : Nat => Value.int IntKind.u8 (a : Int)) <$> Rtype.kind t) #[.pointer (some ⟨6, 113, none⟩)]).run Tryd.prog w = .ok (.int .u8 22) w := by kernel_rfl
theorem partsF (a : Nat) (w : World) : (ReflectliteValue.parts (.agg #[.pointer (some ⟨6, 115, none⟩), .pointer (some ⟨a, 0, none⟩), .int .u64 150])).run Tryd.prog w = .ok (some (115, ⟨a, 0, none⟩, 150)) w := by kernel_rfl
theorem isNilF (a : Nat) (p : Addr) (W : World) (ha : W.cell? ⟨a, 0, none⟩ = some (.pointer (some p))) :
    (ReflectliteValue.method (ReflectliteValue.valueError "reflectlite.Value.IsNil" 0) ReflectliteValue.isNil #[.agg #[.pointer (some ⟨6, 115, none⟩), .pointer (some ⟨a, 0, none⟩), .int .u64 150]]).run Tryd.prog W = .ok (.bool false) W := by
  rw [rlm]
  simp only [Sem.run_bind, partsF, Result.andThen]
  simp [ReflectliteValue.isNil, loadVar, isAgg, underlying, Tryd.underlying115, ha, Result.andThen]
theorem elemF (w : World) : (ReflectliteType.method ReflectliteType.elem #[.agg #[.pointer (some ⟨6, 115, none⟩)]]).run Tryd.prog w = .ok (.iface 150 (.agg #[.pointer (some ⟨6, 113, none⟩)])) w := by kernel_rfl
theorem implementsF (w : World) : (ReflectliteType.relation "Implements" ReflectliteType.implements_ #[.agg #[.pointer (some ⟨6, 113, none⟩)], .iface 150 (.agg #[.pointer (some ⟨6, 101, none⟩)])]).run Tryd.prog w = .ok (.bool true) w := by kernel_rfl
theorem assignableF (w : World) : (ReflectliteType.relation "AssignableTo" ReflectliteType.assignableTo #[.agg #[.pointer (some ⟨6, 113, none⟩)], .iface 150 (.agg #[.pointer (some ⟨6, 113, none⟩)])]).run Tryd.prog w = .ok (.bool true) w := by kernel_rfl
theorem valueOfEF (e : Addr) (w : World) : (ReflectliteValue.unpack (.iface 113 (.pointer (some e)))).run Tryd.prog w
    = .ok (.agg #[.pointer (some ⟨6, 113, none⟩), .pointer (some ⟨w.heap.size, 0, none⟩), .int .u64 150]) (w.alloc (.cells #[.pointer (some e)] 113)) := by kernel_rfl
theorem elemOfF (w : World) : (Rtype.elem? 115).run Tryd.prog w = .ok (some 113) w := by kernel_rfl
theorem mkF (p : Addr) (w : World) : (ReflectliteValue.mk 113 p ReflectliteValue.flagAddr).run Tryd.prog w = .ok (.agg #[.pointer (some ⟨6, 113, none⟩), .pointer (some p), .int .u64 406]) w := by kernel_rfl
theorem elemVF (a : Nat) (p : Addr) (W : World) (ha : W.cell? ⟨a, 0, none⟩ = some (.pointer (some p))) :
    (ReflectliteValue.method (ReflectliteValue.valueError "reflectlite.Value.Elem" 0) ReflectliteValue.elem #[.agg #[.pointer (some ⟨6, 115, none⟩), .pointer (some ⟨a, 0, none⟩), .int .u64 150]]).run Tryd.prog W
      = .ok (.agg #[.pointer (some ⟨6, 113, none⟩), .pointer (some p), .int .u64 406]) W := by
  rw [rlm]
  simp only [Sem.run_bind, partsF, Result.andThen]
  simp [ReflectliteValue.elem, loadVar, isAgg, underlying, Tryd.underlying115, ha, Result.andThen, elemOfF, mkF]
theorem partsAF (a : Addr) (w : World) : (ReflectliteValue.parts (.agg #[.pointer (some ⟨6, 113, none⟩), .pointer (some a), .int .u64 406])).run Tryd.prog w = .ok (some (113, a, 406)) w := by kernel_rfl
theorem partsEF (a : Nat) (w : World) : (ReflectliteValue.parts (.agg #[.pointer (some ⟨6, 113, none⟩), .pointer (some ⟨a, 0, none⟩), .int .u64 150])).run Tryd.prog w = .ok (some (113, ⟨a, 0, none⟩, 150)) w := by kernel_rfl
theorem directF (w : World) : (Rtype.directlyAssignable 113 113).run Tryd.prog w = .ok true w := by kernel_rfl
theorem setF (ta : Addr) (b : Nat) (e : Addr) (old : Value) (W : World) (hb : W.cell? ⟨b, 0, none⟩ = some (.pointer (some e))) (ht : W.cell? ta = some old) (hf : W.frozen? ta = false) :
    (ReflectliteValue.set #[.agg #[.pointer (some ⟨6, 113, none⟩), .pointer (some ta), .int .u64 406], .agg #[.pointer (some ⟨6, 113, none⟩), .pointer (some ⟨b, 0, none⟩), .int .u64 150]]).run Tryd.prog W
      = .ok (.tuple #[]) (W.setCell ta (.pointer (some e))) := by
  rw [rls]
  simp only [Sem.run_bind, partsAF, partsEF, Result.andThen]
  simp [ReflectliteValue.flagAddr, loadVar, isAgg, underlying, Tryd.underlying113, hb, Result.andThen, directF, storeVar, Value.cells, storeCells, Addr.add]
  rw [run_store Tryd.prog W ta _ _ (by rfl)]
  simp [ht, hf]

/-! The target **cause.crash. -/
theorem valueOfC (t : Addr) (w : World) : (ReflectliteValue.unpack (.iface 119 (.pointer (some t)))).run Tryd.prog w
    = .ok (.agg #[.pointer (some ⟨6, 119, none⟩), .pointer (some ⟨w.heap.size, 0, none⟩), .int .u64 150]) (w.alloc (.cells #[.pointer (some t)] 119)) := by kernel_rfl
theorem typeC (a : Nat) (w : World) : (ReflectliteValue.methodAny (ReflectliteValue.valueError "reflectlite.Value.Type" 0) (fun t _ _ _ => ReflectliteType.toType t) #[.agg #[.pointer (some ⟨6, 119, none⟩), .pointer (some ⟨a, 0, none⟩), .int .u64 150]]).run Tryd.prog w
    = .ok (.iface 150 (.agg #[.pointer (some ⟨6, 119, none⟩)])) w := by kernel_rfl
theorem kindPC (w : World) : ((ReflectliteType.abiMethod fun t => (fun a : Nat => Value.int IntKind.u8 (a : Int)) <$> Rtype.kind t) #[.pointer (some ⟨6, 119, none⟩)]).run Tryd.prog w = .ok (.int .u8 22) w := by kernel_rfl
theorem kindC (w : World) : ((ReflectliteType.abiMethod fun t => (fun a : Nat => Value.int IntKind.u8 (a : Int)) <$> Rtype.kind t) #[.pointer (some ⟨6, 118, none⟩)]).run Tryd.prog w = .ok (.int .u8 22) w := by kernel_rfl
theorem partsC (a : Nat) (w : World) : (ReflectliteValue.parts (.agg #[.pointer (some ⟨6, 119, none⟩), .pointer (some ⟨a, 0, none⟩), .int .u64 150])).run Tryd.prog w = .ok (some (119, ⟨a, 0, none⟩, 150)) w := by kernel_rfl
theorem isNilC (a : Nat) (p : Addr) (W : World) (ha : W.cell? ⟨a, 0, none⟩ = some (.pointer (some p))) :
    (ReflectliteValue.method (ReflectliteValue.valueError "reflectlite.Value.IsNil" 0) ReflectliteValue.isNil #[.agg #[.pointer (some ⟨6, 119, none⟩), .pointer (some ⟨a, 0, none⟩), .int .u64 150]]).run Tryd.prog W = .ok (.bool false) W := by
  rw [rlm]
  simp only [Sem.run_bind, partsC, Result.andThen]
  simp [ReflectliteValue.isNil, loadVar, isAgg, underlying, Tryd.underlying119, ha, Result.andThen]
theorem elemC (w : World) : (ReflectliteType.method ReflectliteType.elem #[.agg #[.pointer (some ⟨6, 119, none⟩)]]).run Tryd.prog w = .ok (.iface 150 (.agg #[.pointer (some ⟨6, 118, none⟩)])) w := by kernel_rfl
theorem implementsC (w : World) : (ReflectliteType.relation "Implements" ReflectliteType.implements_ #[.agg #[.pointer (some ⟨6, 118, none⟩)], .iface 150 (.agg #[.pointer (some ⟨6, 101, none⟩)])]).run Tryd.prog w = .ok (.bool true) w := by kernel_rfl
theorem assignableC (w : World) : (ReflectliteType.relation "AssignableTo" ReflectliteType.assignableTo #[.agg #[.pointer (some ⟨6, 118, none⟩)], .iface 150 (.agg #[.pointer (some ⟨6, 118, none⟩)])]).run Tryd.prog w = .ok (.bool true) w := by kernel_rfl
theorem valueOfEC (e : Addr) (w : World) : (ReflectliteValue.unpack (.iface 118 (.pointer (some e)))).run Tryd.prog w
    = .ok (.agg #[.pointer (some ⟨6, 118, none⟩), .pointer (some ⟨w.heap.size, 0, none⟩), .int .u64 150]) (w.alloc (.cells #[.pointer (some e)] 118)) := by kernel_rfl
theorem elemOfC (w : World) : (Rtype.elem? 119).run Tryd.prog w = .ok (some 118) w := by kernel_rfl
theorem mkC (p : Addr) (w : World) : (ReflectliteValue.mk 118 p ReflectliteValue.flagAddr).run Tryd.prog w = .ok (.agg #[.pointer (some ⟨6, 118, none⟩), .pointer (some p), .int .u64 406]) w := by kernel_rfl
theorem elemVC (a : Nat) (p : Addr) (W : World) (ha : W.cell? ⟨a, 0, none⟩ = some (.pointer (some p))) :
    (ReflectliteValue.method (ReflectliteValue.valueError "reflectlite.Value.Elem" 0) ReflectliteValue.elem #[.agg #[.pointer (some ⟨6, 119, none⟩), .pointer (some ⟨a, 0, none⟩), .int .u64 150]]).run Tryd.prog W
      = .ok (.agg #[.pointer (some ⟨6, 118, none⟩), .pointer (some p), .int .u64 406]) W := by
  rw [rlm]
  simp only [Sem.run_bind, partsC, Result.andThen]
  simp [ReflectliteValue.elem, loadVar, isAgg, underlying, Tryd.underlying119, ha, Result.andThen, elemOfC, mkC]
theorem partsAC (a : Addr) (w : World) : (ReflectliteValue.parts (.agg #[.pointer (some ⟨6, 118, none⟩), .pointer (some a), .int .u64 406])).run Tryd.prog w = .ok (some (118, a, 406)) w := by kernel_rfl
theorem partsEC (a : Nat) (w : World) : (ReflectliteValue.parts (.agg #[.pointer (some ⟨6, 118, none⟩), .pointer (some ⟨a, 0, none⟩), .int .u64 150])).run Tryd.prog w = .ok (some (118, ⟨a, 0, none⟩, 150)) w := by kernel_rfl
theorem directC (w : World) : (Rtype.directlyAssignable 118 118).run Tryd.prog w = .ok true w := by kernel_rfl
theorem setC (ta : Addr) (b : Nat) (e : Addr) (old : Value) (W : World) (hb : W.cell? ⟨b, 0, none⟩ = some (.pointer (some e))) (ht : W.cell? ta = some old) (hf : W.frozen? ta = false) :
    (ReflectliteValue.set #[.agg #[.pointer (some ⟨6, 118, none⟩), .pointer (some ta), .int .u64 406], .agg #[.pointer (some ⟨6, 118, none⟩), .pointer (some ⟨b, 0, none⟩), .int .u64 150]]).run Tryd.prog W
      = .ok (.tuple #[]) (W.setCell ta (.pointer (some e))) := by
  rw [rls]
  simp only [Sem.run_bind, partsAC, partsEC, Result.andThen]
  simp [ReflectliteValue.flagAddr, loadVar, isAgg, underlying, Tryd.underlying118, hb, Result.andThen, directC, storeVar, Value.cells, storeCells, Addr.add]
  rw [run_store Tryd.prog W ta _ _ (by rfl)]
  simp [ht, hf]

/-- No failure stands where a crash, or what Go met, does. -/
theorem noF (T : TypeId) (hTT : T = 118 ∨ T = 8 ∨ T = 10 ∨ T = 11 ∨ T = 15 ∨ T = 16) (w : World) :
    (ReflectliteType.relation "AssignableTo" ReflectliteType.assignableTo #[.agg #[.pointer (some ⟨6, T, none⟩)], .iface 150 (.agg #[.pointer (some ⟨6, 113, none⟩)])]).run Tryd.prog w = .ok (.bool false) w := by
  rcases hTT with rfl | rfl | rfl | rfl | rfl | rfl <;> kernel_rfl
end Go.Proofs.YtifldnkcheobhaaDoor
