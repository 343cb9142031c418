/- What the reflecting entries answer of a fault and of a pointer to one. -/
import Derived.Test.YtbjjgkicjnoegaaDoorLine
import Derived.LaidEql
import Derived.Stop.Asserts
import Derived.RowKitTokens
namespace Go.Proofs.YtbjjgkicjnoegaaDoor
open Go.RowKit Go.Extern.Stop Go.Stop Go.Extern

/-- A reflected value's type, place and flags; a type's handle. -/
abbrev rv (t : Nat) (a : Addr) (fl : Int) : Value := .agg #[.pointer (some ⟨4, t, none⟩), .pointer (some a), .int .u64 fl]
abbrev rt (t : Nat) : Value := .agg #[.pointer (some ⟨4, t, none⟩)]

/-! What the reflecting entries answer at these two types: 60, a fault; 62, a pointer to one; 57, error; 100, a type. -/
theorem valueOf62 (t : Addr) (w : World) : (ReflectliteValue.unpack (.iface 62 (.pointer (some t)))).run Tryd.prog w = .ok (rv 62 ⟨w.heap.size, 0, none⟩ 150) (w.alloc (.cells #[.pointer (some t)] 62)) := by kernel_rfl
theorem valueOf60 (n : Int) (w : World) : (ReflectliteValue.unpack (.iface 60 (.int .i64 n))).run Tryd.prog w = .ok (rv 60 ⟨w.heap.size, 0, none⟩ 130) (w.alloc (.cells #[.int .i64 n] 60)) := by kernel_rfl
theorem type62 (a : Addr) (w : World) : (ReflectliteValue.methodAny (ReflectliteValue.valueError "reflectlite.Value.Type" 0) (fun t _ _ _ => ReflectliteType.toType t) #[rv 62 a 150]).run Tryd.prog w = .ok (.iface 100 (rt 62)) w := by kernel_rfl
theorem methodKind (h : Value) (w : World) : (Go.method 271 100 (.agg #[h]) "Kind").run Tryd.prog w = .ok (66, h) w := by kernel_rfl
theorem methodElem (h : Value) (w : World) : (Go.method 271 100 (.agg #[h]) "Elem").run Tryd.prog w = .ok (92, .agg #[h]) w := by kernel_rfl
theorem methodImplements (h : Value) (w : World) : (Go.method 271 100 (.agg #[h]) "Implements").run Tryd.prog w = .ok (93, .agg #[h]) w := by kernel_rfl
theorem methodAssignableTo (h : Value) (w : World) : (Go.method 271 100 (.agg #[h]) "AssignableTo").run Tryd.prog w = .ok (90, .agg #[h]) w := by kernel_rfl
theorem kindOf62 (w : World) : ((ReflectliteType.abiMethod fun t => (fun a : Nat => Value.int IntKind.u8 (a : Int)) <$> Rtype.kind t) #[.pointer (some ⟨4, 62, none⟩)]).run Tryd.prog w = .ok (.int .u8 22) w := by kernel_rfl
theorem kindOf60 (w : World) : ((ReflectliteType.abiMethod fun t => (fun a : Nat => Value.int IntKind.u8 (a : Int)) <$> Rtype.kind t) #[.pointer (some ⟨4, 60, none⟩)]).run Tryd.prog w = .ok (.int .u8 2) w := by kernel_rfl
theorem elemOf62 (w : World) : (ReflectliteType.method ReflectliteType.elem #[rt 62]).run Tryd.prog w = .ok (.iface 100 (rt 60)) w := by kernel_rfl
theorem implements60 (w : World) : (ReflectliteType.relation "Implements" ReflectliteType.implements_ #[rt 60, .iface 100 (rt 57)]).run Tryd.prog w = .ok (.bool true) w := by kernel_rfl
theorem typeOf60 (v : Value) (w : World) : (ReflectliteType.typeOf #[.iface 60 v]).run Tryd.prog w = .ok (.iface 100 (rt 60)) w := by kernel_rfl
theorem assignable60 (w : World) : (ReflectliteType.relation "AssignableTo" ReflectliteType.assignableTo #[rt 60, .iface 100 (rt 60)]).run Tryd.prog w = .ok (.bool true) w := by kernel_rfl
theorem parts62 (a : Addr) (w : World) : (ReflectliteValue.parts (rv 62 a 150)).run Tryd.prog w = .ok (some (62, a, 150)) w := by kernel_rfl
theorem parts60 (a : Addr) (w : World) : (ReflectliteValue.parts (rv 60 a 130)).run Tryd.prog w = .ok (some (60, a, 130)) w := by kernel_rfl
theorem parts60a (a : Addr) (w : World) : (ReflectliteValue.parts (rv 60 a 386)).run Tryd.prog w = .ok (some (60, a, 386)) w := by kernel_rfl
theorem rtElem62 (w : World) : (Rtype.elem? 62).run Tryd.prog w = .ok (some 60) w := by kernel_rfl
theorem mk60 (p : Addr) (w : World) : (ReflectliteValue.mk 60 p ReflectliteValue.flagAddr).run Tryd.prog w = .ok (rv 60 p 386) w := by kernel_rfl
theorem direct60 (w : World) : (Rtype.directlyAssignable 60 60).run Tryd.prog w = .ok true w := by kernel_rfl

theorem isNil62 (a p : Addr) (W : World) (ha : W.cell? a = some (.pointer (some p))) :
    (ReflectliteValue.method (ReflectliteValue.valueError "reflectlite.Value.IsNil" 0) ReflectliteValue.isNil #[rv 62 a 150]).run Tryd.prog W = .ok (.bool false) W := by
  change (ReflectliteValue.parts (rv 62 a 150) >>= _).run Tryd.prog W = _
  simp only [Sem.run_bind, parts62, Result.andThen]
  simp [ReflectliteValue.isNil, loadVar, isAgg, underlying, Tryd.underlying62, ha, Result.andThen]
theorem elemV62 (a p : Addr) (W : World) (ha : W.cell? a = some (.pointer (some p))) :
    (ReflectliteValue.method (ReflectliteValue.valueError "reflectlite.Value.Elem" 0) ReflectliteValue.elem #[rv 62 a 150]).run Tryd.prog W = .ok (rv 60 p 386) W := by
  change (ReflectliteValue.parts (rv 62 a 150) >>= _).run Tryd.prog W = _
  simp only [Sem.run_bind, parts62, Result.andThen]
  simp [ReflectliteValue.elem, loadVar, isAgg, underlying, Tryd.underlying62, ha, Result.andThen, rtElem62, mk60]
theorem set60 (ta b : Addr) (n : Int) (old : Value) (W : World) (hb : W.cell? b = some (.int .i64 n)) (ht : W.cell? ta = some old) (hf : W.frozen? ta = false) :
    (ReflectliteValue.set #[rv 60 ta 386, rv 60 b 130]).run Tryd.prog W = .ok (.tuple #[]) (W.setCell ta (.int .i64 n)) := by
  change (ReflectliteValue.parts (rv 60 ta 386) >>= fun p => ReflectliteValue.parts (rv 60 b 130) >>= _).run Tryd.prog W = _
  simp only [Sem.run_bind, parts60a, parts60, Result.andThen]
  simp [ReflectliteValue.flagAddr, loadVar, isAgg, underlying, Tryd.underlying60, hb, Result.andThen, direct60, storeVar, Value.cells, storeCells, Addr.add]
  rw [run_store Tryd.prog W ta _ _ (by rfl)]
  simp [ht, hf]

end Go.Proofs.YtbjjgkicjnoegaaDoor
