/-
  errors.As at the program's two targets: a fault.failure and a *fault.stage. Closed facts on the model's entries for internal/reflectlite at this program's types, and small laws on those that read or write memory.
-/
import Derived.Test.YthiaeppaaahlgaaGreatDoorIs
set_option linter.unusedVariables false
set_option linter.unusedSimpArgs false
namespace Go.Proofs.YthiaeppaaahlgaaGreatDoor
open Go.RowKit Go.Extern.Stop Go.Stop Go.Extern

abbrev hF : Value := .pointer (some ⟨14, 42, none⟩)
abbrev hPF : Value := .pointer (some ⟨14, 44, none⟩)
abbrev hS : Value := .pointer (some ⟨14, 53, none⟩)
abbrev hPS : Value := .pointer (some ⟨14, 68, none⟩)
abbrev hE : Value := .pointer (some ⟨14, 39, none⟩)

theorem valueOfPF (t : Addr) (w : World) : (ReflectliteValue.unpack (.iface 44 (.pointer (some t)))).run Tryz.prog w
    = .ok (.agg #[hPF, .pointer (some ⟨w.heap.size, 0, none⟩), .int .u64 150]) (w.alloc (.cells #[.pointer (some t)] 44)) := by kernel_rfl
theorem valueOfPS (t : Addr) (w : World) : (ReflectliteValue.unpack (.iface 68 (.pointer (some t)))).run Tryz.prog w
    = .ok (.agg #[hPS, .pointer (some ⟨w.heap.size, 0, none⟩), .int .u64 150]) (w.alloc (.cells #[.pointer (some t)] 68)) := by kernel_rfl
theorem valueOfF (c a : Int) (w : World) : (ReflectliteValue.unpack (.iface 42 (.agg #[.int .i64 c, .int .i64 a]))).run Tryz.prog w
    = .ok (.agg #[hF, .pointer (some ⟨w.heap.size, 0, none⟩), .int .u64 153]) (w.alloc (.cells #[.int .i64 c, .int .i64 a] 42)) := by kernel_rfl
theorem valueOfS (e : Addr) (w : World) : (ReflectliteValue.unpack (.iface 53 (.pointer (some e)))).run Tryz.prog w
    = .ok (.agg #[hS, .pointer (some ⟨w.heap.size, 0, none⟩), .int .u64 150]) (w.alloc (.cells #[.pointer (some e)] 53)) := by kernel_rfl
theorem typePF (a : Addr) (w : World) : (ReflectliteValue.methodAny (ReflectliteValue.valueError "reflectlite.Value.Type" 0) (fun t _ _ _ => ReflectliteType.toType t) #[.agg #[hPF, .pointer (some a), .int .u64 150]]).run Tryz.prog w
    = .ok (.iface 76 (.agg #[hPF])) w := by kernel_rfl
theorem typePS (a : Addr) (w : World) : (ReflectliteValue.methodAny (ReflectliteValue.valueError "reflectlite.Value.Type" 0) (fun t _ _ _ => ReflectliteType.toType t) #[.agg #[hPS, .pointer (some a), .int .u64 150]]).run Tryz.prog w
    = .ok (.iface 76 (.agg #[hPS])) w := by kernel_rfl
theorem mKind (h : Value) (w : World) : (Go.method 284 76 (.agg #[h]) "Kind").run Tryz.prog w = .ok (81, h) w := by kernel_rfl
theorem mElem (h : Value) (w : World) : (Go.method 284 76 (.agg #[h]) "Elem").run Tryz.prog w = .ok (98, .agg #[h]) w := by kernel_rfl
theorem mImpl (h : Value) (w : World) : (Go.method 284 76 (.agg #[h]) "Implements").run Tryz.prog w = .ok (99, .agg #[h]) w := by kernel_rfl
theorem mAssign (h : Value) (w : World) : (Go.method 284 76 (.agg #[h]) "AssignableTo").run Tryz.prog w = .ok (96, .agg #[h]) w := by kernel_rfl
theorem kindPF (w : World) : ((ReflectliteType.abiMethod fun t => (fun a : Nat => Value.int IntKind.u8 (a : Int)) <$> Rtype.kind t) #[hPF]).run Tryz.prog w = .ok (.int .u8 22) w := by kernel_rfl
theorem kindPS (w : World) : ((ReflectliteType.abiMethod fun t => (fun a : Nat => Value.int IntKind.u8 (a : Int)) <$> Rtype.kind t) #[hPS]).run Tryz.prog w = .ok (.int .u8 22) w := by kernel_rfl
theorem kindF (w : World) : ((ReflectliteType.abiMethod fun t => (fun a : Nat => Value.int IntKind.u8 (a : Int)) <$> Rtype.kind t) #[hF]).run Tryz.prog w = .ok (.int .u8 25) w := by kernel_rfl
theorem kindS (w : World) : ((ReflectliteType.abiMethod fun t => (fun a : Nat => Value.int IntKind.u8 (a : Int)) <$> Rtype.kind t) #[hS]).run Tryz.prog w = .ok (.int .u8 22) w := by kernel_rfl
theorem elemPF (w : World) : (ReflectliteType.method ReflectliteType.elem #[.agg #[hPF]]).run Tryz.prog w = .ok (.iface 76 (.agg #[hF])) w := by kernel_rfl
theorem elemPS (w : World) : (ReflectliteType.method ReflectliteType.elem #[.agg #[hPS]]).run Tryz.prog w = .ok (.iface 76 (.agg #[hS])) w := by kernel_rfl
theorem implF (w : World) : (ReflectliteType.relation "Implements" ReflectliteType.implements_ #[.agg #[hF], .iface 76 (.agg #[hE])]).run Tryz.prog w = .ok (.bool true) w := by kernel_rfl
theorem implS (w : World) : (ReflectliteType.relation "Implements" ReflectliteType.implements_ #[.agg #[hS], .iface 76 (.agg #[hE])]).run Tryz.prog w = .ok (.bool true) w := by kernel_rfl
theorem tyOfF (v : Value) (w : World) : (ReflectliteType.typeOf #[.iface 42 v]).run Tryz.prog w = .ok (.iface 76 (.agg #[hF])) w := by kernel_rfl
theorem tyOfS (v : Value) (w : World) : (ReflectliteType.typeOf #[.iface 53 v]).run Tryz.prog w = .ok (.iface 76 (.agg #[hS])) w := by kernel_rfl
theorem asgFF (w : World) : (ReflectliteType.relation "AssignableTo" ReflectliteType.assignableTo #[.agg #[hF], .iface 76 (.agg #[hF])]).run Tryz.prog w = .ok (.bool true) w := by kernel_rfl
theorem asgSS (w : World) : (ReflectliteType.relation "AssignableTo" ReflectliteType.assignableTo #[.agg #[hS], .iface 76 (.agg #[hS])]).run Tryz.prog w = .ok (.bool true) w := by kernel_rfl
theorem asgSF (w : World) : (ReflectliteType.relation "AssignableTo" ReflectliteType.assignableTo #[.agg #[hS], .iface 76 (.agg #[hF])]).run Tryz.prog w = .ok (.bool false) w := by kernel_rfl
theorem asgFS (w : World) : (ReflectliteType.relation "AssignableTo" ReflectliteType.assignableTo #[.agg #[hF], .iface 76 (.agg #[hS])]).run Tryz.prog w = .ok (.bool false) w := by kernel_rfl
theorem noAsF (v : Value) (xT : TypeId) (w : World) : (Instr.typeAssert (.iface 42 v) xT 80 true).run Tryz.prog w = .ok (.tuple #[.nilIface, .bool false]) w := run_typeAssert_lacksB Tryz.underlying80 (by kernel_rfl) (by kernel_rfl) v xT w
theorem noAsS (v : Value) (xT : TypeId) (w : World) : (Instr.typeAssert (.iface 53 v) xT 80 true).run Tryz.prog w = .ok (.tuple #[.nilIface, .bool false]) w := run_typeAssert_lacksB Tryz.underlying80 (by kernel_rfl) (by kernel_rfl) v xT w

/-! ### the entries that read or write memory -/
theorem rlm (z : Sem Value) (f : TypeId → Addr → Nat → Nat → Sem Value) (v : Value) :
    ReflectliteValue.method z f #[v] = (do match ← ReflectliteValue.parts v with | none => z | some (t, a, fl) => f t a fl (fl % 32)) := rfl
theorem partsPF (a : Addr) (w : World) : (ReflectliteValue.parts (.agg #[hPF, .pointer (some a), .int .u64 150])).run Tryz.prog w = .ok (some (44, a, 150)) w := by kernel_rfl
theorem partsPS (a : Addr) (w : World) : (ReflectliteValue.parts (.agg #[hPS, .pointer (some a), .int .u64 150])).run Tryz.prog w = .ok (some (68, a, 150)) w := by kernel_rfl
theorem partsFa (a : Addr) (w : World) : (ReflectliteValue.parts (.agg #[hF, .pointer (some a), .int .u64 409])).run Tryz.prog w = .ok (some (42, a, 409)) w := by kernel_rfl
theorem partsF (a : Addr) (w : World) : (ReflectliteValue.parts (.agg #[hF, .pointer (some a), .int .u64 153])).run Tryz.prog w = .ok (some (42, a, 153)) w := by kernel_rfl
theorem partsSa (a : Addr) (w : World) : (ReflectliteValue.parts (.agg #[hS, .pointer (some a), .int .u64 406])).run Tryz.prog w = .ok (some (53, a, 406)) w := by kernel_rfl
theorem partsS (a : Addr) (w : World) : (ReflectliteValue.parts (.agg #[hS, .pointer (some a), .int .u64 150])).run Tryz.prog w = .ok (some (53, a, 150)) w := by kernel_rfl
theorem isNilPF (a p : Addr) (W : World) (ha : W.cell? a = some (.pointer (some p))) :
    (ReflectliteValue.method (ReflectliteValue.valueError "reflectlite.Value.IsNil" 0) ReflectliteValue.isNil #[.agg #[hPF, .pointer (some a), .int .u64 150]]).run Tryz.prog W = .ok (.bool false) W := by
  rw [rlm]
  simp only [Sem.run_bind, partsPF, Result.andThen]
  simp [ReflectliteValue.isNil, loadVar, isAgg, underlying, Tryz.underlying44, ha, Result.andThen]
theorem isNilPS (a p : Addr) (W : World) (ha : W.cell? a = some (.pointer (some p))) :
    (ReflectliteValue.method (ReflectliteValue.valueError "reflectlite.Value.IsNil" 0) ReflectliteValue.isNil #[.agg #[hPS, .pointer (some a), .int .u64 150]]).run Tryz.prog W = .ok (.bool false) W := by
  rw [rlm]
  simp only [Sem.run_bind, partsPS, Result.andThen]
  simp [ReflectliteValue.isNil, loadVar, isAgg, underlying, Tryz.underlying68, ha, Result.andThen]
theorem elemOfPF (w : World) : (Rtype.elem? 44).run Tryz.prog w = .ok (some 42) w := by kernel_rfl
theorem elemOfPS (w : World) : (Rtype.elem? 68).run Tryz.prog w = .ok (some 53) w := by kernel_rfl
theorem mkF (p : Addr) (w : World) : (ReflectliteValue.mk 42 p ReflectliteValue.flagAddr).run Tryz.prog w = .ok (.agg #[hF, .pointer (some p), .int .u64 409]) w := by kernel_rfl
theorem mkS (p : Addr) (w : World) : (ReflectliteValue.mk 53 p ReflectliteValue.flagAddr).run Tryz.prog w = .ok (.agg #[hS, .pointer (some p), .int .u64 406]) w := by kernel_rfl
theorem elemVPF (a p : Addr) (W : World) (ha : W.cell? a = some (.pointer (some p))) :
    (ReflectliteValue.method (ReflectliteValue.valueError "reflectlite.Value.Elem" 0) ReflectliteValue.elem #[.agg #[hPF, .pointer (some a), .int .u64 150]]).run Tryz.prog W
      = .ok (.agg #[hF, .pointer (some p), .int .u64 409]) W := by
  rw [rlm]
  simp only [Sem.run_bind, partsPF, Result.andThen]
  simp [ReflectliteValue.elem, loadVar, isAgg, underlying, Tryz.underlying44, ha, Result.andThen, elemOfPF, mkF]
theorem elemVPS (a p : Addr) (W : World) (ha : W.cell? a = some (.pointer (some p))) :
    (ReflectliteValue.method (ReflectliteValue.valueError "reflectlite.Value.Elem" 0) ReflectliteValue.elem #[.agg #[hPS, .pointer (some a), .int .u64 150]]).run Tryz.prog W
      = .ok (.agg #[hS, .pointer (some p), .int .u64 406]) W := by
  rw [rlm]
  simp only [Sem.run_bind, partsPS, Result.andThen]
  simp [ReflectliteValue.elem, loadVar, isAgg, underlying, Tryz.underlying68, ha, Result.andThen, elemOfPS, mkS]
theorem rls (v x : Value) : ReflectliteValue.set #[v, x] = (do
    let (some (dst, a, fl), some (src, b, _)) := (← ReflectliteValue.parts v, ← ReflectliteValue.parts x)
      | unsupported (.noEntry "extern/(internal/reflectlite.Value).Set.zeroValue")
    if fl / ReflectliteValue.flagAddr % 2 == 0 then unsupported (.noEntry "extern/(internal/reflectlite.Value).Set.unaddressable")
    let val ← loadVar src b
    if ← Rtype.directlyAssignable dst src then storeVar dst a val
    else if ← Rtype.implements dst src then
      if (← Rtype.kind src) == 20 then
        match val with
        | .nilIface => unsupported (.noEntry "extern/reflectlite: a nil value of one interface type handed on as a value of another")
        | _ => storeVar dst a val
      else storeVar dst a (.iface src val)
    else panicString ("reflectlite.Set: value of type " ++ (← Rtype.spelt src) ++ " is not assignable to type " ++ (← Rtype.spelt dst))
    pure (.tuple #[])) := rfl
theorem directFF (w : World) : (Rtype.directlyAssignable 42 42).run Tryz.prog w = .ok true w := by kernel_rfl
theorem directSS (w : World) : (Rtype.directlyAssignable 53 53).run Tryz.prog w = .ok true w := by kernel_rfl
/-- (Value).Set: the *fault.stage variable at 'ta' gets what the Value's own variable 'b' holds. -/
theorem setS (ta b e : Addr) (old : Value) (W : World) (hb : W.cell? b = some (.pointer (some e))) (ht : W.cell? ta = some old) (hf : W.frozen? ta = false) :
    (ReflectliteValue.set #[.agg #[hS, .pointer (some ta), .int .u64 406], .agg #[hS, .pointer (some b), .int .u64 150]]).run Tryz.prog W
      = .ok (.tuple #[]) (W.setCell ta (.pointer (some e))) := by
  rw [rls]
  simp only [Sem.run_bind, partsSa, partsS, Result.andThen]
  simp [ReflectliteValue.flagAddr, loadVar, isAgg, underlying, Tryz.underlying53, hb, Result.andThen, directSS, storeVar, Value.cells, storeCells, Addr.add]
  rw [run_store Tryz.prog W ta _ _ (by rfl)]
  simp [ht, hf]
/-- (Value).Set: the fault.failure variable at 'ta' gets what the Value's own variable 'b' holds. -/
theorem setF (ta b : Nat) (c a : Int) (o0 o1 : Value) (W : World) (hb0 : W.cell? ⟨b, 0, none⟩ = some (.int .i64 c)) (hb1 : W.cell? ⟨b, 1, none⟩ = some (.int .i64 a)) (ht0 : W.cell? ⟨ta, 0, none⟩ = some o0) (ht1 : W.cell? ⟨ta, 1, none⟩ = some o1) (hf : W.frozen? ⟨ta, 0, none⟩ = false) (hf1 : W.frozen? ⟨ta, 1, none⟩ = false) :
    (ReflectliteValue.set #[.agg #[hF, .pointer (some ⟨ta, 0, none⟩), .int .u64 409], .agg #[hF, .pointer (some ⟨b, 0, none⟩), .int .u64 153]]).run Tryz.prog W
      = .ok (.tuple #[]) ((W.setCell ⟨ta, 0, none⟩ (.int .i64 c)).setCell ⟨ta, 1, none⟩ (.int .i64 a)) := by
  have hl : (loadCells ⟨b, 0, none⟩ 2).run Tryz.prog W = .ok #[.int .i64 c, .int .i64 a] W := by
    refine run_loadCells_list W ⟨b, 0, none⟩ [.int .i64 c, .int .i64 a] ?_
    intro j v hj
    match j, hj with
    | 0, hj => injection hj with hj; subst hj; exact hb0
    | 1, hj => injection hj with hj; subst hj; exact hb1
    | j + 2, hj => cases hj
  have h1 : (W.setCell ⟨ta, 0, none⟩ (.int .i64 c)).cell? ⟨ta, 1, none⟩ = some o1 := by
    rw [World.cell?_setCell_other _ _ _ _ (by intro h; injection h with _ h _; cases h)]; exact ht1
  rw [rls]
  simp only [Sem.run_bind, partsFa, partsF, Result.andThen]
  simp [ReflectliteValue.flagAddr, loadVar, isAgg, underlying, Tryz.underlying42, hl, Result.andThen, directFF, storeVar, Value.cells, storeCells, Addr.add]
  rw [run_store Tryz.prog W _ _ _ (by rfl)]
  simp [ht0, hf]
  rw [run_store Tryz.prog _ _ _ _ (by rfl)]
  simp [h1, hf1]
end Go.Proofs.YthiaeppaaahlgaaGreatDoor
