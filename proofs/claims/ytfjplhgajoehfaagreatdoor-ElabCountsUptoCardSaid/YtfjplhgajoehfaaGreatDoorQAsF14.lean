/-
  errors.As at the program's target, an elab.failure, and at a chain of contexts.
-/
import Derived.Stop.Asserts
import Derived.Laws.Externs
import Derived.Test.YtfjplhgajoehfaaGreatDoorQSrc14
set_option linter.unusedVariables false
set_option linter.unusedSimpArgs false
namespace Go.Proofs.YtfjplhgajoehfaaGreatDoor
open Go.RowKit Go.Extern.Stop Go.Stop Go.Extern

abbrev hW14 : Value := .pointer (some ⟨7, 134, none⟩)
abbrev hF : Value := .pointer (some ⟨7, 69, none⟩)
abbrev hPF : Value := .pointer (some ⟨7, 74, none⟩)
abbrev hE : Value := .pointer (some ⟨7, 72, none⟩)
theorem valueOfPF (t : Addr) (w : World) : (ReflectliteValue.unpack (.iface 74 (.pointer (some t)))).run Tryz.prog w
    = .ok (.agg #[hPF, .pointer (some ⟨w.heap.size, 0, none⟩), .int .u64 150]) (w.alloc (.cells #[.pointer (some t)] 74)) := by kernel_rfl
theorem valueOfF (c a : Int) (w : World) : (ReflectliteValue.unpack (.iface 69 (.agg #[.int .i64 c, .int .i64 a]))).run Tryz.prog w
    = .ok (.agg #[hF, .pointer (some ⟨w.heap.size, 0, none⟩), .int .u64 153]) (w.alloc (.cells #[.int .i64 c, .int .i64 a] 69)) := by kernel_rfl
theorem typePF (a : Addr) (w : World) : (ReflectliteValue.methodAny (ReflectliteValue.valueError "reflectlite.Value.Type" 0) (fun t _ _ _ => ReflectliteType.toType t) #[.agg #[hPF, .pointer (some a), .int .u64 150]]).run Tryz.prog w
    = .ok (.iface 120 (.agg #[hPF])) w := by kernel_rfl
theorem mKind (h : Value) (w : World) : (Go.method 315 120 (.agg #[h]) "Kind").run Tryz.prog w = .ok (131, h) w := by kernel_rfl
theorem mElem (h : Value) (w : World) : (Go.method 315 120 (.agg #[h]) "Elem").run Tryz.prog w = .ok (141, .agg #[h]) w := by kernel_rfl
theorem mImpl (h : Value) (w : World) : (Go.method 315 120 (.agg #[h]) "Implements").run Tryz.prog w = .ok (142, .agg #[h]) w := by kernel_rfl
theorem mAssign (h : Value) (w : World) : (Go.method 315 120 (.agg #[h]) "AssignableTo").run Tryz.prog w = .ok (139, .agg #[h]) w := by kernel_rfl
theorem kindPF (w : World) : ((ReflectliteType.abiMethod fun t => (fun a : Nat => Value.int IntKind.u8 (a : Int)) <$> Rtype.kind t) #[hPF]).run Tryz.prog w = .ok (.int .u8 22) w := by kernel_rfl
theorem kindF (w : World) : ((ReflectliteType.abiMethod fun t => (fun a : Nat => Value.int IntKind.u8 (a : Int)) <$> Rtype.kind t) #[hF]).run Tryz.prog w = .ok (.int .u8 25) w := by kernel_rfl
theorem elemPF (w : World) : (ReflectliteType.method ReflectliteType.elem #[.agg #[hPF]]).run Tryz.prog w = .ok (.iface 120 (.agg #[hF])) w := by kernel_rfl
theorem implF (w : World) : (ReflectliteType.relation "Implements" ReflectliteType.implements_ #[.agg #[hF], .iface 120 (.agg #[hE])]).run Tryz.prog w = .ok (.bool true) w := by kernel_rfl
theorem tyOfF (v : Value) (w : World) : (ReflectliteType.typeOf #[.iface 69 v]).run Tryz.prog w = .ok (.iface 120 (.agg #[hF])) w := by kernel_rfl
theorem tyOfS (v : Value) (w : World) : (ReflectliteType.typeOf #[.iface 134 v]).run Tryz.prog w = .ok (.iface 120 (.agg #[hW14])) w := by kernel_rfl
theorem asgFF (w : World) : (ReflectliteType.relation "AssignableTo" ReflectliteType.assignableTo #[.agg #[hF], .iface 120 (.agg #[hF])]).run Tryz.prog w = .ok (.bool true) w := by kernel_rfl
theorem asgSF (w : World) : (ReflectliteType.relation "AssignableTo" ReflectliteType.assignableTo #[.agg #[hW14], .iface 120 (.agg #[hF])]).run Tryz.prog w = .ok (.bool false) w := by kernel_rfl
theorem noAsS (v : Value) (xT : TypeId) (w : World) : (Instr.typeAssert (.iface 134 v) xT 125 true).run Tryz.prog w = .ok (.tuple #[.nilIface, .bool false]) w := run_typeAssert_lacksB Tryz.underlying125 (by kernel_rfl) (by kernel_rfl) v xT w
theorem rlm (z : Sem Value) (f : TypeId → Addr → Nat → Nat → Sem Value) (v : Value) :
    ReflectliteValue.method z f #[v] = (do match ← ReflectliteValue.parts v with | none => z | some (t, a, fl) => f t a fl (fl % 32)) := rfl
theorem partsPF (a : Addr) (w : World) : (ReflectliteValue.parts (.agg #[hPF, .pointer (some a), .int .u64 150])).run Tryz.prog w = .ok (some (74, a, 150)) w := by kernel_rfl
theorem partsFa (a : Addr) (w : World) : (ReflectliteValue.parts (.agg #[hF, .pointer (some a), .int .u64 409])).run Tryz.prog w = .ok (some (69, a, 409)) w := by kernel_rfl
theorem partsF (a : Addr) (w : World) : (ReflectliteValue.parts (.agg #[hF, .pointer (some a), .int .u64 153])).run Tryz.prog w = .ok (some (69, a, 153)) w := by kernel_rfl
theorem isNilPF (a p : Addr) (W : World) (ha : W.cell? a = some (.pointer (some p))) :
    (ReflectliteValue.method (ReflectliteValue.valueError "reflectlite.Value.IsNil" 0) ReflectliteValue.isNil #[.agg #[hPF, .pointer (some a), .int .u64 150]]).run Tryz.prog W = .ok (.bool false) W := by
  rw [rlm]
  simp only [Sem.run_bind, partsPF, Result.andThen]
  simp [ReflectliteValue.isNil, loadVar, isAgg, underlying, Tryz.underlying74, ha, Result.andThen]
theorem elemOfPF (w : World) : (Rtype.elem? 74).run Tryz.prog w = .ok (some 69) w := by kernel_rfl
theorem mkF (p : Addr) (w : World) : (ReflectliteValue.mk 69 p ReflectliteValue.flagAddr).run Tryz.prog w = .ok (.agg #[hF, .pointer (some p), .int .u64 409]) w := by kernel_rfl
theorem elemVPF (a p : Addr) (W : World) (ha : W.cell? a = some (.pointer (some p))) :
    (ReflectliteValue.method (ReflectliteValue.valueError "reflectlite.Value.Elem" 0) ReflectliteValue.elem #[.agg #[hPF, .pointer (some a), .int .u64 150]]).run Tryz.prog W
      = .ok (.agg #[hF, .pointer (some p), .int .u64 409]) W := by
  rw [rlm]
  simp only [Sem.run_bind, partsPF, Result.andThen]
  simp [ReflectliteValue.elem, loadVar, isAgg, underlying, Tryz.underlying74, ha, Result.andThen, elemOfPF, mkF]
theorem rls (v x : Value) : ReflectliteValue.set #[v, x] = (do
    let (some (dst, a, fl), some (src, b, _)) := (← ReflectliteValue.parts v, ← ReflectliteValue.parts x)
      | unsupported (.noEntry "extern/(internal/reflectlite.Value).Set.zeroValue")
    if fl / ReflectliteValue.flagAddr % 2 == 0 then unsupported (.noEntry "extern/(internal/reflectlite.Value).Set.unaddressable")
    let val ← loadVar src b
    if ← Rtype.directlyAssignable dst src then storeVar dst a val
    else if ← Rtype.implements dst src then
      if (← Rtype.kind src) == 20 then
        match val with
        | .nilIface => unsupported (.noEntry "extern/reflectlite: a nil value of one interface type handed on as a value of another")
        | _ => storeVar dst a val
      else storeVar dst a (.iface src val)
    else panicString ("reflectlite.Set: value of type " ++ (← Rtype.spelt src) ++ " is not assignable to type " ++ (← Rtype.spelt dst))
    pure (.tuple #[])) := rfl
theorem directFF (w : World) : (Rtype.directlyAssignable 69 69).run Tryz.prog w = .ok true w := by kernel_rfl
theorem setF (ta b : Nat) (c a : Int) (o0 o1 : Value) (W : World) (hb0 : W.cell? ⟨b, 0, none⟩ = some (.int .i64 c)) (hb1 : W.cell? ⟨b, 1, none⟩ = some (.int .i64 a)) (ht0 : W.cell? ⟨ta, 0, none⟩ = some o0) (ht1 : W.cell? ⟨ta, 1, none⟩ = some o1) (hf : W.frozen? ⟨ta, 0, none⟩ = false) (hf1 : W.frozen? ⟨ta, 1, none⟩ = false) :
    (ReflectliteValue.set #[.agg #[hF, .pointer (some ⟨ta, 0, none⟩), .int .u64 409], .agg #[hF, .pointer (some ⟨b, 0, none⟩), .int .u64 153]]).run Tryz.prog W
      = .ok (.tuple #[]) ((W.setCell ⟨ta, 0, none⟩ (.int .i64 c)).setCell ⟨ta, 1, none⟩ (.int .i64 a)) := by
  have hl : (loadCells ⟨b, 0, none⟩ 2).run Tryz.prog W = .ok #[.int .i64 c, .int .i64 a] W := by
    refine run_loadCells_list W ⟨b, 0, none⟩ [.int .i64 c, .int .i64 a] ?_
    intro j v hj
    match j, hj with
    | 0, hj => injection hj with hj; subst hj; exact hb0
    | 1, hj => injection hj with hj; subst hj; exact hb1
    | j + 2, hj => cases hj
  have h1 : (W.setCell ⟨ta, 0, none⟩ (.int .i64 c)).cell? ⟨ta, 1, none⟩ = some o1 := by
    rw [World.cell?_setCell_other _ _ _ _ (by intro h; injection h with _ h _; cases h)]; exact ht1
  rw [rls]
  simp only [Sem.run_bind, partsFa, partsF, Result.andThen]
  simp [ReflectliteValue.flagAddr, loadVar, isAgg, underlying, Tryz.underlying69, hl, Result.andThen, directFF, storeVar, Value.cells, storeCells, Addr.add]
  rw [run_store Tryz.prog W _ _ _ (by rfl)]
  simp [ht0, hf]
  rw [run_store Tryz.prog _ _ _ _ (by rfl)]
  simp [h1, hf1]
theorem noUnF (v : Value) (xT : TypeId) (w : World) : (Instr.typeAssert (.iface 69 v) xT 128 true).run Tryz.prog w = .ok (.tuple #[.nilIface, .bool false]) w := run_typeAssert_lacksB Tryz.underlying128 (by kernel_rfl) (by kernel_rfl) v xT w
theorem noUnsF (v : Value) (xT : TypeId) (w : World) : (Instr.typeAssert (.iface 69 v) xT 130 true).run Tryz.prog w = .ok (.tuple #[.nilIface, .bool false]) w := run_typeAssert_lacksB Tryz.underlying130 (by kernel_rfl) (by kernel_rfl) v xT w
theorem hasUnS (v : Value) (xT : TypeId) (w : World) : (Instr.typeAssert (.iface 134 v) xT 128 true).run Tryz.prog w = .ok (.tuple #[.iface 134 v, .bool true]) w := run_typeAssert_hasB Tryz.underlying128 (by kernel_rfl) v xT w
theorem mUnwrap (v : Value) (w : World) : (Go.method 315 134 v "Unwrap").run Tryz.prog w = .ok (150, v) w := by kernel_rfl
theorem eq_n (ty : TypeId) (x : Value) (w : World) : (binOp .eql 72 (.iface ty x) .nilIface).run Tryz.prog w = .ok (.bool false) w := by kernel_rfl
theorem lt_of_cell {w : World} {p : Addr} {v : Value} (h : w.cell? p = some v) : p.block < w.heap.size := block_lt_of_cell h
theorem cell_allocs {w : World} {p : Addr} {v : Value} (h : w.cell? p = some v) (o : Obj) : (w.alloc o).cell? p = some v := cell_below (below_alloc w o) h
theorem frozen_allocs {w : World} {p : Addr} (hp : p.block < w.heap.size) (h : w.frozen? p = false) (o : Obj) : (w.alloc o).frozen? p = false := by
  rw [World.frozen?_alloc_old _ _ p (Nat.ne_of_lt hp)]; exact h
def FoundPost (c a : Int) (bt : Nat) (w : World) (e : Ending) (w' : World) : Prop :=
  e = .returned (.bool true) ∧ w.grownBy w' (some bt) ∧ w'.cell? ⟨bt, 0, none⟩ = some (.int .i64 c) ∧ w'.cell? ⟨bt, 1, none⟩ = some (.int .i64 a)
theorem grownBy_allocs (w : World) (o : Obj) (row : Option Nat) : w.grownBy (w.alloc o) row := ⟨rfl, rfl, rfl, by simp, fun k hk _ => (below_alloc w o).block k hk⟩
theorem grownBy_set (w : World) (bt i : Nat) (v : Value) : w.grownBy (w.setCell ⟨bt, i, none⟩ v) (some bt) :=
  ⟨rfl, rfl, rfl, by simp, fun k _ hr => Below.heap_setCell _ _ _ _ (fun h => hr (by rw [h]))⟩
theorem two_cells (W : World) (bt : Nat) (c a : Int) (o0 o1 : Value) (h0 : W.cell? ⟨bt, 0, none⟩ = some o0) (h1 : W.cell? ⟨bt, 1, none⟩ = some o1) :
    ((W.setCell ⟨bt, 0, none⟩ (.int .i64 c)).setCell ⟨bt, 1, none⟩ (.int .i64 a)).cell? ⟨bt, 0, none⟩ = some (.int .i64 c) ∧ ((W.setCell ⟨bt, 0, none⟩ (.int .i64 c)).setCell ⟨bt, 1, none⟩ (.int .i64 a)).cell? ⟨bt, 1, none⟩ = some (.int .i64 a) := by
  have h1' : (W.setCell ⟨bt, 0, none⟩ (.int .i64 c)).cell? ⟨bt, 1, none⟩ = some o1 := by
    rw [World.cell?_setCell_other _ _ _ _ (by intro h; injection h with _ h _; cases h)]; exact h1
  refine ⟨?_, World.cell?_setCell_same _ _ _ h1'⟩
  rw [World.cell?_setCell_other _ _ _ _ (by intro h; injection h with _ h _; cases h)]
  exact World.cell?_setCell_same _ _ _ h0
theorem ErrAt.nilI {ns : List (List UInt8)} {c a : Int} {v : Value} (h : ErrAt ns c a v) : ∃ T x, v = .iface T x := h.iface
def ErrTy (w : World) : Prop := w.cell? ⟨1, 0, none⟩ = some (.iface 120 (.agg #[hE]))
set_option maxHeartbeats 1000000 in
set_option maxRecDepth 100000 in
theorem within_unwrap (x u : Value) (T : TypeId) (y : Value) (hu : u = .iface T y) (w : World) : Calls Tryz.prog 150 #[.agg #[x, u]] w (Same u w) := by
  subst hu
  go_enter Tryz.func150, Tryz.ntmps150
  go_wp2
  go_ret
  exact ⟨rfl, below_alloc _ _⟩
end Go.Proofs.YtfjplhgajoehfaaGreatDoor
