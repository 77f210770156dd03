/-
  What the walks of the landed package metric ask of the package-level variables: two errors, the patterns of lines, the library's tables; errors.Is at these errors.
-/
import Derived.Test.YtmehldekebphfaaGreatDoorFixed7
import Derived.Test.YtmehldekebphfaaGreatDoorPrint
import Derived.LaidEql
import Derived.Stop.Asserts
import Derived.RowKitTokens
import Derived.Laws.Rows
set_option linter.unusedVariables false
set_option linter.unusedSimpArgs false
namespace Go.Proofs.YtmehldekebphfaaGreatDoor
open Go.RowKit Go.Extern.Stop Go.Stop Go.Extern

def patCells : Array Value := #[.string ⟨#[115, 112, 97, 99, 101]⟩, .int .i64 0, .int .i64 3, .string ⟨#[104, 121, 112, 104, 101, 110]⟩, .int .i64 1, .int .i64 0, .string ⟨#[99, 104, 97, 114]⟩, .int .i64 1, .int .i64 3, .string ⟨#[107, 101, 114, 110]⟩, .int .i64 2, .int .i64 1, .string ⟨#[108, 105, 103]⟩, .int .i64 3, .int .i64 0]
structure MEnv (aL aT : Addr) (w : World) : Prop where
  tab : TabE w
  syn : ∃ tp p, w.var? Tryz.prog "strconv.ErrSyntax" = some #[.iface tp p]
  rng : ∃ tp p, w.var? Tryz.prog "strconv.ErrRange" = some #[.iface tp p]
  cut : ∃ m, w.cell? ⟨3, 0, none⟩ = some (.int .i64 m)
  line : w.cell? ⟨0, 0, none⟩ = some (.iface 207 (.pointer (some aL)))
  table : w.cell? ⟨1, 0, none⟩ = some (.iface 207 (.pointer (some aT)))
  ne : aL ≠ aT
  bL : ∃ c t, w.heap[aL.block]? = some (.cells c t (0, 0))
  bT : ∃ c t, w.heap[aT.block]? = some (.cells c t (0, 0))
  pats : Laid w 2 patCells
theorem lt_of_obj {w : World} {b : Nat} {o : Obj} (h : w.heap[b]? = some o) : b < w.heap.size := by
  rcases Nat.lt_or_ge b w.heap.size with h' | h'
  · exact h'
  · rw [Array.getElem?_eq_none h'] at h; cases h
theorem obj_kept {w w' : World} {b : Nat} {o : Obj} (hb : Below w.heap.size w w') (h : w.heap[b]? = some o) : w'.heap[b]? = some o := by rw [hb.block _ (lt_of_obj h)]; exact h
theorem obj_new (w : World) (p : Nat) (hp : w.heap.size = p) (cs : Array Value) (T : TypeId) : (w.alloc (.cells cs T)).heap[p]? = some (.cells cs T (0, 0)) := by subst hp; exact heap_alloc_new w _
theorem MEnv.mono {aL aT : Addr} {w w' : World} (h : MEnv aL aT w) (hb : Below w.heap.size w w') : MEnv aL aT w' := by
  obtain ⟨h1, ⟨t2, p2, h2⟩, ⟨t3, p3, h3⟩, ⟨m, h4⟩, h5, h6, h7, ⟨c8, t8, h8⟩, ⟨c9, t9, h9⟩, h10⟩ := h
  exact ⟨h1.mono hb, ⟨t2, p2, var_below hb h2⟩, ⟨t3, p3, var_below hb h3⟩, ⟨m, cell_below hb h4⟩, cell_below hb h5, cell_below hb h6, h7, ⟨c8, t8, by rw [hb.block _ (lt_of_obj h8)]; exact h8⟩, ⟨c9, t9, by rw [hb.block _ (lt_of_obj h9)]; exact h9⟩, h10.mono hb⟩

/-! ### errors.Is -/
theorem noIsE (v : Value) (xT : TypeId) (w : World) : (Instr.typeAssert (.iface 207 v) xT 142 true).run Tryz.prog w = .ok (.tuple #[.nilIface, .bool false]) w := run_typeAssert_lacksB Tryz.underlying142 (by kernel_rfl) (by kernel_rfl) v xT w
theorem noUnE (v : Value) (xT : TypeId) (w : World) : (Instr.typeAssert (.iface 207 v) xT 145 true).run Tryz.prog w = .ok (.tuple #[.nilIface, .bool false]) w := run_typeAssert_lacksB Tryz.underlying145 (by kernel_rfl) (by kernel_rfl) v xT w
theorem noUnsE (v : Value) (xT : TypeId) (w : World) : (Instr.typeAssert (.iface 207 v) xT 147 true).run Tryz.prog w = .ok (.tuple #[.nilIface, .bool false]) w := run_typeAssert_lacksB Tryz.underlying147 (by kernel_rfl) (by kernel_rfl) v xT w
theorem tyOfE (v : Value) (w : World) : (ReflectliteType.typeOf #[.iface 207 v]).run Tryz.prog w = .ok (.iface 140 (.agg #[.pointer (some ⟨11, 207, none⟩)])) w := by kernel_rfl
def cmpE : Array Value → Sem Value := ReflectliteType.method fun t => do Rtype.noPackHeld "Comparable" t; pure (.bool (← typeInfo t).comparable)
theorem compE (w : World) : (cmpE #[.agg #[.pointer (some ⟨11, 207, none⟩)]]).run Tryz.prog w = .ok (.bool true) w := by kernel_rfl
theorem mCompE (v : Value) (w : World) : (Go.method 340 140 v "Comparable").run Tryz.prog w = .ok (165, v) w := by kernel_rfl
theorem infoPE : (Tryz.prog.info? 207).map (·.comparable) = some true := by kernel_rfl
theorem infoSE : (Tryz.prog.info? 209).map (·.size) = some 1 := by kernel_rfl
theorem eqE_same (a : Addr) (w : World) : (binOp .eql 59 (.iface 207 (.pointer (some a))) (.iface 207 (.pointer (some a)))).run Tryz.prog w = .ok (.bool true) w := by
  obtain ⟨i, hi, hc⟩ := Option.map_eq_some_iff.1 infoPE
  obtain ⟨j, hj, _⟩ := Option.map_eq_some_iff.1 infoSE
  exact run_eql_iface_ptr_same w a Tryz.underlying59 Tryz.underlying207 hi hc hj
theorem eqE_other {a b : Addr} {ca cb : Array Value} {ta tb : TypeId} (hne : a ≠ b) {w : World} (ha : w.heap[a.block]? = some (.cells ca ta (0, 0))) (hb : w.heap[b.block]? = some (.cells cb tb (0, 0))) :
    (binOp .eql 59 (.iface 207 (.pointer (some a))) (.iface 207 (.pointer (some b)))).run Tryz.prog w = .ok (.bool false) w := by
  obtain ⟨i, hi, hc⟩ := Option.map_eq_some_iff.1 infoPE
  obtain ⟨j, hj, hs⟩ := Option.map_eq_some_iff.1 infoSE
  exact run_eql_iface_ptr_other w Tryz.underlying59 Tryz.underlying207 hi hc hj (by rw [hs]; decide) hne ha hb
theorem eqE_nil (v : Value) (w : World) : (binOp .eql 59 (.iface 207 v) .nilIface).run Tryz.prog w = .ok (.bool false) w := by kernel_rfl
theorem neE_nil (v : Value) (w : World) : (binOp .neq 59 (.iface 207 v) .nilIface).run Tryz.prog w = .ok (.bool true) w := by kernel_rfl
theorem eqN_E (v : Value) (w : World) : (binOp .eql 59 .nilIface (.iface 207 v)).run Tryz.prog w = .ok (.bool false) w := run_eql_iface_nil_left w _ v Tryz.underlying59

set_option maxHeartbeats 2000000 in
set_option maxRecDepth 100000 in
theorem is_yes (a : Addr) (w : World) : Calls Tryz.prog 24 #[.iface 207 (.pointer (some a)), .iface 207 (.pointer (some a))] w (Is (.bool true) w) := by
  have g1 := @run_callFunc_extern Tryz.prog 50 _ ReflectliteType.typeOf Tryz.func50 (by kernel_rfl) (by kernel_rfl) (by kernel_rfl) (by kernel_rfl)
  have g2 := @run_callFunc_extern Tryz.prog 165 _ cmpE Tryz.func165 (by kernel_rfl) (by kernel_rfl) (by kernel_rfl) (by kernel_rfl)
  have h1 := tyOfE
  have h2 := compE
  have h3 := mCompE
  have h10 := eqE_nil
  have h11 := eqE_same a
  have hin : Hid (Calls Tryz.prog 51 #[.iface 207 (.pointer (some a)), .iface 207 (.pointer (some a)), .bool true] w (Is (.bool true) w)) := Lib.hid (by
    clear g1 g2 h1 h2 h3
    go_enter Tryz.func51, Tryz.ntmps51
    go_wp2
    go_loopg [0] 0 (fun k v wr => wr = w ∧ v = .iface 207 (.pointer (some a)))
    case atStart => exact ⟨rfl, rfl⟩
    case round =>
      obtain ⟨rfl, rfl⟩ := hrel
      go_wp2
      go_ret
      exact ⟨rfl, rfl⟩)
  go_enter Tryz.func24, Tryz.ntmps24
  go_wp2_with fail
  refine hin.out.mono ?_
  rintro e w1 ⟨rfl, rfl⟩
  go_wp2
  go_ret
  exact ⟨rfl, rfl⟩
set_option maxHeartbeats 2000000 in
set_option maxRecDepth 100000 in
theorem is_no {a b : Addr} {ca cb : Array Value} {ta tb : TypeId} (hne : a ≠ b) (w : World) (ha : w.heap[a.block]? = some (.cells ca ta (0, 0))) (hb : w.heap[b.block]? = some (.cells cb tb (0, 0))) :
    Calls Tryz.prog 24 #[.iface 207 (.pointer (some a)), .iface 207 (.pointer (some b))] w (Is (.bool false) w) := by
  have g1 := @run_callFunc_extern Tryz.prog 50 _ ReflectliteType.typeOf Tryz.func50 (by kernel_rfl) (by kernel_rfl) (by kernel_rfl) (by kernel_rfl)
  have g2 := @run_callFunc_extern Tryz.prog 165 _ cmpE Tryz.func165 (by kernel_rfl) (by kernel_rfl) (by kernel_rfl) (by kernel_rfl)
  have h1 := tyOfE
  have h2 := compE
  have h3 := mCompE
  have h10 := eqE_nil
  have h11 := eqE_other hne ha hb
  clear hne ha hb
  have hin : Hid (Calls Tryz.prog 51 #[.iface 207 (.pointer (some a)), .iface 207 (.pointer (some b)), .bool true] w (Is (.bool false) w)) := Lib.hid (by
    clear g1 g2 h1 h2 h3
    have h4 := noIsE
    have h5 := noUnE
    have h6 := noUnsE
    go_enter Tryz.func51, Tryz.ntmps51
    go_wp2
    go_loopg [0] 0 (fun k v wr => wr = w ∧ v = .iface 207 (.pointer (some a)))
    case atStart => exact ⟨rfl, rfl⟩
    case round =>
      obtain ⟨rfl, rfl⟩ := hrel
      go_wp2
      go_ret
      exact ⟨rfl, rfl⟩)
  go_enter Tryz.func24, Tryz.ntmps24
  go_wp2_with fail
  refine hin.out.mono ?_
  rintro e w1 ⟨rfl, rfl⟩
  go_wp2
  go_ret
  exact ⟨rfl, rfl⟩
set_option maxHeartbeats 1000000 in
set_option maxRecDepth 100000 in
theorem is_nil (b : Addr) (w : World) : Calls Tryz.prog 24 #[.nilIface, .iface 207 (.pointer (some b))] w (Is (.bool false) w) := by
  have h1 := eqN_E
  go_enter Tryz.func24, Tryz.ntmps24
  go_wp2
  go_ret
  exact ⟨rfl, rfl⟩
end Go.Proofs.YtmehldekebphfaaGreatDoor
