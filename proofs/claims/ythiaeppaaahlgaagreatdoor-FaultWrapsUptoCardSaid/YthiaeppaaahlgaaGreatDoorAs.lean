/-
  errors.As at a chain: the fault is found, and so is the outermost stage, if there is one.
-/
import Derived.Test.YthiaeppaaahlgaaGreatDoorAsFacts
import Derived.Test.YthiaeppaaahlgaaGreatDoorFixed
import Derived.Maps.AppendAt
set_option linter.unusedVariables false
set_option linter.unusedSimpArgs false
namespace Go.Proofs.YthiaeppaaahlgaaGreatDoor
open Go.RowKit Go.Extern.Stop Go.Stop Go.Extern

theorem lt_of_cell {w : World} {p : Addr} {v : Value} (h : w.cell? p = some v) : p.block < w.heap.size := block_lt_of_cell h
theorem cell_allocs {w : World} {p : Addr} {v : Value} (h : w.cell? p = some v) (o : Obj) : (w.alloc o).cell? p = some v := cell_below (below_alloc w o) h
theorem frozen_allocs {w : World} {p : Addr} (hp : p.block < w.heap.size) (h : w.frozen? p = false) (o : Obj) : (w.alloc o).frozen? p = false := by
  rw [World.frozen?_alloc_old _ _ p (Nat.ne_of_lt hp)]; exact h
def FoundPost (c a : Int) (bt : Nat) (w : World) (e : Ending) (w' : World) : Prop :=
  e = .returned (.bool true) ∧ w.grownBy w' (some bt) ∧ w'.cell? ⟨bt, 0, none⟩ = some (.int .i64 c) ∧ w'.cell? ⟨bt, 1, none⟩ = some (.int .i64 a)
theorem grownBy_allocs (w : World) (o : Obj) (row : Option Nat) : w.grownBy (w.alloc o) row := ⟨rfl, rfl, rfl, by simp, fun k hk _ => (below_alloc w o).block k hk⟩
theorem grownBy_set (w : World) (bt i : Nat) (v : Value) : w.grownBy (w.setCell ⟨bt, i, none⟩ v) (some bt) :=
  ⟨rfl, rfl, rfl, by simp, fun k _ hr => Below.heap_setCell _ _ _ _ (fun h => hr (by rw [h]))⟩

theorem two_cells (W : World) (bt : Nat) (c a : Int) (o0 o1 : Value) (h0 : W.cell? ⟨bt, 0, none⟩ = some o0) (h1 : W.cell? ⟨bt, 1, none⟩ = some o1) :
    ((W.setCell ⟨bt, 0, none⟩ (.int .i64 c)).setCell ⟨bt, 1, none⟩ (.int .i64 a)).cell? ⟨bt, 0, none⟩ = some (.int .i64 c) ∧ ((W.setCell ⟨bt, 0, none⟩ (.int .i64 c)).setCell ⟨bt, 1, none⟩ (.int .i64 a)).cell? ⟨bt, 1, none⟩ = some (.int .i64 a) := by
  have h1' : (W.setCell ⟨bt, 0, none⟩ (.int .i64 c)).cell? ⟨bt, 1, none⟩ = some o1 := by
    rw [World.cell?_setCell_other _ _ _ _ (by intro h; injection h with _ h _; cases h)]; exact h1
  refine ⟨?_, World.cell?_setCell_same _ _ _ h1'⟩
  rw [World.cell?_setCell_other _ _ _ _ (by intro h; injection h with _ h _; cases h)]
  exact World.cell?_setCell_same _ _ _ h0

set_option maxHeartbeats 4000000 in
set_option maxRecDepth 100000 in
theorem asF_any (c a : Int) (ns : List ByteArray) (v : Value) (bt vb : Nat) (o0 o1 : Value) (w : World) (hch : ChainAt w c a ns v) (hvb : w.cell? ⟨vb, 0, none⟩ = some (.pointer (some ⟨bt, 0, none⟩)))
    (ht0 : w.cell? ⟨bt, 0, none⟩ = some o0) (ht1 : w.cell? ⟨bt, 1, none⟩ = some o1) (hf0 : w.frozen? ⟨bt, 0, none⟩ = false) (hf1 : w.frozen? ⟨bt, 1, none⟩ = false) :
    Calls Tryz.prog 23 #[v, .iface 44 (.pointer (some ⟨bt, 0, none⟩)), .agg #[hPF, .pointer (some ⟨vb, 0, none⟩), .int .u64 150], .iface 76 (.agg #[hF])] w (FoundPost c a bt w) := by
  have HV := Lib.hid hch
  clear hch
  obtain ⟨ty, x, rfl⟩ := HV.out.isIface
  have g1 := @run_callFunc_extern Tryz.prog 24 _ ReflectliteType.typeOf Tryz.func24 (by kernel_rfl) (by kernel_rfl) (by kernel_rfl) (by kernel_rfl)
  have g2 := @run_callFunc_extern Tryz.prog 96 _ (ReflectliteType.relation "AssignableTo" ReflectliteType.assignableTo) Tryz.func96 (by kernel_rfl) (by kernel_rfl) (by kernel_rfl) (by kernel_rfl)
  have g3 := @run_callFunc_extern Tryz.prog 20 _ (fun args => ReflectliteValue.unpack (args.getD 0 (.tuple #[]))) Tryz.func20 (by kernel_rfl) (by kernel_rfl) (by kernel_rfl) (by kernel_rfl)
  have g4 := @run_callFunc_extern Tryz.prog 29 _ (ReflectliteValue.method (ReflectliteValue.valueError "reflectlite.Value.Elem" 0) ReflectliteValue.elem) Tryz.func29 (by kernel_rfl) (by kernel_rfl) (by kernel_rfl) (by kernel_rfl)
  have g5 := @run_callFunc_extern Tryz.prog 30 _ ReflectliteValue.set Tryz.func30 (by kernel_rfl) (by kernel_rfl) (by kernel_rfl) (by kernel_rfl)
  have h1 := tyOfF
  have h2 := tyOfS
  have h3 := asgSF
  have h4 := asgFF
  have h5 := hasUnS
  have h6 := mUnwrap
  have h7 := mAssign
  have h8 := noAsS
  have h9 := valueOfF
  have h10 := eq_n
  obtain ⟨W, hW⟩ : ∃ W, W = w.alloc (.cells #[hPF, .pointer (some ⟨vb, 0, none⟩), .int .u64 150] 59) := ⟨_, rfl⟩
  have e1 : W.cell? ⟨vb, 0, none⟩ = some (.pointer (some ⟨bt, 0, none⟩)) := by rw [hW]; exact cell_allocs hvb _
  have el := elemVPF ⟨vb, 0, none⟩ ⟨bt, 0, none⟩ W e1
  have q0 := hW ▸ cell_allocs ht0 (.cells #[hPF, .pointer (some ⟨vb, 0, none⟩), .int .u64 150] 59)
  have q1 := hW ▸ cell_allocs ht1 (.cells #[hPF, .pointer (some ⟨vb, 0, none⟩), .int .u64 150] 59)
  have r0 := hW ▸ frozen_allocs (lt_of_cell ht0) hf0 (.cells #[hPF, .pointer (some ⟨vb, 0, none⟩), .int .u64 150] 59)
  have r1 := hW ▸ frozen_allocs (lt_of_cell ht1) hf1 (.cells #[hPF, .pointer (some ⟨vb, 0, none⟩), .int .u64 150] 59)
  have st := setF bt W.heap.size c a o0 o1 (W.alloc (.cells #[.int .i64 c, .int .i64 a] 42)) (by simp) (by simp) (cell_allocs q0 _) (cell_allocs q1 _) (frozen_allocs (lt_of_cell q0) r0 _) (frozen_allocs (lt_of_cell q1) r1 _)
  have b0 : W.cell? ⟨w.heap.size, 0, none⟩ = some hPF := by rw [hW]; simp
  have b1 : W.cell? ⟨w.heap.size, 1, none⟩ = some (.pointer (some ⟨vb, 0, none⟩)) := by rw [hW]; simp
  have b2 : W.cell? ⟨w.heap.size, 2, none⟩ = some (.int .u64 150) := by rw [hW]; simp
  have HCW : Hid (ChainAt W c a ns (.iface ty x)) := by rw [hW]; exact ChainAt.mono (below_alloc _ _) HV.out
  go_enter Tryz.func23, Tryz.ntmps23
  go_wp2
  rw [← hW]
  have HW := Lib.hid hW
  clear hW hvb ht0 ht1 hf0 hf1
  go_loopg [0] ns.length (fun k v wr => ∃ ms : List ByteArray, ms.length = k ∧ ChainAt W c a ms v ∧ wr = W)
  case atStart => exact ⟨ns, rfl, HCW.out, rfl⟩
  case round =>
    obtain ⟨ms, hk, hch, rfl⟩ := hrel
    have HK := Lib.hid hk
    clear hk
    cases ms with
    | nil =>
      have e := hch
      unfold ChainAt at e
      subst e
      clear hch
      go_wp2
      go_ret
      have hg : w.grownBy wr (some bt) := by rw [HW.out]; exact grownBy_allocs _ _ _
      have hc := two_cells _ bt c a o0 o1 (cell_allocs q0 (.cells #[.int .i64 c, .int .i64 a] 42)) (cell_allocs q1 _)
      exact ⟨rfl, World.grownBy.trans (World.grownBy.trans (World.grownBy.trans hg (grownBy_allocs _ _ _)) (grownBy_set _ _ _ _)) (grownBy_set _ _ _ _), hc.1, hc.2⟩
    | cons n r =>
      obtain ⟨b, inner, e, hc0, hc1, hr⟩ := hch
      subst e
      obtain ⟨ty', x', rfl⟩ := hr.isIface
      have HR := Lib.hid hr
      clear hr
      go_wp2_with (go_at_call 87; refine (stage_unwrap b _ _ hc1).mono ?_; rintro e w' ⟨rfl, rfl⟩)
      go_roundg r.length
      case measure => have := HK.out; simp at this; omega
      case rel => exact ⟨r, rfl, HR.out, rfl⟩

/-! ### the target a *fault.stage -/
def StagePost (b bt : Nat) (w : World) (e : Ending) (w' : World) : Prop :=
  e = .returned (.bool true) ∧ w.grownBy w' (some bt) ∧ w'.cell? ⟨bt, 0, none⟩ = some (.pointer (some ⟨b, 0, none⟩)) ∧ w'.frozen? ⟨bt, 0, none⟩ = false

set_option maxHeartbeats 4000000 in
set_option maxRecDepth 100000 in
theorem asS_hit (b bt vb : Nat) (o0 : Value) (w : World) (hvb : w.cell? ⟨vb, 0, none⟩ = some (.pointer (some ⟨bt, 0, none⟩)))
    (ht0 : w.cell? ⟨bt, 0, none⟩ = some o0) (hf0 : w.frozen? ⟨bt, 0, none⟩ = false) :
    Calls Tryz.prog 23 #[.iface 53 (.pointer (some ⟨b, 0, none⟩)), .iface 68 (.pointer (some ⟨bt, 0, none⟩)), .agg #[hPS, .pointer (some ⟨vb, 0, none⟩), .int .u64 150], .iface 76 (.agg #[hS])] w (StagePost b bt w) := by
  have g1 := @run_callFunc_extern Tryz.prog 24 _ ReflectliteType.typeOf Tryz.func24 (by kernel_rfl) (by kernel_rfl) (by kernel_rfl) (by kernel_rfl)
  have g2 := @run_callFunc_extern Tryz.prog 96 _ (ReflectliteType.relation "AssignableTo" ReflectliteType.assignableTo) Tryz.func96 (by kernel_rfl) (by kernel_rfl) (by kernel_rfl) (by kernel_rfl)
  have g3 := @run_callFunc_extern Tryz.prog 20 _ (fun args => ReflectliteValue.unpack (args.getD 0 (.tuple #[]))) Tryz.func20 (by kernel_rfl) (by kernel_rfl) (by kernel_rfl) (by kernel_rfl)
  have g4 := @run_callFunc_extern Tryz.prog 29 _ (ReflectliteValue.method (ReflectliteValue.valueError "reflectlite.Value.Elem" 0) ReflectliteValue.elem) Tryz.func29 (by kernel_rfl) (by kernel_rfl) (by kernel_rfl) (by kernel_rfl)
  have g5 := @run_callFunc_extern Tryz.prog 30 _ ReflectliteValue.set Tryz.func30 (by kernel_rfl) (by kernel_rfl) (by kernel_rfl) (by kernel_rfl)
  have h2 := tyOfS
  have h4 := asgSS
  have h7 := mAssign
  have h9 := valueOfS
  obtain ⟨W, hW⟩ : ∃ W, W = w.alloc (.cells #[hPS, .pointer (some ⟨vb, 0, none⟩), .int .u64 150] 59) := ⟨_, rfl⟩
  have e1 : W.cell? ⟨vb, 0, none⟩ = some (.pointer (some ⟨bt, 0, none⟩)) := by rw [hW]; exact cell_allocs hvb _
  have el := elemVPS ⟨vb, 0, none⟩ ⟨bt, 0, none⟩ W e1
  have q0 := hW ▸ cell_allocs ht0 (.cells #[hPS, .pointer (some ⟨vb, 0, none⟩), .int .u64 150] 59)
  have r0 := hW ▸ frozen_allocs (lt_of_cell ht0) hf0 (.cells #[hPS, .pointer (some ⟨vb, 0, none⟩), .int .u64 150] 59)
  have st := setS ⟨bt, 0, none⟩ ⟨W.heap.size, 0, none⟩ ⟨b, 0, none⟩ o0 (W.alloc (.cells #[.pointer (some ⟨b, 0, none⟩)] 53)) (by simp) (cell_allocs q0 _) (frozen_allocs (lt_of_cell q0) r0 _)
  have b0 : W.cell? ⟨w.heap.size, 0, none⟩ = some hPS := by rw [hW]; simp
  have b1 : W.cell? ⟨w.heap.size, 1, none⟩ = some (.pointer (some ⟨vb, 0, none⟩)) := by rw [hW]; simp
  have b2 : W.cell? ⟨w.heap.size, 2, none⟩ = some (.int .u64 150) := by rw [hW]; simp
  go_enter Tryz.func23, Tryz.ntmps23
  go_wp2
  rw [← hW]
  have HW := Lib.hid hW
  clear hW hvb ht0 hf0
  refine wp_loop_rounds 1 ?_
  rw [rounds_succ]
  go_wp2
  go_ret
  have hg : w.grownBy W (some bt) := by rw [HW.out]; exact grownBy_allocs _ _ _
  refine ⟨rfl, World.grownBy.trans (World.grownBy.trans hg (grownBy_allocs _ _ _)) (grownBy_set _ _ _ _), World.cell?_setCell_same _ _ _ (cell_allocs q0 (.cells #[.pointer (some ⟨b, 0, none⟩)] 53)), ?_⟩
  rw [World.frozen?_setCell]
  exact frozen_allocs (lt_of_cell q0) r0 _

set_option maxHeartbeats 4000000 in
set_option maxRecDepth 100000 in
theorem asS_miss (c a : Int) (tv vv : Value) (w : World) (hvv : ∃ x y z, vv = .agg #[x, y, z]) :
    Calls Tryz.prog 23 #[.iface 42 (.agg #[.int .i64 c, .int .i64 a]), tv, vv, .iface 76 (.agg #[hS])] w (fun e w' => e = .returned (.bool false) ∧ Below w.heap.size w w') := by
  obtain ⟨x, y, z, rfl⟩ := hvv
  have g1 := @run_callFunc_extern Tryz.prog 24 _ ReflectliteType.typeOf Tryz.func24 (by kernel_rfl) (by kernel_rfl) (by kernel_rfl) (by kernel_rfl)
  have g2 := @run_callFunc_extern Tryz.prog 96 _ (ReflectliteType.relation "AssignableTo" ReflectliteType.assignableTo) Tryz.func96 (by kernel_rfl) (by kernel_rfl) (by kernel_rfl) (by kernel_rfl)
  have h2 := tyOfF
  have h4 := asgFS
  have h7 := mAssign
  have h8 := noAsF
  have h3 := noUnF
  have h5 := noUnsF
  go_enter Tryz.func23, Tryz.ntmps23
  go_wp2
  refine wp_loop_rounds 1 ?_
  rw [rounds_succ]
  go_wp2
  go_ret
  exact ⟨rfl, below_alloc _ _⟩
end Go.Proofs.YthiaeppaaahlgaaGreatDoor
