/-
  errors.As itself, at the program's two targets.
-/
import Derived.Test.YthiaeppaaahlgaaGreatDoorAs
set_option linter.unusedVariables false
set_option linter.unusedSimpArgs false
namespace Go.Proofs.YthiaeppaaahlgaaGreatDoor
open Go.RowKit Go.Extern.Stop Go.Stop Go.Extern

/-- what the list of the row lays in errors.errorType -/
def ErrTy (w : World) : Prop := w.cell? ⟨0, 0, none⟩ = some (.iface 76 (.agg #[hE]))

set_option maxHeartbeats 4000000 in
set_option maxRecDepth 100000 in
theorem asCallF (c a : Int) (ns : List ByteArray) (v : Value) (bt : Nat) (o0 o1 : Value) (w : World) (hg : ErrTy w) (hch : ChainAt w c a ns v)
    (ht0 : w.cell? ⟨bt, 0, none⟩ = some o0) (ht1 : w.cell? ⟨bt, 1, none⟩ = some o1) (hf0 : w.frozen? ⟨bt, 0, none⟩ = false) (hf1 : w.frozen? ⟨bt, 1, none⟩ = false) :
    Calls Tryz.prog 13 #[v, .iface 44 (.pointer (some ⟨bt, 0, none⟩))] w (FoundPost c a bt w) := by
  obtain ⟨ty, x, rfl⟩ := hch.isIface
  have g1 := @run_callFunc_extern Tryz.prog 20 _ (fun args => ReflectliteValue.unpack (args.getD 0 (.tuple #[]))) Tryz.func20 (by kernel_rfl) (by kernel_rfl) (by kernel_rfl) (by kernel_rfl)
  have g2 := @run_callFunc_extern Tryz.prog 21 _ (ReflectliteValue.methodAny (ReflectliteValue.valueError "reflectlite.Value.Type" 0) (fun t _ _ _ => ReflectliteType.toType t)) Tryz.func21 (by kernel_rfl) (by kernel_rfl) (by kernel_rfl) (by kernel_rfl)
  have g3 := @run_callFunc_extern Tryz.prog 22 _ (ReflectliteValue.method (ReflectliteValue.valueError "reflectlite.Value.IsNil" 0) ReflectliteValue.isNil) Tryz.func22 (by kernel_rfl) (by kernel_rfl) (by kernel_rfl) (by kernel_rfl)
  have g4 := @run_callFunc_extern Tryz.prog 81 _ (ReflectliteType.abiMethod fun t => do pure (.int .u8 (← Rtype.kind t))) Tryz.func81 (by kernel_rfl) (by kernel_rfl) (by kernel_rfl) (by kernel_rfl)
  have g5 := @run_callFunc_extern Tryz.prog 98 _ (ReflectliteType.method ReflectliteType.elem) Tryz.func98 (by kernel_rfl) (by kernel_rfl) (by kernel_rfl) (by kernel_rfl)
  have g6 := @run_callFunc_extern Tryz.prog 99 _ (ReflectliteType.relation "Implements" ReflectliteType.implements_) Tryz.func99 (by kernel_rfl) (by kernel_rfl) (by kernel_rfl) (by kernel_rfl)
  have m1 := mKind
  have m2 := mElem
  have m3 := mImpl
  have m4 := eq_n
  have v1 := valueOfPF
  have v2 := typePF
  have v3 := kindPF
  have v4 := kindF
  have v5 := elemPF
  have v6 := implF
  obtain ⟨V, hV⟩ : ∃ V, V = w.alloc (.cells #[.pointer (some ⟨bt, 0, none⟩)] 44) := ⟨_, rfl⟩
  obtain ⟨W, hW⟩ : ∃ W, W = V.alloc (.cells #[hPF, .pointer (some ⟨w.heap.size, 0, none⟩), .int .u64 150] 59) := ⟨_, rfl⟩
  have hVs : V.heap.size = w.heap.size + 1 := by rw [hV]; simp
  have c0 : V.cell? ⟨w.heap.size, 0, none⟩ = some (.pointer (some ⟨bt, 0, none⟩)) := by rw [hV]; simp
  have c1 : W.cell? ⟨w.heap.size, 0, none⟩ = some (.pointer (some ⟨bt, 0, none⟩)) := by rw [hW]; exact cell_allocs c0 _
  have c2 : W.cell? ⟨0, 0, none⟩ = some (.iface 76 (.agg #[hE])) := by rw [hW, hV]; exact cell_allocs (cell_allocs hg _) _
  have n8 := isNilPF ⟨w.heap.size, 0, none⟩ ⟨bt, 0, none⟩ W c1
  have HC : Hid (ChainAt W c a ns (.iface ty x)) := by rw [hW, hV]; exact ChainAt.mono (below_alloc _ _) (ChainAt.mono (below_alloc _ _) hch)
  have q0 : W.cell? ⟨bt, 0, none⟩ = some o0 := by rw [hW, hV]; exact cell_allocs (cell_allocs ht0 _) _
  have q1 : W.cell? ⟨bt, 1, none⟩ = some o1 := by rw [hW, hV]; exact cell_allocs (cell_allocs ht1 _) _
  have r0 : W.frozen? ⟨bt, 0, none⟩ = false := by rw [hW, hV]; exact frozen_allocs (lt_of_cell (cell_allocs ht0 _)) (frozen_allocs (lt_of_cell ht0) hf0 _) _
  have r1 : W.frozen? ⟨bt, 1, none⟩ = false := by rw [hW, hV]; exact frozen_allocs (lt_of_cell (cell_allocs ht1 _)) (frozen_allocs (lt_of_cell ht1) hf1 _) _
  have HGW : Hid (w.grownBy W (some bt)) := by rw [hW, hV]; exact World.grownBy.trans (grownBy_allocs _ _ _) (grownBy_allocs _ _ _)
  have HA := Lib.hid (asF_any c a ns (.iface ty x) bt w.heap.size o0 o1 W HC.out c1 q0 q1 r0 r1)
  clear hch ht0 ht1 hf0 hf1 hg q0 q1 r0 r1 c0
  clear hVs
  subst hW hV
  go_enter Tryz.func13, Tryz.ntmps13
  go_wp2_with fail
  refine HA.out.mono ?_
  rintro e w' ⟨rfl, hb, hc0, hc1⟩
  go_wp2_with fail
  go_ret
  exact ⟨rfl, World.grownBy.trans HGW.out hb, hc0, hc1⟩
set_option maxHeartbeats 4000000 in
set_option maxRecDepth 100000 in
theorem asCallS_hit (b bt : Nat) (o0 : Value) (w : World) (hg : ErrTy w)
    (ht0 : w.cell? ⟨bt, 0, none⟩ = some o0) (hf0 : w.frozen? ⟨bt, 0, none⟩ = false) :
    Calls Tryz.prog 13 #[.iface 53 (.pointer (some ⟨b, 0, none⟩)), .iface 68 (.pointer (some ⟨bt, 0, none⟩))] w (StagePost b bt w) := by
  have g1 := @run_callFunc_extern Tryz.prog 20 _ (fun args => ReflectliteValue.unpack (args.getD 0 (.tuple #[]))) Tryz.func20 (by kernel_rfl) (by kernel_rfl) (by kernel_rfl) (by kernel_rfl)
  have g2 := @run_callFunc_extern Tryz.prog 21 _ (ReflectliteValue.methodAny (ReflectliteValue.valueError "reflectlite.Value.Type" 0) (fun t _ _ _ => ReflectliteType.toType t)) Tryz.func21 (by kernel_rfl) (by kernel_rfl) (by kernel_rfl) (by kernel_rfl)
  have g3 := @run_callFunc_extern Tryz.prog 22 _ (ReflectliteValue.method (ReflectliteValue.valueError "reflectlite.Value.IsNil" 0) ReflectliteValue.isNil) Tryz.func22 (by kernel_rfl) (by kernel_rfl) (by kernel_rfl) (by kernel_rfl)
  have g4 := @run_callFunc_extern Tryz.prog 81 _ (ReflectliteType.abiMethod fun t => do pure (.int .u8 (← Rtype.kind t))) Tryz.func81 (by kernel_rfl) (by kernel_rfl) (by kernel_rfl) (by kernel_rfl)
  have g5 := @run_callFunc_extern Tryz.prog 98 _ (ReflectliteType.method ReflectliteType.elem) Tryz.func98 (by kernel_rfl) (by kernel_rfl) (by kernel_rfl) (by kernel_rfl)
  have g6 := @run_callFunc_extern Tryz.prog 99 _ (ReflectliteType.relation "Implements" ReflectliteType.implements_) Tryz.func99 (by kernel_rfl) (by kernel_rfl) (by kernel_rfl) (by kernel_rfl)
  have m1 := mKind
  have m2 := mElem
  have m3 := mImpl
  have m4 := eq_n
  have v1 := valueOfPS
  have v2 := typePS
  have v3 := kindPS
  have v4 := kindS
  have v5 := elemPS
  have v6 := implS
  obtain ⟨V, hV⟩ : ∃ V, V = w.alloc (.cells #[.pointer (some ⟨bt, 0, none⟩)] 68) := ⟨_, rfl⟩
  obtain ⟨W, hW⟩ : ∃ W, W = V.alloc (.cells #[hPS, .pointer (some ⟨w.heap.size, 0, none⟩), .int .u64 150] 59) := ⟨_, rfl⟩
  have hVs : V.heap.size = w.heap.size + 1 := by rw [hV]; simp
  have c0 : V.cell? ⟨w.heap.size, 0, none⟩ = some (.pointer (some ⟨bt, 0, none⟩)) := by rw [hV]; simp
  have c1 : W.cell? ⟨w.heap.size, 0, none⟩ = some (.pointer (some ⟨bt, 0, none⟩)) := by rw [hW]; exact cell_allocs c0 _
  have c2 : W.cell? ⟨0, 0, none⟩ = some (.iface 76 (.agg #[hE])) := by rw [hW, hV]; exact cell_allocs (cell_allocs hg _) _
  have n8 := isNilPS ⟨w.heap.size, 0, none⟩ ⟨bt, 0, none⟩ W c1
  have q0 : W.cell? ⟨bt, 0, none⟩ = some o0 := by rw [hW, hV]; exact cell_allocs (cell_allocs ht0 _) _
  have r0 : W.frozen? ⟨bt, 0, none⟩ = false := by rw [hW, hV]; exact frozen_allocs (lt_of_cell (cell_allocs ht0 _)) (frozen_allocs (lt_of_cell ht0) hf0 _) _
  have HGW : Hid (w.grownBy W (some bt)) := by rw [hW, hV]; exact World.grownBy.trans (grownBy_allocs _ _ _) (grownBy_allocs _ _ _)
  have HA := Lib.hid (asS_hit b bt w.heap.size o0 W c1 q0 r0)
  clear ht0 hf0 hg q0 r0 c0
  clear hVs
  subst hW hV
  go_enter Tryz.func13, Tryz.ntmps13
  go_wp2_with fail
  refine HA.out.mono ?_
  rintro e w' ⟨rfl, hb, hc0, hc1⟩
  go_wp2_with fail
  go_ret
  exact ⟨rfl, World.grownBy.trans HGW.out hb, hc0, hc1⟩

set_option maxHeartbeats 4000000 in
set_option maxRecDepth 100000 in
theorem asCallS_miss (c a : Int) (bt : Nat) (w : World) (hg : ErrTy w) :
    Calls Tryz.prog 13 #[.iface 42 (.agg #[.int .i64 c, .int .i64 a]), .iface 68 (.pointer (some ⟨bt, 0, none⟩))] w (fun e w' => e = .returned (.bool false) ∧ Below w.heap.size w w') := by
  have g1 := @run_callFunc_extern Tryz.prog 20 _ (fun args => ReflectliteValue.unpack (args.getD 0 (.tuple #[]))) Tryz.func20 (by kernel_rfl) (by kernel_rfl) (by kernel_rfl) (by kernel_rfl)
  have g2 := @run_callFunc_extern Tryz.prog 21 _ (ReflectliteValue.methodAny (ReflectliteValue.valueError "reflectlite.Value.Type" 0) (fun t _ _ _ => ReflectliteType.toType t)) Tryz.func21 (by kernel_rfl) (by kernel_rfl) (by kernel_rfl) (by kernel_rfl)
  have g3 := @run_callFunc_extern Tryz.prog 22 _ (ReflectliteValue.method (ReflectliteValue.valueError "reflectlite.Value.IsNil" 0) ReflectliteValue.isNil) Tryz.func22 (by kernel_rfl) (by kernel_rfl) (by kernel_rfl) (by kernel_rfl)
  have g4 := @run_callFunc_extern Tryz.prog 81 _ (ReflectliteType.abiMethod fun t => do pure (.int .u8 (← Rtype.kind t))) Tryz.func81 (by kernel_rfl) (by kernel_rfl) (by kernel_rfl) (by kernel_rfl)
  have g5 := @run_callFunc_extern Tryz.prog 98 _ (ReflectliteType.method ReflectliteType.elem) Tryz.func98 (by kernel_rfl) (by kernel_rfl) (by kernel_rfl) (by kernel_rfl)
  have g6 := @run_callFunc_extern Tryz.prog 99 _ (ReflectliteType.relation "Implements" ReflectliteType.implements_) Tryz.func99 (by kernel_rfl) (by kernel_rfl) (by kernel_rfl) (by kernel_rfl)
  have m1 := mKind
  have m2 := mElem
  have m3 := mImpl
  have m4 := eq_n
  have v1 := valueOfPS
  have v2 := typePS
  have v3 := kindPS
  have v4 := kindS
  have v5 := elemPS
  have v6 := implS
  obtain ⟨V, hV⟩ : ∃ V, V = w.alloc (.cells #[.pointer (some ⟨bt, 0, none⟩)] 68) := ⟨_, rfl⟩
  obtain ⟨W, hW⟩ : ∃ W, W = V.alloc (.cells #[hPS, .pointer (some ⟨w.heap.size, 0, none⟩), .int .u64 150] 59) := ⟨_, rfl⟩
  have hVs : V.heap.size = w.heap.size + 1 := by rw [hV]; simp
  have c0 : V.cell? ⟨w.heap.size, 0, none⟩ = some (.pointer (some ⟨bt, 0, none⟩)) := by rw [hV]; simp
  have c1 : W.cell? ⟨w.heap.size, 0, none⟩ = some (.pointer (some ⟨bt, 0, none⟩)) := by rw [hW]; exact cell_allocs c0 _
  have c2 : W.cell? ⟨0, 0, none⟩ = some (.iface 76 (.agg #[hE])) := by rw [hW, hV]; exact cell_allocs (cell_allocs hg _) _
  have n8 := isNilPS ⟨w.heap.size, 0, none⟩ ⟨bt, 0, none⟩ W c1
  have HA := Lib.hid (asS_miss c a (.iface 68 (.pointer (some ⟨bt, 0, none⟩))) (.agg #[hPS, .pointer (some ⟨w.heap.size, 0, none⟩), .int .u64 150]) W ⟨_, _, _, rfl⟩)
  have HBW : Hid (Below w.heap.size w W) := by rw [hW, hV]; exact below_step (below_alloc _ _) (below_alloc _ _)
  clear hg c0
  clear hVs
  subst hW hV
  go_enter Tryz.func13, Tryz.ntmps13
  go_wp2_with fail
  refine HA.out.mono ?_
  rintro e w' ⟨rfl, hb⟩
  go_wp2_with fail
  go_ret
  exact ⟨rfl, below_step HBW.out hb⟩
end Go.Proofs.YthiaeppaaahlgaaGreatDoor
