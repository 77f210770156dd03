/-
  errors.As itself, at a chain of contexts, and at no error.
-/
import Derived.Test.YtfjplhgajoehfaaGreatDoorQAs14
set_option linter.unusedVariables false
set_option linter.unusedSimpArgs false
namespace Go.Proofs.YtfjplhgajoehfaaGreatDoor
open Go.RowKit Go.Extern.Stop Go.Stop Go.Extern

theorem eqE_nil (w : World) : (binOp .eql 72 .nilIface .nilIface).run Tryz.prog w = .ok (.bool true) w := by kernel_rfl
set_option maxHeartbeats 4000000 in
set_option maxRecDepth 100000 in
theorem asCallF (c a : Int) (ns : List (List UInt8)) (v : Value) (bt : Nat) (o0 o1 : Value) (w : World) (hg : ErrTy w) (hch : ErrAt ns c a v)
    (ht0 : w.cell? ⟨bt, 0, none⟩ = some o0) (ht1 : w.cell? ⟨bt, 1, none⟩ = some o1) (hf0 : w.frozen? ⟨bt, 0, none⟩ = false) (hf1 : w.frozen? ⟨bt, 1, none⟩ = false) :
    Calls Tryz.prog 29 #[v, .iface 74 (.pointer (some ⟨bt, 0, none⟩))] w (FoundPost c a bt w) := by
  obtain ⟨ty, x, rfl⟩ := hch.iface
  have g1 := @run_callFunc_extern Tryz.prog 38 _ (fun args => ReflectliteValue.unpack (args.getD 0 (.tuple #[]))) Tryz.func38 (by kernel_rfl) (by kernel_rfl) (by kernel_rfl) (by kernel_rfl)
  have g2 := @run_callFunc_extern Tryz.prog 39 _ (ReflectliteValue.methodAny (ReflectliteValue.valueError "reflectlite.Value.Type" 0) (fun t _ _ _ => ReflectliteType.toType t)) Tryz.func39 (by kernel_rfl) (by kernel_rfl) (by kernel_rfl) (by kernel_rfl)
  have g3 := @run_callFunc_extern Tryz.prog 40 _ (ReflectliteValue.method (ReflectliteValue.valueError "reflectlite.Value.IsNil" 0) ReflectliteValue.isNil) Tryz.func40 (by kernel_rfl) (by kernel_rfl) (by kernel_rfl) (by kernel_rfl)
  have g4 := @run_callFunc_extern Tryz.prog 131 _ (ReflectliteType.abiMethod fun t => do pure (.int .u8 (← Rtype.kind t))) Tryz.func131 (by kernel_rfl) (by kernel_rfl) (by kernel_rfl) (by kernel_rfl)
  have g5 := @run_callFunc_extern Tryz.prog 141 _ (ReflectliteType.method ReflectliteType.elem) Tryz.func141 (by kernel_rfl) (by kernel_rfl) (by kernel_rfl) (by kernel_rfl)
  have g6 := @run_callFunc_extern Tryz.prog 142 _ (ReflectliteType.relation "Implements" ReflectliteType.implements_) Tryz.func142 (by kernel_rfl) (by kernel_rfl) (by kernel_rfl) (by kernel_rfl)
  have m1 := mKind
  have m2 := mElem
  have m3 := mImpl
  have m4 := eq_n
  have v1 := valueOfPF
  have v2 := typePF
  have v3 := kindPF
  have v4 := kindF
  have v5 := elemPF
  have v6 := implF
  obtain ⟨V, hV⟩ : ∃ V, V = w.alloc (.cells #[.pointer (some ⟨bt, 0, none⟩)] 74) := ⟨_, rfl⟩
  obtain ⟨W, hW⟩ : ∃ W, W = V.alloc (.cells #[hPF, .pointer (some ⟨w.heap.size, 0, none⟩), .int .u64 150] 102) := ⟨_, rfl⟩
  have hVs : V.heap.size = w.heap.size + 1 := by rw [hV]; simp
  have c0 : V.cell? ⟨w.heap.size, 0, none⟩ = some (.pointer (some ⟨bt, 0, none⟩)) := by rw [hV]; simp
  have c1 : W.cell? ⟨w.heap.size, 0, none⟩ = some (.pointer (some ⟨bt, 0, none⟩)) := by rw [hW]; exact cell_allocs c0 _
  have c2 : W.cell? ⟨1, 0, none⟩ = some (.iface 120 (.agg #[hE])) := by rw [hW, hV]; exact cell_allocs (cell_allocs hg _) _
  have n8 := isNilPF ⟨w.heap.size, 0, none⟩ ⟨bt, 0, none⟩ W c1
  have HC : Hid (ErrAt ns c a (.iface ty x)) := Lib.hid hch
  have q0 : W.cell? ⟨bt, 0, none⟩ = some o0 := by rw [hW, hV]; exact cell_allocs (cell_allocs ht0 _) _
  have q1 : W.cell? ⟨bt, 1, none⟩ = some o1 := by rw [hW, hV]; exact cell_allocs (cell_allocs ht1 _) _
  have r0 : W.frozen? ⟨bt, 0, none⟩ = false := by rw [hW, hV]; exact frozen_allocs (lt_of_cell (cell_allocs ht0 _)) (frozen_allocs (lt_of_cell ht0) hf0 _) _
  have r1 : W.frozen? ⟨bt, 1, none⟩ = false := by rw [hW, hV]; exact frozen_allocs (lt_of_cell (cell_allocs ht1 _)) (frozen_allocs (lt_of_cell ht1) hf1 _) _
  have HGW : Hid (w.grownBy W (some bt)) := by rw [hW, hV]; exact World.grownBy.trans (grownBy_allocs _ _ _) (grownBy_allocs _ _ _)
  have HA := Lib.hid (asF_any c a ns (.iface ty x) bt w.heap.size o0 o1 W HC.out c1 q0 q1 r0 r1)
  clear hch ht0 ht1 hf0 hf1 hg q0 q1 r0 r1 c0
  clear hVs
  subst hW hV
  go_enter Tryz.func29, Tryz.ntmps29
  go_wp2_with fail
  refine HA.out.mono ?_
  rintro e w' ⟨rfl, hb, hc0, hc1⟩
  go_wp2_with fail
  go_ret
  exact ⟨rfl, World.grownBy.trans HGW.out hb, hc0, hc1⟩
set_option maxHeartbeats 1000000 in
set_option maxRecDepth 100000 in
theorem asCallNil (tv : Value) (w : World) (ht : ∃ p, tv = .iface 74 p) : Calls Tryz.prog 29 #[.nilIface, tv] w (Same (.bool false) w) := by
  obtain ⟨p, rfl⟩ := ht
  have q1 := eqE_nil
  go_enter Tryz.func29, Tryz.ntmps29
  go_wp2
  go_ret
  exact ⟨rfl, Below.refl _ _⟩
end Go.Proofs.YtfjplhgajoehfaaGreatDoor
