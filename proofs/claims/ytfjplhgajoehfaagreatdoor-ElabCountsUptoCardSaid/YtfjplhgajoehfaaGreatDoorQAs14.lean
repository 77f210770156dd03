/-
  errors.As at a chain of contexts: its fault is found.
-/
import Derived.Test.YtfjplhgajoehfaaGreatDoorQAsF14
set_option linter.unusedVariables false
set_option linter.unusedSimpArgs false
namespace Go.Proofs.YtfjplhgajoehfaaGreatDoor
open Go.RowKit Go.Extern.Stop Go.Stop Go.Extern

set_option maxHeartbeats 4000000 in
set_option maxRecDepth 100000 in
theorem asF_any (c a : Int) (ns : List (List UInt8)) (v : Value) (bt vb : Nat) (o0 o1 : Value) (w : World) (hch : ErrAt ns c a v) (hvb : w.cell? ⟨vb, 0, none⟩ = some (.pointer (some ⟨bt, 0, none⟩)))
    (ht0 : w.cell? ⟨bt, 0, none⟩ = some o0) (ht1 : w.cell? ⟨bt, 1, none⟩ = some o1) (hf0 : w.frozen? ⟨bt, 0, none⟩ = false) (hf1 : w.frozen? ⟨bt, 1, none⟩ = false) :
    Calls Tryz.prog 41 #[v, .iface 74 (.pointer (some ⟨bt, 0, none⟩)), .agg #[hPF, .pointer (some ⟨vb, 0, none⟩), .int .u64 150], .iface 120 (.agg #[hF])] w (FoundPost c a bt w) := by
  have HV := Lib.hid hch
  clear hch
  obtain ⟨ty, x, rfl⟩ := HV.out.iface
  have g1 := @run_callFunc_extern Tryz.prog 67 _ ReflectliteType.typeOf Tryz.func67 (by kernel_rfl) (by kernel_rfl) (by kernel_rfl) (by kernel_rfl)
  have g2 := @run_callFunc_extern Tryz.prog 139 _ (ReflectliteType.relation "AssignableTo" ReflectliteType.assignableTo) Tryz.func139 (by kernel_rfl) (by kernel_rfl) (by kernel_rfl) (by kernel_rfl)
  have g3 := @run_callFunc_extern Tryz.prog 38 _ (fun args => ReflectliteValue.unpack (args.getD 0 (.tuple #[]))) Tryz.func38 (by kernel_rfl) (by kernel_rfl) (by kernel_rfl) (by kernel_rfl)
  have g4 := @run_callFunc_extern Tryz.prog 68 _ (ReflectliteValue.method (ReflectliteValue.valueError "reflectlite.Value.Elem" 0) ReflectliteValue.elem) Tryz.func68 (by kernel_rfl) (by kernel_rfl) (by kernel_rfl) (by kernel_rfl)
  have g5 := @run_callFunc_extern Tryz.prog 69 _ ReflectliteValue.set Tryz.func69 (by kernel_rfl) (by kernel_rfl) (by kernel_rfl) (by kernel_rfl)
  have h1 := tyOfF
  have h2 := tyOfS
  have h3 := asgSF
  have h4 := asgFF
  have h5 := hasUnS
  have h6 := mUnwrap
  have h7 := mAssign
  have h8 := noAsS
  have h9 := valueOfF
  have h10 := eq_n
  obtain ⟨W, hW⟩ : ∃ W, W = w.alloc (.cells #[hPF, .pointer (some ⟨vb, 0, none⟩), .int .u64 150] 102) := ⟨_, rfl⟩
  have e1 : W.cell? ⟨vb, 0, none⟩ = some (.pointer (some ⟨bt, 0, none⟩)) := by rw [hW]; exact cell_allocs hvb _
  have el := elemVPF ⟨vb, 0, none⟩ ⟨bt, 0, none⟩ W e1
  have q0 := hW ▸ cell_allocs ht0 (.cells #[hPF, .pointer (some ⟨vb, 0, none⟩), .int .u64 150] 102)
  have q1 := hW ▸ cell_allocs ht1 (.cells #[hPF, .pointer (some ⟨vb, 0, none⟩), .int .u64 150] 102)
  have r0 := hW ▸ frozen_allocs (lt_of_cell ht0) hf0 (.cells #[hPF, .pointer (some ⟨vb, 0, none⟩), .int .u64 150] 102)
  have r1 := hW ▸ frozen_allocs (lt_of_cell ht1) hf1 (.cells #[hPF, .pointer (some ⟨vb, 0, none⟩), .int .u64 150] 102)
  have st := setF bt W.heap.size c a o0 o1 (W.alloc (.cells #[.int .i64 c, .int .i64 a] 69)) (by simp) (by simp) (cell_allocs q0 _) (cell_allocs q1 _) (frozen_allocs (lt_of_cell q0) r0 _) (frozen_allocs (lt_of_cell q1) r1 _)
  have b0 : W.cell? ⟨w.heap.size, 0, none⟩ = some hPF := by rw [hW]; simp
  have b1 : W.cell? ⟨w.heap.size, 1, none⟩ = some (.pointer (some ⟨vb, 0, none⟩)) := by rw [hW]; simp
  have b2 : W.cell? ⟨w.heap.size, 2, none⟩ = some (.int .u64 150) := by rw [hW]; simp
  have HCW : Hid (ErrAt ns c a (.iface ty x)) := HV
  go_enter Tryz.func41, Tryz.ntmps41
  go_wp2
  rw [← hW]
  have HW := Lib.hid hW
  clear hW hvb ht0 ht1 hf0 hf1
  go_loopg [0] ns.length (fun k v wr => ∃ ms : List (List UInt8), ms.length = k ∧ ErrAt ms c a v ∧ Hid (Below W.heap.size W wr))
  case atStart => exact ⟨ns, rfl, HCW.out, Lib.hid (Below.refl _ _)⟩
  case round =>
    obtain ⟨ms, hk, hch, HBR⟩ := hrel
    have HK := Lib.hid hk
    clear hk
    have hbr := HBR.out
    have fz : ∀ i, W.frozen? ⟨bt, i, none⟩ = false → bt < W.heap.size → wr.frozen? ⟨bt, i, none⟩ = false := fun i h hl => by
      have h9 := hbr.block bt hl
      simp only [World.frozen?, h9] at h ⊢
      exact h
    have q0' := cell_below hbr q0
    have q1' := cell_below hbr q1
    have r0' := fz 0 r0 (lt_of_cell q0)
    have r1' := fz 1 r1 (lt_of_cell q1)
    have b0' := cell_below hbr b0
    have b1' := cell_below hbr b1
    have b2' := cell_below hbr b2
    have el' := elemVPF ⟨vb, 0, none⟩ ⟨bt, 0, none⟩ wr (cell_below hbr e1)
    have st' := setF bt wr.heap.size c a o0 o1 (wr.alloc (.cells #[.int .i64 c, .int .i64 a] 69)) (by simp) (by simp) (cell_allocs q0' _) (cell_allocs q1' _) (frozen_allocs (lt_of_cell q0') r0' _) (frozen_allocs (lt_of_cell q1') r1' _)
    clear q0 q1 r0 r1 b0 b1 b2 el st e1 hbr fz
    cases ms with
    | nil =>
      have e := hch
      unfold ErrAt at e
      subst e
      clear hch
      go_wp2
      go_ret
      have hg : w.grownBy W (some bt) := by rw [HW.out]; exact grownBy_allocs _ _ _
      have hg2 : W.grownBy wr (some bt) := ⟨HBR.out.os, HBR.out.tape, HBR.out.output, HBR.out.size, fun j hj _ => HBR.out.block j hj⟩
      have hc := two_cells _ bt c a o0 o1 (cell_allocs q0' (.cells #[.int .i64 c, .int .i64 a] 69)) (cell_allocs q1' _)
      exact ⟨rfl, World.grownBy.trans (World.grownBy.trans (World.grownBy.trans (World.grownBy.trans hg hg2) (grownBy_allocs _ _ _)) (grownBy_set _ _ _ _)) (grownBy_set _ _ _ _), hc.1, hc.2⟩
    | cons n r =>
      obtain ⟨inner, e, hr⟩ := hch
      subst e
      obtain ⟨ty', x', rfl⟩ := hr.iface
      have HR := Lib.hid hr
      have HU := Lib.hid (fun w => within_unwrap (.string (str n)) (.iface ty' x') ty' x' rfl w)
      clear hr
      go_wp2_with (go_at_call 150; refine (HU.out _).mono ?_; rintro e w' ⟨rfl, hbu⟩; have HBU := Lib.hid hbu; clear hbu)
      go_roundg r.length
      case measure => have := HK.out; simp at this; omega
      case rel => exact ⟨r, rfl, HR.out, Lib.hid (HBR.out.trans (HBU.out.mono HBR.out.size))⟩
end Go.Proofs.YtfjplhgajoehfaaGreatDoor
