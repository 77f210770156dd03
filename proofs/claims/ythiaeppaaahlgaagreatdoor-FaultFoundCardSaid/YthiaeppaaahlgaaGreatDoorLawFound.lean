/-
  The law FaultFound: its walk. However often a fault is wrapped, it is found as it was, with its stages in their order; it is of its own code, and of no other one.
-/
import Derived.Test.YthiaeppaaahlgaaGreatDoorFind
set_option linter.unusedVariables false
set_option linter.unusedSimpArgs false
namespace Go.Proofs.YthiaeppaaahlgaaGreatDoor
open Go.RowKit Go.Extern.Stop Go.Stop Go.Extern Go.Sort

theorem eqFlt (c a code z : Int) (w : World) : (binOp .eql 24 (.agg #[.int .i64 c, .int .i64 a]) (.agg #[.int .i64 code, .int .i64 z])).run Tryz.prog w = .ok (.bool ((c == code) && (a == z))) w := by
  rw [run_eql_struct, eqin24 9998]
  rfl
theorem mixedB : Tryz.prog.follows .mixedOrders = true := by kernel_rfl

set_option maxHeartbeats 2000000 in
set_option maxRecDepth 100000 in
theorem lawFound_big (c a code : Int) (m : Nat) (hm : 100 < m) (p : Option Addr) (cap : Nat) (w : World) (hE : Env w) :
    Calls Tryz.prog 3 #[.agg #[.int .i64 c, .int .i64 a], .slice p m cap, .int .i64 code] w (IsPost true w) := by
  have HE := Lib.hid hE
  have HB0 : Hid (Below w.heap.size w (w.alloc (.cells #[.int .i64 c, .int .i64 a] 24))) := below_alloc _ _
  clear hE
  go_enter Tryz.func3, Tryz.ntmps3
  go_wp2_with fail
  refine (fixed_any _ (HE.out.mono HB0.out)).mono ?_
  rintro e w1 ⟨rfl, hb1⟩
  have HB1 := Lib.hid (below_step HB0.out hb1)
  clear hb1
  go_wp2_with fail
  refine (fixed_any w1 (HE.out.mono HB1.out)).mono ?_
  rintro e w2 ⟨rfl, hb2⟩
  have HB2 := Lib.hid (below_step HB1.out hb2)
  clear hb2
  go_wp2_with fail
  go_ret
  exact ⟨rfl, HB2.out⟩

set_option maxHeartbeats 2000000 in
set_option maxRecDepth 1000000 in
theorem lawFound_some (c a code : Int) (ns : List ByteArray) (hn : ns.length ≤ 100) (p : Option Addr) (cap : Nat) (w : World) (hE : Env w) (hT : ErrTy w) (hv : StrsAt w (.slice p ns.length cap) ns) :
    Calls Tryz.prog 3 #[.agg #[.int .i64 c, .int .i64 a], .slice p ns.length cap, .int .i64 code] w (IsPost true w) := by
  have HE := Lib.hid hE
  have HT := Lib.hid hT
  have HV := Lib.hid hv
  have mixed := mixedB
  have HB0 : Hid (Below w.heap.size w (w.alloc (.cells #[.int .i64 c, .int .i64 a] 24))) := below_alloc _ _
  clear hE hT hv
  go_enter Tryz.func3, Tryz.ntmps3
  go_wp2_with fail
  refine (fixed_any _ (HE.out.mono HB0.out)).mono ?_
  rintro e w1 ⟨rfl, hb1⟩
  have HB1 := Lib.hid (below_step HB0.out hb1)
  have f0 : w1.cell? ⟨w.heap.size, 0, none⟩ = some (.int .i64 c) := cell_below hb1 (by simp)
  have f1 : w1.cell? ⟨w.heap.size, 1, none⟩ = some (.int .i64 a) := cell_below hb1 (by simp)
  clear hb1
  go_wp2_with fail
  refine (find_any c a ns (by omega) _ w1 (HT.out.mono HB1.out) (HV.out.mono HB1.out)).mono ?_
  rintro e w2 ⟨v2, rfl, hs2, hb2⟩
  have HB2 := Lib.hid (below_step HB1.out hb2)
  have HS2 := Lib.hid hs2
  have g0 := cell_alloc (cell_below hb2 f0) (.cells #[.int .i64 c, .int .i64 a] 24)
  have g1 := cell_alloc (cell_below hb2 f1) (.cells #[.int .i64 c, .int .i64 a] 24)
  clear hs2 hb2 f0 f1
  go_wp2_with fail
  obtain ⟨W, hW⟩ : ∃ W, W = w2.alloc (.cells #[.int .i64 c, .int .i64 a] 24) := ⟨_, rfl⟩
  have m0 : W.cell? ⟨w2.heap.size, 0, none⟩ = some (.int .i64 c) := by rw [hW]; simp
  have m1 : W.cell? ⟨w2.heap.size, 1, none⟩ = some (.int .i64 a) := by rw [hW]; simp
  rw [← hW] at g0 g1
  have HBW : Hid (Below w.heap.size w W) := by rw [hW]; exact below_step HB2.out (below_alloc _ _)
  have HSW : Hid (StrsAt W v2 ns) := by rw [hW]; exact HS2.out.mono (below_alloc _ _)
  rw [← hW]
  clear hW
  have k0 := cell_regrown g0
  have k1 := cell_regrown g1
  have k2 := cell_regrown m0
  have k3 := cell_regrown m1
  have HTX : Hid (decide (lns ns = lns ns) = true) := decide_eq_true rfl
  have cX : ∀ d os, Calls Tryz.prog 7 #[v2, .slice p ns.length cap] (grow (redrawn W d) os) fun e w'' => e = .returned (.bool true) ∧ ∃ p : Regrown, w'' = grow (redrawn W p.d) p.os := fun d os => Calls.regrown_of ((texts_at v2 (.slice p ns.length cap) ns ns true HTX.out _ (HSW.out.mono (below_regrown W d os)) (HV.out.mono (below_step HBW.out (below_regrown W d os)))).mono fun e w' ⟨he, n, hw⟩ => ⟨he, by rw [hw]; exact below_drewN (Below.refl _ _) n⟩)
  have cH : ∀ d os, Calls Tryz.prog 8 #[.agg #[.int .i64 c, .int .i64 a], .slice p ns.length cap, .int .i64 c] (grow (redrawn W d) os) fun e w'' => e = .returned (.bool true) ∧ ∃ p : Regrown, w'' = grow (redrawn W p.d) p.os := fun d os => Calls.regrown_of (has_at c a c true (by simp) ns _ _ (HV.out.mono (below_step HBW.out (below_regrown W d os))))
  have hq := eqFlt c a c a
  clear g0 g1 m0 m1
  by_cases hcc : code = c
  case' pos =>
    subst hcc
    have cI := cH
  case' neg =>
    have cI : ∀ d os, Calls Tryz.prog 8 #[.agg #[.int .i64 c, .int .i64 a], .slice p ns.length cap, .int .i64 code] (grow (redrawn W d) os) fun e w'' => e = .returned (.bool false) ∧ ∃ p : Regrown, w'' = grow (redrawn W p.d) p.os := fun d os => Calls.regrown_of (has_at c a code false (by simp [hcc]) ns _ _ (HV.out.mono (below_step HBW.out (below_regrown W d os))))
  all_goals
    refine wp_region_quiet_below (by assumption) (by kernel_rfl) ?_
    repeat (quiet_step (first | with_reducible exact cX _ _ | with_reducible exact cH _ _ | with_reducible exact cI _ _))
    refine wpQuiet_nil ?_
    intro _ hw'
    obtain ⟨⟨dq, osq⟩, hw''⟩ := hw'
    subst hw''
    go_wp2_with fail
    go_ret
    exact ⟨by simp <;> assumption, below_step HBW.out (below_regrown W dq osq)⟩

/-- THE LAW, AT EVERY FAULT, SLICE OF STAGES AND CODE. -/
theorem lawFound_any (c a code : Int) (ns : List ByteArray) (v : Value) (w : World) (hE : Env w) (hT : ErrTy w) (hv : StrsAt w v ns) :
    Calls Tryz.prog 3 #[.agg #[.int .i64 c, .int .i64 a], v, .int .i64 code] w (IsPost true w) := by
  obtain ⟨p, cap, rfl⟩ := hv.1
  by_cases h : 100 < ns.length
  · exact lawFound_big c a code _ h p cap w hE
  · exact lawFound_some c a code ns (by omega) p cap w hE hT hv
end Go.Proofs.YthiaeppaaahlgaaGreatDoor
