/-
  What the document fixes: the law's six rows, and fixed.
-/
import Derived.Test.YtffjboddnjbepaaLst16
set_option linter.unusedVariables false
set_option linter.unusedSimpArgs false
namespace Go.Proofs.Ytffjboddnjbepaa
open Go.RowKit

def r0 : Ln.Rw := ⟨0, 0, 0, 0, false, false, false⟩
def rS : Ln.Rw := ⟨0, 0, 0, 0, true, false, false⟩
def rK : Ln.Rw := ⟨0, 0, 0, 0, false, true, false⟩
def sixL : List Ln.Rw := [r0, rS, rS, r0, rK, r0]
def sixN : List (Int × Int) := [(1, 0), (1, 1), (1, 2), (2, 0), (0, 0), (3, 0)]
def sixB : List Bool := [false, false, false, true, false, true]
theorem six_num : Ln.number 0 sixL = sixN := by kernel_rfl
theorem six_mar : Ln.margin sixN 2 1 = sixB := by kernel_rfl
theorem six_unit : Ln.unit 2 ⟨0, 3, 4, 0, false, false, false⟩ = (3, 4, 1) := by kernel_rfl
def sixC : Array Value := (sixL.flatMap rwC).toArray
set_option maxHeartbeats 4000000 in
set_option maxRecDepth 100000 in
theorem six_any (w : World) : Calls Try.prog 13 #[] w fun e w' => ∃ v, e = .returned v ∧ RwsAt w' v sixL ∧ Below w.heap.size w w' := by
  go_enter Try.func13, Try.ntmps13
  go_wp2
  go_ret
  exact ⟨_, rfl, slc_new rwC_len w _ rfl sixL 29 (by decide) _ rfl, below_alloc w _⟩
set_option maxHeartbeats 4000000 in
set_option maxRecDepth 100000 in
theorem fixed16_any (w : World) : Calls Try.prog 8 #[] w fun e w' => e = .returned (.bool true) ∧ Below w.heap.size w w' := by
  have H6 := Lib.hid six_any
  have HN := Lib.hid (fun v w h => number_any v sixL 0 w h (by decide))
  have HM := Lib.hid (fun v w h => margin_any v sixN 2 1 w h (by decide))
  have HU := Lib.hid (fun w => unit_any ⟨0, 3, 4, 0, false, false, false⟩ 2 w)
  rw [six_num] at HN
  rw [six_mar] at HM
  rw [six_unit] at HU
  unfold rwV unV at HU
  simp only [] at HU
  go_enter Try.func8, Try.ntmps8
  go_wp2_with fail
  refine (H6.out _).mono ?_
  rintro e w1 ⟨v1, rfl, h1, hb1⟩
  have HB1 := Lib.hid hb1
  have HV1 := Lib.hid h1
  clear hb1 h1
  go_wp2_with fail
  refine (HN.out _ _ HV1.out).mono ?_
  rintro e w2 ⟨v2, rfl, h2, hb2⟩
  have HB2 := Lib.hid (below_step HB1.out hb2)
  have HV2 := Lib.hid h2
  clear hb2 h2
  go_wp2_with fail
  refine (HM.out _ _ HV2.out).mono ?_
  rintro e w3 ⟨v3, rfl, h3, hb3⟩
  have HB3 := Lib.hid (below_step HB2.out hb3)
  have HV2b := Lib.hid (SlcAt.mono HV2.out hb3)
  have HV3 := Lib.hid h3
  clear hb3 h3
  have hA := below_alloc w3 (.cells #[.int .i64 1, .int .i64 0, .int .i64 1, .int .i64 1, .int .i64 1, .int .i64 2, .int .i64 2, .int .i64 0, .int .i64 0, .int .i64 0, .int .i64 3, .int .i64 0] 31)
  have HL := Lib.hid (slc_new nmC_len w3 _ rfl sixN 31 (by decide) #[.int .i64 1, .int .i64 0, .int .i64 1, .int .i64 1, .int .i64 1, .int .i64 2, .int .i64 2, .int .i64 0, .int .i64 0, .int .i64 0, .int .i64 3, .int .i64 0] rfl)
  obtain ⟨w4, hw4⟩ : ∃ W, W = w3.alloc (.cells #[.int .i64 1, .int .i64 0, .int .i64 1, .int .i64 1, .int .i64 1, .int .i64 2, .int .i64 2, .int .i64 0, .int .i64 0, .int .i64 0, .int .i64 3, .int .i64 0] 31) := ⟨_, rfl⟩
  rw [← hw4] at hA HL
  have HV2c := Lib.hid (SlcAt.mono HV2b.out hA)
  have HV3c := Lib.hid (SlcAt.mono HV3.out hA)
  have HB4 := Lib.hid (below_step HB3.out hA)
  have HNs := Lib.hid (refNums_any _ _ _ _ _ HV2c.out HL.out)
  rw [show decide (sixN = sixN) = true from decide_eq_true rfl] at HNs
  clear hA
  go_wp2_with fail
  rw [← hw4]
  clear hw4
  refine HNs.out.mono ?_
  rintro e w5 ⟨rfl, hb5⟩
  have HB5 := Lib.hid (below_step HB4.out hb5)
  have HV3d := Lib.hid (SlcAt.mono HV3c.out hb5)
  clear hb5
  have hA := below_alloc w5 (.cells #[.bool false, .bool false, .bool false, .bool true, .bool false, .bool true] 4)
  have HLb := Lib.hid (slc_new blC_len w5 _ rfl sixB 4 (by decide) #[.bool false, .bool false, .bool false, .bool true, .bool false, .bool true] rfl)
  obtain ⟨w6, hw6⟩ : ∃ W, W = w5.alloc (.cells #[.bool false, .bool false, .bool false, .bool true, .bool false, .bool true] 4) := ⟨_, rfl⟩
  rw [← hw6] at hA HLb
  have HB6 := Lib.hid (below_step HB5.out hA)
  have HBs := Lib.hid (refBools_any _ _ _ _ _ (SlcAt.mono HV3d.out hA) HLb.out)
  rw [show decide (sixB = sixB) = true from decide_eq_true rfl] at HBs
  clear hA
  go_wp2_with fail
  rw [← hw6]
  clear hw6
  refine HBs.out.mono ?_
  rintro e w7 ⟨rfl, hb7⟩
  have HB7 := Lib.hid (below_step HB6.out hb7)
  clear hb7
  go_wp2_with fail
  refine (HU.out _).mono ?_
  rintro e w8 ⟨rfl, hb8⟩
  have HB8 := Lib.hid (below_step HB7.out hb8)
  clear hb8
  have heq : ∀ w, (binOp .eql 26 (.agg #[.int .i64 3, .int .i64 4, .int .i64 1]) (.agg #[.int .i64 3, .int .i64 4, .int .i64 1])).run Try.prog w = .ok (.bool true) w := fun w => by
    rw [run_eql_struct, eq_unit]
    rfl
  go_wp2
  go_ret
  exact ⟨rfl, HB8.out⟩
end Go.Proofs.Ytffjboddnjbepaa
