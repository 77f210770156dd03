/-
  The landed amount: what all glue together is to be widened or narrowed by.
-/
import Derived.Test.YthcilpijiindeaaShare12
set_option linter.unusedVariables false
set_option linter.unusedSimpArgs false
namespace Go.Proofs.Ythcilpijiindeaa
open Go.RowKit

set_option maxHeartbeats 8000000 in
set_option maxRecDepth 100000 in
theorem amount_any (v : Value) (l : List It.Gl) (s : It.Stg) (w : World) (h : GlsAt w v l) (hq : It.glMay l = true) (he : -1073741823 ≤ s.e ∧ s.e ≤ 1073741823) :
    Calls Try.prog 51 #[v, stgV s] w (Ret (.int .i64 (It.amtOf l s)) w) := by
  obtain ⟨r, hr⟩ : ∃ r, r = It.amtOf l s := ⟨_, rfl⟩
  have HQ := Lib.hid hr
  rw [← hr]
  clear hr
  obtain ⟨W1, hW1⟩ : ∃ W1, W1 = w.alloc (.cells #[.int .i64 s.sg, .int .i64 s.o, .int .i64 s.e, .int .i64 s.bad] 56) := ⟨_, rfl⟩
  have HR1 := Lib.hid (obj_new w _ rfl #[.int .i64 s.sg, .int .i64 s.o, .int .i64 s.e, .int .i64 s.bad] 56)
  have HB1 := Lib.hid (below_alloc w (.cells #[.int .i64 s.sg, .int .i64 s.o, .int .i64 s.e, .int .i64 s.bad] 56))
  rw [← hW1] at HR1 HB1
  have HT := Lib.hid (total_any v l W1 (h.mono HB1.out))
  clear h
  unfold totV at HT
  rw [hq] at HT
  simp only [if_true] at HT
  unfold sumC at HT
  have hk := It.sumK_nonneg hq
  have Hk := Lib.hid (show 0 ≤ It.sumK l from by omega)
  have hr0 := Lib.cell_of_heap HR1.out 0
  have hr2 := Lib.cell_of_heap HR1.out 2
  have hneg : IntKind.i64.wrap (-s.e) = -s.e := It.wr_in (by omega) (by omega)
  unfold stgV
  by_cases h0 : 0 ≤ s.sg
  · have HE : Hid (r = s.e) := Lib.hid (by rw [HQ.out]; unfold It.amtOf; rw [if_pos h0])
    go_enter Try.func51, Try.ntmps51
    go_wp2_with fail
    rw [← hW1]
    clear hW1
    go_wp2
    exact bodyPost_ret (v := .int .i64 s.e) (by simp [results, Try.results51, go_sem]) rfl ⟨by rw [HE.out], HB1.out⟩
  · have HE : Hid (r = min (-s.e) (It.sumK l)) := Lib.hid (by rw [HQ.out]; unfold It.amtOf; rw [if_neg h0])
    go_enter Try.func51, Try.ntmps51
    go_wp2_with fail
    rw [← hW1]
    clear hW1
    refine HT.out.mono ?_
    rintro e w2 ⟨rfl, hb2⟩
    have HR2 := Lib.hid (obj_kept hb2 HR1.out)
    have HB2 := Lib.hid (below_step HB1.out hb2)
    clear hb2 hr0 hr2
    obtain ⟨W3, hW3⟩ : ∃ W, W = w2.alloc (.cells #[.int .i64 (It.sumW l), .int .i64 (It.sumK l), .int .i64 (It.sumO 0 l), .int .i64 (It.sumO 1 l), .int .i64 (It.sumO 2 l), .int .i64 (It.sumO 3 l)] 87) := ⟨_, rfl⟩
    have hb3 := below_alloc w2 (.cells #[.int .i64 (It.sumW l), .int .i64 (It.sumK l), .int .i64 (It.sumO 0 l), .int .i64 (It.sumO 1 l), .int .i64 (It.sumO 2 l), .int .i64 (It.sumO 3 l)] 87)
    have HS3 := Lib.hid (obj_new w2 _ rfl #[.int .i64 (It.sumW l), .int .i64 (It.sumK l), .int .i64 (It.sumO 0 l), .int .i64 (It.sumO 1 l), .int .i64 (It.sumO 2 l), .int .i64 (It.sumO 3 l)] 87)
    rw [← hW3] at hb3 HS3
    have HR3 := Lib.hid (obj_kept hb3 HR2.out)
    have HB3 := Lib.hid (below_step HB2.out hb3)
    clear hb3
    have s1 := Lib.cell_of_heap HS3.out 1
    have r2 := Lib.cell_of_heap HR3.out 2
    go_upto_region 4 with fail
    rw [← hW3]
    clear hW3
    go_wp2
    exact bodyPost_ret (v := .int .i64 (min (-s.e) (It.sumK l))) (by simp [results, Try.results51, go_sem]) rfl ⟨by rw [HE.out], HB3.out⟩
end Go.Proofs.Ythcilpijiindeaa
