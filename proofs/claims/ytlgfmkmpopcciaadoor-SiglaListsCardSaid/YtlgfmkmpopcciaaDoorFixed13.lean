/-
  The law's five witnesses, and the calls whose answers the document fixes.
-/
import Derived.Test.YtlgfmkmpopcciaaDoorExpand13
import Derived.Test.YtlgfmkmpopcciaaDoorParse13
import Derived.Test.YtlgfmkmpopcciaaDoorRefSame13
set_option linter.unusedVariables false
set_option linter.unusedSimpArgs false
namespace Go.Proofs.YtlgfmkmpopcciaaDoor
open Go.RowKit

def fiveL : List Sg.Sig := [⟨[65], [97]⟩, ⟨[66], [98]⟩, ⟨[67], [99]⟩, ⟨[68], [100]⟩, ⟨[69], [101]⟩]
theorem five_small : SgSmall fiveL := by
  intro x hx
  simp only [fiveL, List.mem_cons, List.not_mem_nil, or_false] at hx
  rcases hx with rfl | rfl | rfl | rfl | rfl <;> exact ⟨by simp, by simp⟩
def FivePost (w : World) (e : Ending) (w' : World) : Prop := ∃ v, e = .returned v ∧ SgsAt w' v fiveL ∧ Below w.heap.size w w'
set_option maxHeartbeats 1000000 in
set_option maxRecDepth 100000 in
theorem five_any (w : World) : Calls Tryd.prog 25 #[] w (FivePost w) := by
  have HS := Lib.hid (slc_new sgC_len w w.heap.size rfl fiveL 45 (by simp [fiveL]) #[.string ⟨#[65]⟩, .string ⟨#[97]⟩, .string ⟨#[66]⟩, .string ⟨#[98]⟩, .string ⟨#[67]⟩, .string ⟨#[99]⟩, .string ⟨#[68]⟩, .string ⟨#[100]⟩, .string ⟨#[69]⟩, .string ⟨#[101]⟩] rfl)
  go_enter Tryd.func25, Tryd.ntmps25
  go_wp2
  go_ret
  exact ⟨_, rfl, HS.out, below_alloc _ _⟩
theorem fx_c1 : Sg.compact fiveL [[66], [65], [67], [69]] = ([65, 46, 46, 67, 32, 69], 0, 0) := by decide +kernel
theorem fx_c2 : Sg.compact fiveL [[65], [66]] = ([65, 32, 66], 0, 0) := by decide +kernel
theorem fx_e1 : Sg.expand fiveL [65, 46, 46, 67, 32, 69] = ([[65], [66], [67], [69]], 0, 0) := by decide +kernel
theorem fx_e2 : Sg.expand fiveL [65, 32, 88] = ([], 133, 1) := by decide +kernel
theorem fx_p : Sg.parse [65, 32, 97, 10, 66, 32, 98, 10, 67, 32, 99, 10, 68, 32, 100, 10, 69, 32, 101, 10] = (fiveL, 0, 0) := by decide +kernel
theorem fx_m : Sg.may fiveL = true := by decide +kernel
theorem tx_small {l : List (List UInt8)} (h : ∀ x ∈ l, x.length ≤ 1) : TxSmall l := fun x hx => by have := h x hx; omega
def FltObj (w : World) (p : Nat) (c a : Int) : Prop := w.heap[p]? = some (.cells #[.int .i64 c, .int .i64 a] 26 (0, 0))
theorem FltObj.mono {w w' : World} {p : Nat} {c a : Int} (h : FltObj w p c a) (hb : Below w.heap.size w w') : FltObj w' p c a := obj_kept hb h
theorem flt_obj (w : World) (c a : Int) : FltObj (w.alloc (.cells #[.int .i64 c, .int .i64 a] 26)) w.heap.size c a := obj_new w _ rfl _ _
set_option maxHeartbeats 8000000 in
set_option maxRecDepth 100000 in
theorem fixed_any (m : Int) (w : World) (hm : w.cell? ⟨0, 0, none⟩ = some (.int .i64 m)) : Calls Tryd.prog 9 #[] w (Ret (.bool true) w) := by
  have HF := Lib.hid (fun w => five_any w)
  have HC1 := Lib.hid (fun v kv w h hk => compact_any v kv fiveL [[66], [65], [67], [69]] w h five_small hk (tx_small (by simp)))
  have HC2 := Lib.hid (fun v kv w h hk => compact_any v kv fiveL [[65], [66]] w h five_small hk (tx_small (by simp)))
  have HE1 := Lib.hid (fun v w h hm => expand_any v fiveL [65, 46, 46, 67, 32, 69] m w h five_small (by simp) hm)
  have HE2 := Lib.hid (fun v w h hm => expand_any v fiveL [65, 32, 88] m w h five_small (by simp) hm)
  have HP := Lib.hid (fun w => parse_any [65, 32, 97, 10, 66, 32, 98, 10, 67, 32, 99, 10, 68, 32, 100, 10, 69, 32, 101, 10] (by simp) w)
  have HMy := Lib.hid (fun v w h => may_any v fiveL w h five_small)
  unfold CompPost at HC1 HC2
  unfold ExpPost at HE1 HE2
  unfold ParsePost at HP
  rw [fx_c1] at HC1
  rw [fx_c2] at HC2
  rw [fx_e1] at HE1
  rw [fx_e2] at HE2
  rw [fx_p] at HP
  rw [fx_m] at HMy
  have s1 : str [65, 46, 46, 67, 32, 69] = ⟨#[65, 46, 46, 67, 32, 69]⟩ := rfl
  have s2 : str [65, 32, 66] = ⟨#[65, 32, 66]⟩ := rfl
  have s3 : str [65, 32, 88] = ⟨#[65, 32, 88]⟩ := rfl
  have s4 : str [65, 32, 97, 10, 66, 32, 98, 10, 67, 32, 99, 10, 68, 32, 100, 10, 69, 32, 101, 10] = ⟨#[65, 32, 97, 10, 66, 32, 98, 10, 67, 32, 99, 10, 68, 32, 100, 10, 69, 32, 101, 10]⟩ := rfl
  simp only [s1, s2, s3, s4, flt] at HC1 HC2 HE1 HE2 HP
  have Hm := Lib.hid hm
  have HB : Hid (Below w.heap.size w w) := Lib.hid (Below.refl _ _)
  clear hm s1 s2 s3 s4
  go_enter Tryd.func9, Tryd.ntmps9
  go_wp2_with fail
  refine (HF.out _).mono ?_
  rintro e wa1 ⟨v1, rfl, hv1, hb⟩
  have HV1 := Lib.hid hv1
  have HB := Lib.hid (below_step HB.out hb)
  clear hb hv1
  have hb := below_alloc wa1 (.cells #[.string ⟨#[66]⟩, .string ⟨#[65]⟩, .string ⟨#[67]⟩, .string ⟨#[69]⟩] 9)
  have HKv := Lib.hid (slc_new txC_len wa1 wa1.heap.size rfl [[66], [65], [67], [69]] 9 (by simp) #[.string ⟨#[66]⟩, .string ⟨#[65]⟩, .string ⟨#[67]⟩, .string ⟨#[69]⟩] rfl)
  have HV1' := Lib.hid (HV1.out.mono hb)
  clear HV1
  have HV1 := HV1'
  clear HV1'
  have HB := Lib.hid (below_step HB.out hb)
  clear hb
  go_wp2_with fail
  refine (HC1.out _ _ _ HV1.out HKv.out).mono ?_
  rintro e wb1 ⟨rfl, hb⟩
  have HB := Lib.hid (below_step HB.out hb)
  clear hb HKv HV1
  have hb := below_alloc wb1 (.cells #[.int .i64 0, .int .i64 0] 26)
  have HO1 := Lib.hid (flt_obj wb1 0 0)
  have HB := Lib.hid (below_step HB.out hb)
  clear hb
  go_wp2_with fail
  refine (HF.out _).mono ?_
  rintro e wa2 ⟨v2, rfl, hv2, hb⟩
  have HV2 := Lib.hid hv2
  have HO1' := Lib.hid (HO1.out.mono hb)
  clear HO1
  have HO1 := HO1'
  clear HO1'
  have HB := Lib.hid (below_step HB.out hb)
  clear hb hv2
  have hb := below_alloc wa2 (.cells #[.string ⟨#[65]⟩, .string ⟨#[66]⟩] 9)
  have HKv := Lib.hid (slc_new txC_len wa2 wa2.heap.size rfl [[65], [66]] 9 (by simp) #[.string ⟨#[65]⟩, .string ⟨#[66]⟩] rfl)
  have HO1' := Lib.hid (HO1.out.mono hb)
  have HV2' := Lib.hid (HV2.out.mono hb)
  clear HO1 HV2
  have HO1 := HO1'
  have HV2 := HV2'
  clear HO1' HV2'
  have HB := Lib.hid (below_step HB.out hb)
  clear hb
  go_wp2_with fail
  refine (HC2.out _ _ _ HV2.out HKv.out).mono ?_
  rintro e wb2 ⟨rfl, hb⟩
  have HO1' := Lib.hid (HO1.out.mono hb)
  clear HO1
  have HO1 := HO1'
  clear HO1'
  have HB := Lib.hid (below_step HB.out hb)
  clear hb HKv HV2
  have hb := below_alloc wb2 (.cells #[.int .i64 0, .int .i64 0] 26)
  have HO2 := Lib.hid (flt_obj wb2 0 0)
  have HO1' := Lib.hid (HO1.out.mono hb)
  clear HO1
  have HO1 := HO1'
  clear HO1'
  have HB := Lib.hid (below_step HB.out hb)
  clear hb
  go_wp2_with fail
  refine (HF.out _).mono ?_
  rintro e wa3 ⟨v3, rfl, hv3, hb⟩
  have HV3 := Lib.hid hv3
  have HO1' := Lib.hid (HO1.out.mono hb)
  have HO2' := Lib.hid (HO2.out.mono hb)
  clear HO1 HO2
  have HO1 := HO1'
  have HO2 := HO2'
  clear HO1' HO2'
  have HB := Lib.hid (below_step HB.out hb)
  clear hb hv3
  go_wp2_with fail
  refine (HE1.out _ _ HV3.out (cell_below HB.out Hm.out)).mono ?_
  rintro e wb3 ⟨u3, rfl, ho, hb⟩
  have HU3 := Lib.hid (ho.at txC_len)
  have HO1' := Lib.hid (HO1.out.mono hb)
  have HO2' := Lib.hid (HO2.out.mono hb)
  clear HO1 HO2
  have HO1 := HO1'
  have HO2 := HO2'
  clear HO1' HO2'
  have HB := Lib.hid (below_step HB.out hb)
  clear hb ho HV3
  have hb := below_alloc wb3 (.cells #[.int .i64 0, .int .i64 0] 26)
  have HO3 := Lib.hid (flt_obj wb3 0 0)
  have HO1' := Lib.hid (HO1.out.mono hb)
  have HO2' := Lib.hid (HO2.out.mono hb)
  have HU3' := Lib.hid (HU3.out.mono hb)
  clear HO1 HO2 HU3
  have HO1 := HO1'
  have HO2 := HO2'
  have HU3 := HU3'
  clear HO1' HO2' HU3'
  have HB := Lib.hid (below_step HB.out hb)
  clear hb
  go_wp2_with fail
  refine (HF.out _).mono ?_
  rintro e wa4 ⟨v4, rfl, hv4, hb⟩
  have HV4 := Lib.hid hv4
  have HO1' := Lib.hid (HO1.out.mono hb)
  have HO2' := Lib.hid (HO2.out.mono hb)
  have HU3' := Lib.hid (HU3.out.mono hb)
  have HO3' := Lib.hid (HO3.out.mono hb)
  clear HO1 HO2 HU3 HO3
  have HO1 := HO1'
  have HO2 := HO2'
  have HU3 := HU3'
  have HO3 := HO3'
  clear HO1' HO2' HU3' HO3'
  have HB := Lib.hid (below_step HB.out hb)
  clear hb hv4
  go_wp2_with fail
  refine (HE2.out _ _ HV4.out (cell_below HB.out Hm.out)).mono ?_
  rintro e wb4 ⟨u4, rfl, ho, hb⟩
  have HU4 := Lib.hid (ho.at txC_len)
  have HO1' := Lib.hid (HO1.out.mono hb)
  have HO2' := Lib.hid (HO2.out.mono hb)
  have HU3' := Lib.hid (HU3.out.mono hb)
  have HO3' := Lib.hid (HO3.out.mono hb)
  clear HO1 HO2 HU3 HO3
  have HO1 := HO1'
  have HO2 := HO2'
  have HU3 := HU3'
  have HO3 := HO3'
  clear HO1' HO2' HU3' HO3'
  have HB := Lib.hid (below_step HB.out hb)
  clear hb ho HV4
  have hb := below_alloc wb4 (.cells #[.int .i64 133, .int .i64 1] 26)
  have HO4 := Lib.hid (flt_obj wb4 133 1)
  have HO1' := Lib.hid (HO1.out.mono hb)
  have HO2' := Lib.hid (HO2.out.mono hb)
  have HU3' := Lib.hid (HU3.out.mono hb)
  have HO3' := Lib.hid (HO3.out.mono hb)
  have HU4' := Lib.hid (HU4.out.mono hb)
  clear HO1 HO2 HU3 HO3 HU4
  have HO1 := HO1'
  have HO2 := HO2'
  have HU3 := HU3'
  have HO3 := HO3'
  have HU4 := HU4'
  clear HO1' HO2' HU3' HO3' HU4'
  have HB := Lib.hid (below_step HB.out hb)
  clear hb
  go_wp2_with fail
  refine (HP.out _).mono ?_
  rintro e wp ⟨up, rfl, ho, hb⟩
  have HUp := Lib.hid (ho.at sgC_len)
  have HO1' := Lib.hid (HO1.out.mono hb)
  have HO2' := Lib.hid (HO2.out.mono hb)
  have HU3' := Lib.hid (HU3.out.mono hb)
  have HO3' := Lib.hid (HO3.out.mono hb)
  have HU4' := Lib.hid (HU4.out.mono hb)
  have HO4' := Lib.hid (HO4.out.mono hb)
  clear HO1 HO2 HU3 HO3 HU4 HO4
  have HO1 := HO1'
  have HO2 := HO2'
  have HU3 := HU3'
  have HO3 := HO3'
  have HU4 := HU4'
  have HO4 := HO4'
  clear HO1' HO2' HU3' HO3' HU4' HO4'
  have HB := Lib.hid (below_step HB.out hb)
  clear hb ho
  have hb := below_alloc wp (.cells #[.int .i64 0, .int .i64 0] 26)
  have HOp := Lib.hid (flt_obj wp 0 0)
  have HO1' := Lib.hid (HO1.out.mono hb)
  have HO2' := Lib.hid (HO2.out.mono hb)
  have HU3' := Lib.hid (HU3.out.mono hb)
  have HO3' := Lib.hid (HO3.out.mono hb)
  have HU4' := Lib.hid (HU4.out.mono hb)
  have HO4' := Lib.hid (HO4.out.mono hb)
  have HUp' := Lib.hid (HUp.out.mono hb)
  clear HO1 HO2 HU3 HO3 HU4 HO4 HUp
  have HO1 := HO1'
  have HO2 := HO2'
  have HU3 := HU3'
  have HO3 := HO3'
  have HU4 := HU4'
  have HO4 := HO4'
  have HUp := HUp'
  clear HO1' HO2' HU3' HO3' HU4' HO4' HUp'
  have HB := Lib.hid (below_step HB.out hb)
  clear hb
  obtain ⟨q0a, q0b⟩ := two_of13 HO1.out
  obtain ⟨q1a, q1b⟩ := two_of13 HO2.out
  obtain ⟨q2a, q2b⟩ := two_of13 HO3.out
  obtain ⟨q3a, q3b⟩ := two_of13 HO4.out
  obtain ⟨q4a, q4b⟩ := two_of13 HOp.out
  go_wp2_with fail
  obtain ⟨W1, hW1⟩ : ∃ W1, W1 = wp.alloc (.cells #[.int .i64 0, .int .i64 0] 26) := ⟨_, rfl⟩
  rw [← hW1] at HO1 HO2 HU3 HO3 HU4 HO4 HUp HOp HB ⊢
  have hb := below_alloc W1 (.cells #[.string ⟨#[65]⟩, .string ⟨#[66]⟩, .string ⟨#[67]⟩, .string ⟨#[69]⟩] 9)
  have HKv := Lib.hid (slc_new txC_len W1 (wp.heap.size + 1) (by rw [hW1, World.size_alloc]) [[65], [66], [67], [69]] 9 (by simp) #[.string ⟨#[65]⟩, .string ⟨#[66]⟩, .string ⟨#[67]⟩, .string ⟨#[69]⟩] rfl)
  have HO1' := Lib.hid (HO1.out.mono hb)
  have HO2' := Lib.hid (HO2.out.mono hb)
  have HU3' := Lib.hid (HU3.out.mono hb)
  have HO3' := Lib.hid (HO3.out.mono hb)
  have HU4' := Lib.hid (HU4.out.mono hb)
  have HO4' := Lib.hid (HO4.out.mono hb)
  have HUp' := Lib.hid (HUp.out.mono hb)
  have HOp' := Lib.hid (HOp.out.mono hb)
  clear HO1 HO2 HU3 HO3 HU4 HO4 HUp HOp
  have HO1 := HO1'
  have HO2 := HO2'
  have HU3 := HU3'
  have HO3 := HO3'
  have HU4 := HU4'
  have HO4 := HO4'
  have HUp := HUp'
  have HOp := HOp'
  clear HO1' HO2' HU3' HO3' HU4' HO4' HUp' HOp'
  have HB := Lib.hid (below_step HB.out hb)
  clear hb
  clear q0a q0b q1a q1b q2a q2b q3a q3b q4a q4b
  refine (texts_self _ _ _ _ HU3.out HKv.out).mono ?_
  rintro e w6 ⟨rfl, nd, rfl⟩
  have hb := below_drew (W1.alloc (.cells #[.string ⟨#[65]⟩, .string ⟨#[66]⟩, .string ⟨#[67]⟩, .string ⟨#[69]⟩] 9)) nd
  have HO1' := Lib.hid (HO1.out.mono hb)
  have HO2' := Lib.hid (HO2.out.mono hb)
  have HU3' := Lib.hid (HU3.out.mono hb)
  have HO3' := Lib.hid (HO3.out.mono hb)
  have HU4' := Lib.hid (HU4.out.mono hb)
  have HO4' := Lib.hid (HO4.out.mono hb)
  have HUp' := Lib.hid (HUp.out.mono hb)
  have HOp' := Lib.hid (HOp.out.mono hb)
  clear HO1 HO2 HU3 HO3 HU4 HO4 HUp HOp
  have HO1 := HO1'
  have HO2 := HO2'
  have HU3 := HU3'
  have HO3 := HO3'
  have HU4 := HU4'
  have HO4 := HO4'
  have HUp := HUp'
  have HOp := HOp'
  clear HO1' HO2' HU3' HO3' HU4' HO4' HUp' HOp'
  have HB := Lib.hid (below_step HB.out hb)
  generalize (W1.alloc (.cells #[.string ⟨#[65]⟩, .string ⟨#[66]⟩, .string ⟨#[67]⟩, .string ⟨#[69]⟩] 9)).drewN nd = W7 at *
  clear hb HKv HU3 hW1
  obtain ⟨q0a, q0b⟩ := two_of13 HO1.out
  obtain ⟨q1a, q1b⟩ := two_of13 HO2.out
  obtain ⟨q2a, q2b⟩ := two_of13 HO3.out
  obtain ⟨q3a, q3b⟩ := two_of13 HO4.out
  obtain ⟨q4a, q4b⟩ := two_of13 HOp.out
  go_wp2_with fail
  refine (HF.out _).mono ?_
  rintro e wa5 ⟨v5, rfl, hv5, hb⟩
  have HV5 := Lib.hid hv5
  have HO1' := Lib.hid (HO1.out.mono hb)
  have HO2' := Lib.hid (HO2.out.mono hb)
  have HO3' := Lib.hid (HO3.out.mono hb)
  have HU4' := Lib.hid (HU4.out.mono hb)
  have HO4' := Lib.hid (HO4.out.mono hb)
  have HUp' := Lib.hid (HUp.out.mono hb)
  have HOp' := Lib.hid (HOp.out.mono hb)
  clear HO1 HO2 HO3 HU4 HO4 HUp HOp
  have HO1 := HO1'
  have HO2 := HO2'
  have HO3 := HO3'
  have HU4 := HU4'
  have HO4 := HO4'
  have HUp := HUp'
  have HOp := HOp'
  clear HO1' HO2' HO3' HU4' HO4' HUp' HOp'
  have HB := Lib.hid (below_step HB.out hb)
  clear hb hv5
  clear q0a q0b q1a q1b q2a q2b q3a q3b q4a q4b
  go_wp2_with fail
  refine (same_self _ _ _ _ HUp.out HV5.out).mono ?_
  rintro e w8 ⟨rfl, ne, rfl⟩
  have hb := below_drew wa5 ne
  have HO1' := Lib.hid (HO1.out.mono hb)
  have HO2' := Lib.hid (HO2.out.mono hb)
  have HO3' := Lib.hid (HO3.out.mono hb)
  have HU4' := Lib.hid (HU4.out.mono hb)
  have HO4' := Lib.hid (HO4.out.mono hb)
  have HUp' := Lib.hid (HUp.out.mono hb)
  have HOp' := Lib.hid (HOp.out.mono hb)
  have HV5' := Lib.hid (HV5.out.mono hb)
  clear HO1 HO2 HO3 HU4 HO4 HUp HOp HV5
  have HO1 := HO1'
  have HO2 := HO2'
  have HO3 := HO3'
  have HU4 := HU4'
  have HO4 := HO4'
  have HUp := HUp'
  have HOp := HOp'
  have HV5 := HV5'
  clear HO1' HO2' HO3' HU4' HO4' HUp' HOp' HV5'
  have HB := Lib.hid (below_step HB.out hb)
  generalize wa5.drewN ne = W9 at *
  clear hb
  go_wp2_with fail
  refine (HF.out _).mono ?_
  rintro e wa6 ⟨v6, rfl, hv6, hb⟩
  have HV6 := Lib.hid hv6
  have HO1' := Lib.hid (HO1.out.mono hb)
  have HO2' := Lib.hid (HO2.out.mono hb)
  have HO3' := Lib.hid (HO3.out.mono hb)
  have HU4' := Lib.hid (HU4.out.mono hb)
  have HO4' := Lib.hid (HO4.out.mono hb)
  have HUp' := Lib.hid (HUp.out.mono hb)
  have HOp' := Lib.hid (HOp.out.mono hb)
  have HV5' := Lib.hid (HV5.out.mono hb)
  clear HO1 HO2 HO3 HU4 HO4 HUp HOp HV5
  have HO1 := HO1'
  have HO2 := HO2'
  have HO3 := HO3'
  have HU4 := HU4'
  have HO4 := HO4'
  have HUp := HUp'
  have HOp := HOp'
  have HV5 := HV5'
  clear HO1' HO2' HO3' HU4' HO4' HUp' HOp' HV5'
  have HB := Lib.hid (below_step HB.out hb)
  clear hb hv6
  go_wp2_with fail
  refine (HMy.out _ _ HV6.out).mono ?_
  rintro e w10 ⟨rfl, hb⟩
  have HB := Lib.hid (below_step HB.out hb)
  clear hb
  go_wp2
  go_ret
  exact ⟨rfl, HB.out⟩
end Go.Proofs.YtlgfmkmpopcciaaDoor
