/-
  The walk of the law UtfFaults: it returns true.
-/
import Derived.Test.YtacghcpkkfhfhaaDoorFixed4
set_option linter.unusedVariables false
set_option linter.unusedSimpArgs false
namespace Go.Proofs.YtacghcpkkfhfhaaDoor
open Go.RowKit

theorem take_text (s : ByteArray) (a : Nat) : (s.extract 0 a).data.toList = s.data.toList.take a := by
  rw [ByteArray.data_extract, Array.toList_extract]
  simp
theorem ahead_clean (s : ByteArray) : decL (s.extract 0 (Ut.stop s.data.toList)).data.toList = asInts (Ut.dec s.data.toList).1 ∧ decC (s.extract 0 (Ut.stop s.data.toList)).data.toList = 0 ∧ decA (s.extract 0 (Ut.stop s.data.toList)).data.toList = 0 := by
  have h := Ut.up_to_fault s.data.toList
  have hc : Ut.clean (s.extract 0 (Ut.stop s.data.toList)).data.toList = true := by
    rw [take_text]
    unfold Ut.clean
    rw [h]; rfl
  have hd := dec_yes hc
  refine ⟨?_, hd.2.1, hd.2.2.1⟩
  rw [hd.1, take_text, h]
theorem more_same (s t : ByteArray) (h : 4 ≤ s.size - Ut.stop s.data.toList) : decL (s ++ t).data.toList = [] ∧ decC (s ++ t).data.toList = 40 ∧ decA (s ++ t).data.toList = (Ut.stop s.data.toList : Int) := by
  rw [Lib.size_eq] at h
  have e : (s ++ t).data.toList = s.data.toList ++ t.data.toList := by rw [ByteArray.data_append, Array.toList_append]
  have hf := Ut.fault_stays s.data.toList t.data.toList h
  rw [e]
  have hd := dec_no hf.2
  refine ⟨hd.1, hd.2.1, ?_⟩
  rw [hd.2.2.1]
  unfold Ut.stop
  rw [hf.1]

set_option maxHeartbeats 2000000 in
set_option maxRecDepth 100000 in
theorem faults_clean (s t : ByteArray) (hs : (s.size + t.size) * 8 ≤ 140737488355328) (hc : Ut.clean s.data.toList = true) (w : World) (hT : Tabs w) : Calls Tryd.prog 6 #[.string s, .string t] w (Ret (.bool true) w) := by
  have HT := Lib.hid hT
  clear hT
  have HX := dec_yes hc
  have HD := Lib.hid (fun w hT => decode_is s (by omega) (decL s.data.toList) 0 0 rfl HX.2.1 HX.2.2.1 w hT)
  clear HX hc
  go_enter Tryd.func6, Tryd.ntmps6
  go_wp2_with fail
  refine (HD.out _ HT.out).mono ?_
  rintro e w1 ⟨v1, rfl, h1, hb1⟩
  have HB1 := Lib.hid (below_step hb1 (below_alloc w1 (.cells #[.int .i64 0, .int .i64 0] 25)))
  have HF1 := Lib.hid (flt_new w1 0 0)
  clear h1 hb1
  go_wp2_with fail
  refine (fixed_any _ (HT.out.mono HB1.out)).mono ?_
  rintro e w2 ⟨rfl, hb2⟩
  have HB2 := Lib.hid (below_step HB1.out hb2)
  have HF2 := Lib.hid (HF1.out.mono hb2)
  clear hb2
  have x0 := HF2.out.c0
  have x1 := HF2.out.c1
  go_wp2_with fail
  refine (fixed_any _ (HT.out.mono HB2.out)).mono ?_
  rintro e w3 ⟨rfl, hb3⟩
  have HB3 := Lib.hid (below_step HB2.out hb3)
  clear hb3 x0 x1
  go_wp2_with fail
  go_ret
  exact ⟨rfl, HB3.out⟩

set_option maxHeartbeats 2000000 in
set_option maxRecDepth 100000 in
theorem faults_bad (s t : ByteArray) (hs : (s.size + t.size) * 8 ≤ 140737488355328) (hc : Ut.clean s.data.toList = false) (w : World) (hT : Tabs w) : Calls Tryd.prog 6 #[.string s, .string t] w (Ret (.bool true) w) := by
  have HT := Lib.hid hT
  clear hT
  have HX := dec_no hc
  have hlt := Ut.stop_lt hc
  rw [← Lib.size_eq] at hlt
  have hac := ahead_clean s
  have hms := more_same s t
  obtain ⟨st, hst⟩ : ∃ st : Nat, st = Ut.stop s.data.toList := ⟨_, rfl⟩
  rw [← hst] at HX hlt hac hms
  have HD := Lib.hid (fun w hT => decode_is s (by omega) (decL s.data.toList) 40 (st : Int) rfl HX.2.1 HX.2.2.1 w hT)
  have HE := Lib.hid (fun w hT => decode_is (s.extract 0 st) (by rw [ByteArray.size_extract]; omega) _ 0 0 hac.1 hac.2.1 hac.2.2 w hT)
  have HM := Lib.hid (fun (h : 4 ≤ s.size - st) w hT => decode_is (s ++ t) (by rw [ByteArray.size_append]; omega) _ 40 (st : Int) (hms h).1 (hms h).2.1 (hms h).2.2 w hT)
  have q1 : ∀ wx, (binOp .eql 25 (.agg #[.int .i64 40, .int .i64 (st : Int)]) (.agg #[.int .i64 40, .int .i64 (st : Int)])).run Tryd.prog wx = .ok (.bool true) wx := fun wx => by rw [eqFlt]; simp
  have s0 : 0 ≤ (st : Int) := by omega
  have s1 : (st : Int) < (s.size : Int) := by omega
  have s2 : (s.size : Int) ≤ 9223372036854775807 := by omega
  have s3 : ¬ 9223372036854775807 < s.size + t.size := by omega
  have HSt := Lib.hid hlt
  have HSz := Lib.hid hs
  clear HX hc hst hac hms hlt hs
  by_cases h4 : (s.size : Int) - (st : Int) < 4
  · go_enter Tryd.func6, Tryd.ntmps6
    go_wp2_with fail
    refine (HD.out _ HT.out).mono ?_
    rintro e w1 ⟨v1, rfl, h1, hb1⟩
    have HB1 := Lib.hid (below_step hb1 (below_alloc w1 (.cells #[.int .i64 40, .int .i64 (st : Int)] 25)))
    have HF1 := Lib.hid (flt_new w1 40 (st : Int))
    clear h1 hb1
    go_wp2_with fail
    refine (fixed_any _ (HT.out.mono HB1.out)).mono ?_
    rintro e w2 ⟨rfl, hb2⟩
    have HB2 := Lib.hid (below_step HB1.out hb2)
    have HF2 := Lib.hid (HF1.out.mono hb2)
    clear hb2
    have x0 := HF2.out.c0
    have x1 := HF2.out.c1
    go_wp2_with fail
    refine (HE.out _ (HT.out.mono HB2.out)).mono ?_
    rintro e w3 ⟨v3, rfl, h3, hb3⟩
    have hb3' := below_step hb3 (below_alloc w3 (.cells #[.int .i64 0, .int .i64 0] 25))
    have HB3 := Lib.hid (below_step HB2.out hb3')
    have HF3 := Lib.hid (HF2.out.mono hb3')
    clear h3 hb3 hb3' x0 x1
    have x0 := HF3.out.c0
    have x1 := HF3.out.c1
    go_wp2_with fail
    go_ret
    exact ⟨rfl, HB3.out⟩
  · have h5 : 4 ≤ (s.size : Int) - (st : Int) := by omega
    have HM2 := Lib.hid (HM.out (by omega))
    clear h4 HM
    go_enter Tryd.func6, Tryd.ntmps6
    go_wp2_with fail
    refine (HD.out _ HT.out).mono ?_
    rintro e w1 ⟨v1, rfl, h1, hb1⟩
    have HB1 := Lib.hid (below_step hb1 (below_alloc w1 (.cells #[.int .i64 40, .int .i64 (st : Int)] 25)))
    have HF1 := Lib.hid (flt_new w1 40 (st : Int))
    clear h1 hb1
    go_wp2_with fail
    refine (fixed_any _ (HT.out.mono HB1.out)).mono ?_
    rintro e w2 ⟨rfl, hb2⟩
    have HB2 := Lib.hid (below_step HB1.out hb2)
    have HF2 := Lib.hid (HF1.out.mono hb2)
    clear hb2
    have x0 := HF2.out.c0
    have x1 := HF2.out.c1
    go_wp2_with fail
    refine (HE.out _ (HT.out.mono HB2.out)).mono ?_
    rintro e w3 ⟨v3, rfl, h3, hb3⟩
    have hb3' := below_step hb3 (below_alloc w3 (.cells #[.int .i64 0, .int .i64 0] 25))
    have HB3 := Lib.hid (below_step HB2.out hb3')
    have HF3 := Lib.hid (HF2.out.mono hb3')
    clear h3 hb3 hb3' x0 x1
    have x0 := HF3.out.c0
    have x1 := HF3.out.c1
    go_wp2_with fail
    refine (HM2.out _ (HT.out.mono HB3.out)).mono ?_
    rintro e w4 ⟨v4, rfl, h4, hb4⟩
    have hb4' := below_step hb4 (below_alloc w4 (.cells #[.int .i64 40, .int .i64 (st : Int)] 25))
    have HB4 := Lib.hid (below_step HB3.out hb4')
    have HF4 := Lib.hid (HF3.out.mono hb4')
    clear h4 hb4 hb4' x0 x1
    have x0 := HF4.out.c0
    have x1 := HF4.out.c1
    go_wp2_with fail
    go_ret
    exact ⟨rfl, HB4.out⟩
theorem lawFaults_any (s t : ByteArray) (hs : (s.size + t.size) * 8 ≤ 140737488355328) (w : World) (hT : Tabs w) : Calls Tryd.prog 6 #[.string s, .string t] w (Ret (.bool true) w) := by
  have HT := Lib.hid hT
  clear hT
  cases hc : Ut.clean s.data.toList with
  | true => exact faults_clean s t hs hc w HT.out
  | false => exact faults_bad s t hs hc w HT.out
end Go.Proofs.YtacghcpkkfhfhaaDoor
