/-
  The law's fixed: calls whose answers the document fixes; hat, stays.
-/
import Derived.Test.YtjjkilopeofjjaaDoorRefSh15
set_option linter.unusedVariables false
set_option linter.unusedSimpArgs false
namespace Go.Proofs.YtjjkilopeofjjaaDoor
open Go.RowKit

abbrev aba : List (List UInt8) := [[97], [98], [97]]
abbrev abcd : List (List UInt8) := [[97], [98], [99], [100]]
theorem fx_c : Lm.cnt aba 2 = (2, 2) := by decide +kernel
theorem fx_m2 : str (Lm.markI aba 2) = ⟨#[97, 94, 50]⟩ := by
  have : Lm.markI aba 2 = [97, 94, 50] := by decide +kernel
  rw [this]; rfl
theorem fx_m1 : str (Lm.markI aba 1) = ⟨#[98]⟩ := by
  have : Lm.markI aba 1 = [98] := by decide +kernel
  rw [this]; rfl
theorem fx_m3 : str (Lm.markI aba 3) = ⟨#[]⟩ := by
  have : Lm.markI aba 3 = [] := by decide +kernel
  rw [this]; rfl
theorem fx_h : str (Lm.head aba 0 2) = ⟨#[97, 94, 49, 32, 98]⟩ := by
  have : Lm.head aba 0 2 = [97, 94, 49, 32, 98] := by decide +kernel
  rw [this]; rfl
theorem fx_s : str (Lm.short abcd) = ⟨#[97, 32, 46, 46, 46, 32, 100]⟩ := by
  have : Lm.short abcd = [97, 32, 46, 46, 46, 32, 100] := by decide +kernel
  rw [this]; rfl
theorem fx_p : str (Lm.plain [97, 194, 173, 98]) = ⟨#[97, 98]⟩ := by
  have : Lm.plain [97, 194, 173, 98] = [97, 98] := by decide +kernel
  rw [this]; rfl
theorem sm_one {l : List (List UInt8)} (h : ∀ x ∈ l, x.length ≤ 1) : TxSm l := fun x hx => by have := h x hx; omega
set_option maxHeartbeats 4000000 in
set_option maxRecDepth 100000 in
theorem fixed_any (m : Int) (w : World) (hE : Env15 m w) : Calls Tryd.prog 8 #[] w (Ret (.bool true) w) := by
  have hb0 := below_alloc w (.cells #[.string ⟨#[97]⟩, .string ⟨#[98]⟩, .string ⟨#[97]⟩] 9)
  have hl0 : TxsAt (w.alloc (.cells #[.string ⟨#[97]⟩, .string ⟨#[98]⟩, .string ⟨#[97]⟩] 9)) (.slice (some ⟨w.heap.size, 0, none⟩) 3 3) aba := slc_new txC_len w w.heap.size rfl aba 9 (by simp) #[.string ⟨#[97]⟩, .string ⟨#[98]⟩, .string ⟨#[97]⟩] rfl
  obtain ⟨W, hW⟩ : ∃ W, W = w.alloc (.cells #[.string ⟨#[97]⟩, .string ⟨#[98]⟩, .string ⟨#[97]⟩] 9) := ⟨_, rfl⟩
  rw [← hW] at hb0 hl0
  have HE := Lib.hid (hE.mono hb0)
  have HL := Lib.hid hl0
  have HB0 := Lib.hid hb0
  have hs3 : TxSm aba := sm_one (by simp)
  have HC := Lib.hid (count_any m _ aba 2 W HE.out hl0 hs3)
  have HM2 := Lib.hid (fun wx he hx => mark_any m (.slice (some ⟨w.heap.size, 0, none⟩) 3 3) aba 2 wx he hx hs3)
  have HM1 := Lib.hid (fun wx he hx => mark_any m (.slice (some ⟨w.heap.size, 0, none⟩) 3 3) aba 1 wx he hx hs3)
  have HM3 := Lib.hid (fun wx he hx => mark_any m (.slice (some ⟨w.heap.size, 0, none⟩) 3 3) aba 3 wx he hx hs3)
  have HH := Lib.hid (fun wx he hx => head_any m (.slice (some ⟨w.heap.size, 0, none⟩) 3 3) aba 0 2 wx he hx hs3)
  have HS := Lib.hid (fun v wx he hx => shortL_any m v abcd wx he hx (sm_one (by simp)))
  have HP := Lib.hid (fun wx he => plainL_any m [97, 194, 173, 98] (by simp) wx he)
  have e4 : str [97, 194, 173, 98] = ⟨#[97, 194, 173, 98]⟩ := rfl
  rw [fx_c] at HC
  rw [fx_m2] at HM2
  rw [fx_m1] at HM1
  rw [fx_m3] at HM3
  rw [fx_h] at HH
  rw [fx_s] at HS
  rw [fx_p, e4] at HP
  clear hE hb0 hl0 hs3 e4
  go_enter Tryd.func8, Tryd.ntmps8
  go_upto_region 2 with fail
  rw [← hW]
  clear hW
  go_wp2_with fail
  refine HC.out.mono ?_
  rintro e w1 ⟨rfl, hb⟩
  have HB1 := Lib.hid hb
  unfold cntV
  clear hb HC
  go_wp2_with fail
  refine (HM2.out _ (HE.out.mono HB1.out) (HL.out.mono HB1.out)).mono ?_
  rintro e w2 ⟨rfl, hb⟩
  have HB2 := Lib.hid (below_step HB1.out hb)
  clear hb HB1 HM2
  go_wp2_with fail
  refine (HM1.out _ (HE.out.mono HB2.out) (HL.out.mono HB2.out)).mono ?_
  rintro e w3 ⟨rfl, hb⟩
  have HB3 := Lib.hid (below_step HB2.out hb)
  clear hb HB2 HM1
  go_wp2_with fail
  refine (HM3.out _ (HE.out.mono HB3.out) (HL.out.mono HB3.out)).mono ?_
  rintro e w4 ⟨rfl, hb⟩
  have HB4 := Lib.hid (below_step HB3.out hb)
  clear hb HB3 HM3
  go_wp2_with fail
  refine (HH.out _ (HE.out.mono HB4.out) (HL.out.mono HB4.out)).mono ?_
  rintro e w5 ⟨rfl, hb⟩
  have HB5 := Lib.hid (below_step HB4.out hb)
  clear hb HB4 HH
  have hb6 := below_alloc w5 (.cells #[.string ⟨#[97]⟩, .string ⟨#[98]⟩, .string ⟨#[99]⟩, .string ⟨#[100]⟩] 9)
  have HL6 : Hid (TxsAt (w5.alloc (.cells #[.string ⟨#[97]⟩, .string ⟨#[98]⟩, .string ⟨#[99]⟩, .string ⟨#[100]⟩] 9)) (.slice (some ⟨w5.heap.size, 0, none⟩) 4 4) abcd) := Lib.hid (slc_new txC_len w5 w5.heap.size rfl abcd 9 (by simp) #[.string ⟨#[97]⟩, .string ⟨#[98]⟩, .string ⟨#[99]⟩, .string ⟨#[100]⟩] rfl)
  have HB6 := Lib.hid (below_step HB5.out hb6)
  clear hb6 HB5
  go_wp2_with fail
  refine (HS.out _ _ (HE.out.mono HB6.out) HL6.out).mono ?_
  rintro e w7 ⟨rfl, hb⟩
  have HB7 := Lib.hid (below_step HB6.out hb)
  clear hb HB6 HS HL6
  go_wp2_with fail
  refine (HP.out _ (HE.out.mono HB7.out)).mono ?_
  rintro e w8 ⟨rfl, hb⟩
  have HB8 := Lib.hid (below_step HB0.out (below_step HB7.out hb))
  clear hb HB7 HP
  go_wp2
  go_ret
  exact ⟨rfl, HB8.out⟩
set_option maxHeartbeats 4000000 in
set_option maxRecDepth 100000 in
theorem hat_any (s : List UInt8) (hs : s.length ≤ 1048576) (w : World) : Calls Tryd.prog 19 #[.string (str s)] w (Is (.bool (decide ((94 : UInt8) ∈ s))) w) := by
  obtain ⟨S, hS⟩ : ∃ S, S = str s := ⟨_, rfl⟩
  have hL : s = S.data.toList := by rw [hS, str_data]
  have hn : S.size ≤ 1048576 := by rw [hS, str_size13]; exact hs
  have HLl : Hid (s.length = S.size) := Lib.hid (by rw [hL, size13])
  have HB := Lib.hid (fun k h => byte13 S k h)
  rw [← hL] at HB
  rw [← hS]
  clear hS hL hs
  have H0 : Hid ((94 : UInt8) ∉ s.take 0) := Lib.hid (by simp)
  obtain ⟨q, hq⟩ : ∃ q, q = decide ((94 : UInt8) ∈ s) := ⟨_, rfl⟩
  have HQ := Lib.hid hq
  rw [← hq]
  clear hq
  go_enter Tryd.func19, Tryd.ntmps19
  go_wp2_with fail
  go_loopw [3] (fun iv wr => ∃ k : Nat, k ≤ S.size ∧ iv = .int .i64 k ∧ Hid ((94 : UInt8) ∉ s.take k) ∧ wr = w) (fun iv _ => S.size - (intOf iv).toNat)
  case atStart => exact ⟨0, Nat.zero_le _, rfl, H0, rfl⟩
  case round =>
    obtain ⟨k, hk, rfl, HT, rfl⟩ := hrel
    clear H0
    by_cases hlt : k < S.size
    · have hb := HB.out k hlt
      have k0 : (0 : Int) ≤ (k : Int) := by omega
      have kl : (k : Int) < (S.size : Int) := by omega
      have q1 := byte_eq15 hlt 94 94 rfl
      by_cases c1 : S[k] = 94
      · have HE : Hid (q = true) := Lib.hid (HQ.out.trans (decide_eq_true (List.mem_of_getElem? (by rw [hb, c1]))))
        rw [decide_eq_true c1] at q1
        clear hb c1
        go_wp2
        go_ret
        rw [HE.out]
        exact ⟨rfl, rfl⟩
      · have HN : Hid ((94 : UInt8) ∉ s.take (k + 1)) := Lib.hid (by
          rw [List.take_add_one, hb]
          intro hm
          rcases List.mem_append.1 hm with hm | hm
          · exact HT.out hm
          · simp at hm; exact c1 hm.symm)
        rw [decide_eq_false c1] at q1
        clear hb c1
        go_wp2
        go_roundw
        case rel => exact ⟨k + 1, by omega, by go_num, HN, trivial⟩
        case measure => simp [intOf]; omega
    · have HE : Hid (q = false) := Lib.hid (HQ.out.trans (decide_eq_false (by have := HT.out; rwa [List.take_of_length_le (by rw [HLl.out]; omega)] at this)))
      go_wp2
      go_ret
      rw [HE.out]
      exact ⟨rfl, rfl⟩
end Go.Proofs.YtjjkilopeofjjaaDoor
