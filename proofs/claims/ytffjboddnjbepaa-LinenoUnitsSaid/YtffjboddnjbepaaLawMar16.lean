/-
  The law LinenoMargins.
-/
import Derived.Test.YtffjboddnjbepaaFixed16
set_option linter.unusedVariables false
set_option linter.unusedSimpArgs false
namespace Go.Proofs.Ytffjboddnjbepaa
open Go.RowKit

/-- numbers that are appended to -/
abbrev OwnN (B : Nat) (v : Value) (l : List (Int × Int)) (w : World) : Prop := OwnR 31 nmC 2 B v l w
abbrev OwnW (B : Nat) (v : Value) (l : List Ln.Rw) (w : World) : Prop := OwnR 29 rwC 7 B v l w
set_option maxHeartbeats 8000000 in
set_option maxRecDepth 100000 in
theorem lawMargins (n first step : Int) (w : World) : Calls Try.prog 5 #[.int .i64 n, .int .i64 first, .int .i64 step] w fun e w' => e = .returned (.bool true) ∧ Below w.heap.size w w' := by
  have HF := Lib.hid fixed16_any
  by_cases c0 : n < 0
  · skip
    go_enter Try.func5, Try.ntmps5
    go_wp2_with fail
    refine (HF.out _).mono ?_
    rintro e w1 ⟨rfl, hb1⟩
    have HB1 := Lib.hid hb1
    clear hb1
    go_wp2_with fail
    refine (HF.out _).mono ?_
    rintro e w2 ⟨rfl, hb2⟩
    have HB2 := Lib.hid (below_step HB1.out hb2)
    clear hb2
    go_wp2
    go_ret
    exact ⟨rfl, HB2.out⟩
  by_cases c1 : 300 < n
  · skip
    go_enter Try.func5, Try.ntmps5
    go_wp2_with fail
    refine (HF.out _).mono ?_
    rintro e w1 ⟨rfl, hb1⟩
    have HB1 := Lib.hid hb1
    clear hb1
    go_wp2_with fail
    refine (HF.out _).mono ?_
    rintro e w2 ⟨rfl, hb2⟩
    have HB2 := Lib.hid (below_step HB1.out hb2)
    clear hb2
    go_wp2
    go_ret
    exact ⟨rfl, HB2.out⟩
  by_cases c2 : first < 1
  · skip
    go_enter Try.func5, Try.ntmps5
    go_wp2_with fail
    refine (HF.out _).mono ?_
    rintro e w1 ⟨rfl, hb1⟩
    have HB1 := Lib.hid hb1
    clear hb1
    go_wp2_with fail
    refine (HF.out _).mono ?_
    rintro e w2 ⟨rfl, hb2⟩
    have HB2 := Lib.hid (below_step HB1.out hb2)
    clear hb2
    go_wp2
    go_ret
    exact ⟨rfl, HB2.out⟩
  by_cases c3 : 1000 < first
  · skip
    go_enter Try.func5, Try.ntmps5
    go_wp2_with fail
    refine (HF.out _).mono ?_
    rintro e w1 ⟨rfl, hb1⟩
    have HB1 := Lib.hid hb1
    clear hb1
    go_wp2_with fail
    refine (HF.out _).mono ?_
    rintro e w2 ⟨rfl, hb2⟩
    have HB2 := Lib.hid (below_step HB1.out hb2)
    clear hb2
    go_wp2
    go_ret
    exact ⟨rfl, HB2.out⟩
  by_cases c4 : step < 1
  · skip
    go_enter Try.func5, Try.ntmps5
    go_wp2_with fail
    refine (HF.out _).mono ?_
    rintro e w1 ⟨rfl, hb1⟩
    have HB1 := Lib.hid hb1
    clear hb1
    go_wp2_with fail
    refine (HF.out _).mono ?_
    rintro e w2 ⟨rfl, hb2⟩
    have HB2 := Lib.hid (below_step HB1.out hb2)
    clear hb2
    go_wp2
    go_ret
    exact ⟨rfl, HB2.out⟩
  by_cases c5 : 1000 < step
  · skip
    go_enter Try.func5, Try.ntmps5
    go_wp2_with fail
    refine (HF.out _).mono ?_
    rintro e w1 ⟨rfl, hb1⟩
    have HB1 := Lib.hid hb1
    clear hb1
    go_wp2_with fail
    refine (HF.out _).mono ?_
    rintro e w2 ⟨rfl, hb2⟩
    have HB2 := Lib.hid (below_step HB1.out hb2)
    clear hb2
    go_wp2
    go_ret
    exact ⟨rfl, HB2.out⟩
  obtain ⟨N, rfl⟩ := Int.eq_ofNat_of_zero_le (show 0 ≤ n by omega)
  have hN : N ≤ 300 := by omega
  have Hf : Hid (0 < first ∧ first ≤ 1000) := Lib.hid (by omega)
  have Hs : Hid (0 < step ∧ step ≤ 1000) := Lib.hid (by omega)
  have HM := Lib.hid (fun v w h => margin_any v (Ln.ones N) first step w h (by rw [Ln.ones_len]; omega))
  have HMg : Hid (∀ i, i < N → (Ln.margin (Ln.ones N) first step)[i]? = some (decide (first ≤ (i : Int) + 1 ∧ ((i : Int) + 1 - first) % step = 0))) := Lib.hid (fun i hi => Ln.margin_ones hi (by omega) (by omega) (by omega))
  go_enter Try.func5, Try.ntmps5
  go_wp2_with fail
  refine (HF.out _).mono ?_
  rintro e w1 ⟨rfl, hb1⟩
  have HB1 := Lib.hid hb1
  clear hb1
  have HO0 := Lib.hid (own_empty 31 nmC 2 w1)
  have HB2 := Lib.hid (below_alloc w1 (.cells #[] 31))
  go_wp2_with fail
  go_loopw [7, 8] (fun lv iv wr => ∃ k : Nat, k ≤ N ∧ iv = .int .i64 ((k : Int) + 1) ∧ Hid (OwnN w1.heap.size lv (Ln.ones k) wr) ∧ Hid (Below w1.heap.size w1 wr)) (fun _ iv _ => N + 1 - (intOf iv).toNat)
  case atStart => exact ⟨0, Nat.zero_le _, rfl, HO0, HB2⟩
  case round =>
    obtain ⟨k, hk, rfl, HO, HB⟩ := hrel
    clear HO0 HB2
    by_cases hlt : k < N
    · have k0 : (0 : Int) ≤ (k : Int) := by omega
      have kl : (k : Int) + 1 ≤ (N : Int) := by omega
      have hlk := Ln.ones_len k
      have HLk := Lib.hid hlk
      have HO2 := Lib.hid (HO.out.mono (below_alloc wr (.cells #[.int .i64 ((k : Int) + 1), .int .i64 0] 31)))
      have HS2 := Lib.hid (slc_new nmC_len wr wr.heap.size rfl [((k : Int) + 1, 0)] 31 (by simp) #[.int .i64 ((k : Int) + 1), .int .i64 0] rfl)
      have HB3 := Lib.hid (below_step HB.out (below_alloc wr (.cells #[.int .i64 ((k : Int) + 1), .int .i64 0] 31)))
      have hz2 := HB3.out.size
      clear hlk
      go_wp2_with (at_builtin; refine wpList_append_slc Try.underlying23 infoNm rfl (by decide) nmC_len nmC_cell rfl _ _ rfl w1.heap.size _ _ (Ln.ones k) [((k : Int) + 1, 0)] rfl HO2.out rfl HS2.out (by rw [HLk.out]; simp; omega) (by rw [HLk.out]; unfold maxLen; simp; omega) hz2 ?_; intro v9 w9 h9 hg9; have HO9 := Lib.hid h9; have HB9 := Lib.hid (below_app HB3.out hg9 HO2.out hz2); clear h9 hg9)
      go_roundw
      case rel => exact ⟨k + 1, by omega, by go_num, HO9, HB9⟩
      case measure => simp [intOf]; omega
    · obtain rfl : k = N := by omega
      have HA := Lib.hid (HO.out.at nmC_len)
      go_wp2_with fail
      refine (HM.out _ _ HA.out).mono ?_
      rintro e w4 ⟨v4, rfl, hm4, hb4⟩
      have HB4 := Lib.hid (below_step HB1.out (below_step HB.out hb4))
      obtain ⟨a4, cp4, rfl, hl4, hk4⟩ := slc_open hm4
      have HK4 := Lib.hid hk4
      rw [Ln.margin_len, Ln.ones_len] at hl4 HK4 ⊢
      clear hb4 hm4 hk4
      go_wp2_with fail
      go_loopw [10, 11] (fun dv iv wr => ∃ i : Nat, i ≤ k ∧ iv = .int .i64 (i : Int) ∧ ∃ due j : Int, dv = .int .i64 due ∧ Hid (due = first + j * step ∧ first ≤ due ∧ (i : Int) + 1 ≤ due ∧ (due = first ∨ due < (i : Int) + 1 + step)) ∧ Hid (Below w4.heap.size w4 wr)) (fun _ iv _ => k - (intOf iv).toNat)
      case atStart => exact ⟨0, Nat.zero_le _, rfl, first, 0, rfl, Lib.hid (by have := Hf.out; omega), Lib.hid (Below.refl _ _)⟩
      case round =>
        obtain ⟨i, hi, rfl, due, j, rfl, HD, HW⟩ := hrel
        by_cases hlt2 : i < k
        · obtain ⟨b4, o4, rfl, h4⟩ := HK4.out (by omega)
          have hc := bl_cell ((h4 i _ (HMg.out i hlt2)).mono HW.out)
          rw [Nat.mul_one] at hc
          have i0 : (0 : Int) ≤ (i : Int) := by omega
          have il : (i : Int) < (k : Int) := by omega
          obtain ⟨d1, d2, d3, d4⟩ := HD.out
          have hdue := Ln.due_is (x := (i : Int) + 1) Hs.out.1 Hf.out.1 j d1 d2 d3 d4 (by omega)
          have hf := Hf.out
          have hs := Hs.out
          clear h4
          by_cases he : (i : Int) + 1 = due
          · rw [decide_eq_true (hdue.2 he)] at hc
            have hw : IntKind.i64.wrap ((i : Int) + 1 + step) = (i : Int) + 1 + step := by rw [IntWalk.i64_left, IntWalk.wrap64_in _ (by omega)]
            have HN : Hid ((i : Int) + 1 + step = first + (j + 1) * step ∧ first ≤ (i : Int) + 1 + step ∧ ((i + 1 : Nat) : Int) + 1 ≤ (i : Int) + 1 + step ∧ ((i : Int) + 1 + step = first ∨ (i : Int) + 1 + step < ((i + 1 : Nat) : Int) + 1 + step)) := Lib.hid (by rw [Int.add_mul, Int.one_mul]; omega)
            subst he
            clear d1 d2 d3 d4 hdue HD hf hs c2 c3 c4 c5
            go_wp2_with fail
            go_roundw
            case rel => exact ⟨i + 1, by omega, by go_num, (i : Int) + 1 + step, j + 1, rfl, HN, HW⟩
            case measure => simp [intOf]; omega
          · rw [decide_eq_false (fun h => he (hdue.1 h))] at hc
            have HN : Hid (due = first + j * step ∧ first ≤ due ∧ ((i + 1 : Nat) : Int) + 1 ≤ due ∧ (due = first ∨ due < ((i + 1 : Nat) : Int) + 1 + step)) := Lib.hid (by omega)
            clear d1 d2 d3 d4 hdue HD hf hs c2 c3 c4 c5
            go_wp2_with fail
            go_roundw
            case rel => exact ⟨i + 1, by omega, by go_num, due, j, rfl, HN, HW⟩
            case measure => simp [intOf]; omega
        · go_wp2
          go_ret
          exact ⟨rfl, below_step HB4.out HW.out⟩
end Go.Proofs.Ytffjboddnjbepaa
