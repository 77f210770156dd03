/-
  The walk of the law ScaledBack: it returns true.
-/
import Derived.Test.YtjaaajlghlcioaaDoorFixed2
set_option linter.unusedVariables false
set_option linter.unusedSimpArgs false
namespace Go.Proofs.YtjaaajlghlcioaaDoor
open Go.RowKit

theorem print_size (n : Int) : (⟨(Sc.print n).toArray⟩ : ByteArray).size ≤ 9223372036854775807 := by
  have := Sc.print_len n
  show (Sc.print n).length ≤ _
  omega
theorem back_yes {n : Int} (h : Sc.fits n = true) : parseV (Sc.print n) = n ∧ parseB (Sc.print n) = true := by
  unfold parseV parseB
  rw [Sc.parse_print h]
  exact ⟨rfl, rfl⟩
theorem same_print {n m : Int} (hn : Sc.fits n = true) (hm : Sc.fits m = true) : (Sc.print m == Sc.print n) = (m == n) := by
  rw [Bool.eq_iff_iff, beq_iff_eq, beq_iff_eq]
  exact Sc.print_inj hn hm

set_option maxHeartbeats 1000000 in
set_option maxRecDepth 100000 in
theorem back_no (n m : Int) (hn : Sc.fits n = false) (w : World) (hE : Env w) : Calls Tryd.prog 5 #[.int .i64 n, .int .i64 m] w (Ret (.bool true) w) := by
  have HE := Lib.hid hE
  have HN := Lib.hid hn
  have hp := fun w hE => print_any n w hE
  rw [Sc.print_no hn] at hp
  have HP := Lib.hid hp
  have HQ := Lib.hid (fun w => parse_any ⟨#[]⟩ (by decide) w)
  clear hE hn hp
  go_enter Tryd.func5, Tryd.ntmps5
  go_wp2_with fail
  refine (HP.out _ HE.out).mono ?_
  rintro e w1 ⟨rfl, hb1⟩
  have HB1 := Lib.hid hb1
  clear hb1
  go_wp2_with fail
  refine (HQ.out _).mono ?_
  rintro e w2 ⟨rfl, hb2⟩
  have HB2 := Lib.hid (below_step HB1.out hb2)
  clear hb2
  go_wp2_with fail
  refine (fixed_any _ (HE.out.mono HB2.out)).mono ?_
  rintro e w3 ⟨rfl, hb3⟩
  have HB3 := Lib.hid (below_step HB2.out hb3)
  clear hb3
  go_wp2_with fail
  refine (fits_any _ _ HN.out _).mono ?_
  rintro e w' ⟨rfl, rfl⟩
  go_wp2_with fail
  refine (fixed_any _ (HE.out.mono HB3.out)).mono ?_
  rintro e w4 ⟨rfl, hb4⟩
  have HB4 := Lib.hid (below_step HB3.out hb4)
  clear hb4
  go_wp2_with fail
  go_ret
  exact ⟨rfl, HB4.out⟩

set_option maxHeartbeats 1000000 in
set_option maxRecDepth 100000 in
theorem back_yes_any (n m : Int) (hn : Sc.fits n = true) (w : World) (hE : Env w) : Calls Tryd.prog 5 #[.int .i64 n, .int .i64 m] w (Ret (.bool true) w) := by
  have HE := Lib.hid hE
  have HN := Lib.hid hn
  have hq := fun w => parse_any ⟨(Sc.print n).toArray⟩ (print_size n) w
  have e0 : (⟨(Sc.print n).toArray⟩ : ByteArray).data.toList = Sc.print n := rfl
  rw [e0, (back_yes hn).1, (back_yes hn).2] at hq
  have HQ := Lib.hid hq
  clear hE hq e0
  cases hm : Sc.fits m with
  | false =>
    have HM := Lib.hid hm
    clear hn hm
    go_enter Tryd.func5, Tryd.ntmps5
    go_wp2_with fail
    refine (print_any _ _ HE.out).mono ?_
    rintro e w1 ⟨rfl, hb1⟩
    have HB1 := Lib.hid hb1
    clear hb1
    go_wp2_with fail
    refine (HQ.out _).mono ?_
    rintro e w2 ⟨rfl, hb2⟩
    have HB2 := Lib.hid (below_step HB1.out hb2)
    clear hb2
    go_wp2_with fail
    refine (fixed_any _ (HE.out.mono HB2.out)).mono ?_
    rintro e w3 ⟨rfl, hb3⟩
    have HB3 := Lib.hid (below_step HB2.out hb3)
    clear hb3
    go_wp2_with fail
    refine (fits_any _ _ HN.out _).mono ?_
    rintro e w' ⟨rfl, rfl⟩
    go_wp2_with fail
    refine (fits_any _ _ HM.out _).mono ?_
    rintro e w' ⟨rfl, rfl⟩
    go_wp2_with fail
    go_ret
    exact ⟨rfl, HB3.out⟩
  | true =>
    have HM := Lib.hid hm
    have HS := Lib.hid (same_print hn hm)
    clear hn hm
    go_enter Tryd.func5, Tryd.ntmps5
    go_wp2_with fail
    refine (print_any _ _ HE.out).mono ?_
    rintro e w1 ⟨rfl, hb1⟩
    have HB1 := Lib.hid hb1
    clear hb1
    go_wp2_with fail
    refine (HQ.out _).mono ?_
    rintro e w2 ⟨rfl, hb2⟩
    have HB2 := Lib.hid (below_step HB1.out hb2)
    clear hb2
    go_wp2_with fail
    refine (fixed_any _ (HE.out.mono HB2.out)).mono ?_
    rintro e w3 ⟨rfl, hb3⟩
    have HB3 := Lib.hid (below_step HB2.out hb3)
    clear hb3
    go_wp2_with fail
    refine (fits_any _ _ HN.out _).mono ?_
    rintro e w' ⟨rfl, rfl⟩
    go_wp2_with fail
    refine (fits_any _ _ HM.out _).mono ?_
    rintro e w' ⟨rfl, rfl⟩
    go_wp2_with fail
    refine (print_any _ _ (HE.out.mono HB3.out)).mono ?_
    rintro e w4 ⟨rfl, hb4⟩
    have HB4 := Lib.hid (below_step HB3.out hb4)
    clear hb4
    go_wp2_with fail
    go_ret
    refine ⟨ret_bool ?_, HB4.out⟩
    rw [HS.out]
    simp
theorem lawBack_any (n m : Int) (w : World) (hE : Env w) : Calls Tryd.prog 5 #[.int .i64 n, .int .i64 m] w (Ret (.bool true) w) := by
  cases hn : Sc.fits n with
  | false => exact back_no n m hn w hE
  | true => exact back_yes_any n m hn w hE
end Go.Proofs.YtjaaajlghlcioaaDoor
