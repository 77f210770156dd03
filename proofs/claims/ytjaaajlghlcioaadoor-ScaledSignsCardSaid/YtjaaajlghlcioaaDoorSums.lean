/-
  The program's and the reference's sums, differences and products: each answers what the plain mathematics tells.
-/
import Derived.Test.YtjaaajlghlcioaaDoorArith
set_option linter.unusedVariables false
set_option linter.unusedSimpArgs false
namespace Go.Proofs.YtjaaajlghlcioaaDoor
open Go.RowKit

set_option maxHeartbeats 1000000 in
set_option maxRecDepth 100000 in
theorem sub_any (a b : Int) (w : World) : Calls Tryd.prog 10 #[.int .i64 a, .int .i64 b] w (Is (Two (Sc.subV a b) (Sc.subB a b)) w) := by
  cases ha : Sc.fits a with
  | false =>
    have HO := Lib.hid (Sc.sub_out (a := a) (b := b) (.inl ha))
    have HA := Lib.hid ha
    clear ha
    go_enter Tryd.func10, Tryd.ntmps10
    go_wp2_with fail
    refine (fits_any _ _ HA.out _).mono ?_
    rintro e w' ⟨rfl, rfl⟩
    go_wp2_with fail
    go_ret2
    exact ⟨ret_pair ⟨HO.out.1.symm, HO.out.2.symm⟩, rfl⟩
  | true =>
    have ⟨a0, a1⟩ := Sc.fits_yes ha
    cases hb : Sc.fits b with
    | false =>
      have HO := Lib.hid (Sc.sub_out (a := a) (b := b) (.inr hb))
      have HA := Lib.hid ha
      have HB := Lib.hid hb
      clear ha hb
      go_enter Tryd.func10, Tryd.ntmps10
      go_wp2_with fail
      refine (fits_any _ _ HA.out _).mono ?_
      rintro e w' ⟨rfl, rfl⟩
      go_wp2_with fail
      refine (fits_any _ _ HB.out _).mono ?_
      rintro e w' ⟨rfl, rfl⟩
      go_wp2_with fail
      go_ret2
      exact ⟨ret_pair ⟨HO.out.1.symm, HO.out.2.symm⟩, rfl⟩
    | true =>
      have ⟨b0, b1⟩ := Sc.fits_yes hb
      have HO := Lib.hid (Sc.sub_fit ha hb)
      have HA := Lib.hid ha
      have HB := Lib.hid hb
      clear ha hb
      go_enter Tryd.func10, Tryd.ntmps10
      go_wp2_with fail
      refine (fits_any _ _ HA.out _).mono ?_
      rintro e w' ⟨rfl, rfl⟩
      go_wp2_with fail
      refine (fits_any _ _ HB.out _).mono ?_
      rintro e w' ⟨rfl, rfl⟩
      go_wp2_with fail
      refine (fitted_any _ _).mono ?_
      rintro e w' ⟨rfl, rfl⟩
      go_wp2_with fail
      go_ret2
      exact ⟨ret_pair HO.out, rfl⟩

set_option maxHeartbeats 1000000 in
set_option maxRecDepth 100000 in
theorem mul_any (a b : Int) (w : World) : Calls Tryd.prog 12 #[.int .i64 a, .int .i64 b] w (Is (Two (Sc.mulV a b) (Sc.mulB a b)) w) := by
  by_cases h0 : a = 0
  · subst h0
    have HO := Lib.hid (Sc.mul_zero b)
    go_enter Tryd.func12, Tryd.ntmps12
    go_wp2_with fail
    go_ret2
    exact ⟨ret_pair ⟨HO.out.1.symm, HO.out.2.symm⟩, rfl⟩
  · have hz : ((a : Int) == 0) = false := by simpa using h0
    cases ha : Sc.fits a with
    | false =>
      have HO := Lib.hid (Sc.mul_out (a := a) (n := b) h0 (.inl ha))
      have HA := Lib.hid ha
      clear ha
      go_enter Tryd.func12, Tryd.ntmps12
      go_wp2_with fail
      refine (fits_any _ _ HA.out _).mono ?_
      rintro e w' ⟨rfl, rfl⟩
      go_wp2_with fail
      go_ret2
      exact ⟨ret_pair ⟨HO.out.1.symm, HO.out.2.symm⟩, rfl⟩
    | true =>
      have ⟨a0, a1⟩ := Sc.fits_yes ha
      cases hb : Sc.fits b with
      | false =>
        have HO := Lib.hid (Sc.mul_out (a := a) (n := b) h0 (.inr hb))
        have HA := Lib.hid ha
        have HB := Lib.hid hb
        clear ha hb
        go_enter Tryd.func12, Tryd.ntmps12
        go_wp2_with fail
        refine (fits_any _ _ HA.out _).mono ?_
        rintro e w' ⟨rfl, rfl⟩
        go_wp2_with fail
        refine (fits_any _ _ HB.out _).mono ?_
        rintro e w' ⟨rfl, rfl⟩
        go_wp2_with fail
        go_ret2
        exact ⟨ret_pair ⟨HO.out.1.symm, HO.out.2.symm⟩, rfl⟩
      | true =>
        have ⟨b0, b1⟩ := Sc.fits_yes hb
        have HO := Lib.hid (Sc.mul_fit h0 ha hb)
        have ⟨m0, m1⟩ := Sc.mul_bound ⟨a0, a1⟩ ⟨b0, b1⟩
        have HA := Lib.hid ha
        have HB := Lib.hid hb
        clear ha hb
        go_enter Tryd.func12, Tryd.ntmps12
        go_wp2_with fail
        refine (fits_any _ _ HA.out _).mono ?_
        rintro e w' ⟨rfl, rfl⟩
        go_wp2_with fail
        refine (fits_any _ _ HB.out _).mono ?_
        rintro e w' ⟨rfl, rfl⟩
        go_wp2_with fail
        refine (fitted_any _ _).mono ?_
        rintro e w' ⟨rfl, rfl⟩
        go_wp2_with fail
        go_ret2
        exact ⟨ret_pair HO.out, rfl⟩

set_option maxHeartbeats 1000000 in
set_option maxRecDepth 100000 in
theorem refAdd_any (a b : Int) (w : World) : Calls Tryd.prog 9 #[.int .i64 a, .int .i64 b] w (Is (Two (Sc.addV a b) (Sc.addB a b)) w) := by
  cases ha : Sc.fits a with
  | false =>
    have HO := Lib.hid (Sc.add_out (a := a) (b := b) (.inl ha))
    have HA := Lib.hid ha
    clear ha
    go_enter Tryd.func9, Tryd.ntmps9
    go_wp2_with fail
    refine (refFits_any _ _ HA.out _).mono ?_
    rintro e w' ⟨rfl, rfl⟩
    go_wp2_with fail
    refine (one_no _ _).mono ?_
    rintro e w' ⟨rfl, rfl⟩
    go_wp2_with fail
    go_ret2
    exact ⟨ret_pair ⟨HO.out.1.symm, HO.out.2.symm⟩, rfl⟩
  | true =>
    have ⟨a0, a1⟩ := Sc.fits_yes ha
    cases hb : Sc.fits b with
    | false =>
      have HO := Lib.hid (Sc.add_out (a := a) (b := b) (.inr hb))
      have HA := Lib.hid ha
      have HB := Lib.hid hb
      clear ha hb
      go_enter Tryd.func9, Tryd.ntmps9
      go_wp2_with fail
      refine (refFits_any _ _ HA.out _).mono ?_
      rintro e w' ⟨rfl, rfl⟩
      go_wp2_with fail
      refine (refFits_any _ _ HB.out _).mono ?_
      rintro e w' ⟨rfl, rfl⟩
      go_wp2_with fail
      refine (one_no _ _).mono ?_
      rintro e w' ⟨rfl, rfl⟩
      go_wp2_with fail
      go_ret2
      exact ⟨ret_pair ⟨HO.out.1.symm, HO.out.2.symm⟩, rfl⟩
    | true =>
      have ⟨b0, b1⟩ := Sc.fits_yes hb
      have HO := Lib.hid (Sc.add_fit ha hb)
      have HA := Lib.hid ha
      have HB := Lib.hid hb
      clear ha hb
      go_enter Tryd.func9, Tryd.ntmps9
      go_wp2_with fail
      refine (refFits_any _ _ HA.out _).mono ?_
      rintro e w' ⟨rfl, rfl⟩
      go_wp2_with fail
      refine (refFits_any _ _ HB.out _).mono ?_
      rintro e w' ⟨rfl, rfl⟩
      go_wp2_with fail
      refine (one_yes _ _).mono ?_
      rintro e w' ⟨rfl, rfl⟩
      go_wp2_with fail
      go_ret2
      exact ⟨ret_pair HO.out, rfl⟩

set_option maxHeartbeats 1000000 in
set_option maxRecDepth 100000 in
theorem refSub_any (a b : Int) (w : World) : Calls Tryd.prog 11 #[.int .i64 a, .int .i64 b] w (Is (Two (Sc.subV a b) (Sc.subB a b)) w) := by
  cases ha : Sc.fits a with
  | false =>
    have HO := Lib.hid (Sc.sub_out (a := a) (b := b) (.inl ha))
    have HA := Lib.hid ha
    clear ha
    go_enter Tryd.func11, Tryd.ntmps11
    go_wp2_with fail
    refine (refFits_any _ _ HA.out _).mono ?_
    rintro e w' ⟨rfl, rfl⟩
    go_wp2_with fail
    refine (one_no _ _).mono ?_
    rintro e w' ⟨rfl, rfl⟩
    go_wp2_with fail
    go_ret2
    exact ⟨ret_pair ⟨HO.out.1.symm, HO.out.2.symm⟩, rfl⟩
  | true =>
    have ⟨a0, a1⟩ := Sc.fits_yes ha
    cases hb : Sc.fits b with
    | false =>
      have HO := Lib.hid (Sc.sub_out (a := a) (b := b) (.inr hb))
      have HA := Lib.hid ha
      have HB := Lib.hid hb
      clear ha hb
      go_enter Tryd.func11, Tryd.ntmps11
      go_wp2_with fail
      refine (refFits_any _ _ HA.out _).mono ?_
      rintro e w' ⟨rfl, rfl⟩
      go_wp2_with fail
      refine (refFits_any _ _ HB.out _).mono ?_
      rintro e w' ⟨rfl, rfl⟩
      go_wp2_with fail
      refine (one_no _ _).mono ?_
      rintro e w' ⟨rfl, rfl⟩
      go_wp2_with fail
      go_ret2
      exact ⟨ret_pair ⟨HO.out.1.symm, HO.out.2.symm⟩, rfl⟩
    | true =>
      have ⟨b0, b1⟩ := Sc.fits_yes hb
      have HO := Lib.hid (Sc.sub_fit ha hb)
      have HA := Lib.hid ha
      have HB := Lib.hid hb
      clear ha hb
      go_enter Tryd.func11, Tryd.ntmps11
      go_wp2_with fail
      refine (refFits_any _ _ HA.out _).mono ?_
      rintro e w' ⟨rfl, rfl⟩
      go_wp2_with fail
      refine (refFits_any _ _ HB.out _).mono ?_
      rintro e w' ⟨rfl, rfl⟩
      go_wp2_with fail
      refine (one_yes _ _).mono ?_
      rintro e w' ⟨rfl, rfl⟩
      go_wp2_with fail
      go_ret2
      exact ⟨ret_pair HO.out, rfl⟩

set_option maxHeartbeats 1000000 in
set_option maxRecDepth 100000 in
theorem refTimes_any (a b : Int) (w : World) : Calls Tryd.prog 13 #[.int .i64 a, .int .i64 b] w (Is (Two (Sc.mulV a b) (Sc.mulB a b)) w) := by
  by_cases h0 : a = 0
  · subst h0
    have HO := Lib.hid (Sc.mul_zero b)
    go_enter Tryd.func13, Tryd.ntmps13
    go_wp2_with fail
    go_ret2
    exact ⟨ret_pair ⟨HO.out.1.symm, HO.out.2.symm⟩, rfl⟩
  · have hz : ((a : Int) == 0) = false := by simpa using h0
    cases ha : Sc.fits a with
    | false =>
      have HO := Lib.hid (Sc.mul_out (a := a) (n := b) h0 (.inl ha))
      have HA := Lib.hid ha
      clear ha
      go_enter Tryd.func13, Tryd.ntmps13
      go_wp2_with fail
      refine (refFits_any _ _ HA.out _).mono ?_
      rintro e w' ⟨rfl, rfl⟩
      go_wp2_with fail
      refine (one_no _ _).mono ?_
      rintro e w' ⟨rfl, rfl⟩
      go_wp2_with fail
      go_ret2
      exact ⟨ret_pair ⟨HO.out.1.symm, HO.out.2.symm⟩, rfl⟩
    | true =>
      have ⟨a0, a1⟩ := Sc.fits_yes ha
      cases hb : Sc.fits b with
      | false =>
        have HO := Lib.hid (Sc.mul_out (a := a) (n := b) h0 (.inr hb))
        have HA := Lib.hid ha
        have HB := Lib.hid hb
        clear ha hb
        go_enter Tryd.func13, Tryd.ntmps13
        go_wp2_with fail
        refine (refFits_any _ _ HA.out _).mono ?_
        rintro e w' ⟨rfl, rfl⟩
        go_wp2_with fail
        refine (refFits_any _ _ HB.out _).mono ?_
        rintro e w' ⟨rfl, rfl⟩
        go_wp2_with fail
        refine (one_no _ _).mono ?_
        rintro e w' ⟨rfl, rfl⟩
        go_wp2_with fail
        go_ret2
        exact ⟨ret_pair ⟨HO.out.1.symm, HO.out.2.symm⟩, rfl⟩
      | true =>
        have ⟨b0, b1⟩ := Sc.fits_yes hb
        have HO := Lib.hid (Sc.mul_fit h0 ha hb)
        have ⟨m0, m1⟩ := Sc.mul_bound ⟨a0, a1⟩ ⟨b0, b1⟩
        have HA := Lib.hid ha
        have HB := Lib.hid hb
        clear ha hb
        go_enter Tryd.func13, Tryd.ntmps13
        go_wp2_with fail
        refine (refFits_any _ _ HA.out _).mono ?_
        rintro e w' ⟨rfl, rfl⟩
        go_wp2_with fail
        refine (refFits_any _ _ HB.out _).mono ?_
        rintro e w' ⟨rfl, rfl⟩
        go_wp2_with fail
        refine (one_yes _ _).mono ?_
        rintro e w' ⟨rfl, rfl⟩
        go_wp2_with fail
        go_ret2
        exact ⟨ret_pair HO.out, rfl⟩

end Go.Proofs.YtjaaajlghlcioaaDoor
