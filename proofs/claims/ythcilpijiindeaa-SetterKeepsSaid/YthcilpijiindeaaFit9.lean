/-
  Numbers that fit, and their sums: plain mathematics; the landed Fits and Add, and the reference's Fits.
-/
import Derived.Test.YthcilpijiindeaaBase
set_option linter.unusedVariables false
set_option linter.unusedSimpArgs false
namespace Go.Proofs.Ythcilpijiindeaa.Sc
def fits (n : Int) : Bool := decide (-1073741823 ≤ n ∧ n ≤ 1073741823)
theorem fits_yes {n : Int} (h : fits n = true) : -1073741823 ≤ n ∧ n ≤ 1073741823 := of_decide_eq_true h
theorem fits_no {n : Int} (h : fits n = false) : n < -1073741823 ∨ 1073741823 < n := by
  have := of_decide_eq_false h
  omega
theorem fits_of {n : Int} (h0 : -1073741823 ≤ n) (h1 : n ≤ 1073741823) : fits n = true := decide_eq_true ⟨h0, h1⟩
theorem fits_not {n : Int} (h : n < -1073741823 ∨ 1073741823 < n) : fits n = false := decide_eq_false (by omega)
/-- what fits, or 0 -/
def fitV (n : Int) : Int := if fits n then n else 0
def addB (a b : Int) : Bool := fits a && fits b && fits (a + b)
def addV (a b : Int) : Int := if addB a b then a + b else 0
theorem add_fit {a b : Int} (ha : fits a = true) (hb : fits b = true) : fitV (a + b) = addV a b ∧ fits (a + b) = addB a b := by
  have h : addB a b = fits (a + b) := by unfold addB; rw [ha, hb]; rfl
  exact ⟨by unfold fitV addV; rw [h], h.symm⟩
theorem add_out {a b : Int} (h : fits a = false ∨ fits b = false) : addV a b = 0 ∧ addB a b = false := by
  have h : addB a b = false := by unfold addB; rcases h with h | h <;> rw [h] <;> simp
  exact ⟨by unfold addV; rw [h]; rfl, h⟩
end Go.Proofs.Ythcilpijiindeaa.Sc
namespace Go.Proofs.Ythcilpijiindeaa
open Go.RowKit
theorem ret_pair {a b : Int} {c d : Bool} (h : a = b ∧ c = d) : Ending.returned (.tuple #[.int .i64 a, .bool c]) = .returned (.tuple #[.int .i64 b, .bool d]) := by rw [h.1, h.2]
set_option maxHeartbeats 1000000 in
set_option maxRecDepth 100000 in
theorem fits_any (n : Int) (b : Bool) (h : Sc.fits n = b) (w : World) : Calls Try.prog 59 #[.int .i64 n] w (Is (.bool b) w) := by
  cases b with
  | true =>
    have hb := Sc.fits_yes h
    obtain ⟨h0, h1⟩ := hb
    clear h
    go_enter Try.func59, Try.ntmps59
    go_wp2
    go_ret
    exact ⟨rfl, rfl⟩
  | false =>
    have hb := Sc.fits_no h
    clear h
    rcases hb with hb | hb
    all_goals
      go_enter Try.func59, Try.ntmps59
      go_wp2
      go_ret
      exact ⟨ret_bool (by first | rfl | exact decide_eq_false (by omega)), rfl⟩

set_option maxHeartbeats 1000000 in
set_option maxRecDepth 100000 in
theorem most_any (w : World) : Calls Try.prog 58 #[] w (Is (.int .i64 1073741823) w) := by
  go_enter Try.func58, Try.ntmps58
  go_wp2
  go_ret
  exact ⟨rfl, rfl⟩

set_option maxHeartbeats 1000000 in
set_option maxRecDepth 100000 in
theorem refFits_any (n : Int) (b : Bool) (h : Sc.fits n = b) (w : World) : Calls Try.prog 39 #[.int .i64 n] w (Is (.bool b) w) := by
  cases b with
  | true =>
    have hb := Sc.fits_yes h
    obtain ⟨h0, h1⟩ := hb
    clear h
    go_enter Try.func39, Try.ntmps39
    go_wp2_with (go_at_call 58; refine (most_any _).mono ?_; rintro e w' ⟨rfl, rfl⟩)
    go_ret
    exact ⟨rfl, rfl⟩
  | false =>
    have hb := Sc.fits_no h
    clear h
    rcases hb with hb | hb
    all_goals
      go_enter Try.func39, Try.ntmps39
      go_wp2_with (go_at_call 58; refine (most_any _).mono ?_; rintro e w' ⟨rfl, rfl⟩)
      go_ret
      exact ⟨ret_bool (by first | rfl | exact decide_eq_false (by omega)), rfl⟩


/-- a number and whether it is one -/
abbrev Two (n : Int) (b : Bool) : Value := .tuple #[.int .i64 n, .bool b]

set_option maxHeartbeats 1000000 in
set_option maxRecDepth 100000 in
theorem fitted_any (n : Int) (w : World) : Calls Try.prog 72 #[.int .i64 n] w (Is (Two (Sc.fitV n) (Sc.fits n)) w) := by
  have hv : Hid (Sc.fitV n = if Sc.fits n then n else 0) := rfl
  cases h : Sc.fits n
  all_goals
    have H := Lib.hid h
    clear h
    go_enter Try.func72, Try.ntmps72
    go_wp2_with fail
    refine (fits_any _ _ H.out _).mono ?_
    rintro e w' ⟨rfl, rfl⟩
    go_wp2
    go_ret2
    exact ⟨ret_pair ⟨by rw [hv.out, H.out]; rfl, rfl⟩, rfl⟩

set_option maxHeartbeats 1000000 in
set_option maxRecDepth 100000 in
theorem add_any (a b : Int) (w : World) : Calls Try.prog 71 #[.int .i64 a, .int .i64 b] w (Is (Two (Sc.addV a b) (Sc.addB a b)) w) := by
  cases ha : Sc.fits a with
  | false =>
    have HO := Lib.hid (Sc.add_out (a := a) (b := b) (.inl ha))
    have HA := Lib.hid ha
    clear ha
    go_enter Try.func71, Try.ntmps71
    go_wp2_with fail
    refine (fits_any _ _ HA.out _).mono ?_
    rintro e w' ⟨rfl, rfl⟩
    go_wp2_with fail
    go_ret2
    exact ⟨ret_pair ⟨HO.out.1.symm, HO.out.2.symm⟩, rfl⟩
  | true =>
    have ⟨a0, a1⟩ := Sc.fits_yes ha
    cases hb : Sc.fits b with
    | false =>
      have HO := Lib.hid (Sc.add_out (a := a) (b := b) (.inr hb))
      have HA := Lib.hid ha
      have HB := Lib.hid hb
      clear ha hb
      go_enter Try.func71, Try.ntmps71
      go_wp2_with fail
      refine (fits_any _ _ HA.out _).mono ?_
      rintro e w' ⟨rfl, rfl⟩
      go_wp2_with fail
      refine (fits_any _ _ HB.out _).mono ?_
      rintro e w' ⟨rfl, rfl⟩
      go_wp2_with fail
      go_ret2
      exact ⟨ret_pair ⟨HO.out.1.symm, HO.out.2.symm⟩, rfl⟩
    | true =>
      have ⟨b0, b1⟩ := Sc.fits_yes hb
      have HO := Lib.hid (Sc.add_fit ha hb)
      have HA := Lib.hid ha
      have HB := Lib.hid hb
      clear ha hb
      go_enter Try.func71, Try.ntmps71
      go_wp2_with fail
      refine (fits_any _ _ HA.out _).mono ?_
      rintro e w' ⟨rfl, rfl⟩
      go_wp2_with fail
      refine (fits_any _ _ HB.out _).mono ?_
      rintro e w' ⟨rfl, rfl⟩
      go_wp2_with fail
      refine (fitted_any _ _).mono ?_
      rintro e w' ⟨rfl, rfl⟩
      go_wp2_with fail
      go_ret2
      exact ⟨ret_pair HO.out, rfl⟩

end Go.Proofs.Ythcilpijiindeaa
