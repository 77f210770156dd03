/-
  The program's and the reference's arithmetic on lengths: each answers what the plain mathematics tells.
-/
import Derived.Test.YtjaaajlghlcioaaDoorNum
import Derived.Test.YtjaaajlghlcioaaDoorLen
import Derived.Deep.QuietTactic
import Derived.BigQuiet
set_option linter.unusedVariables false
set_option linter.unusedSimpArgs false
namespace Go.Proofs.YtjaaajlghlcioaaDoor
open Go.RowKit

theorem ret_int {k : IntKind} {a b : Int} (h : a = b) : Ending.returned (.int k a) = .returned (.int k b) := by rw [h]
theorem ret_bool {a b : Bool} (h : a = b) : Ending.returned (.bool a) = .returned (.bool b) := by rw [h]
theorem ret_pair {a b : Int} {c d : Bool} (h : a = b ∧ c = d) : Ending.returned (.tuple #[.int .i64 a, .bool c]) = .returned (.tuple #[.int .i64 b, .bool d]) := by rw [h.1, h.2]
theorem ret_three {a b x y : Int} {c d : Bool} (h : a = b ∧ x = y ∧ c = d) : Ending.returned (.tuple #[.int .i64 a, .int .i64 x, .bool c]) = .returned (.tuple #[.int .i64 b, .int .i64 y, .bool d]) := by rw [h.1, h.2.1, h.2.2]
def Is (v : Value) (w : World) (e : Ending) (w' : World) : Prop := e = .returned v ∧ w = w'

set_option maxHeartbeats 1000000 in
set_option maxRecDepth 100000 in
theorem fits_any (n : Int) (b : Bool) (h : Sc.fits n = b) (w : World) : Calls Tryd.prog 19 #[.int .i64 n] w (Is (.bool b) w) := by
  cases b with
  | true =>
    have hb := Sc.fits_yes h
    obtain ⟨h0, h1⟩ := hb
    clear h
    go_enter Tryd.func19, Tryd.ntmps19
    go_wp2
    go_ret
    exact ⟨rfl, rfl⟩
  | false =>
    have hb := Sc.fits_no h
    clear h
    rcases hb with hb | hb
    all_goals
      go_enter Tryd.func19, Tryd.ntmps19
      go_wp2
      go_ret
      exact ⟨ret_bool (by first | rfl | exact decide_eq_false (by omega)), rfl⟩

set_option maxHeartbeats 1000000 in
set_option maxRecDepth 100000 in
theorem most_any (w : World) : Calls Tryd.prog 28 #[] w (Is (.int .i64 1073741823) w) := by
  go_enter Tryd.func28, Tryd.ntmps28
  go_wp2
  go_ret
  exact ⟨rfl, rfl⟩

set_option maxHeartbeats 1000000 in
set_option maxRecDepth 100000 in
theorem refFits_any (n : Int) (b : Bool) (h : Sc.fits n = b) (w : World) : Calls Tryd.prog 20 #[.int .i64 n] w (Is (.bool b) w) := by
  cases b with
  | true =>
    have hb := Sc.fits_yes h
    obtain ⟨h0, h1⟩ := hb
    clear h
    go_enter Tryd.func20, Tryd.ntmps20
    go_wp2_with (go_at_call 28; refine (most_any _).mono ?_; rintro e w' ⟨rfl, rfl⟩)
    go_ret
    exact ⟨rfl, rfl⟩
  | false =>
    have hb := Sc.fits_no h
    clear h
    rcases hb with hb | hb
    all_goals
      go_enter Tryd.func20, Tryd.ntmps20
      go_wp2_with (go_at_call 28; refine (most_any _).mono ?_; rintro e w' ⟨rfl, rfl⟩)
      go_ret
      exact ⟨ret_bool (by first | rfl | exact decide_eq_false (by omega)), rfl⟩


/-- a number and whether it is one -/
abbrev Two (n : Int) (b : Bool) : Value := .tuple #[.int .i64 n, .bool b]

set_option maxHeartbeats 1000000 in
set_option maxRecDepth 100000 in
theorem fitted_any (n : Int) (w : World) : Calls Tryd.prog 25 #[.int .i64 n] w (Is (Two (Sc.fitV n) (Sc.fits n)) w) := by
  have hv : Hid (Sc.fitV n = if Sc.fits n then n else 0) := rfl
  cases h : Sc.fits n
  all_goals
    have H := Lib.hid h
    clear h
    go_enter Tryd.func25, Tryd.ntmps25
    go_wp2_with fail
    refine (fits_any _ _ H.out _).mono ?_
    rintro e w' ⟨rfl, rfl⟩
    go_wp2
    go_ret2
    exact ⟨ret_pair ⟨by rw [hv.out, H.out]; rfl, rfl⟩, rfl⟩

set_option maxHeartbeats 1000000 in
set_option maxRecDepth 100000 in
theorem one_yes (n : Int) (w : World) : Calls Tryd.prog 26 #[.int .i64 n, .bool true] w (Is (Two (Sc.fitV n) (Sc.fits n)) w) := by
  have hv : Hid (Sc.fitV n = if Sc.fits n then n else 0) := rfl
  cases h : Sc.fits n
  all_goals
    have H := Lib.hid h
    clear h
    go_enter Tryd.func26, Tryd.ntmps26
    go_wp2_with fail
    refine (refFits_any _ _ H.out _).mono ?_
    rintro e w' ⟨rfl, rfl⟩
    go_wp2
    go_ret2
    exact ⟨ret_pair ⟨by rw [hv.out, H.out]; rfl, rfl⟩, rfl⟩
set_option maxHeartbeats 1000000 in
set_option maxRecDepth 100000 in
theorem one_no (n : Int) (w : World) : Calls Tryd.prog 26 #[.int .i64 n, .bool false] w (Is (Two 0 false) w) := by
  go_enter Tryd.func26, Tryd.ntmps26
  go_wp2
  go_ret2
  exact ⟨rfl, rfl⟩

set_option maxHeartbeats 1000000 in
set_option maxRecDepth 100000 in
theorem size_any (a : Int) (h0 : -1073741823 ≤ a) (h1 : a ≤ 1073741823) (w : World) : Calls Tryd.prog 27 #[.int .i64 a] w (Is (.int .i64 (Sc.size a)) w) := by
  have hs : Hid (Sc.size a = if a < 0 then -a else a) := rfl
  by_cases ha : a < 0
  all_goals
    go_enter Tryd.func27, Tryd.ntmps27
    go_wp2
    go_ret
    exact ⟨ret_int (by rw [hs.out]; split <;> omega), rfl⟩

set_option maxHeartbeats 1000000 in
set_option maxRecDepth 100000 in
theorem add_any (a b : Int) (w : World) : Calls Tryd.prog 8 #[.int .i64 a, .int .i64 b] w (Is (Two (Sc.addV a b) (Sc.addB a b)) w) := by
  cases ha : Sc.fits a with
  | false =>
    have HO := Lib.hid (Sc.add_out (a := a) (b := b) (.inl ha))
    have HA := Lib.hid ha
    clear ha
    go_enter Tryd.func8, Tryd.ntmps8
    go_wp2_with fail
    refine (fits_any _ _ HA.out _).mono ?_
    rintro e w' ⟨rfl, rfl⟩
    go_wp2_with fail
    go_ret2
    exact ⟨ret_pair ⟨HO.out.1.symm, HO.out.2.symm⟩, rfl⟩
  | true =>
    have ⟨a0, a1⟩ := Sc.fits_yes ha
    cases hb : Sc.fits b with
    | false =>
      have HO := Lib.hid (Sc.add_out (a := a) (b := b) (.inr hb))
      have HA := Lib.hid ha
      have HB := Lib.hid hb
      clear ha hb
      go_enter Tryd.func8, Tryd.ntmps8
      go_wp2_with fail
      refine (fits_any _ _ HA.out _).mono ?_
      rintro e w' ⟨rfl, rfl⟩
      go_wp2_with fail
      refine (fits_any _ _ HB.out _).mono ?_
      rintro e w' ⟨rfl, rfl⟩
      go_wp2_with fail
      go_ret2
      exact ⟨ret_pair ⟨HO.out.1.symm, HO.out.2.symm⟩, rfl⟩
    | true =>
      have ⟨b0, b1⟩ := Sc.fits_yes hb
      have HO := Lib.hid (Sc.add_fit ha hb)
      have HA := Lib.hid ha
      have HB := Lib.hid hb
      clear ha hb
      go_enter Tryd.func8, Tryd.ntmps8
      go_wp2_with fail
      refine (fits_any _ _ HA.out _).mono ?_
      rintro e w' ⟨rfl, rfl⟩
      go_wp2_with fail
      refine (fits_any _ _ HB.out _).mono ?_
      rintro e w' ⟨rfl, rfl⟩
      go_wp2_with fail
      refine (fitted_any _ _).mono ?_
      rintro e w' ⟨rfl, rfl⟩
      go_wp2_with fail
      go_ret2
      exact ⟨ret_pair HO.out, rfl⟩
end Go.Proofs.YtjaaajlghlcioaaDoor
