/-
  The program's and the reference's arithmetic on lengths: each answers what the plain mathematics tells.
-/
import Derived.Test.YtmehldekebphfaaGreatDoorBase
import Derived.Test.YtmehldekebphfaaGreatDoorNum
import Derived.Test.YtmehldekebphfaaGreatDoorLen
import Derived.Deep.QuietTactic
import Derived.BigQuiet
set_option linter.unusedVariables false
set_option linter.unusedSimpArgs false
namespace Go.Proofs.YtmehldekebphfaaGreatDoor
open Go.RowKit

theorem ret_pair {a b : Int} {c d : Bool} (h : a = b ∧ c = d) : Ending.returned (.tuple #[.int .i64 a, .bool c]) = .returned (.tuple #[.int .i64 b, .bool d]) := by rw [h.1, h.2]
theorem ret_three {a b x y : Int} {c d : Bool} (h : a = b ∧ x = y ∧ c = d) : Ending.returned (.tuple #[.int .i64 a, .int .i64 x, .bool c]) = .returned (.tuple #[.int .i64 b, .int .i64 y, .bool d]) := by rw [h.1, h.2.1, h.2.2]
set_option maxHeartbeats 1000000 in
set_option maxRecDepth 100000 in
theorem fits_any (n : Int) (b : Bool) (h : Sc.fits n = b) (w : World) : Calls Tryz.prog 69 #[.int .i64 n] w (Is (.bool b) w) := by
  cases b with
  | true =>
    have hb := Sc.fits_yes h
    obtain ⟨h0, h1⟩ := hb
    clear h
    go_enter Tryz.func69, Tryz.ntmps69
    go_wp2
    go_ret
    exact ⟨rfl, rfl⟩
  | false =>
    have hb := Sc.fits_no h
    clear h
    rcases hb with hb | hb
    all_goals
      go_enter Tryz.func69, Tryz.ntmps69
      go_wp2
      go_ret
      exact ⟨ret_bool (by first | rfl | exact decide_eq_false (by omega)), rfl⟩

set_option maxHeartbeats 1000000 in
set_option maxRecDepth 100000 in
theorem most_any (w : World) : Calls Tryz.prog 85 #[] w (Is (.int .i64 1073741823) w) := by
  go_enter Tryz.func85, Tryz.ntmps85
  go_wp2
  go_ret
  exact ⟨rfl, rfl⟩

set_option maxHeartbeats 1000000 in
set_option maxRecDepth 100000 in
theorem refFits_any (n : Int) (b : Bool) (h : Sc.fits n = b) (w : World) : Calls Tryz.prog 58 #[.int .i64 n] w (Is (.bool b) w) := by
  cases b with
  | true =>
    have hb := Sc.fits_yes h
    obtain ⟨h0, h1⟩ := hb
    clear h
    go_enter Tryz.func58, Tryz.ntmps58
    go_wp2_with (go_at_call 85; refine (most_any _).mono ?_; rintro e w' ⟨rfl, rfl⟩)
    go_ret
    exact ⟨rfl, rfl⟩
  | false =>
    have hb := Sc.fits_no h
    clear h
    rcases hb with hb | hb
    all_goals
      go_enter Tryz.func58, Tryz.ntmps58
      go_wp2_with (go_at_call 85; refine (most_any _).mono ?_; rintro e w' ⟨rfl, rfl⟩)
      go_ret
      exact ⟨ret_bool (by first | rfl | exact decide_eq_false (by omega)), rfl⟩


/-- a number and whether it is one -/
abbrev Two (n : Int) (b : Bool) : Value := .tuple #[.int .i64 n, .bool b]

set_option maxHeartbeats 1000000 in
set_option maxRecDepth 100000 in
theorem fitted_any (n : Int) (w : World) : Calls Tryz.prog 124 #[.int .i64 n] w (Is (Two (Sc.fitV n) (Sc.fits n)) w) := by
  have hv : Hid (Sc.fitV n = if Sc.fits n then n else 0) := rfl
  cases h : Sc.fits n
  all_goals
    have H := Lib.hid h
    clear h
    go_enter Tryz.func124, Tryz.ntmps124
    go_wp2_with fail
    refine (fits_any _ _ H.out _).mono ?_
    rintro e w' ⟨rfl, rfl⟩
    go_wp2
    go_ret2
    exact ⟨ret_pair ⟨by rw [hv.out, H.out]; rfl, rfl⟩, rfl⟩

set_option maxHeartbeats 1000000 in
set_option maxRecDepth 100000 in
theorem one_yes (n : Int) (w : World) : Calls Tryz.prog 97 #[.int .i64 n, .bool true] w (Is (Two (Sc.fitV n) (Sc.fits n)) w) := by
  have hv : Hid (Sc.fitV n = if Sc.fits n then n else 0) := rfl
  cases h : Sc.fits n
  all_goals
    have H := Lib.hid h
    clear h
    go_enter Tryz.func97, Tryz.ntmps97
    go_wp2_with fail
    refine (refFits_any _ _ H.out _).mono ?_
    rintro e w' ⟨rfl, rfl⟩
    go_wp2
    go_ret2
    exact ⟨ret_pair ⟨by rw [hv.out, H.out]; rfl, rfl⟩, rfl⟩
set_option maxHeartbeats 1000000 in
set_option maxRecDepth 100000 in
theorem one_no (n : Int) (w : World) : Calls Tryz.prog 97 #[.int .i64 n, .bool false] w (Is (Two 0 false) w) := by
  go_enter Tryz.func97, Tryz.ntmps97
  go_wp2
  go_ret2
  exact ⟨rfl, rfl⟩

set_option maxHeartbeats 1000000 in
set_option maxRecDepth 100000 in
theorem size_any (a : Int) (h0 : -1073741823 ≤ a) (h1 : a ≤ 1073741823) (w : World) : Calls Tryz.prog 89 #[.int .i64 a] w (Is (.int .i64 (Sc.size a)) w) := by
  have hs : Hid (Sc.size a = if a < 0 then -a else a) := rfl
  by_cases ha : a < 0
  all_goals
    go_enter Tryz.func89, Tryz.ntmps89
    go_wp2
    go_ret
    exact ⟨ret_int (by rw [hs.out]; split <;> omega), rfl⟩

end Go.Proofs.YtmehldekebphfaaGreatDoor
