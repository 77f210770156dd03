/-
  The program's and the reference's quotients and parts: each answers what the plain mathematics tells.
-/
import Derived.Test.YtmehldekebphfaaGreatDoorBase
import Derived.Test.YtmehldekebphfaaGreatDoorSums
set_option linter.unusedVariables false
set_option linter.unusedSimpArgs false
namespace Go.Proofs.YtmehldekebphfaaGreatDoor
open Go.RowKit

/-- two numbers and whether they are some -/
abbrev Three (n m : Int) (b : Bool) : Value := .tuple #[.int .i64 n, .int .i64 m, .bool b]

theorem tdiv_range {a : Int} (n : Int) (h0 : -1073741823 ≤ a) (h1 : a ≤ 1073741823) : -1073741823 ≤ a.tdiv n ∧ a.tdiv n ≤ 1073741823 := by
  have h : (a.tdiv n).natAbs ≤ a.natAbs := by rw [Int.natAbs_tdiv]; exact Nat.div_le_self _ _
  omega
theorem tmod_range {a : Int} (n : Int) (h0 : -1073741823 ≤ a) (h1 : a ≤ 1073741823) : -1073741823 ≤ a.tmod n ∧ a.tmod n ≤ 1073741823 := by
  have h : (a.tmod n).natAbs ≤ a.natAbs := by rw [Int.natAbs_tmod]; exact Nat.mod_le _ _
  omega
theorem tdiv_mul (a n : Int) : a.tdiv n * n = a - a.tmod n := by
  have := Int.tmod_add_mul_tdiv a n
  rw [Int.mul_comm] at this
  omega
end Go.Proofs.YtmehldekebphfaaGreatDoor
