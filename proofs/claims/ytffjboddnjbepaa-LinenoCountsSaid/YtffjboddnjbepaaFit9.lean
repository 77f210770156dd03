/-
  Numbers that fit, and their sums: plain mathematics; the landed Fits and Add, and the reference's Fits.
-/
import Derived.Test.YtffjboddnjbepaaBase
set_option linter.unusedVariables false
set_option linter.unusedSimpArgs false
namespace Go.Proofs.Ytffjboddnjbepaa.Sc
def fits (n : Int) : Bool := decide (-1073741823 ≤ n ∧ n ≤ 1073741823)
theorem fits_yes {n : Int} (h : fits n = true) : -1073741823 ≤ n ∧ n ≤ 1073741823 := of_decide_eq_true h
theorem fits_no {n : Int} (h : fits n = false) : n < -1073741823 ∨ 1073741823 < n := by
  have := of_decide_eq_false h
  omega
theorem fits_of {n : Int} (h0 : -1073741823 ≤ n) (h1 : n ≤ 1073741823) : fits n = true := decide_eq_true ⟨h0, h1⟩
theorem fits_not {n : Int} (h : n < -1073741823 ∨ 1073741823 < n) : fits n = false := decide_eq_false (by omega)
/-- what fits, or 0 -/
def fitV (n : Int) : Int := if fits n then n else 0
def addB (a b : Int) : Bool := fits a && fits b && fits (a + b)
def addV (a b : Int) : Int := if addB a b then a + b else 0
theorem add_fit {a b : Int} (ha : fits a = true) (hb : fits b = true) : fitV (a + b) = addV a b ∧ fits (a + b) = addB a b := by
  have h : addB a b = fits (a + b) := by unfold addB; rw [ha, hb]; rfl
  exact ⟨by unfold fitV addV; rw [h], h.symm⟩
theorem add_out {a b : Int} (h : fits a = false ∨ fits b = false) : addV a b = 0 ∧ addB a b = false := by
  have h : addB a b = false := by unfold addB; rcases h with h | h <;> rw [h] <;> simp
  exact ⟨by unfold addV; rw [h]; rfl, h⟩
end Go.Proofs.Ytffjboddnjbepaa.Sc
namespace Go.Proofs.Ytffjboddnjbepaa
open Go.RowKit
theorem ret_pair {a b : Int} {c d : Bool} (h : a = b ∧ c = d) : Ending.returned (.tuple #[.int .i64 a, .bool c]) = .returned (.tuple #[.int .i64 b, .bool d]) := by rw [h.1, h.2]
/-- a number and whether it is one -/
abbrev Two (n : Int) (b : Bool) : Value := .tuple #[.int .i64 n, .bool b]

end Go.Proofs.Ytffjboddnjbepaa
