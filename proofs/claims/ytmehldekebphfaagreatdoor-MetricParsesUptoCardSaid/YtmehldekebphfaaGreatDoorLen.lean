/-
  The plain mathematics of package scaled: sums, products, quotients and parts that fit, a length's print, and what a text is parsed as; no program is mentioned here.
-/
import Derived.Test.YtmehldekebphfaaGreatDoorMath
import Derived.Test.YtmehldekebphfaaGreatDoorFrac
set_option linter.unusedVariables false
set_option linter.unusedSimpArgs false
namespace Go.Proofs.YtmehldekebphfaaGreatDoor.Sc
open Go.Lib

/-! ### sums, products, quotients, parts -/
def fits (n : Int) : Bool := decide (-1073741823 ≤ n ∧ n ≤ 1073741823)
theorem fits_yes {n : Int} (h : fits n = true) : -1073741823 ≤ n ∧ n ≤ 1073741823 := of_decide_eq_true h
theorem fits_no {n : Int} (h : fits n = false) : n < -1073741823 ∨ 1073741823 < n := by
  have := of_decide_eq_false h
  omega
theorem fits_of {n : Int} (h0 : -1073741823 ≤ n) (h1 : n ≤ 1073741823) : fits n = true := decide_eq_true ⟨h0, h1⟩
theorem fits_not {n : Int} (h : n < -1073741823 ∨ 1073741823 < n) : fits n = false := decide_eq_false (by omega)
theorem fits_neg (n : Int) : fits (-n) = fits n := by
  cases h : fits n with
  | true => have := fits_yes h; exact fits_of (by omega) (by omega)
  | false => have := fits_no h; exact fits_not (by omega)
/-- what fits, or 0 -/
def fitV (n : Int) : Int := if fits n then n else 0
def addB (a b : Int) : Bool := fits a && fits b && fits (a + b)
def addV (a b : Int) : Int := if addB a b then a + b else 0
def subB (a b : Int) : Bool := fits a && fits b && fits (a - b)
def subV (a b : Int) : Int := if subB a b then a - b else 0
def mulB (a n : Int) : Bool := a == 0 || (fits a && fits n && fits (a * n))
def mulV (a n : Int) : Int := if mulB a n then a * n else 0
def overB (a n : Int) : Bool := fits a && n != 0
def overQ (a n : Int) : Int := if overB a n then a.tdiv n else 0
def overR (a n : Int) : Int := if overB a n then a.tmod n else 0
def size (a : Int) : Int := if a < 0 then -a else a
def partM (a num den : Int) : Int := (2 * size a * num + den) / (2 * den)
def partN (a num den : Int) : Int := if a < 0 then -partM a num den else partM a num den
def partA (a num den : Int) : Bool := fits a && fits num && fits den && decide (0 ≤ num) && decide (0 < den)
def partB (a num den : Int) : Bool := partA a num den && fits (partN a num den)
def partV (a num den : Int) : Int := if partB a num den then partN a num den else 0

theorem add_fit {a b : Int} (ha : fits a = true) (hb : fits b = true) : fitV (a + b) = addV a b ∧ fits (a + b) = addB a b := by
  have h : addB a b = fits (a + b) := by unfold addB; rw [ha, hb]; rfl
  exact ⟨by unfold fitV addV; rw [h], h.symm⟩
theorem add_out {a b : Int} (h : fits a = false ∨ fits b = false) : addV a b = 0 ∧ addB a b = false := by
  have h : addB a b = false := by unfold addB; rcases h with h | h <;> rw [h] <;> simp
  exact ⟨by unfold addV; rw [h]; rfl, h⟩
theorem sub_fit {a b : Int} (ha : fits a = true) (hb : fits b = true) : fitV (a - b) = subV a b ∧ fits (a - b) = subB a b := by
  have h : subB a b = fits (a - b) := by unfold subB; rw [ha, hb]; rfl
  exact ⟨by unfold fitV subV; rw [h], h.symm⟩
theorem sub_out {a b : Int} (h : fits a = false ∨ fits b = false) : subV a b = 0 ∧ subB a b = false := by
  have h : subB a b = false := by unfold subB; rcases h with h | h <;> rw [h] <;> simp
  exact ⟨by unfold subV; rw [h]; rfl, h⟩
theorem mul_zero (n : Int) : mulV 0 n = 0 ∧ mulB 0 n = true := ⟨by unfold mulV; split <;> simp, rfl⟩
theorem mul_fit {a n : Int} (h0 : a ≠ 0) (ha : fits a = true) (hn : fits n = true) : fitV (a * n) = mulV a n ∧ fits (a * n) = mulB a n := by
  have h : mulB a n = fits (a * n) := by unfold mulB; rw [ha, hn, beq_eq_false_iff_ne.2 h0]; rfl
  exact ⟨by unfold fitV mulV; rw [h], h.symm⟩
theorem mul_out {a n : Int} (h0 : a ≠ 0) (h : fits a = false ∨ fits n = false) : mulV a n = 0 ∧ mulB a n = false := by
  have h : mulB a n = false := by unfold mulB; rw [beq_eq_false_iff_ne.2 h0]; rcases h with h | h <;> rw [h] <;> simp
  exact ⟨by unfold mulV; rw [h]; rfl, h⟩
theorem over_fit {a n : Int} (ha : fits a = true) (hn : n ≠ 0) : overQ a n = a.tdiv n ∧ overR a n = a.tmod n ∧ overB a n = true := by
  have h : overB a n = true := by unfold overB; rw [ha, bne_iff_ne.2 hn]; rfl
  exact ⟨by unfold overQ; rw [if_pos h], by unfold overR; rw [if_pos h], h⟩
theorem over_out {a n : Int} (h : fits a = false ∨ n = 0) : overQ a n = 0 ∧ overR a n = 0 ∧ overB a n = false := by
  have h : overB a n = false := by unfold overB; rcases h with h | h <;> rw [h] <;> simp
  exact ⟨by unfold overQ; rw [h]; rfl, by unfold overR; rw [h]; rfl, h⟩
theorem part_fit {a num den : Int} (h : partA a num den = true) : fitV (partN a num den) = partV a num den ∧ fits (partN a num den) = partB a num den := by
  have h : partB a num den = fits (partN a num den) := by unfold partB; rw [h]; rfl
  exact ⟨by unfold fitV partV; rw [h], h.symm⟩
theorem part_out {a num den : Int} (h : partA a num den = false) : partV a num den = 0 ∧ partB a num den = false := by
  have h : partB a num den = false := by unfold partB; rw [h]; rfl
  exact ⟨by unfold partV; rw [h]; rfl, h⟩
theorem partA_no {a num den : Int} (h : fits a = false ∨ fits num = false ∨ fits den = false ∨ num < 0 ∨ den ≤ 0) : partA a num den = false := by
  unfold partA
  rcases h with h | h | h | h | h
  · rw [h]; simp
  · rw [h]; simp
  · rw [h]; simp
  · rw [decide_eq_false (show ¬ 0 ≤ num by omega)]; simp
  · rw [decide_eq_false (show ¬ 0 < den by omega)]; simp
theorem partA_yes {a num den : Int} (ha : fits a = true) (hn : fits num = true) (hd : fits den = true) (h0 : 0 ≤ num) (h1 : 0 < den) : partA a num den = true := by
  unfold partA
  rw [ha, hn, hd, decide_eq_true h0, decide_eq_true h1]; rfl
theorem mul_bound {a n : Int} (ha : -1073741823 ≤ a ∧ a ≤ 1073741823) (hn : -1073741823 ≤ n ∧ n ≤ 1073741823) : -1152921502459363329 ≤ a * n ∧ a * n ≤ 1152921502459363329 := by
  have h : (a * n).natAbs ≤ 1073741823 * 1073741823 := by
    rw [Int.natAbs_mul]
    exact Nat.mul_le_mul (by omega) (by omega)
  omega
theorem size_range {a : Int} (ha : -1073741823 ≤ a ∧ a ≤ 1073741823) : 0 ≤ size a ∧ size a ≤ 1073741823 := by
  unfold size; split <;> omega
theorem round_eq (P D : Int) (hD : 0 < D) : (2 * P + D) / (2 * D) = if D ≤ 2 * (P % D) then P / D + 1 else P / D := by
  have h0 := Int.emod_nonneg P (show D ≠ 0 by omega)
  have h1 := Int.emod_lt_of_pos P hD
  have h2 : 2 * P + D = (2 * (P % D) + D) + (2 * D) * (P / D) := by
    have h := Int.emod_add_mul_ediv P D
    have h3 : 2 * D * (P / D) = 2 * (D * (P / D)) := Int.mul_assoc 2 D _
    omega
  rw [h2, Int.add_mul_ediv_left _ _ (by omega)]
  generalize P % D = r at *
  split
  · have e : (2 * r + D) / (2 * D) = 1 := by
      have a1 : 1 ≤ (2 * r + D) / (2 * D) := Int.le_ediv_of_mul_le (by omega) (by omega)
      have a2 : (2 * r + D) / (2 * D) < 2 := Int.ediv_lt_of_lt_mul (by omega) (by omega)
      omega
    omega
  · have e : (2 * r + D) / (2 * D) = 0 := Int.ediv_eq_zero_of_lt (by omega) (by omega)
    omega
theorem partM_bound {a num den : Int} (ha : -1073741823 ≤ a ∧ a ≤ 1073741823) (hn : 0 ≤ num ∧ num ≤ 1073741823) (hd : 0 < den ∧ den ≤ 1073741823) :
    0 ≤ size a * num ∧ size a * num ≤ 1152921502459363329 ∧ 2 * size a * num = 2 * (size a * num) ∧ 0 ≤ partM a num den ∧ partM a num den ≤ 1152921502459363330 := by
  have hs := size_range ha
  have h1 := (mul_bound (a := size a) (n := num) (by omega) (by omega)).2
  have h0 := Int.mul_nonneg hs.1 hn.1
  have h2 : 2 * size a * num = 2 * (size a * num) := Int.mul_assoc 2 _ _
  refine ⟨h0, h1, h2, ?_, ?_⟩
  · unfold partM
    exact Int.ediv_nonneg (by omega) (by omega)
  · unfold partM
    rw [h2, round_eq _ _ hd.1]
    have : size a * num / den ≤ size a * num := Int.ediv_le_self _ h0
    split <;> omega
theorem partM_round {a num den : Int} (hd : 0 < den) : partM a num den = if den ≤ 2 * (size a * num % den) then size a * num / den + 1 else size a * num / den := by
  unfold partM
  rw [Int.mul_assoc, round_eq _ _ hd]

/-! ### what the statements ask of sums -/
theorem addV_comm (a b : Int) : addV a b = addV b a := by
  unfold addV addB
  rw [Int.add_comm, Bool.and_comm (fits a)]
theorem addB_comm (a b : Int) : addB a b = addB b a := by
  unfold addB
  rw [Int.add_comm, Bool.and_comm (fits a)]
theorem sub_add {a b : Int} (h : subB a b = true) : addB (subV a b) b = true ∧ addV (subV a b) b = a := by
  have h' := h
  unfold subB at h'
  simp only [Bool.and_eq_true] at h'
  have e : subV a b = a - b := by unfold subV; rw [if_pos h]
  have hB : addB (a - b) b = true := by
    unfold addB
    rw [h'.2, h'.1.2, show a - b + b = a by omega, h'.1.1]; rfl
  rw [e]
  refine ⟨hB, ?_⟩
  unfold addV
  rw [if_pos hB]; omega
theorem over_back {a n : Int} (h : overB a n = true) : overQ a n * n + overR a n = a ∧ (overR a n = 0 ∨ decide (overR a n < 0) = decide (a < 0)) := by
  have e1 : overQ a n = a.tdiv n := by unfold overQ; rw [if_pos h]
  have e2 : overR a n = a.tmod n := by unfold overR; rw [if_pos h]
  rw [e1, e2]
  refine ⟨?_, ?_⟩
  · have := Int.tmod_add_mul_tdiv a n
    rw [Int.mul_comm] at this
    omega
  · by_cases ha : a < 0
    · have h1 : 0 ≤ (-a).tmod n := Int.tmod_nonneg _ (by omega)
      rw [Int.neg_tmod] at h1
      by_cases h0 : a.tmod n = 0
      · exact .inl h0
      · exact .inr (by rw [decide_eq_true ha, decide_eq_true (by omega)])
    · have h1 : 0 ≤ a.tmod n := Int.tmod_nonneg _ (by omega)
      exact .inr (by rw [decide_eq_false ha, decide_eq_false (by omega)])
theorem part_all (a : Int) : partB a 65536 65536 = fits a ∧ (fits a = true → partV a 65536 65536 = a) := by
  have e : partN a 65536 65536 = a := by
    unfold partN partM size
    split <;> omega
  have h1 : partB a 65536 65536 = fits a := by
    unfold partB partA
    rw [e]
    cases fits a <;> rfl
  refine ⟨h1, fun h => ?_⟩
  unfold partV
  rw [h1, if_pos h, e]
theorem part_mono {a n d : Int} (h1 : partB a n d = true) (h2 : partB (a - 1) n d = true) : partV (a - 1) n d ≤ partV a n d := by
  unfold partV
  rw [if_pos h1, if_pos h2]
  unfold partB partA at h1
  simp only [Bool.and_eq_true, decide_eq_true_eq] at h1
  obtain ⟨⟨⟨_, hn⟩, hd⟩, _⟩ := h1
  have mono : ∀ x y : Int, x ≤ y → (2 * x * n + d) / (2 * d) ≤ (2 * y * n + d) / (2 * d) := by
    intro x y hxy
    refine Int.ediv_le_ediv (by omega) ?_
    have := Int.mul_le_mul_of_nonneg_right (show 2 * x ≤ 2 * y by omega) hn
    omega
  have pos : ∀ x : Int, 0 ≤ x → 0 ≤ (2 * x * n + d) / (2 * d) := by
    intro x hx
    have := Int.mul_nonneg (show 0 ≤ 2 * x by omega) hn
    exact Int.ediv_nonneg (by omega) (by omega)
  unfold partN partM size
  by_cases ha : a < 0
  · rw [if_pos ha, if_pos ha, if_pos (by omega), if_pos (by omega)]
    have := mono (-a) (-(a - 1)) (by omega)
    omega
  · by_cases ha1 : a - 1 < 0
    · rw [if_neg ha, if_neg ha, if_pos ha1, if_pos ha1]
      have h3 := pos a (by omega)
      have h4 := pos (-(a - 1)) (by omega)
      omega
    · rw [if_neg ha, if_neg ha, if_neg ha1, if_neg ha1]
      exact mono _ _ (by omega)
theorem add_neg (a b : Int) : addB (-a) (-b) = addB a b ∧ addV a b = -addV (-a) (-b) := by
  have h : addB (-a) (-b) = addB a b := by
    unfold addB
    rw [fits_neg, fits_neg, show -a + -b = -(a + b) by omega, fits_neg]
  refine ⟨h, ?_⟩
  unfold addV
  rw [h]
  split <;> omega
theorem partN_neg (a n d : Int) : partN (-a) n d = -partN a n d ∨ a = 0 := by
  by_cases h0 : a = 0
  · exact .inr h0
  · left
    have hs : size (-a) = size a := by unfold size; split <;> split <;> omega
    have hm : partM (-a) n d = partM a n d := by unfold partM; rw [hs]
    unfold partN
    rw [hm]
    split <;> split <;> omega
theorem part_neg (a n d : Int) : partB (-a) n d = partB a n d ∧ partV a n d = -partV (-a) n d := by
  by_cases h0 : a = 0
  · subst h0
    refine ⟨rfl, ?_⟩
    show partV 0 n d = -partV 0 n d
    have : partV 0 n d = 0 := by
      unfold partV
      split
      · rename_i h
        unfold partB partA at h
        simp only [Bool.and_eq_true, decide_eq_true_eq] at h
        unfold partN partM size
        rw [if_neg (by omega), if_neg (by omega)]
        rw [show 2 * (0 : Int) * n + d = d by simp]
        exact Int.ediv_eq_zero_of_lt (by omega) (by omega)
      · rfl
    omega
  · have hN : partN (-a) n d = -partN a n d := (partN_neg a n d).resolve_right h0
    have h : partB (-a) n d = partB a n d := by
      unfold partB partA
      rw [hN, fits_neg, fits_neg]
    refine ⟨h, ?_⟩
    unfold partV
    rw [h, hN]
    split <;> omega
theorem over_neg (a n : Int) : overB (-a) n = overB a n ∧ overQ a n = -overQ (-a) n ∧ overR a n = -overR (-a) n := by
  have h : overB (-a) n = overB a n := by unfold overB; rw [fits_neg]
  refine ⟨h, ?_, ?_⟩
  · unfold overQ
    rw [h, Int.neg_tdiv]
    split <;> omega
  · unfold overR
    rw [h, Int.neg_tmod]
    split <;> omega
end Go.Proofs.YtmehldekebphfaaGreatDoor.Sc
