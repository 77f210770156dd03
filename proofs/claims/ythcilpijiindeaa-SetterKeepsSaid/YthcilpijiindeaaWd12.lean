/-
  The plain mathematics of set widths (P3.4): shares of an excess, by weights; their sum; none is negative; the same by signed parts; no program is mentioned here.
-/
import Derived.Test.YthcilpijiindeaaDe10
set_option linter.unusedVariables false
set_option linter.unusedSimpArgs false
namespace Go.Proofs.Ythcilpijiindeaa.It

/-- what a glue weighs in a setting -/
def wgt (s : Stg) (g : Gl) : Int := if s.sg < 0 then g.sk else if 0 < s.sg ∧ g.o = s.o then g.st else 0
def wsum (s : Stg) : List Gl → Int
  | [] => 0
  | g :: r => wgt s g + wsum s r
/-- what all glue together is widened or narrowed by -/
def amtOf (l : List Gl) (s : Stg) : Int := if 0 ≤ s.sg then s.e else min (-s.e) (sumK l)
/-- the part of the total that the weights up to c have -/
def prt (t all c : Int) : Int := if all = 0 then 0 else t * c / all
def widF (s : Stg) (t all : Int) : Int → List Gl → List Int
  | _, [] => []
  | c, g :: r => (g.w + s.sg * (prt t all (c + wgt s g) - prt t all c)) :: widF s t all (c + wgt s g) r
def widths (l : List Gl) (t : Int) : Option (List Int) := (setOf l t).map fun s => widF s (amtOf l s) (wsum s l) 0 l
def sumI : List Int → Int
  | [] => 0
  | x :: r => x + sumI r

theorem widF_len (s : Stg) (t all : Int) : ∀ (l : List Gl) (c : Int), (widF s t all c l).length = l.length
  | [], _ => rfl
  | g :: r, c => by simp only [widF, List.length_cons, widF_len s t all r]
theorem widF_sum (s : Stg) (t all : Int) : ∀ (l : List Gl) (c : Int), sumI (widF s t all c l) = sumW l + s.sg * (prt t all (c + wsum s l) - prt t all c)
  | [], c => by
    simp only [widF, sumI, sumW, wsum, Int.add_zero, Int.sub_self, Int.mul_zero]
  | g :: r, c => by
    simp only [widF, sumI, sumW, wsum]
    rw [widF_sum s t all r (c + wgt s g), show c + wgt s g + wsum s r = c + (wgt s g + wsum s r) by omega]
    generalize prt t all (c + wgt s g) = p1
    generalize prt t all (c + (wgt s g + wsum s r)) = p2
    generalize prt t all c = p0
    have e : s.sg * (p1 - p0) + s.sg * (p2 - p1) = s.sg * (p2 - p0) := by
      rw [← Int.mul_add]
      congr 1
      omega
    omega
theorem wgt_nonneg {s : Stg} {g : Gl} (h : glOk g = true) : 0 ≤ wgt s g := by
  obtain ⟨_, _, gt, gk⟩ := glOk_yes h
  unfold wgt
  split
  · omega
  · split <;> omega
theorem wsum_nonneg {s : Stg} : ∀ {l : List Gl}, l.all glOk = true → 0 ≤ wsum s l
  | [], _ => Int.le_refl _
  | g :: r, h => by
    rw [List.all_cons, Bool.and_eq_true] at h
    have := wgt_nonneg (s := s) h.1
    have := wsum_nonneg (s := s) h.2
    simp only [wsum]
    omega
theorem wsum_shrink {s : Stg} (h : s.sg < 0) : ∀ l : List Gl, wsum s l = sumK l
  | [] => rfl
  | g :: r => by
    simp only [wsum, sumK, wsum_shrink h r]
    unfold wgt
    rw [if_pos h]
theorem wsum_stretch {s : Stg} (h : 0 < s.sg) : ∀ l : List Gl, wsum s l = sumO s.o l
  | [] => rfl
  | g :: r => by
    simp only [wsum, sumO, wsum_stretch h r]
    unfold wgt
    rw [if_neg (by omega)]
    by_cases ho : g.o = s.o
    · rw [if_pos ⟨h, ho⟩, if_pos ho]
    · rw [if_neg (fun e => ho e.2), if_neg ho]
theorem wsum_none {s : Stg} (h : s.sg = 0) : ∀ l : List Gl, wsum s l = 0
  | [] => rfl
  | g :: r => by
    simp only [wsum, wsum_none h r]
    unfold wgt
    rw [if_neg (by omega), if_neg (by omega)]
    rfl
theorem prt_all {t all : Int} (h : all ≠ 0) : prt t all all = t := by
  unfold prt
  rw [if_neg h, Int.mul_ediv_cancel _ h]
theorem prt_zero (t all : Int) : prt t all 0 = 0 := by
  unfold prt
  split
  · rfl
  · rw [Int.mul_zero, Int.zero_ediv]
/-- parts rise; and by no more than the weight, if there is no more to share than the weights -/
theorem prt_rises {t all c w : Int} (ht : 0 ≤ t) (ha : 0 ≤ all) (hw : 0 ≤ w) : prt t all c ≤ prt t all (c + w) := by
  unfold prt
  by_cases h : all = 0
  · rw [if_pos h, if_pos h]; omega
  · rw [if_neg h, if_neg h]
    refine Int.ediv_le_ediv (by omega) ?_
    rw [Int.mul_add]
    have := Int.mul_nonneg ht hw
    omega
theorem prt_most {t all c w : Int} (hta : t ≤ all) (ha : 0 ≤ all) (hw : 0 ≤ w) : prt t all (c + w) - prt t all c ≤ w := by
  unfold prt
  by_cases h : all = 0
  · rw [if_pos h, if_pos h]; omega
  · rw [if_neg h, if_neg h, Int.mul_add]
    have h1 : t * w ≤ all * w := Int.mul_le_mul_of_nonneg_right hta hw
    have h2 : (t * c + t * w) / all ≤ (t * c + all * w) / all := Int.ediv_le_ediv (by omega) (by omega)
    rw [Int.add_mul_ediv_left _ _ h] at h2
    omega
/-- how wide all is together -/
theorem widths_sum {l : List Gl} {t : Int} {s : Stg} (h : setOf l t = some s) : sumI (widF s (amtOf l s) (wsum s l) 0 l) = sumW l + (if wsum s l = 0 then 0 else s.sg * amtOf l s) := by
  rw [widF_sum, Int.zero_add, prt_zero]
  by_cases h0 : wsum s l = 0
  · rw [if_pos h0]
    unfold prt
    rw [if_pos h0]
    simp
  · rw [if_neg h0, prt_all h0]
    simp
/-- a setting that is not bad fills its target; one that may be goes no further -/
theorem widths_fill {l : List Gl} {t : Int} {s : Stg} (h : setOf l t = some s) : (s.bad < 10000 → sumI (widF s (amtOf l s) (wsum s l) 0 l) = t) ∧ (s.bad ≤ 10000 → sumI (widF s (amtOf l s) (wsum s l) 0 l) ≤ t) := by
  have hs := widths_sum h
  obtain ⟨h1, _, _, he⟩ := setOf_some h
  have hk := sumK_nonneg h1
  have o0 := sumO_nonneg h1 0
  have o1 := sumO_nonneg h1 1
  have o2 := sumO_nonneg h1 2
  have o3 := sumO_nonneg h1 3
  rw [hs]
  by_cases hp : 0 < t - sumW l
  · have e : s = strE (t - sumW l) (sumO 0 l) (sumO 1 l) (sumO 2 l) (sumO 3 l) := by rw [he]; unfold setE; rw [if_pos hp]
    have hw : 0 < s.sg → wsum s l = sumO s.o l := fun hg => wsum_stretch hg l
    have hn : s.sg = 0 → wsum s l = 0 := fun hg => wsum_none hg l
    have ha : 0 ≤ s.sg → amtOf l s = s.e := fun hg => by unfold amtOf; rw [if_pos hg]
    unfold strE at e
    split at e
    · subst e
      simp only [] at hw hn ha ⊢
      rw [hw (by omega), ha (by omega), if_neg (by assumption)]
      omega
    · split at e
      · subst e
        simp only [] at hw hn ha ⊢
        rw [hw (by omega), ha (by omega), if_neg (by assumption)]
        omega
      · split at e
        · subst e
          simp only [] at hw hn ha ⊢
          rw [hw (by omega), ha (by omega), if_neg (by assumption)]
          omega
        · split at e
          · subst e
            simp only [] at hw hn ha ⊢
            rw [hw (by omega), ha (by omega), if_neg (by assumption)]
            omega
          · subst e
            simp only [] at hw hn ha ⊢
            rw [if_pos (hn (by simp))]
            omega
  · by_cases hneg : t - sumW l < 0
    · have e : s = shrE (t - sumW l) (sumK l) := by rw [he]; unfold setE; rw [if_neg hp, if_pos hneg]
      have hsg : s.sg = -1 := by rw [e]; rfl
      have hse : s.e = t - sumW l := by rw [e]; rfl
      have hbad : s.bad ≤ 10000 → -(t - sumW l) ≤ sumK l := by
        rw [e]
        unfold shrE
        simp only []
        intro hb
        by_cases hle : -(t - sumW l) ≤ sumK l
        · exact hle
        · rw [if_neg hle] at hb; omega
      rw [wsum_shrink (by omega)]
      have ham : amtOf l s = min (-s.e) (sumK l) := by unfold amtOf; rw [if_neg (by omega)]
      rw [ham, hsg, hse]
      constructor
      · intro hb
        have := hbad (by omega)
        rw [if_neg (by omega)]
        omega
      · intro hb
        have := hbad hb
        rw [if_neg (by omega)]
        omega
    · have e : s = ⟨0, 0, 0, 0⟩ := by rw [he]; unfold setE; rw [if_neg hp, if_neg hneg]
      rw [wsum_none (by rw [e]), if_pos rfl]
      omega
/-- where no glue shrinks by more than it is wide no set width is negative -/
theorem widF_nonneg {s : Stg} {t all : Int} (hsg : s.sg = -1 ∨ s.sg = 0 ∨ s.sg = 1) (ht : 0 ≤ t) (ha : 0 ≤ all) (hta : s.sg = -1 → t ≤ all) : ∀ (l : List Gl) (c : Int), l.all glOk = true → (∀ g ∈ l, g.sk ≤ g.w) → ∀ x ∈ widF s t all c l, 0 ≤ x
  | [], c, _, _, x, hx => by simp [widF] at hx
  | g :: r, c, hok, hg, x, hx => by
    rw [List.all_cons, Bool.and_eq_true] at hok
    have hwn := wgt_nonneg (s := s) hok.1
    obtain ⟨_, _, _, gk⟩ := glOk_yes hok.1
    have hgw := hg g List.mem_cons_self
    simp only [widF, List.mem_cons] at hx
    rcases hx with rfl | hx
    · have r1 := prt_rises (c := c) ht ha hwn
      rcases hsg with h | h | h
      · have r2 := prt_most (c := c) (hta h) ha hwn
        have hwk : wgt s g = g.sk := by unfold wgt; rw [if_pos (by omega)]
        rw [h]
        omega
      · rw [h]; omega
      · rw [h]; omega
    · exact widF_nonneg hsg ht ha hta r _ hok.2 (fun g' hg' => hg g' (List.mem_cons_of_mem _ hg')) x hx
/-! ### the same by signed parts -/
def prtR (A all c : Int) : Int := if 0 < all then (A * c).tdiv all else 0
def widR (s : Stg) (A all : Int) : Int → Int → List Gl → List Int
  | _, _, [] => []
  | c, p, g :: r => (g.w + prtR A all (c + wgt s g) - p) :: widR s A all (c + wgt s g) (prtR A all (c + wgt s g)) r
theorem prtR_is {sg t all c : Int} (hsg : sg = -1 ∨ sg = 0 ∨ sg = 1) (ht : 0 ≤ t) (ha : 0 ≤ all) (hc : 0 ≤ c) : prtR (sg * t) all c = sg * prt t all c := by
  have hn := Int.mul_nonneg ht hc
  unfold prtR prt
  by_cases h : all = 0
  · rw [if_neg (by omega), if_pos h, Int.mul_zero]
  · rw [if_pos (by omega), if_neg h]
    rcases hsg with rfl | rfl | rfl
    · rw [Int.neg_mul, Int.one_mul, Int.neg_mul, Int.neg_tdiv, Int.tdiv_eq_ediv_of_nonneg hn, Int.neg_mul, Int.one_mul]
    · rw [Int.zero_mul, Int.zero_mul, Int.zero_mul, Int.zero_tdiv]
    · rw [Int.one_mul, Int.one_mul, Int.tdiv_eq_ediv_of_nonneg hn]
theorem widR_is {s : Stg} {t all : Int} (hsg : s.sg = -1 ∨ s.sg = 0 ∨ s.sg = 1) (ht : 0 ≤ t) (ha : 0 ≤ all) : ∀ (l : List Gl) (c : Int), 0 ≤ c → l.all glOk = true → widR s (s.sg * t) all c (s.sg * prt t all c) l = widF s t all c l
  | [], _, _, _ => rfl
  | g :: r, c, hc, h => by
    rw [List.all_cons, Bool.and_eq_true] at h
    have hw := wgt_nonneg (s := s) h.1
    simp only [widR, widF]
    rw [prtR_is hsg ht ha (show 0 ≤ c + wgt s g by omega), widR_is hsg ht ha r (c + wgt s g) (by omega) h.2, Int.mul_sub]
    congr 1
    omega
end Go.Proofs.Ythcilpijiindeaa.It
