/-
  Badness, the landed one and the reference's; differences that fit.
-/
import Derived.Test.YthcilpijiindeaaDe10
import Derived.Test.YthcilpijiindeaaGlue9
set_option linter.unusedVariables false
set_option linter.unusedSimpArgs false
namespace Go.Proofs.Ythcilpijiindeaa
open Go.RowKit

set_option maxHeartbeats 1000000 in
set_option maxRecDepth 100000 in
theorem ratio_any (t s : Int) (ht0 : 0 ≤ t) (ht1 : t ≤ 1073741823) (hs0 : 1 ≤ s) (hs1 : s ≤ 1073741823) (w : World) : Calls Try.prog 74 #[.int .i64 t, .int .i64 s] w (Is (.int .i64 (It.ratio t s)) w) := by
  obtain ⟨r, hr⟩ : ∃ r, r = It.ratio t s := ⟨_, rfl⟩
  have HR := Lib.hid hr
  rw [← hr]
  clear hr
  have hne : s ≠ 0 := by omega
  by_cases h1 : t ≤ 7230584
  · have HE : Hid (r = 297 * t / s) := Lib.hid (by rw [HR.out]; unfold It.ratio; rw [if_pos h1])
    go_enter Try.func74, Try.ntmps74
    go_wp2
    go_ret
    exact ⟨ret_int (by rw [HE.out]), rfl⟩
  · by_cases h2 : 1663497 ≤ s
    · have hq : IntKind.i64.wrap (s.tdiv 297) = s / 297 := IntWalk.i64_quo _ _ ⟨by omega, by omega, by omega⟩
      obtain ⟨z, hz⟩ : ∃ z, z = s / 297 := ⟨_, rfl⟩
      have hz0 : 1 ≤ z := by omega
      have hz1 : z ≠ 0 := by omega
      have HE : Hid (r = t / z) := Lib.hid (by rw [HR.out]; unfold It.ratio; rw [if_neg h1, if_pos h2, hz])
      rw [← hz] at hq
      clear hz
      go_enter Try.func74, Try.ntmps74
      go_wp2
      go_ret
      exact ⟨ret_int (by rw [HE.out]), rfl⟩
    · have HE : Hid (r = t) := Lib.hid (by rw [HR.out]; unfold It.ratio; rw [if_neg h1, if_neg h2])
      go_enter Try.func74, Try.ntmps74
      go_wp2
      go_ret
      exact ⟨ret_int (by rw [HE.out]), rfl⟩

set_option maxHeartbeats 1000000 in
set_option maxRecDepth 100000 in
theorem badness_any (t s : Int) (ht0 : 0 ≤ t) (ht1 : t ≤ 1073741823) (hs0 : 0 ≤ s) (hs1 : s ≤ 1073741823) (w : World) : Calls Try.prog 73 #[.int .i64 t, .int .i64 s] w (Is (.int .i64 (It.bdn t s)) w) := by
  obtain ⟨q, hq⟩ : ∃ q, q = It.bdn t s := ⟨_, rfl⟩
  have HQ := Lib.hid hq
  rw [← hq]
  clear hq
  have H1 := Lib.hid (fun w => isLength_any t _ (It.amt_of ht0 ht1) w)
  have H2 := Lib.hid (fun w => isLength_any s _ (It.amt_of hs0 hs1) w)
  by_cases e1 : t = 0
  · have HE : Hid (q = 0) := Lib.hid (by rw [HQ.out]; unfold It.bdn; rw [if_pos e1])
    subst e1
    go_enter Try.func73, Try.ntmps73
    go_wp2_with fail
    refine (H1.out _).mono ?_
    rintro e w1 ⟨rfl, rfl⟩
    go_wp2_with fail
    refine (H2.out _).mono ?_
    rintro e w1 ⟨rfl, rfl⟩
    go_wp2
    go_ret
    exact ⟨ret_int (by rw [HE.out]), rfl⟩
  · by_cases e2 : s = 0
    · have HE : Hid (q = 10000) := Lib.hid (by rw [HQ.out]; unfold It.bdn; rw [if_neg e1, if_pos e2])
      subst e2
      go_enter Try.func73, Try.ntmps73
      go_wp2_with fail
      refine (H1.out _).mono ?_
      rintro e w1 ⟨rfl, rfl⟩
      go_wp2_with fail
      refine (H2.out _).mono ?_
      rintro e w1 ⟨rfl, rfl⟩
      go_wp2
      go_ret
      exact ⟨ret_int (by rw [HE.out]), rfl⟩
    · have HRa := Lib.hid (fun w => ratio_any t s ht0 ht1 (by omega) hs1 w)
      have HB : Hid (q = if 1290 < It.ratio t s then 10000 else It.cub (It.ratio t s)) := Lib.hid (by rw [HQ.out]; unfold It.bdn; rw [if_neg e1, if_neg e2])
      have hr0 := It.ratio_nonneg ht0 hs0
      generalize It.ratio t s = r at HRa HB hr0
      by_cases e3 : 1290 < r
      · have HE : Hid (q = 10000) := Lib.hid (by rw [HB.out, if_pos e3])
        go_enter Try.func73, Try.ntmps73
        go_wp2_with fail
        refine (H1.out _).mono ?_
        rintro e w1 ⟨rfl, rfl⟩
        go_wp2_with fail
        refine (H2.out _).mono ?_
        rintro e w1 ⟨rfl, rfl⟩
        go_wp2_with fail
        refine (HRa.out _).mono ?_
        rintro e w1 ⟨rfl, rfl⟩
        go_wp2
        go_ret
        exact ⟨ret_int (by rw [HE.out]), rfl⟩
      · have HE : Hid (q = (r * r * r + 131072) / 262144) := Lib.hid (by rw [HB.out, if_neg e3]; rfl)
        have b2 := It.sq_bound hr0 (show r ≤ 1290 by omega)
        have b3 := It.cub_bound hr0 (show r ≤ 1290 by omega)
        obtain ⟨b21, b22⟩ := b2
        obtain ⟨b31, b32⟩ := b3
        go_enter Try.func73, Try.ntmps73
        go_wp2_with fail
        refine (H1.out _).mono ?_
        rintro e w1 ⟨rfl, rfl⟩
        go_wp2_with fail
        refine (H2.out _).mono ?_
        rintro e w1 ⟨rfl, rfl⟩
        go_wp2_with fail
        refine (HRa.out _).mono ?_
        rintro e w1 ⟨rfl, rfl⟩
        go_wp2
        go_ret
        exact ⟨ret_int (by rw [HE.out]), rfl⟩

/-! ### differences -/
def subB (a b : Int) : Bool := Sc.fits a && Sc.fits b && Sc.fits (a - b)
def subV (a b : Int) : Int := if subB a b then a - b else 0
theorem sub_fit {a b : Int} (ha : Sc.fits a = true) (hb : Sc.fits b = true) : Sc.fitV (a - b) = subV a b ∧ Sc.fits (a - b) = subB a b := by
  have h : subB a b = Sc.fits (a - b) := by unfold subB; rw [ha, hb]; rfl
  exact ⟨by unfold Sc.fitV subV; rw [h], h.symm⟩
theorem sub_out {a b : Int} (h : Sc.fits a = false ∨ Sc.fits b = false) : subV a b = 0 ∧ subB a b = false := by
  have h : subB a b = false := by unfold subB; rcases h with h | h <;> rw [h] <;> simp
  exact ⟨by unfold subV; rw [h]; rfl, h⟩
set_option maxHeartbeats 1000000 in
set_option maxRecDepth 100000 in
theorem sub_any (a b : Int) (w : World) : Calls Try.prog 66 #[.int .i64 a, .int .i64 b] w (Is (Two (subV a b) (subB a b)) w) := by
  cases ha : Sc.fits a with
  | false =>
    have HO := Lib.hid (sub_out (a := a) (b := b) (.inl ha))
    have HA := Lib.hid ha
    clear ha
    go_enter Try.func66, Try.ntmps66
    go_wp2_with fail
    refine (fits_any _ _ HA.out _).mono ?_
    rintro e w' ⟨rfl, rfl⟩
    go_wp2_with fail
    go_ret2
    exact ⟨ret_pair ⟨HO.out.1.symm, HO.out.2.symm⟩, rfl⟩
  | true =>
    have ⟨a0, a1⟩ := Sc.fits_yes ha
    cases hb : Sc.fits b with
    | false =>
      have HO := Lib.hid (sub_out (a := a) (b := b) (.inr hb))
      have HA := Lib.hid ha
      have HB := Lib.hid hb
      clear ha hb
      go_enter Try.func66, Try.ntmps66
      go_wp2_with fail
      refine (fits_any _ _ HA.out _).mono ?_
      rintro e w' ⟨rfl, rfl⟩
      go_wp2_with fail
      refine (fits_any _ _ HB.out _).mono ?_
      rintro e w' ⟨rfl, rfl⟩
      go_wp2_with fail
      go_ret2
      exact ⟨ret_pair ⟨HO.out.1.symm, HO.out.2.symm⟩, rfl⟩
    | true =>
      have ⟨b0, b1⟩ := Sc.fits_yes hb
      have HO := Lib.hid (sub_fit ha hb)
      have HA := Lib.hid ha
      have HB := Lib.hid hb
      clear ha hb
      go_enter Try.func66, Try.ntmps66
      go_wp2_with fail
      refine (fits_any _ _ HA.out _).mono ?_
      rintro e w' ⟨rfl, rfl⟩
      go_wp2_with fail
      refine (fits_any _ _ HB.out _).mono ?_
      rintro e w' ⟨rfl, rfl⟩
      go_wp2_with fail
      refine (fitted_any _ _).mono ?_
      rintro e w' ⟨rfl, rfl⟩
      go_wp2_with fail
      go_ret2
      exact ⟨ret_pair HO.out, rfl⟩
end Go.Proofs.Ythcilpijiindeaa
