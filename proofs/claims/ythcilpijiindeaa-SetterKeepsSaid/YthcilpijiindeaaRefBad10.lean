/-
  The reference's badness, and its differences that fit.
-/
import Derived.Test.YthcilpijiindeaaBad10
set_option linter.unusedVariables false
set_option linter.unusedSimpArgs false
namespace Go.Proofs.Ythcilpijiindeaa
open Go.RowKit

set_option maxHeartbeats 1000000 in
set_option maxRecDepth 100000 in
theorem refOne_any (n : Int) (b : Bool) (w : World) : Calls Try.prog 69 #[.int .i64 n, .bool b] w (Is (Two (if (b && Sc.fits n) then n else 0) (b && Sc.fits n)) w) := by
  cases b with
  | false =>
    go_enter Try.func69, Try.ntmps69
    go_wp2
    go_ret2
    exact ⟨ret_pair ⟨by simp, by simp⟩, rfl⟩
  | true =>
    cases h : Sc.fits n
    all_goals
      have HA := Lib.hid h
      clear h
      go_enter Try.func69, Try.ntmps69
      go_wp2_with fail
      refine (refFits_any _ _ HA.out _).mono ?_
      rintro e w' ⟨rfl, rfl⟩
      go_wp2
      go_ret2
      exact ⟨ret_pair ⟨by simp, by simp⟩, rfl⟩
set_option maxHeartbeats 1000000 in
set_option maxRecDepth 100000 in
theorem refSub_any (a b : Int) (w : World) (hb : Sc.fits b = true) : Calls Try.prog 55 #[.int .i64 a, .int .i64 b] w (Is (Two (subV a b) (subB a b)) w) := by
  have HO := Lib.hid (fun n c w => refOne_any n c w)
  cases ha : Sc.fits a with
  | false =>
    have HV := Lib.hid (sub_out (a := a) (b := b) (.inl ha))
    have HA := Lib.hid (fun w => refFits_any a _ ha w)
    clear ha
    generalize subV a b = v at HV ⊢
    generalize subB a b = u at HV ⊢
    obtain ⟨d, hd⟩ : ∃ d, d = wrap64 (a - b) := ⟨_, rfl⟩
    go_enter Try.func55, Try.ntmps55
    go_wp2_with fail
    refine (HA.out _).mono ?_
    rintro e w' ⟨rfl, rfl⟩
    go_wp2_with fail
    refine (HO.out _ _ _).mono ?_
    rintro e w' ⟨rfl, rfl⟩
    simp only [Bool.false_and, Bool.false_eq_true, if_false]
    go_wp2
    go_ret2
    exact ⟨ret_pair ⟨HV.out.1.symm, HV.out.2.symm⟩, rfl⟩
  | true =>
    obtain ⟨a0, a1⟩ := Sc.fits_yes ha
    obtain ⟨b0, b1⟩ := Sc.fits_yes hb
    have HV := Lib.hid (sub_fit ha hb)
    have HA := Lib.hid (fun w => refFits_any a _ ha w)
    have HB := Lib.hid (fun w => refFits_any b _ hb w)
    clear ha hb
    generalize subV a b = v at HV ⊢
    generalize subB a b = u at HV ⊢
    have HO2 : Hid (∀ w, Calls Try.prog 69 #[.int .i64 (a - b), .bool true] w (Is (Two v u) w)) := Lib.hid (fun w => by
      have h := refOne_any (a - b) true w
      rw [Bool.true_and] at h
      change Calls Try.prog 69 #[.int .i64 (a - b), .bool true] w (Is (Two (Sc.fitV (a - b)) (Sc.fits (a - b))) w) at h
      rw [HV.out.1, HV.out.2] at h
      exact h)
    go_enter Try.func55, Try.ntmps55
    go_wp2_with fail
    refine (HA.out _).mono ?_
    rintro e w' ⟨rfl, rfl⟩
    go_wp2_with fail
    refine (HB.out _).mono ?_
    rintro e w' ⟨rfl, rfl⟩
    go_wp2_with fail
    refine (HO2.out _).mono ?_
    rintro e w' ⟨rfl, rfl⟩
    go_wp2
    go_ret2
    exact ⟨rfl, rfl⟩

set_option maxHeartbeats 2000000 in
set_option maxRecDepth 100000 in
theorem refBadness_any (t s : Int) (ht0 : 0 ≤ t) (ht1 : t ≤ 1073741823) (hs0 : 0 ≤ s) (hs1 : s ≤ 1073741823) (w : World) : Calls Try.prog 56 #[.int .i64 t, .int .i64 s] w (Is (.int .i64 (It.bdn t s)) w) := by
  obtain ⟨q, hq⟩ : ∃ q, q = It.bdn t s := ⟨_, rfl⟩
  have HQ := Lib.hid hq
  rw [← hq]
  clear hq
  have HM := Lib.hid (fun w => most_any w)
  by_cases e1 : t = 0
  · have HE : Hid (q = 0) := Lib.hid (by rw [HQ.out]; unfold It.bdn; rw [if_pos e1])
    subst e1
    go_enter Try.func56, Try.ntmps56
    go_wp2_with fail
    refine (HM.out _).mono ?_
    rintro e w1 ⟨rfl, rfl⟩
    go_wp2_with fail
    refine (HM.out _).mono ?_
    rintro e w1 ⟨rfl, rfl⟩
    go_wp2
    go_ret
    exact ⟨ret_int (by rw [HE.out]), rfl⟩
  · by_cases e2 : s = 0
    · have HE : Hid (q = 10000) := Lib.hid (by rw [HQ.out]; unfold It.bdn; rw [if_neg e1, if_pos e2])
      subst e2
      go_enter Try.func56, Try.ntmps56
      go_wp2_with fail
      refine (HM.out _).mono ?_
      rintro e w1 ⟨rfl, rfl⟩
      go_wp2_with fail
      refine (HM.out _).mono ?_
      rintro e w1 ⟨rfl, rfl⟩
      go_wp2
      go_ret
      exact ⟨ret_int (by rw [HE.out]), rfl⟩
    · have HB : Hid (q = if 1290 < It.ratio t s then 10000 else It.cub (It.ratio t s)) := Lib.hid (by rw [HQ.out]; unfold It.bdn; rw [if_neg e1, if_neg e2])
      have hr0 := It.ratio_nonneg ht0 hs0
      have hne : s ≠ 0 := e2
      by_cases h1 : t ≤ 7230584
      · have hrt : IntKind.i64.wrap ((297 * t).tdiv s) = It.ratio t s := by
          rw [IntWalk.i64_quo _ _ ⟨by omega, by omega, by omega⟩]; unfold It.ratio; rw [if_pos h1]
        have HR : Hid (297 * t / s = It.ratio t s) := Lib.hid (by unfold It.ratio; rw [if_pos h1])
        generalize It.ratio t s = r at HR HB hr0 hrt
        have g1 : ¬ 7230584 < t := by omega
        by_cases e3 : 1290 < r
        · have HE : Hid (q = 10000) := Lib.hid (by rw [HB.out, if_pos e3])
          go_enter Try.func56, Try.ntmps56
          go_wp2_with fail
          refine (HM.out _).mono ?_
          rintro e w1 ⟨rfl, rfl⟩
          go_wp2_with fail
          refine (HM.out _).mono ?_
          rintro e w1 ⟨rfl, rfl⟩
          go_wp2
          go_ret
          exact ⟨ret_int (by rw [HE.out]), rfl⟩
        · have HE : Hid (q = (r * r * r + 131072) / 262144) := Lib.hid (by rw [HB.out, if_neg e3]; rfl)
          have b2 := It.sq_bound hr0 (show r ≤ 1290 by omega)
          have b3 := It.cub_bound hr0 (show r ≤ 1290 by omega)
          obtain ⟨b21, b22⟩ := b2
          obtain ⟨b31, b32⟩ := b3
          go_enter Try.func56, Try.ntmps56
          go_wp2_with fail
          refine (HM.out _).mono ?_
          rintro e w1 ⟨rfl, rfl⟩
          go_wp2_with fail
          refine (HM.out _).mono ?_
          rintro e w1 ⟨rfl, rfl⟩
          go_wp2
          go_ret
          exact ⟨ret_int (by rw [HE.out]), rfl⟩
      · have h1' : 7230584 < t := by omega
        by_cases h2 : 1663497 ≤ s
        · have hq : IntKind.i64.wrap (s.tdiv 297) = s / 297 := IntWalk.i64_quo _ _ ⟨by omega, by omega, by omega⟩
          obtain ⟨z, hz⟩ : ∃ z, z = s / 297 := ⟨_, rfl⟩
          have hz0 : 1 ≤ z := by omega
          have hz1 : z ≠ 0 := by omega
          have hrt : IntKind.i64.wrap (t.tdiv z) = It.ratio t s := by
            rw [IntWalk.i64_quo _ _ ⟨ht0, by omega, hz0⟩]; unfold It.ratio; rw [if_neg h1, if_pos h2, hz]
          generalize It.ratio t s = r at HB hr0 hrt
          rw [← hz] at hq
          clear hz
          by_cases e3 : 1290 < r
          · have HE : Hid (q = 10000) := Lib.hid (by rw [HB.out, if_pos e3])
            go_enter Try.func56, Try.ntmps56
            go_wp2_with fail
            refine (HM.out _).mono ?_
            rintro e w1 ⟨rfl, rfl⟩
            go_wp2_with fail
            refine (HM.out _).mono ?_
            rintro e w1 ⟨rfl, rfl⟩
            go_wp2
            go_ret
            exact ⟨ret_int (by rw [HE.out]), rfl⟩
          · have HE : Hid (q = (r * r * r + 131072) / 262144) := Lib.hid (by rw [HB.out, if_neg e3]; rfl)
            have b2 := It.sq_bound hr0 (show r ≤ 1290 by omega)
            have b3 := It.cub_bound hr0 (show r ≤ 1290 by omega)
            obtain ⟨b21, b22⟩ := b2
            obtain ⟨b31, b32⟩ := b3
            go_enter Try.func56, Try.ntmps56
            go_wp2_with fail
            refine (HM.out _).mono ?_
            rintro e w1 ⟨rfl, rfl⟩
            go_wp2_with fail
            refine (HM.out _).mono ?_
            rintro e w1 ⟨rfl, rfl⟩
            go_wp2
            go_ret
            exact ⟨ret_int (by rw [HE.out]), rfl⟩
        · have HR : Hid (t = It.ratio t s) := Lib.hid (by unfold It.ratio; rw [if_neg h1, if_neg h2])
          rw [← HR.out] at HB
          clear HR hr0
          obtain ⟨r, hr⟩ : ∃ r, r = t := ⟨_, rfl⟩
          have HE : Hid (q = 10000) := Lib.hid (by rw [HB.out, if_pos (by omega)])
          go_enter Try.func56, Try.ntmps56
          go_wp2_with fail
          refine (HM.out _).mono ?_
          rintro e w1 ⟨rfl, rfl⟩
          go_wp2_with fail
          refine (HM.out _).mono ?_
          rintro e w1 ⟨rfl, rfl⟩
          go_wp2
          go_ret
          exact ⟨ret_int (by rw [HE.out]), rfl⟩
end Go.Proofs.Ythcilpijiindeaa
