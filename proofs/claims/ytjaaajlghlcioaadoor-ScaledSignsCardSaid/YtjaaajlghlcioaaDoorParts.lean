/-
  The program's and the reference's quotients and parts: each answers what the plain mathematics tells.
-/
import Derived.Test.YtjaaajlghlcioaaDoorSums
set_option linter.unusedVariables false
set_option linter.unusedSimpArgs false
namespace Go.Proofs.YtjaaajlghlcioaaDoor
open Go.RowKit

/-- two numbers and whether they are some -/
abbrev Three (n m : Int) (b : Bool) : Value := .tuple #[.int .i64 n, .int .i64 m, .bool b]

theorem w64 {x : Int} (h0 : -9223372036854775808 ≤ x) (h1 : x ≤ 9223372036854775807) : wrap64 x = x := by unfold wrap64; omega
theorem tdiv_range {a : Int} (n : Int) (h0 : -1073741823 ≤ a) (h1 : a ≤ 1073741823) : -1073741823 ≤ a.tdiv n ∧ a.tdiv n ≤ 1073741823 := by
  have h : (a.tdiv n).natAbs ≤ a.natAbs := by rw [Int.natAbs_tdiv]; exact Nat.div_le_self _ _
  omega
theorem tmod_range {a : Int} (n : Int) (h0 : -1073741823 ≤ a) (h1 : a ≤ 1073741823) : -1073741823 ≤ a.tmod n ∧ a.tmod n ≤ 1073741823 := by
  have h : (a.tmod n).natAbs ≤ a.natAbs := by rw [Int.natAbs_tmod]; exact Nat.mod_le _ _
  omega
theorem tdiv_mul (a n : Int) : a.tdiv n * n = a - a.tmod n := by
  have := Int.tmod_add_mul_tdiv a n
  rw [Int.mul_comm] at this
  omega
theorem below_drew (w : World) (k : Nat) : Below w.heap.size w (w.drewN k) := ⟨rfl, rfl, rfl, by simp [World.drewN], fun i hi => by simp [World.drewN]⟩
/-- what is returned, where what lay in memory stays as it was -/
def Ret (v : Value) (w : World) (e : Ending) (w' : World) : Prop := e = .returned v ∧ Below w.heap.size w w'
theorem Is.ret {v : Value} {w w' : World} {e : Ending} (h : Is v w e w') : Ret v w e w' := ⟨h.1, h.2 ▸ Below.refl _ _⟩

set_option maxHeartbeats 2000000 in
set_option maxRecDepth 100000 in
theorem over_any (a n : Int) (w : World) : Calls Tryd.prog 14 #[.int .i64 a, .int .i64 n] w (Ret (Three (Sc.overQ a n) (Sc.overR a n) (Sc.overB a n)) w) := by
  cases ha : Sc.fits a with
  | false =>
    have HO := Lib.hid (Sc.over_out (a := a) (n := n) (.inl ha))
    have HA := Lib.hid ha
    clear ha
    go_enter Tryd.func14, Tryd.ntmps14
    go_wp2_with fail
    refine (fits_any _ _ HA.out _).mono ?_
    rintro e w' ⟨rfl, rfl⟩
    go_wp2_with fail
    exact bodyPost_ret (v := Three 0 0 false) (by simp [results, Tryd.results14, go_sem]) rfl ⟨ret_three ⟨HO.out.1.symm, HO.out.2.1.symm, HO.out.2.2.symm⟩, Below.refl _ _⟩
  | true =>
    have ⟨a0, a1⟩ := Sc.fits_yes ha
    by_cases hn : n = 0
    · have HO := Lib.hid (Sc.over_out (a := a) (n := n) (.inr hn))
      have HA := Lib.hid ha
      subst hn
      clear ha
      go_enter Tryd.func14, Tryd.ntmps14
      go_wp2_with fail
      refine (fits_any _ _ HA.out _).mono ?_
      rintro e w' ⟨rfl, rfl⟩
      go_wp2_with fail
      exact bodyPost_ret (v := Three 0 0 false) (by simp [results, Tryd.results14, go_sem]) rfl ⟨ret_three ⟨HO.out.1.symm, HO.out.2.1.symm, HO.out.2.2.symm⟩, Below.refl _ _⟩
    · have HO := Lib.hid (Sc.over_fit ha hn)
      have hz : ((n : Int) == 0) = false := by simpa using hn
      have HQ := Lib.hid (tdiv_range n a0 a1)
      have HR := Lib.hid (tmod_range n a0 a1)
      have HA := Lib.hid ha
      clear ha
      go_enter Tryd.func14, Tryd.ntmps14
      go_wp2_with fail
      refine (fits_any _ _ HA.out _).mono ?_
      rintro e w' ⟨rfl, rfl⟩
      go_wp2_with fail
      go_quiet (fail)
      go_wp2_with fail
      exact bodyPost_ret (v := Three (wrap64 (a.tdiv n)) (a.tmod n) true) (by simp [results, Tryd.results14, go_sem]) rfl ⟨ret_three ⟨by rw [HO.out.1]; exact w64 (by have := HQ.out; omega) (by have := HQ.out; omega), HO.out.2.1.symm, HO.out.2.2.symm⟩, below_drew _ _⟩

set_option maxHeartbeats 2000000 in
set_option maxRecDepth 100000 in
theorem refOver_any (a n : Int) (w : World) : Calls Tryd.prog 15 #[.int .i64 a, .int .i64 n] w (Ret (Three (Sc.overQ a n) (Sc.overR a n) (Sc.overB a n)) w) := by
  cases ha : Sc.fits a with
  | false =>
    have HO := Lib.hid (Sc.over_out (a := a) (n := n) (.inl ha))
    have HA := Lib.hid ha
    clear ha
    go_enter Tryd.func15, Tryd.ntmps15
    go_wp2_with fail
    refine (refFits_any _ _ HA.out _).mono ?_
    rintro e w' ⟨rfl, rfl⟩
    go_wp2_with fail
    exact bodyPost_ret (v := Three 0 0 false) (by simp [results, Tryd.results15, go_sem]) rfl ⟨ret_three ⟨HO.out.1.symm, HO.out.2.1.symm, HO.out.2.2.symm⟩, Below.refl _ _⟩
  | true =>
    have ⟨a0, a1⟩ := Sc.fits_yes ha
    by_cases hn : n = 0
    · have HO := Lib.hid (Sc.over_out (a := a) (n := n) (.inr hn))
      have HA := Lib.hid ha
      subst hn
      clear ha
      go_enter Tryd.func15, Tryd.ntmps15
      go_wp2_with fail
      refine (refFits_any _ _ HA.out _).mono ?_
      rintro e w' ⟨rfl, rfl⟩
      go_wp2_with fail
      exact bodyPost_ret (v := Three 0 0 false) (by simp [results, Tryd.results15, go_sem]) rfl ⟨ret_three ⟨HO.out.1.symm, HO.out.2.1.symm, HO.out.2.2.symm⟩, Below.refl _ _⟩
    · have HO := Lib.hid (Sc.over_fit ha hn)
      have hz : ((n : Int) == 0) = false := by simpa using hn
      have HQ := Lib.hid (tdiv_range n a0 a1)
      have HR := Lib.hid (tmod_range n a0 a1)
      have HA := Lib.hid ha
      clear ha
      go_enter Tryd.func15, Tryd.ntmps15
      go_wp2_with fail
      refine (refFits_any _ _ HA.out _).mono ?_
      rintro e w' ⟨rfl, rfl⟩
      go_wp2_with fail
      go_quiet (fail)
      go_wp2_with fail
      have e0 := HQ.out
      have e1 := HR.out
      have e2 := tdiv_mul a n
      have e3 : wrap64 (a - wrap64 (wrap64 (a.tdiv n) * n)) = a.tmod n := by
        rw [w64 (x := a.tdiv n) (by omega) (by omega), e2, w64 (x := a - a.tmod n) (by omega) (by omega), w64 (by omega) (by omega)]
        omega
      exact bodyPost_ret (v := Three (wrap64 (a.tdiv n)) (wrap64 (a - wrap64 (wrap64 (a.tdiv n) * n))) true) (by simp [results, Tryd.results15, go_sem]) rfl ⟨ret_three ⟨by rw [HO.out.1]; exact w64 (by omega) (by omega), by rw [e3]; exact HO.out.2.1.symm, HO.out.2.2.symm⟩, below_drew _ _⟩

set_option maxHeartbeats 2000000 in
set_option maxRecDepth 100000 in
theorem part_any (a num den : Int) (w : World) : Calls Tryd.prog 16 #[.int .i64 a, .int .i64 num, .int .i64 den] w (Ret (Two (Sc.partV a num den) (Sc.partB a num den)) w) := by
  cases ha : Sc.fits a with
  | false =>
    have HO := Lib.hid (Sc.part_out (a := a) (num := num) (den := den) (Sc.partA_no (.inl ha)))
    have HA := Lib.hid ha
    clear ha
    go_enter Tryd.func16, Tryd.ntmps16
    go_wp2_with fail
    refine (fits_any _ _ HA.out _).mono ?_
    rintro e w' ⟨rfl, rfl⟩
    go_wp2_with fail
    go_ret2
    exact ⟨ret_pair ⟨HO.out.1.symm, HO.out.2.symm⟩, Below.refl _ _⟩
  | true =>
    have ⟨a0, a1⟩ := Sc.fits_yes ha
    cases hn : Sc.fits num with
    | false =>
      have HO := Lib.hid (Sc.part_out (a := a) (num := num) (den := den) (Sc.partA_no (.inr (.inl hn))))
      have HA := Lib.hid ha
      have HN := Lib.hid hn
      clear ha hn
      go_enter Tryd.func16, Tryd.ntmps16
      go_wp2_with fail
      refine (fits_any _ _ HA.out _).mono ?_
      rintro e w' ⟨rfl, rfl⟩
      go_wp2_with fail
      refine (fits_any _ _ HN.out _).mono ?_
      rintro e w' ⟨rfl, rfl⟩
      go_wp2_with fail
      go_ret2
      exact ⟨ret_pair ⟨HO.out.1.symm, HO.out.2.symm⟩, Below.refl _ _⟩
    | true =>
      have ⟨n0, n1⟩ := Sc.fits_yes hn
      cases hd : Sc.fits den with
      | false =>
        have HO := Lib.hid (Sc.part_out (a := a) (num := num) (den := den) (Sc.partA_no (.inr (.inr (.inl hd)))))
        have HA := Lib.hid ha
        have HN := Lib.hid hn
        have HD := Lib.hid hd
        clear ha hn hd
        go_enter Tryd.func16, Tryd.ntmps16
        go_wp2_with fail
        refine (fits_any _ _ HA.out _).mono ?_
        rintro e w' ⟨rfl, rfl⟩
        go_wp2_with fail
        refine (fits_any _ _ HN.out _).mono ?_
        rintro e w' ⟨rfl, rfl⟩
        go_wp2_with fail
        refine (fits_any _ _ HD.out _).mono ?_
        rintro e w' ⟨rfl, rfl⟩
        go_wp2_with fail
        go_ret2
        exact ⟨ret_pair ⟨HO.out.1.symm, HO.out.2.symm⟩, Below.refl _ _⟩
      | true =>
        have ⟨d0, d1⟩ := Sc.fits_yes hd
        by_cases hn0 : num < 0
        · have HO := Lib.hid (Sc.part_out (a := a) (num := num) (den := den) (Sc.partA_no (.inr (.inr (.inr (.inl hn0))))))
          have HA := Lib.hid ha
          have HN := Lib.hid hn
          have HD := Lib.hid hd
          clear ha hn hd
          go_enter Tryd.func16, Tryd.ntmps16
          go_wp2_with fail
          refine (fits_any _ _ HA.out _).mono ?_
          rintro e w' ⟨rfl, rfl⟩
          go_wp2_with fail
          refine (fits_any _ _ HN.out _).mono ?_
          rintro e w' ⟨rfl, rfl⟩
          go_wp2_with fail
          refine (fits_any _ _ HD.out _).mono ?_
          rintro e w' ⟨rfl, rfl⟩
          go_wp2_with fail
          go_ret2
          exact ⟨ret_pair ⟨HO.out.1.symm, HO.out.2.symm⟩, Below.refl _ _⟩
        · by_cases hd0 : den ≤ 0
          · have HO := Lib.hid (Sc.part_out (a := a) (num := num) (den := den) (Sc.partA_no (.inr (.inr (.inr (.inr hd0))))))
            have HA := Lib.hid ha
            have HN := Lib.hid hn
            have HD := Lib.hid hd
            clear ha hn hd
            go_enter Tryd.func16, Tryd.ntmps16
            go_wp2_with fail
            refine (fits_any _ _ HA.out _).mono ?_
            rintro e w' ⟨rfl, rfl⟩
            go_wp2_with fail
            refine (fits_any _ _ HN.out _).mono ?_
            rintro e w' ⟨rfl, rfl⟩
            go_wp2_with fail
            refine (fits_any _ _ HD.out _).mono ?_
            rintro e w' ⟨rfl, rfl⟩
            go_wp2_with fail
            go_ret2
            exact ⟨ret_pair ⟨HO.out.1.symm, HO.out.2.symm⟩, Below.refl _ _⟩
          · have HO := Lib.hid (Sc.part_fit (Sc.partA_yes ha hn hd (by omega) (by omega)))
            obtain ⟨p0, p1, p2, p3, p4⟩ := Sc.partM_bound (a := a) ⟨a0, a1⟩ ⟨show 0 ≤ num by omega, n1⟩ ⟨show 0 < den by omega, d1⟩
            have ⟨s0, s1⟩ := Sc.size_range ⟨a0, a1⟩
            have HM : Hid (Sc.partM a num den = (2 * Sc.size a * num + den) / (2 * den)) := rfl
            have HN2 : Hid (Sc.partN a num den = if a < 0 then -Sc.partM a num den else Sc.partM a num den) := rfl
            have q0 : 0 ≤ 2 * Sc.size a * num := by omega
            have q1 : 2 * Sc.size a * num ≤ 2305843004918726658 := by omega
            have q2 : 0 ≤ (2 * Sc.size a * num + den) / (2 * den) := by rw [← HM.out]; exact p3
            have q3 : (2 * Sc.size a * num + den) / (2 * den) ≤ 1152921502459363330 := by rw [← HM.out]; exact p4
            clear p0 p1 p2 p3 p4
            have n00 : 0 ≤ num := by omega
            have d00 : 0 < den := by omega
            have t1 : decide (num < 0) = false := decide_eq_false hn0
            have t2 : decide (den ≤ 0) = false := decide_eq_false hd0
            clear hn0 hd0
            have HA := Lib.hid ha
            have HN := Lib.hid hn
            have HD := Lib.hid hd
            clear ha hn hd
            by_cases hneg : a < 0
            all_goals
              go_enter Tryd.func16, Tryd.ntmps16
              go_wp2_with fail
              refine (fits_any _ _ HA.out _).mono ?_
              rintro e w' ⟨rfl, rfl⟩
              go_wp2_with fail
              refine (fits_any _ _ HN.out _).mono ?_
              rintro e w' ⟨rfl, rfl⟩
              go_wp2_with fail
              refine (fits_any _ _ HD.out _).mono ?_
              rintro e w' ⟨rfl, rfl⟩
              go_wp2_with fail
              refine (size_any _ a0 a1 _).mono ?_
              rintro e w' ⟨rfl, rfl⟩
              go_wp2_with fail
              refine (fitted_any _ _).mono ?_
              rintro e w' ⟨rfl, rfl⟩
              go_wp2_with fail
              go_ret2
              have e1 := HN2.out
              first | rw [if_pos hneg, HM.out] at e1 | rw [if_neg (by omega), HM.out] at e1
              exact ⟨ret_pair (by rw [← e1]; exact HO.out), Below.refl _ _⟩

set_option maxHeartbeats 2000000 in
set_option maxRecDepth 100000 in
theorem refPart_any (a num den : Int) (w : World) : Calls Tryd.prog 17 #[.int .i64 a, .int .i64 num, .int .i64 den] w (Ret (Two (Sc.partV a num den) (Sc.partB a num den)) w) := by
  cases ha : Sc.fits a with
  | false =>
    have HO := Lib.hid (Sc.part_out (a := a) (num := num) (den := den) (Sc.partA_no (.inl ha)))
    have HA := Lib.hid ha
    clear ha
    go_enter Tryd.func17, Tryd.ntmps17
    go_wp2_with fail
    refine (refFits_any _ _ HA.out _).mono ?_
    rintro e w' ⟨rfl, rfl⟩
    go_wp2_with fail
    go_ret2
    exact ⟨ret_pair ⟨HO.out.1.symm, HO.out.2.symm⟩, Below.refl _ _⟩
  | true =>
    have ⟨a0, a1⟩ := Sc.fits_yes ha
    cases hn : Sc.fits num with
    | false =>
      have HO := Lib.hid (Sc.part_out (a := a) (num := num) (den := den) (Sc.partA_no (.inr (.inl hn))))
      have HA := Lib.hid ha
      have HN := Lib.hid hn
      clear ha hn
      go_enter Tryd.func17, Tryd.ntmps17
      go_wp2_with fail
      refine (refFits_any _ _ HA.out _).mono ?_
      rintro e w' ⟨rfl, rfl⟩
      go_wp2_with fail
      refine (refFits_any _ _ HN.out _).mono ?_
      rintro e w' ⟨rfl, rfl⟩
      go_wp2_with fail
      go_ret2
      exact ⟨ret_pair ⟨HO.out.1.symm, HO.out.2.symm⟩, Below.refl _ _⟩
    | true =>
      have ⟨n0, n1⟩ := Sc.fits_yes hn
      cases hd : Sc.fits den with
      | false =>
        have HO := Lib.hid (Sc.part_out (a := a) (num := num) (den := den) (Sc.partA_no (.inr (.inr (.inl hd)))))
        have HA := Lib.hid ha
        have HN := Lib.hid hn
        have HD := Lib.hid hd
        clear ha hn hd
        go_enter Tryd.func17, Tryd.ntmps17
        go_wp2_with fail
        refine (refFits_any _ _ HA.out _).mono ?_
        rintro e w' ⟨rfl, rfl⟩
        go_wp2_with fail
        refine (refFits_any _ _ HN.out _).mono ?_
        rintro e w' ⟨rfl, rfl⟩
        go_wp2_with fail
        refine (refFits_any _ _ HD.out _).mono ?_
        rintro e w' ⟨rfl, rfl⟩
        go_wp2_with fail
        go_ret2
        exact ⟨ret_pair ⟨HO.out.1.symm, HO.out.2.symm⟩, Below.refl _ _⟩
      | true =>
        have ⟨d0, d1⟩ := Sc.fits_yes hd
        by_cases hn0 : num < 0
        · have HO := Lib.hid (Sc.part_out (a := a) (num := num) (den := den) (Sc.partA_no (.inr (.inr (.inr (.inl hn0))))))
          have HA := Lib.hid ha
          have HN := Lib.hid hn
          have HD := Lib.hid hd
          clear ha hn hd
          go_enter Tryd.func17, Tryd.ntmps17
          go_wp2_with fail
          refine (refFits_any _ _ HA.out _).mono ?_
          rintro e w' ⟨rfl, rfl⟩
          go_wp2_with fail
          refine (refFits_any _ _ HN.out _).mono ?_
          rintro e w' ⟨rfl, rfl⟩
          go_wp2_with fail
          refine (refFits_any _ _ HD.out _).mono ?_
          rintro e w' ⟨rfl, rfl⟩
          go_wp2_with fail
          go_ret2
          exact ⟨ret_pair ⟨HO.out.1.symm, HO.out.2.symm⟩, Below.refl _ _⟩
        · by_cases hd0 : den ≤ 0
          · have HO := Lib.hid (Sc.part_out (a := a) (num := num) (den := den) (Sc.partA_no (.inr (.inr (.inr (.inr hd0))))))
            have HA := Lib.hid ha
            have HN := Lib.hid hn
            have HD := Lib.hid hd
            clear ha hn hd
            go_enter Tryd.func17, Tryd.ntmps17
            go_wp2_with fail
            refine (refFits_any _ _ HA.out _).mono ?_
            rintro e w' ⟨rfl, rfl⟩
            go_wp2_with fail
            refine (refFits_any _ _ HN.out _).mono ?_
            rintro e w' ⟨rfl, rfl⟩
            go_wp2_with fail
            refine (refFits_any _ _ HD.out _).mono ?_
            rintro e w' ⟨rfl, rfl⟩
            go_wp2_with fail
            go_ret2
            exact ⟨ret_pair ⟨HO.out.1.symm, HO.out.2.symm⟩, Below.refl _ _⟩
          · have HO := Lib.hid (Sc.part_fit (Sc.partA_yes ha hn hd (by omega) (by omega)))
            obtain ⟨p0, p1, p2, p3, p4⟩ := Sc.partM_bound (a := a) ⟨a0, a1⟩ ⟨show 0 ≤ num by omega, n1⟩ ⟨show 0 < den by omega, d1⟩
            have s0 := Sc.size_range ⟨a0, a1⟩
            have HS : Hid (Sc.size a = if a < 0 then -a else a) := rfl
            have HM := Lib.hid (Sc.partM_round (a := a) (num := num) (den := den) (by omega))
            have HN2 : Hid (Sc.partN a num den = if a < 0 then -Sc.partM a num den else Sc.partM a num den) := rfl
            have n00 : 0 ≤ num := by omega
            have d00 : 0 < den := by omega
            have t1 : decide (num < 0) = false := decide_eq_false hn0
            have t2 : decide (den < 1) = false := decide_eq_false (by omega)
            clear hn0 hd0 p2 p3 p4
            have HA := Lib.hid ha
            have HN := Lib.hid hn
            have HD := Lib.hid hd
            clear ha hn hd
            by_cases hneg : a < 0
            · have es : Sc.size a = -a := by rw [HS.out]; exact if_pos hneg
              rw [es] at HM p0 p1
              have f0 : 0 ≤ -a * num / den := Int.ediv_nonneg p0 (by omega)
              have f1 : -a * num / den ≤ 1152921502459363329 := Int.le_trans (Int.ediv_le_self _ p0) p1
              have f2 : 0 ≤ -a * num % den := Int.emod_nonneg _ (by omega)
              have f3 : -a * num % den < den := Int.emod_lt_of_pos _ d00
              have t3 : decide (a < 0) = true := decide_eq_true hneg
              clear es s0 HS
              by_cases hr : den ≤ 2 * (-a * num % den)
              all_goals
                have e1 := HN2.out
                have e2 := HM.out
                rw [if_pos hneg] at e1
                first | rw [if_pos hr] at e2 | rw [if_neg hr] at e2
                rw [e2] at e1
                have HE := Lib.hid e1
                clear e1 e2 HM HN2 hneg
                go_enter Tryd.func17, Tryd.ntmps17
                go_wp2_with fail
                refine (refFits_any _ _ HA.out _).mono ?_
                rintro e w' ⟨rfl, rfl⟩
                go_wp2_with fail
                refine (refFits_any _ _ HN.out _).mono ?_
                rintro e w' ⟨rfl, rfl⟩
                go_wp2_with fail
                refine (refFits_any _ _ HD.out _).mono ?_
                rintro e w' ⟨rfl, rfl⟩
                go_wp2_with fail
                go_quiet (fail)
                go_wp2_with fail
                refine (one_yes _ _).mono ?_
                rintro e w' ⟨rfl, rfl⟩
                go_wp2_with fail
                go_ret2
                exact ⟨ret_pair (by rw [← HE.out]; exact HO.out), below_drew _ _⟩
            · have es : Sc.size a = a := by rw [HS.out]; exact if_neg hneg
              rw [es] at HM p0 p1
              have f0 : 0 ≤ a * num / den := Int.ediv_nonneg p0 (by omega)
              have f1 : a * num / den ≤ 1152921502459363329 := Int.le_trans (Int.ediv_le_self _ p0) p1
              have f2 : 0 ≤ a * num % den := Int.emod_nonneg _ (by omega)
              have f3 : a * num % den < den := Int.emod_lt_of_pos _ d00
              have t3 : decide (a < 0) = false := decide_eq_false hneg
              clear es s0 HS
              by_cases hr : den ≤ 2 * (a * num % den)
              all_goals
                have e1 := HN2.out
                have e2 := HM.out
                rw [if_neg hneg] at e1
                first | rw [if_pos hr] at e2 | rw [if_neg hr] at e2
                rw [e2] at e1
                have HE := Lib.hid e1
                clear e1 e2 HM HN2 hneg
                go_enter Tryd.func17, Tryd.ntmps17
                go_wp2_with fail
                refine (refFits_any _ _ HA.out _).mono ?_
                rintro e w' ⟨rfl, rfl⟩
                go_wp2_with fail
                refine (refFits_any _ _ HN.out _).mono ?_
                rintro e w' ⟨rfl, rfl⟩
                go_wp2_with fail
                refine (refFits_any _ _ HD.out _).mono ?_
                rintro e w' ⟨rfl, rfl⟩
                go_wp2_with fail
                go_quiet (fail)
                go_wp2_with fail
                refine (one_yes _ _).mono ?_
                rintro e w' ⟨rfl, rfl⟩
                go_wp2_with fail
                go_ret2
                exact ⟨ret_pair (by rw [← HE.out]; exact HO.out), below_drew _ _⟩
end Go.Proofs.YtjaaajlghlcioaaDoor
