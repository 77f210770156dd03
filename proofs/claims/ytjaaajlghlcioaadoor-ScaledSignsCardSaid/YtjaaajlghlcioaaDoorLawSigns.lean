/-
  The walk of the law ScaledSigns: it returns true.
-/
import Derived.Test.YtjaaajlghlcioaaDoorFixed2
set_option linter.unusedVariables false
set_option linter.unusedSimpArgs false
namespace Go.Proofs.YtjaaajlghlcioaaDoor
open Go.RowKit

set_option maxHeartbeats 2000000 in
set_option maxRecDepth 100000 in
theorem signs_no (a b c : Int) (h : Sc.fits a = false ∨ Sc.fits b = false ∨ Sc.fits c = false) (w : World) (hE : Env w) : Calls Tryd.prog 7 #[.int .i64 a, .int .i64 b, .int .i64 c] w (Ret (.bool true) w) := by
  have HE := Lib.hid hE
  clear hE
  obtain ⟨fa, hfa⟩ : ∃ fa, fa = Sc.fits a := ⟨_, rfl⟩
  obtain ⟨fb, hfb⟩ : ∃ fb, fb = Sc.fits b := ⟨_, rfl⟩
  obtain ⟨fc, hfc⟩ : ∃ fc, fc = Sc.fits c := ⟨_, rfl⟩
  have HA : Hid (∀ w, Calls Tryd.prog 19 #[.int .i64 a] w (Is (.bool fa) w)) := Lib.hid (fun w => fits_any a fa hfa.symm w)
  have HB : Hid (∀ w, Calls Tryd.prog 19 #[.int .i64 b] w (Is (.bool fb) w)) := Lib.hid (fun w => fits_any b fb hfb.symm w)
  have HC : Hid (∀ w, Calls Tryd.prog 19 #[.int .i64 c] w (Is (.bool fc) w)) := Lib.hid (fun w => fits_any c fc hfc.symm w)
  rw [← hfa, ← hfb, ← hfc] at h
  clear hfa hfb hfc
  have H : fa = false ∨ (fa = true ∧ fb = false) ∨ (fa = true ∧ fb = true ∧ fc = false) := by
    cases fa <;> cases fb <;> cases fc <;> simp_all
  rcases H with rfl | ⟨rfl, rfl⟩ | ⟨rfl, rfl, rfl⟩
  · go_enter Tryd.func7, Tryd.ntmps7
    go_wp2_with fail
    refine (fixed_any _ HE.out).mono ?_
    rintro e w1 ⟨rfl, hb1⟩
    have HB1 := Lib.hid hb1
    clear hb1
    go_wp2_with fail
    refine (HA.out _).mono ?_
    rintro e w' ⟨rfl, rfl⟩
    go_wp2_with fail
    refine (fixed_any _ (HE.out.mono HB1.out)).mono ?_
    rintro e w2 ⟨rfl, hb2⟩
    have HB2 := Lib.hid (below_step HB1.out hb2)
    clear hb2
    go_wp2_with fail
    go_ret
    exact ⟨rfl, HB2.out⟩
  · go_enter Tryd.func7, Tryd.ntmps7
    go_wp2_with fail
    refine (fixed_any _ HE.out).mono ?_
    rintro e w1 ⟨rfl, hb1⟩
    have HB1 := Lib.hid hb1
    clear hb1
    go_wp2_with fail
    refine (HA.out _).mono ?_
    rintro e w' ⟨rfl, rfl⟩
    go_wp2_with fail
    refine (HB.out _).mono ?_
    rintro e w' ⟨rfl, rfl⟩
    go_wp2_with fail
    refine (fixed_any _ (HE.out.mono HB1.out)).mono ?_
    rintro e w2 ⟨rfl, hb2⟩
    have HB2 := Lib.hid (below_step HB1.out hb2)
    clear hb2
    go_wp2_with fail
    go_ret
    exact ⟨rfl, HB2.out⟩
  · go_enter Tryd.func7, Tryd.ntmps7
    go_wp2_with fail
    refine (fixed_any _ HE.out).mono ?_
    rintro e w1 ⟨rfl, hb1⟩
    have HB1 := Lib.hid hb1
    clear hb1
    go_wp2_with fail
    refine (HA.out _).mono ?_
    rintro e w' ⟨rfl, rfl⟩
    go_wp2_with fail
    refine (HB.out _).mono ?_
    rintro e w' ⟨rfl, rfl⟩
    go_wp2_with fail
    refine (HC.out _).mono ?_
    rintro e w' ⟨rfl, rfl⟩
    go_wp2_with fail
    refine (fixed_any _ (HE.out.mono HB1.out)).mono ?_
    rintro e w2 ⟨rfl, hb2⟩
    have HB2 := Lib.hid (below_step HB1.out hb2)
    clear hb2
    go_wp2_with fail
    go_ret
    exact ⟨rfl, HB2.out⟩

theorem sum_range {x : Int} {b : Bool} (h : x = 0 ∨ Sc.fits x = true) : -1073741823 ≤ x ∧ x ≤ 1073741823 := by
  rcases h with h | h
  · omega
  · exact Sc.fits_yes h
theorem addV_range (a b : Int) : -1073741823 ≤ Sc.addV a b ∧ Sc.addV a b ≤ 1073741823 := by
  unfold Sc.addV
  split
  · rename_i h
    unfold Sc.addB at h
    simp only [Bool.and_eq_true] at h
    exact Sc.fits_yes h.2
  · omega
theorem partV_range (a b c : Int) : -1073741823 ≤ Sc.partV a b c ∧ Sc.partV a b c ≤ 1073741823 := by
  unfold Sc.partV
  split
  · rename_i h
    unfold Sc.partB at h
    simp only [Bool.and_eq_true] at h
    exact Sc.fits_yes h.2
  · omega
theorem overQ_range {a : Int} (n : Int) (h : -1073741823 ≤ a ∧ a ≤ 1073741823) : -1073741823 ≤ Sc.overQ a n ∧ Sc.overQ a n ≤ 1073741823 := by
  unfold Sc.overQ
  split
  · exact tdiv_range n h.1 h.2
  · omega
theorem overR_range {a : Int} (n : Int) (h : -1073741823 ≤ a ∧ a ≤ 1073741823) : -1073741823 ≤ Sc.overR a n ∧ Sc.overR a n ≤ 1073741823 := by
  unfold Sc.overR
  split
  · exact tmod_range n h.1 h.2
  · omega

set_option maxHeartbeats 2000000 in
set_option maxRecDepth 100000 in
theorem signs_yes (a b c : Int) (ha : Sc.fits a = true) (hb : Sc.fits b = true) (hc : Sc.fits c = true) (w : World) (hE : Env w) : Calls Tryd.prog 7 #[.int .i64 a, .int .i64 b, .int .i64 c] w (Ret (.bool true) w) := by
  have HE := Lib.hid hE
  have ra := Sc.fits_yes ha
  have rb := Sc.fits_yes hb
  have HA := Lib.hid ha
  have HB := Lib.hid hb
  have HC := Lib.hid hc
  -- sums
  obtain ⟨y, hy⟩ : ∃ y, y = Sc.addV (-a) (-b) := ⟨_, rfl⟩
  obtain ⟨is, his⟩ : ∃ is, is = Sc.addB a b := ⟨_, rfl⟩
  have hyr := addV_range (-a) (-b)
  rw [← hy] at hyr
  have HAdd : Hid (∀ w, Calls Tryd.prog 8 #[.int .i64 a, .int .i64 b] w (Is (Two (-y) is) w)) := Lib.hid (fun w => by rw [hy, his, ← (Sc.add_neg a b).2]; exact add_any a b w)
  have HAdd2 : Hid (∀ w, Calls Tryd.prog 8 #[.int .i64 (-a), .int .i64 (-b)] w (Is (Two y is) w)) := Lib.hid (fun w => by rw [hy, his, ← (Sc.add_neg a b).1]; exact add_any (-a) (-b) w)
  -- parts
  obtain ⟨q, hq⟩ : ∃ q, q = Sc.partV (-a) b c := ⟨_, rfl⟩
  obtain ⟨may, hmay⟩ : ∃ may, may = Sc.partB a b c := ⟨_, rfl⟩
  have hqr := partV_range (-a) b c
  rw [← hq] at hqr
  have HPart : Hid (∀ w, Calls Tryd.prog 16 #[.int .i64 a, .int .i64 b, .int .i64 c] w (Ret (Two (-q) may) w)) := Lib.hid (fun w => by rw [hq, hmay, ← (Sc.part_neg a b c).2]; exact part_any a b c w)
  have HPart2 : Hid (∀ w, Calls Tryd.prog 16 #[.int .i64 (-a), .int .i64 b, .int .i64 c] w (Ret (Two q may) w)) := Lib.hid (fun w => by rw [hq, hmay, ← (Sc.part_neg a b c).1]; exact part_any (-a) b c w)
  -- quotients
  obtain ⟨g, hg⟩ : ∃ g, g = Sc.overQ (-a) b := ⟨_, rfl⟩
  obtain ⟨h, hh⟩ : ∃ h, h = Sc.overR (-a) b := ⟨_, rfl⟩
  obtain ⟨ob, hob⟩ : ∃ ob, ob = Sc.overB a b := ⟨_, rfl⟩
  have hgr := overQ_range (a := -a) b (by omega)
  have hhr := overR_range (a := -a) b (by omega)
  rw [← hg] at hgr
  rw [← hh] at hhr
  have HOver : Hid (∀ w, Calls Tryd.prog 14 #[.int .i64 a, .int .i64 b] w (Ret (Three (-g) (-h) ob) w)) := Lib.hid (fun w => by rw [hg, hh, hob, ← (Sc.over_neg a b).2.1, ← (Sc.over_neg a b).2.2]; exact over_any a b w)
  have HOver2 : Hid (∀ w, Calls Tryd.prog 14 #[.int .i64 (-a), .int .i64 b] w (Ret (Three g h ob) w)) := Lib.hid (fun w => by rw [hg, hh, hob, ← (Sc.over_neg a b).1]; exact over_any (-a) b w)
  have HPn : Hid (0 < a → Sc.print (-a) = [45] ++ Sc.print a) := Lib.hid (fun h => Sc.print_neg ha h)
  have hpl := Sc.print_len a
  have n0 : ¬ 9223372036854775807 < 1 + (Sc.print a).length := by omega
  obtain ⟨a0, a1⟩ := ra
  obtain ⟨b0, b1⟩ := rb
  obtain ⟨y0, y1⟩ := hyr
  obtain ⟨q0, q1⟩ := hqr
  obtain ⟨g0, g1⟩ := hgr
  obtain ⟨h0, h1⟩ := hhr
  clear ha hb hc hE hy his hq hmay hg hh hob hpl
  by_cases hpos : 0 < a
  · have hpn := HPn.out hpos
    have HPe : Hid (∀ w, Env w → Calls Tryd.prog 23 #[.int .i64 (-a)] w (Ret (.string (⟨#[45]⟩ ++ ⟨(Sc.print a).toArray⟩)) w)) := Lib.hid (fun w hE => by
      have h := print_any (-a) w hE
      rw [hpn] at h
      have e : (⟨([45] ++ Sc.print a).toArray⟩ : ByteArray) = ⟨#[45]⟩ ++ ⟨(Sc.print a).toArray⟩ := by
        apply ByteArray.ext
        simp
      rw [e] at h
      exact h)
    clear hpn HPn
    go_enter Tryd.func7, Tryd.ntmps7
    go_wp2_with fail
    refine (fixed_any _ HE.out).mono ?_
    rintro e w1 ⟨rfl, hb1⟩
    have HB1 := Lib.hid hb1
    clear hb1
    go_wp2_with fail
    refine (fits_any _ _ HA.out _).mono ?_
    rintro e w' ⟨rfl, rfl⟩
    go_wp2_with fail
    refine (fits_any _ _ HB.out _).mono ?_
    rintro e w' ⟨rfl, rfl⟩
    go_wp2_with fail
    refine (fits_any _ _ HC.out _).mono ?_
    rintro e w' ⟨rfl, rfl⟩
    go_wp2_with fail
    refine (HPe.out _ (HE.out.mono HB1.out)).mono ?_
    rintro e w2 ⟨rfl, hb2⟩
    have HB2 := Lib.hid (below_step HB1.out hb2)
    clear hb2
    go_wp2_with fail
    refine (print_any _ _ (HE.out.mono HB2.out)).mono ?_
    rintro e w3 ⟨rfl, hb3⟩
    have HB3 := Lib.hid (below_step HB2.out hb3)
    clear hb3
    go_wp2_with fail
    refine (HAdd.out _).mono ?_
    rintro e w' ⟨rfl, rfl⟩
    go_wp2_with fail
    refine (HAdd2.out _).mono ?_
    rintro e w' ⟨rfl, rfl⟩
    go_wp2_with fail
    refine (HPart.out _).mono ?_
    rintro e w4 ⟨rfl, hb4⟩
    have HB4 := Lib.hid (below_step HB3.out hb4)
    clear hb4
    go_wp2_with fail
    refine (HPart2.out _).mono ?_
    rintro e w5 ⟨rfl, hb5⟩
    have HB5 := Lib.hid (below_step HB4.out hb5)
    clear hb5
    go_wp2_with fail
    refine (HOver.out _).mono ?_
    rintro e w6 ⟨rfl, hb6⟩
    have HB6 := Lib.hid (below_step HB5.out hb6)
    clear hb6
    go_wp2_with fail
    refine (HOver2.out _).mono ?_
    rintro e w7 ⟨rfl, hb7⟩
    have HB7 := Lib.hid (below_step HB6.out hb7)
    clear hb7
    go_wp2_with fail
    go_ret
    exact ⟨by simp, HB7.out⟩
  · clear HPn
    go_enter Tryd.func7, Tryd.ntmps7
    go_wp2_with fail
    refine (fixed_any _ HE.out).mono ?_
    rintro e w1 ⟨rfl, hb1⟩
    have HB1 := Lib.hid hb1
    clear hb1
    go_wp2_with fail
    refine (fits_any _ _ HA.out _).mono ?_
    rintro e w' ⟨rfl, rfl⟩
    go_wp2_with fail
    refine (fits_any _ _ HB.out _).mono ?_
    rintro e w' ⟨rfl, rfl⟩
    go_wp2_with fail
    refine (fits_any _ _ HC.out _).mono ?_
    rintro e w' ⟨rfl, rfl⟩
    go_wp2_with fail
    refine (HAdd.out _).mono ?_
    rintro e w' ⟨rfl, rfl⟩
    go_wp2_with fail
    refine (HAdd2.out _).mono ?_
    rintro e w' ⟨rfl, rfl⟩
    go_wp2_with fail
    refine (HPart.out _).mono ?_
    rintro e w4 ⟨rfl, hb4⟩
    have HB4 := Lib.hid (below_step HB1.out hb4)
    clear hb4
    go_wp2_with fail
    refine (HPart2.out _).mono ?_
    rintro e w5 ⟨rfl, hb5⟩
    have HB5 := Lib.hid (below_step HB4.out hb5)
    clear hb5
    go_wp2_with fail
    refine (HOver.out _).mono ?_
    rintro e w6 ⟨rfl, hb6⟩
    have HB6 := Lib.hid (below_step HB5.out hb6)
    clear hb6
    go_wp2_with fail
    refine (HOver2.out _).mono ?_
    rintro e w7 ⟨rfl, hb7⟩
    have HB7 := Lib.hid (below_step HB6.out hb7)
    clear hb7
    go_wp2_with fail
    go_ret
    exact ⟨by simp, HB7.out⟩
theorem lawSigns_any (a b c : Int) (w : World) (hE : Env w) : Calls Tryd.prog 7 #[.int .i64 a, .int .i64 b, .int .i64 c] w (Ret (.bool true) w) := by
  cases ha : Sc.fits a with
  | false => exact signs_no a b c (.inl ha) w hE
  | true =>
    cases hb : Sc.fits b with
    | false => exact signs_no a b c (.inr (.inl hb)) w hE
    | true =>
      cases hc : Sc.fits c with
      | false => exact signs_no a b c (.inr (.inr hc)) w hE
      | true => exact signs_yes a b c ha hb hc w hE
end Go.Proofs.YtjaaajlghlcioaaDoor
