/-
  Is there a line from a to b, and how it is set: the landed isLine and Line.
-/
import Derived.Test.YthcilpijiindeaaGlues10
import Derived.Test.YthcilpijiindeaaSetAll10
set_option linter.unusedVariables false
set_option linter.unusedSimpArgs false
namespace Go.Proofs.Ythcilpijiindeaa
open Go.RowKit

theorem isLine_no1 {l : List It.Itm} {a b : Int} (h : a ≠ -1) (h1 : It.legal l a = false) : It.isLine l a b = false := by
  unfold It.isLine
  rw [decide_eq_false h, h1]; simp
theorem isLine_no2 {l : List It.Itm} {a b : Int} (h1 : It.legal l b = false) : It.isLine l a b = false := by
  unfold It.isLine
  rw [h1]; simp
theorem isLine_no3 {l : List It.Itm} {a b : Int} (h1 : b ≤ a) : It.isLine l a b = false := by
  unfold It.isLine
  rw [decide_eq_false (show ¬ a < b by omega)]; simp
theorem legal_in {l : List It.Itm} {b : Int} (h : It.legal l b = true) : 0 ≤ b ∧ b < l.length := by
  by_cases h0 : b < 0
  · rw [legal_neg h0] at h; cases h
  · by_cases h1 : (l.length : Int) ≤ b
    · rw [legal_far h1] at h; cases h
    · omega
theorem isLine_yes {l : List It.Itm} {a b : Int} {s k : Nat} (h : a = -1 ∨ It.legal l a = true) (h2 : It.legal l b = true) (h3 : a < b) (hs : a + 1 = (s : Int)) (hk : b = (k : Int)) : It.isLine l a b = (decide (It.st (l.take (k + 1)) s ≤ k) && !((l.take k).drop s).any It.forced) := by
  unfold It.isLine It.lineN
  rw [h2, decide_eq_true h3, hs, hk, Int.toNat_natCast, Int.toNat_natCast]
  have : (decide (a = -1) || It.legal l a) = true := by
    rcases h with h | h
    · rw [decide_eq_true h]; rfl
    · rw [h]; simp
  rw [this]; rfl

theorem tailA_zero (p : Option Addr) (c : Nat) : tailA p 0 c = p := by
  cases p with
  | none => rfl
  | some q => simp [tailA, Addr.add]

set_option maxHeartbeats 4000000 in
set_option maxRecDepth 100000 in
theorem isLine_any (v : Value) (l : List It.Itm) (a b : Int) (w : World) (h : ItsAt w v l) : Calls Try.prog 46 #[v, .int .i64 a, .int .i64 b] w (Ret (.bool (It.isLine l a b)) w) := by
  have HA := Lib.hid h
  obtain ⟨r, hr⟩ : ∃ r, r = It.isLine l a b := ⟨_, rfl⟩
  have HR := Lib.hid hr
  rw [← hr]
  clear hr
  have HLa := Lib.hid (fun w h => legal_any v l a w h)
  have HLb := Lib.hid (fun w h => legal_any v l b w h)
  cases hb : It.legal l b with
  | false =>
    have HE : Hid (r = false) := Lib.hid (by rw [HR.out]; exact isLine_no2 hb)
    rw [hb] at HLb
    by_cases ha : a = -1
    · subst ha
      go_enter Try.func46, Try.ntmps46
      go_wp2_with fail
      refine (HLb.out _ HA.out).mono ?_
      rintro e w1 ⟨rfl, rfl⟩
      go_wp2
      go_ret
      rw [HE.out]
      exact ⟨rfl, Below.refl _ _⟩
    · cases hla : It.legal l a
      all_goals rw [hla] at HLa
      · go_enter Try.func46, Try.ntmps46
        go_wp2_with fail
        refine (HLa.out _ HA.out).mono ?_
        rintro e w1 ⟨rfl, rfl⟩
        go_wp2
        go_ret
        rw [HE.out]
        exact ⟨rfl, Below.refl _ _⟩
      · go_enter Try.func46, Try.ntmps46
        go_wp2_with fail
        refine (HLa.out _ HA.out).mono ?_
        rintro e w1 ⟨rfl, rfl⟩
        go_wp2_with fail
        refine (HLb.out _ HA.out).mono ?_
        rintro e w1 ⟨rfl, rfl⟩
        go_wp2
        go_ret
        rw [HE.out]
        exact ⟨rfl, Below.refl _ _⟩
  | true =>
    rw [hb] at HLb
    have hbi := legal_in hb
    by_cases h3 : b ≤ a
    · have HE : Hid (r = false) := Lib.hid (by rw [HR.out]; exact isLine_no3 h3)
      have ha : ¬ a = -1 := by omega
      cases hla : It.legal l a
      all_goals rw [hla] at HLa
      · go_enter Try.func46, Try.ntmps46
        go_wp2_with fail
        refine (HLa.out _ HA.out).mono ?_
        rintro e w1 ⟨rfl, rfl⟩
        go_wp2
        go_ret
        rw [HE.out]
        exact ⟨rfl, Below.refl _ _⟩
      · go_enter Try.func46, Try.ntmps46
        go_wp2_with fail
        refine (HLa.out _ HA.out).mono ?_
        rintro e w1 ⟨rfl, rfl⟩
        go_wp2_with fail
        refine (HLb.out _ HA.out).mono ?_
        rintro e w1 ⟨rfl, rfl⟩
        go_wp2
        go_ret
        rw [HE.out]
        exact ⟨rfl, Below.refl _ _⟩
    · have h3' : a < b := by omega
      by_cases hno : a ≠ -1 ∧ It.legal l a = false
      · have HE : Hid (r = false) := Lib.hid (by rw [HR.out]; exact isLine_no1 hno.1 hno.2)
        have ha : ¬ a = -1 := hno.1
        rw [hno.2] at HLa
        clear hno
        go_enter Try.func46, Try.ntmps46
        go_wp2_with fail
        refine (HLa.out _ HA.out).mono ?_
        rintro e w1 ⟨rfl, rfl⟩
        go_wp2
        go_ret
        rw [HE.out]
        exact ⟨rfl, Below.refl _ _⟩
      · have hor : a = -1 ∨ It.legal l a = true := by
          by_cases ha : a = -1
          · exact .inl ha
          · cases e : It.legal l a with
            | true => exact .inr rfl
            | false => exact absurd ⟨ha, e⟩ hno
        have ham : -1 ≤ a := by
          rcases hor with h | h
          · omega
          · have := legal_in h; omega
        obtain ⟨s, hs⟩ : ∃ s : Nat, a + 1 = (s : Int) := ⟨(a + 1).toNat, by omega⟩
        obtain ⟨k, hk⟩ : ∃ k : Nat, b = (k : Int) := ⟨b.toNat, by omega⟩
        have hkl : k < l.length := by omega
        have hsk : s ≤ k := by omega
        have HV : Hid (r = (decide (It.st (l.take (k + 1)) s ≤ k) && !((l.take k).drop s).any It.forced)) := Lib.hid (by rw [HR.out]; exact isLine_yes hor hb h3' hs hk)
        clear HR hb hno hbi h3 ham
        subst hk
        obtain ⟨⟨p, cp, rfl, hcap⟩, hm, _⟩ := h
        have htl : (l.take (k + 1)).length = k + 1 := by rw [List.length_take]; omega
        have HSt := Lib.hid (fun w h => start_any (.slice p (k + 1) cp) (l.take (k + 1)) a s hs (by rw [htl]; omega) w h)
        have HHd := Lib.hid (slc_head HA.out (k + 1) (by omega))
        have HMid := Lib.hid (slc_mid rfl HA.out s k hsk (by omega))
        have HCf := Lib.hid (fun w h => contains_any (.slice (tailA p s cp) (k - s) (cp - s)) ((l.take k).drop s) w h)
        have hs1 : ∀ wx, (Instr.slice 22 (.slice p l.length cp) none (some (.int .i64 ((k : Int) + 1))) none).run Try.prog wx = .ok (.slice p (k + 1) cp) wx := fun wx => run_head9 p l.length (k + 1) cp (by omega) wx
        have hs2 : ∀ wx, (Instr.sliceAt 22 (.slice p l.length cp) none (some (.int .i64 ((k : Int) + 1))) none).run Try.prog wx = .ok (.slice p (k + 1) cp) wx := fun wx => by rw [run_sliceAt_slice (h := by rw [elemIt]; exact Try.underlying22)]; exact hs1 wx
        have hs3 := fun wx => run_mid10 p l.length s k cp hsk (by omega) wx
        have hs4 : ∀ wx, (Instr.sliceAt 22 (.slice p l.length cp) (some (.int .i64 (s : Int))) (some (.int .i64 (k : Int))) none).run Try.prog wx = .ok (.slice (tailA p s cp) (k - s) (cp - s)) wx := fun wx => by rw [run_sliceAt_slice (h := by rw [elemIt]; exact Try.underlying22)]; exact hs3 wx
        have hkw : wrap64 ((k : Int) + 1) = (k : Int) + 1 := w64 (by omega) (by unfold maxLen at hm; omega)
        have hsw : wrap64 (s : Int) = (s : Int) := w64 (by omega) (by unfold maxLen at hm; omega)
        have hkc : k ≤ cp := by omega
        generalize ((l.take k).drop s).any It.forced = z at HCf HV
        generalize It.st (l.take (k + 1)) s = m at HSt HV
        obtain ⟨n, hn⟩ : ∃ n, n = l.length := ⟨_, rfl⟩
        rw [← hn] at hs1 hs2 hs3 hs4 HA HLa HLb hkl ⊢
        clear hm hcap htl hn
        have k0 : (0 : Int) ≤ (k : Int) := by omega
        have kl : (k : Int) < (n : Int) := by omega
        rcases hor with rfl | hla
        · obtain rfl : s = 0 := by omega
          clear hs
          rw [tailA_zero, Nat.sub_zero, Nat.sub_zero] at HCf HMid
          go_enter Try.func46, Try.ntmps46
          go_wp2_with fail
          refine (HLb.out _ HA.out).mono ?_
          rintro e w1 ⟨rfl, rfl⟩
          go_wp2_with fail
          refine (HSt.out _ HHd.out).mono ?_
          rintro e w1 ⟨rfl, hb1⟩
          have HB1 := Lib.hid hb1
          have HM1 := Lib.hid (SlcAt.mono HMid.out hb1)
          clear hb1
          by_cases hmk : m ≤ k
          · have hmk' : (m : Int) ≤ (k : Int) := by omega
            have HE : Hid (r = !z) := Lib.hid (by rw [HV.out, decide_eq_true hmk, Bool.true_and])
            go_wp2_with fail
            refine (HCf.out _ HM1.out).mono ?_
            rintro e w2 ⟨rfl, hb2⟩
            have HB2 := Lib.hid (below_step HB1.out hb2)
            clear hb2
            go_wp2
            go_ret
            rw [HE.out]
            exact ⟨rfl, HB2.out⟩
          · have hmk' : (k : Int) < (m : Int) := by omega
            have HE : Hid (r = false) := Lib.hid (by rw [HV.out, decide_eq_false hmk, Bool.false_and])
            go_wp2
            go_ret
            rw [HE.out]
            exact ⟨rfl, HB1.out⟩
        · have ha : ¬ a = -1 := by
            rintro rfl
            rw [legal_neg (by omega)] at hla
            cases hla
          rw [hla] at HLa
          clear hla
          go_enter Try.func46, Try.ntmps46
          go_wp2_with fail
          refine (HLa.out _ HA.out).mono ?_
          rintro e w1 ⟨rfl, rfl⟩
          go_wp2_with fail
          refine (HLb.out _ HA.out).mono ?_
          rintro e w1 ⟨rfl, rfl⟩
          go_wp2_with fail
          refine (HSt.out _ HHd.out).mono ?_
          rintro e w1 ⟨rfl, hb1⟩
          have HB1 := Lib.hid hb1
          have HM1 := Lib.hid (SlcAt.mono HMid.out hb1)
          clear hb1
          by_cases hmk : m ≤ k
          · have hmk' : (m : Int) ≤ (k : Int) := by omega
            have HE : Hid (r = !z) := Lib.hid (by rw [HV.out, decide_eq_true hmk, Bool.true_and])
            go_wp2_with fail
            refine (HCf.out _ HM1.out).mono ?_
            rintro e w2 ⟨rfl, hb2⟩
            have HB2 := Lib.hid (below_step HB1.out hb2)
            clear hb2
            go_wp2
            go_ret
            rw [HE.out]
            exact ⟨rfl, HB2.out⟩
          · have hmk' : (k : Int) < (m : Int) := by omega
            have HE : Hid (r = false) := Lib.hid (by rw [HV.out, decide_eq_false hmk, Bool.false_and])
            go_wp2
            go_ret
            rw [HE.out]
            exact ⟨rfl, HB1.out⟩
end Go.Proofs.Ythcilpijiindeaa
