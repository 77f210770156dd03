/-
  The landed inKey and validKey: what a key may have.
-/
import Derived.Test.YtlgfmkmpopcciaaDoorRefKey13
set_option linter.unusedVariables false
set_option linter.unusedSimpArgs false
namespace Go.Proofs.YtlgfmkmpopcciaaDoor
open Go.RowKit

set_option maxHeartbeats 4000000 in
set_option maxRecDepth 100000 in
theorem inKey_any (c : UInt8) (w : World) : Calls Tryd.prog 57 #[.int .u8 c.toNat] w (Is (.bool (Sg.keyC c)) w) := by
  have hc : (0 ≤ c.toNat ∧ c.toNat ≤ 47) ∨ (48 ≤ c.toNat ∧ c.toNat ≤ 57) ∨ (58 ≤ c.toNat ∧ c.toNat ≤ 64) ∨ (65 ≤ c.toNat ∧ c.toNat ≤ 90) ∨ (91 ≤ c.toNat ∧ c.toNat ≤ 96) ∨ (97 ≤ c.toNat ∧ c.toNat ≤ 122) ∨ (123 ≤ c.toNat ∧ c.toNat ≤ 255) := by have := c.toNat_lt; omega
  rcases hc with ⟨l0, l1⟩ | ⟨l0, l1⟩ | ⟨l0, l1⟩ | ⟨l0, l1⟩ | ⟨l0, l1⟩ | ⟨l0, l1⟩ | ⟨l0, l1⟩
  · have g97 : ¬ ((97 : Int) ≤ (c.toNat : Int)) := by omega
    have g65 : ¬ ((65 : Int) ≤ (c.toNat : Int)) := by omega
    have g48 : ¬ ((48 : Int) ≤ (c.toNat : Int)) := by omega
    have g122 : ((c.toNat : Int) ≤ (122 : Int)) := by omega
    have g90 : ((c.toNat : Int) ≤ (90 : Int)) := by omega
    have g57 : ((c.toNat : Int) ≤ (57 : Int)) := by omega
    have HN := Lib.hid (show Sg.keyC c = false by unfold Sg.keyC; simp only [Bool.or_eq_false_iff, decide_eq_false_iff_not]; omega)
    rw [HN.out]
    generalize (c.toNat : Int) = z at *
    clear HN l0 l1
    go_enter Tryd.func57, Tryd.ntmps57
    go_wp2
    go_ret
    exact ⟨rfl, rfl⟩
  · have g97 : ¬ ((97 : Int) ≤ (c.toNat : Int)) := by omega
    have g65 : ¬ ((65 : Int) ≤ (c.toNat : Int)) := by omega
    have g48 : ((48 : Int) ≤ (c.toNat : Int)) := by omega
    have g122 : ((c.toNat : Int) ≤ (122 : Int)) := by omega
    have g90 : ((c.toNat : Int) ≤ (90 : Int)) := by omega
    have g57 : ((c.toNat : Int) ≤ (57 : Int)) := by omega
    have HN := Lib.hid (show Sg.keyC c = true by unfold Sg.keyC; simp only [Bool.or_eq_true, decide_eq_true_eq]; omega)
    rw [HN.out]
    generalize (c.toNat : Int) = z at *
    clear HN l0 l1
    go_enter Tryd.func57, Tryd.ntmps57
    go_wp2
    go_ret
    exact ⟨rfl, rfl⟩
  · have g97 : ¬ ((97 : Int) ≤ (c.toNat : Int)) := by omega
    have g65 : ¬ ((65 : Int) ≤ (c.toNat : Int)) := by omega
    have g48 : ((48 : Int) ≤ (c.toNat : Int)) := by omega
    have g122 : ((c.toNat : Int) ≤ (122 : Int)) := by omega
    have g90 : ((c.toNat : Int) ≤ (90 : Int)) := by omega
    have g57 : ¬ ((c.toNat : Int) ≤ (57 : Int)) := by omega
    have HN := Lib.hid (show Sg.keyC c = false by unfold Sg.keyC; simp only [Bool.or_eq_false_iff, decide_eq_false_iff_not]; omega)
    rw [HN.out]
    generalize (c.toNat : Int) = z at *
    clear HN l0 l1
    go_enter Tryd.func57, Tryd.ntmps57
    go_wp2
    go_ret
    exact ⟨rfl, rfl⟩
  · have g97 : ¬ ((97 : Int) ≤ (c.toNat : Int)) := by omega
    have g65 : ((65 : Int) ≤ (c.toNat : Int)) := by omega
    have g48 : ((48 : Int) ≤ (c.toNat : Int)) := by omega
    have g122 : ((c.toNat : Int) ≤ (122 : Int)) := by omega
    have g90 : ((c.toNat : Int) ≤ (90 : Int)) := by omega
    have g57 : ¬ ((c.toNat : Int) ≤ (57 : Int)) := by omega
    have HN := Lib.hid (show Sg.keyC c = true by unfold Sg.keyC; simp only [Bool.or_eq_true, decide_eq_true_eq]; omega)
    rw [HN.out]
    generalize (c.toNat : Int) = z at *
    clear HN l0 l1
    go_enter Tryd.func57, Tryd.ntmps57
    go_wp2
    go_ret
    exact ⟨rfl, rfl⟩
  · have g97 : ¬ ((97 : Int) ≤ (c.toNat : Int)) := by omega
    have g65 : ((65 : Int) ≤ (c.toNat : Int)) := by omega
    have g48 : ((48 : Int) ≤ (c.toNat : Int)) := by omega
    have g122 : ((c.toNat : Int) ≤ (122 : Int)) := by omega
    have g90 : ¬ ((c.toNat : Int) ≤ (90 : Int)) := by omega
    have g57 : ¬ ((c.toNat : Int) ≤ (57 : Int)) := by omega
    have HN := Lib.hid (show Sg.keyC c = false by unfold Sg.keyC; simp only [Bool.or_eq_false_iff, decide_eq_false_iff_not]; omega)
    rw [HN.out]
    generalize (c.toNat : Int) = z at *
    clear HN l0 l1
    go_enter Tryd.func57, Tryd.ntmps57
    go_wp2
    go_ret
    exact ⟨rfl, rfl⟩
  · have g97 : ((97 : Int) ≤ (c.toNat : Int)) := by omega
    have g65 : ((65 : Int) ≤ (c.toNat : Int)) := by omega
    have g48 : ((48 : Int) ≤ (c.toNat : Int)) := by omega
    have g122 : ((c.toNat : Int) ≤ (122 : Int)) := by omega
    have g90 : ¬ ((c.toNat : Int) ≤ (90 : Int)) := by omega
    have g57 : ¬ ((c.toNat : Int) ≤ (57 : Int)) := by omega
    have HN := Lib.hid (show Sg.keyC c = true by unfold Sg.keyC; simp only [Bool.or_eq_true, decide_eq_true_eq]; omega)
    rw [HN.out]
    generalize (c.toNat : Int) = z at *
    clear HN l0 l1
    go_enter Tryd.func57, Tryd.ntmps57
    go_wp2
    go_ret
    exact ⟨rfl, rfl⟩
  · have g97 : ((97 : Int) ≤ (c.toNat : Int)) := by omega
    have g65 : ((65 : Int) ≤ (c.toNat : Int)) := by omega
    have g48 : ((48 : Int) ≤ (c.toNat : Int)) := by omega
    have g122 : ¬ ((c.toNat : Int) ≤ (122 : Int)) := by omega
    have g90 : ¬ ((c.toNat : Int) ≤ (90 : Int)) := by omega
    have g57 : ¬ ((c.toNat : Int) ≤ (57 : Int)) := by omega
    have HN := Lib.hid (show Sg.keyC c = false by unfold Sg.keyC; simp only [Bool.or_eq_false_iff, decide_eq_false_iff_not]; omega)
    rw [HN.out]
    generalize (c.toNat : Int) = z at *
    clear HN l0 l1
    go_enter Tryd.func57, Tryd.ntmps57
    go_wp2
    go_ret
    exact ⟨rfl, rfl⟩

set_option maxHeartbeats 4000000 in
set_option maxRecDepth 100000 in
theorem validKey_any (s : ByteArray) (hs : s.size ≤ 9223372036854775807) (w : World) : Calls Tryd.prog 49 #[.string s] w (Is (.bool (Sg.keyOk s.data.toList)) w) := by
  obtain ⟨L, hL⟩ : ∃ L, L = s.data.toList := ⟨_, rfl⟩
  have HLl : Hid (L.length = s.size) := Lib.hid (by rw [hL, size13])
  have HB := Lib.hid (fun k h => byte13 s k h)
  have HI := Lib.hid (fun (c : UInt8) (w : World) => inKey_any c w)
  rw [← hL] at HB ⊢
  clear hL
  by_cases h0 : s.size = 0
  · have HE : Hid (Sg.keyOk L = false) := Lib.hid (by
      unfold Sg.keyOk
      rw [HLl.out, h0]
      simp)
    have he : s.toList.isEmpty = true := by rw [Lib.toList_data, List.isEmpty_iff]; exact List.eq_nil_of_length_eq_zero (by rw [← Lib.size_eq]; exact h0)
    rw [HE.out]
    go_enter Tryd.func49, Tryd.ntmps49
    go_wp2
    go_ret
    exact ⟨rfl, rfl⟩
  · have he : s.toList.isEmpty = false := by rw [Lib.toList_data, List.isEmpty_eq_false_iff]; exact List.ne_nil_of_length_pos (by rw [← Lib.size_eq]; omega)
    by_cases h8 : s.size ≤ 8
    · have g8 : ¬ ((8 : Int) < (s.size : Int)) := by omega
      have HE : Hid (Sg.keyOk L = L.all Sg.keyC) := Lib.hid (by
        unfold Sg.keyOk
        rw [HLl.out, decide_eq_true (by omega : 1 ≤ s.size), decide_eq_true h8]
        simp)
      obtain ⟨q, hq⟩ : ∃ q, q = Sg.keyOk L := ⟨_, rfl⟩
      rw [← hq] at HE ⊢
      clear hq
      have H0 : Hid ((L.take 0).all Sg.keyC = true) := Lib.hid rfl
      go_enter Tryd.func49, Tryd.ntmps49
      go_wp2_with fail
      go_loopw [13] (fun iv wr => ∃ k : Nat, k ≤ s.size ∧ iv = .int .i64 k ∧ Hid ((L.take k).all Sg.keyC = true) ∧ wr = w) (fun iv _ => s.size - (intOf iv).toNat)
      case atStart => exact ⟨0, Nat.zero_le _, rfl, H0, rfl⟩
      case round =>
        obtain ⟨k, hk, rfl, HT, rfl⟩ := hrel
        clear H0
        by_cases hlt : k < s.size
        · have hb := HB.out k hlt
          have k0 : (0 : Int) ≤ (k : Int) := by omega
          have kl : (k : Int) < (s.size : Int) := by omega
          obtain ⟨c, hcx⟩ : ∃ c, c = s[k] := ⟨_, rfl⟩
          rw [← hcx] at hb
          cases hc : Sg.keyC c with
          | true =>
            have HN := Lib.hid ((all_take hb HT.out).1 hc)
            have HC : Hid (Calls Tryd.prog 57 #[.int .u8 s[k].toNat] wr (Is (.bool true) wr)) := Lib.hid (by have := HI.out c wr; rwa [hc, hcx] at this)
            clear hc hb hcx
            go_wp2_with fail
            refine HC.out.mono ?_
            rintro e w1 ⟨rfl, rfl⟩
            go_wp2
            go_roundw
            case rel => exact ⟨k + 1, by omega, by go_num, HN, trivial⟩
            case measure => simp [intOf]; omega
          | false =>
            have HN : Hid (q = false) := Lib.hid (by rw [HE.out]; exact (all_take hb HT.out).2 hc)
            have HC : Hid (Calls Tryd.prog 57 #[.int .u8 s[k].toNat] wr (Is (.bool false) wr)) := Lib.hid (by have := HI.out c wr; rwa [hc, hcx] at this)
            clear hc hb hcx
            go_wp2_with fail
            refine HC.out.mono ?_
            rintro e w1 ⟨rfl, rfl⟩
            go_wp2
            go_ret
            rw [HN.out]
            exact ⟨rfl, rfl⟩
        · obtain rfl : k = s.size := by omega
          have HN : Hid (q = true) := Lib.hid (by rw [HE.out]; have := HT.out; rwa [List.take_of_length_le (by rw [HLl.out]; exact Nat.le_refl _)] at this)
          go_wp2
          go_ret
          rw [HN.out]
          exact ⟨rfl, rfl⟩
    · have g8 : ((8 : Int) < (s.size : Int)) := by omega
      have HE : Hid (Sg.keyOk L = false) := Lib.hid (by
        unfold Sg.keyOk
        rw [HLl.out, decide_eq_false h8]
        simp)
      rw [HE.out]
      go_enter Tryd.func49, Tryd.ntmps49
      go_wp2
      go_ret
      exact ⟨rfl, rfl⟩
end Go.Proofs.YtlgfmkmpopcciaaDoor
