/-
  The reference's Parse, behind a sign and at every text.
-/
import Derived.Test.YtjaaajlghlcioaaDoorRefParse
set_option linter.unusedVariables false
set_option linter.unusedSimpArgs false
namespace Go.Proofs.YtjaaajlghlcioaaDoor
open Go.RowKit

set_option maxHeartbeats 4000000 in
set_option maxRecDepth 100000 in
theorem refParse_minus (s : ByteArray) (hs : s.size ≤ 9223372036854775807) (h0 : 0 < s.size) (hm : ((s[0].toNat : Int) == 45) = true) (hu : Sc.unsigned s.data.toList = s.data.toList.drop 1) (hg : Sc.neg s.data.toList = true) (w : World) :
    Calls Tryd.prog 22 #[.string s] w (Ret (Two (parseV s.data.toList) (parseB s.data.toList)) w) := by
  have hn := @ref_none s.data.toList
  have hy := @ref_some s.data.toList
  rw [hu] at hn hy
  rw [hg] at hy
  have HNo := Lib.hid hn
  have HYes : Hid (∀ m, Sc.refM (s.data.toList.drop 1) = some m → Sc.fitV (Sc.sgn true m) = parseV s.data.toList ∧ Sc.fits (Sc.sgn true m) = parseB s.data.toList) := Lib.hid (fun m h => hy h)
  have hlen : s.data.toList.length = s.size := (Lib.size_eq s).symm
  have HLen := Lib.hid hlen
  clear hn hy hu hg hlen
  go_enter Tryd.func22, Tryd.ntmps22
  go_wp2_with fail
  go_loop [5, 6, 7] (fun dv nv iv => ∃ (k n : Nat) (p : Int), 1 ≤ k ∧ k ≤ s.size ∧ iv = .int .i64 k ∧ nv = .int .i64 p ∧ 0 ≤ p ∧ p ≤ 1000207 ∧ Hid ((n : Int) = p) ∧ ((dv = .int .i64 s.size ∧ Hid (Sc.scan ((s.data.toList.drop 1).take (k - 1)) = some (n, none, k - 1))) ∨ (∃ j : Nat, 1 ≤ j ∧ j < k ∧ dv = .int .i64 j ∧ Hid (Sc.scan ((s.data.toList.drop 1).take (k - 1)) = some (n, some (j - 1), k - 1))))) (fun _ _ iv => s.size - (intOf iv).toNat)
  case atStart => exact ⟨1, 0, 0, by omega, by omega, rfl, rfl, by omega, by omega, Lib.hid rfl, .inl ⟨rfl, Lib.hid (by simp [Sc.scan])⟩⟩
  case round =>
    obtain ⟨k, n, p, hk0, hk, rfl, rfl, hp0, hp1, HP, hd⟩ := hrel
    rcases hd with ⟨rfl, H⟩ | ⟨j, hj0, hj, rfl, H⟩
    · by_cases hlt : k < s.size
      · by_cases h46 : s[k] = 46
        · have HN : Hid (Sc.scan ((s.data.toList.drop 1).take (k + 1 - 1)) = some (n, some (k - 1), k + 1 - 1)) := Lib.hid (scan_dot hk0 (by rw [← h46]; exact byte_at s k hlt) H.out)
          have hc : ((s[k].toNat : Int) == 46) = true := by rw [h46]; rfl
          clear h46
          go_wp2
          go_round
          case rel => exact ⟨k + 1, n, p, by omega, by omega, by go_num, rfl, hp0, hp1, HP, .inr ⟨k, hk0, by omega, rfl, HN⟩⟩
          case measure => simp [intOf]; omega
        · have hc : ((s[k].toNat : Int) == 46) = false := beq_eq_false_iff_ne.2 (fun e => h46 (UInt8.toNat_inj.1 (by rw [show (46 : UInt8).toNat = 46 from rfl]; omega)))
          by_cases hd : 48 ≤ (s[k].toNat : Int) ∧ (s[k].toNat : Int) ≤ 57
          · have HN := Lib.hid (scan_dig_none hk0 (byte_at s k hlt) (by omega) H.out)
            have hcap := Lib.hid (cap_one (n := n) (c := s[k]) (by have := HP.out; omega))
            obtain ⟨hd1, hd2⟩ := hd
            clear h46
            by_cases hb : p < 100000
            · have HC := Lib.hid (cap_low (n := n) (c := s[k]) (by have := HP.out; omega) (by omega))
              go_wp2
              go_round
              case rel => exact ⟨k + 1, Sc.cap n s[k], _, by omega, by omega, by go_num, rfl, by omega, by omega, Lib.hid (by rw [HC.out, HP.out]), .inl ⟨rfl, HN⟩⟩
              case measure => simp [intOf]; omega
            · have HC := Lib.hid (cap_high (n := n) (c := s[k]) (by have := HP.out; omega))
              rw [HC.out] at HN
              have hb1 : 100000 ≤ p := by omega
              clear hb
              go_wp2
              go_round
              case rel => exact ⟨k + 1, n, p, by omega, by omega, by go_num, rfl, hp0, hp1, HP, .inl ⟨rfl, HN⟩⟩
              case measure => simp [intOf]; omega
          · have HO := Lib.hid (HNo.out (scan_bad_none hk0 (byte_at s k hlt) h46 (by omega) H.out))
            clear h46
            go_wp2
            all_goals go_ret2
            all_goals exact ⟨ret_pair ⟨HO.out.1.symm, HO.out.2.symm⟩, Below.refl _ _⟩
      · obtain rfl : k = s.size := by omega
        have HW := Lib.hid (scan_whole (by rw [HLen.out]; exact Nat.le_refl _) H.out)
        have hT : (s.data.toList.drop 1).length = s.size - 1 := by rw [List.length_drop, HLen.out]
        have z2 : ((s.size : Int) == (s.size : Int) - 1) = false := beq_eq_false_iff_ne.2 (by omega)
        have z3 : decide ((s.size : Int) < (s.size : Int) - 1) = false := decide_eq_false (by omega)
        by_cases h1 : s.size = 1
        · have HO := Lib.hid (HNo.out (refM_none0 HW.out (by rw [hT]; omega)))
          have z1 : ((s.size : Int) == 1) = true := by rw [h1]; rfl
          clear hT h1
          go_wp2_with fail
          go_ret2
          exact ⟨ret_pair ⟨HO.out.1.symm, HO.out.2.symm⟩, Below.refl _ _⟩
        · have HO := Lib.hid (HYes.out _ (refM_plain HW.out (by rw [hT]; omega)))
          have z1 : ((s.size : Int) == 1) = false := beq_eq_false_iff_ne.2 (by omega)
          clear hT h1
          go_wp2_with fail
          refine wp_loop_rounds 1 ?_
          rw [rounds_succ]
          go_wp2_with fail
          refine (one_yes _ _).mono ?_
          rintro e w' ⟨rfl, rfl⟩
          go_wp2_with fail
          go_ret2
          exact ⟨ret_fit (by unfold Sc.sgn; simp only [if_true, if_false, Bool.false_eq_true]; have := HP.out; omega) HO.out, Below.refl _ _⟩
    · by_cases hlt : k < s.size
      · by_cases hd : 48 ≤ (s[k].toNat : Int) ∧ (s[k].toNat : Int) ≤ 57
        · have HN := Lib.hid (scan_dig_some hk0 (byte_at s k hlt) (by omega) H.out)
          obtain ⟨hd1, hd2⟩ := hd
          have hjs : ((j : Int) == (s.size : Int)) = false := beq_eq_false_iff_ne.2 (by omega)
          have hjn : decide (j = s.size) = false := decide_eq_false (by omega)
          go_wp2
          go_round
          case rel => exact ⟨k + 1, n, p, by omega, by omega, by go_num, rfl, hp0, hp1, HP, .inr ⟨j, hj0, by omega, rfl, HN⟩⟩
          case measure => simp [intOf]; omega
        · have HO := Lib.hid (HNo.out (scan_bad_some hk0 (byte_at s k hlt) (by omega) H.out))
          have hjs : ((j : Int) == (s.size : Int)) = false := beq_eq_false_iff_ne.2 (by omega)
          have hjn : decide (j = s.size) = false := decide_eq_false (by omega)
          go_wp2
          all_goals go_ret2
          all_goals exact ⟨ret_pair ⟨HO.out.1.symm, HO.out.2.symm⟩, Below.refl _ _⟩
      · obtain rfl : k = s.size := by omega
        have HW := Lib.hid (scan_whole (by rw [HLen.out]; exact Nat.le_refl _) H.out)
        have hT : (s.data.toList.drop 1).length = s.size - 1 := by rw [List.length_drop, HLen.out]
        have HT := Lib.hid hT
        clear hT hlt
        by_cases h1 : j = 1
        · have HO := Lib.hid (HNo.out (refM_bad HW.out (.inl (by omega))))
          have z1 : ((j : Int) == 1) = true := beq_iff_eq.2 (by omega)
          clear h1
          go_wp2_with fail
          go_ret2
          exact ⟨ret_pair ⟨HO.out.1.symm, HO.out.2.symm⟩, Below.refl _ _⟩
        · have z1 : ((j : Int) == 1) = false := beq_eq_false_iff_ne.2 (by omega)
          by_cases h2 : j + 1 = s.size
          · have HO := Lib.hid (HNo.out (refM_bad HW.out (.inr (.inl (by rw [HT.out]; omega)))))
            have z2 : ((j : Int) == (s.size : Int) - 1) = true := beq_iff_eq.2 (by omega)
            clear h1 h2
            go_wp2_with fail
            go_ret2
            exact ⟨ret_pair ⟨HO.out.1.symm, HO.out.2.symm⟩, Below.refl _ _⟩
          · have z2 : ((j : Int) == (s.size : Int) - 1) = false := beq_eq_false_iff_ne.2 (by omega)
            by_cases h3 : 18 < s.size - j
            · have HO := Lib.hid (HNo.out (refM_bad HW.out (.inr (.inr (by rw [HT.out]; omega)))))
              have z3 : decide ((18 : Int) < (s.size : Int) - (j : Int)) = true := decide_eq_true (by omega)
              clear h1 h2 h3
              go_wp2_with fail
              go_ret2
              exact ⟨ret_pair ⟨HO.out.1.symm, HO.out.2.symm⟩, Below.refl _ _⟩
            · have z3 : decide ((18 : Int) < (s.size : Int) - (j : Int)) = false := decide_eq_false (by omega)
              have HO := HYes.out _ (refM_good HW.out (by rw [HT.out]; omega))
              have HB := scan_frac HW.out
              have e : 1 + (j - 1 + 1) = j + 1 := by omega
              rw [List.drop_drop, e] at HO HB
              have HO := Lib.hid HO
              have HB := Lib.hid HB
              clear h1 h2 h3 e
              go_wp2_with fail
              go_loop [8, 9] (fun v i => ∃ (m : Nat) (q : Int), j + 1 ≤ m ∧ m ≤ s.size ∧ i = .int .i64 ((m : Int) - 1) ∧ v = .int .i64 q ∧ 0 ≤ q ∧ q ≤ 131072 ∧ Hid (((Sc.facc (s.data.toList.drop m) : Nat) : Int) = q)) (fun _ i => (intOf i + 1).toNat)
              case atStart => exact ⟨s.size, 0, by omega, Nat.le_refl _, rfl, rfl, by omega, by omega, Lib.hid (facc_end _ _ (by rw [HLen.out]; omega))⟩
              case round =>
                obtain ⟨m, q, hm0, hm, rfl, rfl, hq0, hq1, HQ⟩ := hrel
                rcases m with _ | r
                · omega
                · have e : (((r + 1 : Nat) : Int) - 1) = (r : Int) := by omega
                  rw [e]
                  clear e
                  by_cases hr : r = j
                  · subst hr
                    go_wp2_with fail
                    refine (one_yes _ _).mono ?_
                    rintro e w' ⟨rfl, rfl⟩
                    go_wp2_with fail
                    go_ret2
                    exact ⟨ret_fit (by unfold Sc.sgn; simp only [if_true, if_false, Bool.false_eq_true]; have := HP.out; have := HQ.out; omega) HO.out, Below.refl _ _⟩
                  · have hlt : r < s.size := by omega
                    have hrj : (j : Int) < (r : Int) := by omega
                    have hd := HB.out s[r] (List.mem_of_getElem? (i := r - (j + 1)) (by rw [List.getElem?_drop, show j + 1 + (r - (j + 1)) = r by omega]; exact byte_at s r hlt))
                    obtain ⟨hd1, hd2⟩ := hd
                    have HN := Lib.hid (facc_step _ _ _ (byte_at s r hlt) (by omega))
                    clear hr
                    go_wp2
                    go_round
                    case rel => exact ⟨r, _, by omega, by omega, rfl, rfl, by omega, by omega, Lib.hid (by rw [HN.out, HQ.out])⟩
                    case measure => simp [intOf]

set_option maxHeartbeats 4000000 in
set_option maxRecDepth 100000 in
theorem refParse_empty (w : World) : Calls Tryd.prog 22 #[.string ⟨#[]⟩] w (Ret (Two (parseV []) (parseB [])) w) := by
  have HO : Hid (parseV [] = 0 ∧ parseB [] = false) := Lib.hid (ref_none (l := []) rfl)
  go_enter Tryd.func22, Tryd.ntmps22
  go_wp2_with fail
  refine wp_loop_rounds 1 ?_
  rw [rounds_succ]
  go_wp2_with fail
  go_ret2
  exact ⟨ret_pair ⟨HO.out.1.symm, HO.out.2.symm⟩, Below.refl _ _⟩

/-- The reference's Parse, at every text. -/
theorem refParse_any (s : ByteArray) (hs : s.size ≤ 9223372036854775807) (w : World) : Calls Tryd.prog 22 #[.string s] w (Ret (Two (parseV s.data.toList) (parseB s.data.toList)) w) := by
  rcases Nat.eq_zero_or_pos s.size with h0 | h0
  · have : s = ⟨#[]⟩ := by
      obtain ⟨⟨l⟩⟩ := s
      have : l = [] := by
        rw [Lib.size_eq] at h0
        exact List.eq_nil_of_length_eq_zero h0
      rw [this]
    subst this
    exact refParse_empty w
  · have hb := byte_at s 0 h0
    have hh : s.data.toList.head? = some s[0] := by rw [← hb, List.head?_eq_getElem?]
    by_cases h : s[0] = 45
    · have hg : Sc.neg s.data.toList = true := by unfold Sc.neg; rw [hh, h]; rfl
      exact refParse_minus s hs h0 (by rw [h]; rfl) (by unfold Sc.unsigned; rw [hg]; rfl) hg w
    · have hg : Sc.neg s.data.toList = false := by unfold Sc.neg; rw [hh]; exact beq_eq_false_iff_ne.2 (fun e => h (Option.some.inj e))
      exact refParse_plus s hs h0 (beq_eq_false_iff_ne.2 (fun e => h (UInt8.toNat_inj.1 (by rw [show (45 : UInt8).toNat = 45 from rfl]; omega)))) (by unfold Sc.unsigned; rw [hg, List.drop_zero]; rfl) hg w
end Go.Proofs.YtjaaajlghlcioaaDoor
