/-
  The reference's Parse: it answers what the plain mathematics tells, for every text.
-/
import Derived.Test.YtjaaajlghlcioaaDoorParse
set_option linter.unusedVariables false
set_option linter.unusedSimpArgs false
namespace Go.Proofs.YtjaaajlghlcioaaDoor
open Go.RowKit

theorem ref_none {l : List UInt8} (h : Sc.refM (Sc.unsigned l) = none) : parseV l = 0 ∧ parseB l = false := by
  have : Sc.parse l = none := by rw [← Sc.refParse_eq]; unfold Sc.refParse; rw [h]; rfl
  unfold parseV parseB
  rw [this]; exact ⟨rfl, rfl⟩
theorem ref_some {l : List UInt8} {m : Nat} (h : Sc.refM (Sc.unsigned l) = some m) : Sc.fitV (Sc.sgn (Sc.neg l) m) = parseV l ∧ Sc.fits (Sc.sgn (Sc.neg l) m) = parseB l := by
  have : Sc.parse l = if Sc.fits (Sc.sgn (Sc.neg l) m) then some (Sc.sgn (Sc.neg l) m) else none := by rw [← Sc.refParse_eq]; unfold Sc.refParse; rw [h]; rfl
  unfold parseV parseB Sc.fitV
  rw [this]
  cases Sc.fits (Sc.sgn (Sc.neg l) m) <;> exact ⟨rfl, rfl⟩
theorem ret_fit {x y a : Int} {b : Bool} (h : x = y) (ho : Sc.fitV y = a ∧ Sc.fits y = b) : Ending.returned (.tuple #[.int .i64 (Sc.fitV x), .bool (Sc.fits x)]) = .returned (.tuple #[.int .i64 a, .bool b]) := by rw [h, ho.1, ho.2]

theorem step_dot (n j : Nat) : Sc.step (some (n, none, j)) 46 = some (n, some j, j + 1) := by
  unfold Sc.step
  simp only
  rw [if_pos ⟨trivial, trivial⟩]
theorem ne_dot {c : UInt8} (hc : 48 ≤ c.toNat) : c ≠ 46 := by intro e; rw [e] at hc; exact absurd hc (by decide)
theorem step_dig_none {c : UInt8} (n j : Nat) (hc : 48 ≤ c.toNat ∧ c.toNat ≤ 57) : Sc.step (some (n, none, j)) c = some (Sc.cap n c, none, j + 1) := by
  unfold Sc.step
  simp only
  rw [if_neg (fun e => ne_dot hc.1 e.1), if_pos (Sc.isDig_iff.2 hc), if_pos trivial]
theorem step_dig_some {c : UInt8} (n x j : Nat) (hc : 48 ≤ c.toNat ∧ c.toNat ≤ 57) : Sc.step (some (n, some x, j)) c = some (n, some x, j + 1) := by
  unfold Sc.step
  simp only
  rw [if_neg (fun e => ne_dot hc.1 e.1), if_pos (Sc.isDig_iff.2 hc)]
  rfl
theorem step_bad_none {c : UInt8} (n j : Nat) (h : c ≠ 46) (hc : ¬ (48 ≤ c.toNat ∧ c.toNat ≤ 57)) : Sc.step (some (n, none, j)) c = none := by
  unfold Sc.step
  simp only
  rw [if_neg (fun e => h e.1), if_neg (fun e => hc (Sc.isDig_iff.1 e))]
theorem step_bad_some {c : UInt8} (n x j : Nat) (hc : ¬ (48 ≤ c.toNat ∧ c.toNat ≤ 57)) : Sc.step (some (n, some x, j)) c = none := by
  unfold Sc.step
  simp only
  rw [if_neg (fun e => by cases e.2), if_neg (fun e => hc (Sc.isDig_iff.1 e))]
theorem scan_next {l : List UInt8} {fr k n : Nat} {d : Option Nat} {c : UInt8} (hk : fr ≤ k) (hc : l[k]? = some c) (h : Sc.scan ((l.drop fr).take (k - fr)) = some (n, d, k - fr)) :
    Sc.scan ((l.drop fr).take (k + 1 - fr)) = Sc.step (some (n, d, k - fr)) c := by
  rw [show k + 1 - fr = k - fr + 1 by omega, take_next (l.drop fr) (k - fr) c (by rw [List.getElem?_drop, show fr + (k - fr) = k by omega]; exact hc), Sc.scan_snoc, h]
theorem scan_dot {l : List UInt8} {fr k n : Nat} (hk : fr ≤ k) (hc : l[k]? = some 46) (h : Sc.scan ((l.drop fr).take (k - fr)) = some (n, none, k - fr)) :
    Sc.scan ((l.drop fr).take (k + 1 - fr)) = some (n, some (k - fr), k + 1 - fr) := by
  rw [scan_next hk hc h, step_dot, show k + 1 - fr = k - fr + 1 by omega]
theorem scan_dig_none {l : List UInt8} {fr k n : Nat} {c : UInt8} (hk : fr ≤ k) (hc : l[k]? = some c) (hd : 48 ≤ c.toNat ∧ c.toNat ≤ 57) (h : Sc.scan ((l.drop fr).take (k - fr)) = some (n, none, k - fr)) :
    Sc.scan ((l.drop fr).take (k + 1 - fr)) = some (Sc.cap n c, none, k + 1 - fr) := by
  rw [scan_next hk hc h, step_dig_none _ _ hd, show k + 1 - fr = k - fr + 1 by omega]
theorem scan_dig_some {l : List UInt8} {fr k n x : Nat} {c : UInt8} (hk : fr ≤ k) (hc : l[k]? = some c) (hd : 48 ≤ c.toNat ∧ c.toNat ≤ 57) (h : Sc.scan ((l.drop fr).take (k - fr)) = some (n, some x, k - fr)) :
    Sc.scan ((l.drop fr).take (k + 1 - fr)) = some (n, some x, k + 1 - fr) := by
  rw [scan_next hk hc h, step_dig_some _ _ _ hd, show k + 1 - fr = k - fr + 1 by omega]
theorem scan_bad_none {l : List UInt8} {fr k n : Nat} {c : UInt8} (hk : fr ≤ k) (hc : l[k]? = some c) (h46 : c ≠ 46) (hd : ¬ (48 ≤ c.toNat ∧ c.toNat ≤ 57)) (h : Sc.scan ((l.drop fr).take (k - fr)) = some (n, none, k - fr)) : Sc.refM (l.drop fr) = none := by
  have : Sc.scan (l.drop fr) = none := Sc.scan_bad (k := k + 1 - fr) (by rw [scan_next hk hc h, step_bad_none _ _ h46 hd])
  unfold Sc.refM
  rw [this]
theorem scan_bad_some {l : List UInt8} {fr k n x : Nat} {c : UInt8} (hk : fr ≤ k) (hc : l[k]? = some c) (hd : ¬ (48 ≤ c.toNat ∧ c.toNat ≤ 57)) (h : Sc.scan ((l.drop fr).take (k - fr)) = some (n, some x, k - fr)) : Sc.refM (l.drop fr) = none := by
  have : Sc.scan (l.drop fr) = none := Sc.scan_bad (k := k + 1 - fr) (by rw [scan_next hk hc h, step_bad_some _ _ _ hd])
  unfold Sc.refM
  rw [this]
theorem cap_low {n : Nat} {c : UInt8} (hn : n < 100000) (hc : 48 ≤ c.toNat) : ((Sc.cap n c : Nat) : Int) = 10 * (n : Int) + ((c.toNat : Int) - 48) := by
  unfold Sc.cap
  rw [if_pos hn]; omega
theorem cap_high {n : Nat} {c : UInt8} (hn : ¬ n < 100000) : Sc.cap n c = n := by
  unfold Sc.cap
  rw [if_neg hn]
theorem cap_one {n : Nat} {c : UInt8} (hn : n ≤ 1000207) : Sc.cap n c ≤ 1000207 := Sc.cap_le [c] n hn
theorem scan_whole {l : List UInt8} {fr k n : Nat} {d : Option Nat} (hk : l.length ≤ k) (h : Sc.scan ((l.drop fr).take (k - fr)) = some (n, d, k - fr)) : Sc.scan (l.drop fr) = some (n, d, k - fr) := by
  rw [List.take_of_length_le (by rw [List.length_drop]; omega)] at h
  exact h
/-- behind the dot there are digits -/
theorem scan_frac {t : List UInt8} {n d j : Nat} (h : Sc.scan t = some (n, some d, j)) : ∀ c ∈ t.drop (d + 1), 48 ≤ c.toNat ∧ c.toNat ≤ 57 := by
  rcases Sc.cut_split t with ⟨h46, _⟩ | ⟨p, f, rfl, h46, _⟩
  · cases hd : t.all Fm.isDig with
    | false =>
      have hs : Sc.scan t = none := Sc.foldl_bad_none t 0 0 h46 hd
      rw [hs] at h; cases h
    | true =>
      have hs : Sc.scan t = some (t.foldl Sc.cap 0, none, 0 + t.length) := Sc.foldl_digs t 0 none 0 (Sc.all_dig.1 hd)
      rw [hs] at h; cases h
  · cases hd : p.all Fm.isDig with
    | false =>
      have hs : Sc.scan (p ++ 46 :: f) = none := by
        unfold Sc.scan
        rw [List.foldl_append, Sc.foldl_bad_none p 0 0 h46 hd, Sc.foldl_none]
      rw [hs] at h; cases h
    | true =>
      have hs1 : Sc.scan (p ++ 46 :: f) = f.foldl Sc.step (some (p.foldl Sc.cap 0, some p.length, p.length + 1)) := by
        have hst := step_dot (p.foldl Sc.cap 0) (0 + p.length)
        unfold Sc.scan
        rw [List.foldl_append, Sc.foldl_digs p 0 none 0 (Sc.all_dig.1 hd), if_pos rfl, List.foldl_cons, hst]
        simp
      cases hf : f.all Fm.isDig with
      | false =>
        rw [hs1, Sc.foldl_bad_some f _ _ _ hf] at h; cases h
      | true =>
        rw [hs1, Sc.foldl_digs f _ _ _ (Sc.all_dig.1 hf)] at h
        injection h with h
        injection h with _ h
        injection h with h _
        injection h with h
        subst h
        have hdr : (p ++ 46 :: f).drop (p.length + 1) = f := by
          rw [← List.drop_drop, List.drop_left]; rfl
        rw [hdr]
        exact Sc.all_dig.1 hf
theorem refM_plain {t : List UInt8} {n j : Nat} (h : Sc.scan t = some (n, none, j)) (h0 : t.length ≠ 0) : Sc.refM t = some (65536 * n) := by
  unfold Sc.refM
  rw [h]
  simp only
  rw [if_neg h0]
theorem refM_none0 {t : List UInt8} {n j : Nat} (h : Sc.scan t = some (n, none, j)) (h0 : t.length = 0) : Sc.refM t = none := by
  unfold Sc.refM
  rw [h]
  simp only
  rw [if_pos h0]
theorem refM_bad {t : List UInt8} {n d j : Nat} (h : Sc.scan t = some (n, some d, j)) (h0 : d = 0 ∨ d + 1 = t.length ∨ 18 < t.length - d) : Sc.refM t = none := by
  unfold Sc.refM
  rw [h]
  simp only
  rw [if_pos h0]
theorem refM_good {t : List UInt8} {n d j : Nat} (h : Sc.scan t = some (n, some d, j)) (h0 : ¬ (d = 0 ∨ d + 1 = t.length ∨ 18 < t.length - d)) : Sc.refM t = some (65536 * n + (Sc.facc (t.drop (d + 1)) + 1) / 2) := by
  unfold Sc.refM
  rw [h]
  simp only
  rw [if_neg h0]

set_option maxHeartbeats 4000000 in
set_option maxRecDepth 100000 in
theorem refParse_plus (s : ByteArray) (hs : s.size ≤ 9223372036854775807) (h0 : 0 < s.size) (hm : ((s[0].toNat : Int) == 45) = false) (hu : Sc.unsigned s.data.toList = s.data.toList.drop 0) (hg : Sc.neg s.data.toList = false) (w : World) :
    Calls Tryd.prog 22 #[.string s] w (Ret (Two (parseV s.data.toList) (parseB s.data.toList)) w) := by
  have hn := @ref_none s.data.toList
  have hy := @ref_some s.data.toList
  rw [hu] at hn hy
  rw [hg] at hy
  have HNo := Lib.hid hn
  have HYes : Hid (∀ m, Sc.refM (s.data.toList.drop 0) = some m → Sc.fitV (Sc.sgn false m) = parseV s.data.toList ∧ Sc.fits (Sc.sgn false m) = parseB s.data.toList) := Lib.hid (fun m h => hy h)
  have hlen : s.data.toList.length = s.size := (Lib.size_eq s).symm
  have HLen := Lib.hid hlen
  clear hn hy hu hg hlen
  go_enter Tryd.func22, Tryd.ntmps22
  go_wp2_with fail
  go_loop [5, 6, 7] (fun dv nv iv => ∃ (k n : Nat) (p : Int), 0 ≤ k ∧ k ≤ s.size ∧ iv = .int .i64 k ∧ nv = .int .i64 p ∧ 0 ≤ p ∧ p ≤ 1000207 ∧ Hid ((n : Int) = p) ∧ ((dv = .int .i64 s.size ∧ Hid (Sc.scan ((s.data.toList.drop 0).take (k - 0)) = some (n, none, k - 0))) ∨ (∃ j : Nat, 0 ≤ j ∧ j < k ∧ dv = .int .i64 j ∧ Hid (Sc.scan ((s.data.toList.drop 0).take (k - 0)) = some (n, some (j - 0), k - 0))))) (fun _ _ iv => s.size - (intOf iv).toNat)
  case atStart => exact ⟨0, 0, 0, by omega, by omega, rfl, rfl, by omega, by omega, Lib.hid rfl, .inl ⟨rfl, Lib.hid (by simp [Sc.scan])⟩⟩
  case round =>
    obtain ⟨k, n, p, hk0, hk, rfl, rfl, hp0, hp1, HP, hd⟩ := hrel
    rcases hd with ⟨rfl, H⟩ | ⟨j, hj0, hj, rfl, H⟩
    · by_cases hlt : k < s.size
      · by_cases h46 : s[k] = 46
        · have HN : Hid (Sc.scan ((s.data.toList.drop 0).take (k + 1 - 0)) = some (n, some (k - 0), k + 1 - 0)) := Lib.hid (scan_dot hk0 (by rw [← h46]; exact byte_at s k hlt) H.out)
          have hc : ((s[k].toNat : Int) == 46) = true := by rw [h46]; rfl
          clear h46
          go_wp2
          go_round
          case rel => exact ⟨k + 1, n, p, by omega, by omega, by go_num, rfl, hp0, hp1, HP, .inr ⟨k, hk0, by omega, rfl, HN⟩⟩
          case measure => simp [intOf]; omega
        · have hc : ((s[k].toNat : Int) == 46) = false := beq_eq_false_iff_ne.2 (fun e => h46 (UInt8.toNat_inj.1 (by rw [show (46 : UInt8).toNat = 46 from rfl]; omega)))
          by_cases hd : 48 ≤ (s[k].toNat : Int) ∧ (s[k].toNat : Int) ≤ 57
          · have HN := Lib.hid (scan_dig_none hk0 (byte_at s k hlt) (by omega) H.out)
            have hcap := Lib.hid (cap_one (n := n) (c := s[k]) (by have := HP.out; omega))
            obtain ⟨hd1, hd2⟩ := hd
            clear h46
            by_cases hb : p < 100000
            · have HC := Lib.hid (cap_low (n := n) (c := s[k]) (by have := HP.out; omega) (by omega))
              go_wp2
              go_round
              case rel => exact ⟨k + 1, Sc.cap n s[k], _, by omega, by omega, by go_num, rfl, by omega, by omega, Lib.hid (by rw [HC.out, HP.out]), .inl ⟨rfl, HN⟩⟩
              case measure => simp [intOf]; omega
            · have HC := Lib.hid (cap_high (n := n) (c := s[k]) (by have := HP.out; omega))
              rw [HC.out] at HN
              have hb1 : 100000 ≤ p := by omega
              clear hb
              go_wp2
              go_round
              case rel => exact ⟨k + 1, n, p, by omega, by omega, by go_num, rfl, hp0, hp1, HP, .inl ⟨rfl, HN⟩⟩
              case measure => simp [intOf]; omega
          · have HO := Lib.hid (HNo.out (scan_bad_none hk0 (byte_at s k hlt) h46 (by omega) H.out))
            clear h46
            go_wp2
            all_goals go_ret2
            all_goals exact ⟨ret_pair ⟨HO.out.1.symm, HO.out.2.symm⟩, Below.refl _ _⟩
      · obtain rfl : k = s.size := by omega
        have HW := Lib.hid (scan_whole (by rw [HLen.out]; exact Nat.le_refl _) H.out)
        have hT : (s.data.toList.drop 0).length = s.size - 0 := by rw [List.length_drop, HLen.out]
        have z2 : ((s.size : Int) == (s.size : Int) - 1) = false := beq_eq_false_iff_ne.2 (by omega)
        have z3 : decide ((s.size : Int) < (s.size : Int) - 1) = false := decide_eq_false (by omega)
        have h1 : ¬ s.size = 0 := by omega
        have HO := Lib.hid (HYes.out _ (refM_plain HW.out (by rw [hT]; omega)))
        have z1 : ((s.size : Int) == 0) = false := beq_eq_false_iff_ne.2 (by omega)
        clear hT h1
        go_wp2_with fail
        refine wp_loop_rounds 1 ?_
        rw [rounds_succ]
        go_wp2_with fail
        refine (one_yes _ _).mono ?_
        rintro e w' ⟨rfl, rfl⟩
        go_wp2_with fail
        go_ret2
        exact ⟨ret_fit (by unfold Sc.sgn; simp only [if_true, if_false, Bool.false_eq_true]; have := HP.out; omega) HO.out, Below.refl _ _⟩
    · by_cases hlt : k < s.size
      · by_cases hd : 48 ≤ (s[k].toNat : Int) ∧ (s[k].toNat : Int) ≤ 57
        · have HN := Lib.hid (scan_dig_some hk0 (byte_at s k hlt) (by omega) H.out)
          obtain ⟨hd1, hd2⟩ := hd
          have hjs : ((j : Int) == (s.size : Int)) = false := beq_eq_false_iff_ne.2 (by omega)
          have hjn : decide (j = s.size) = false := decide_eq_false (by omega)
          go_wp2
          go_round
          case rel => exact ⟨k + 1, n, p, by omega, by omega, by go_num, rfl, hp0, hp1, HP, .inr ⟨j, hj0, by omega, rfl, HN⟩⟩
          case measure => simp [intOf]; omega
        · have HO := Lib.hid (HNo.out (scan_bad_some hk0 (byte_at s k hlt) (by omega) H.out))
          have hjs : ((j : Int) == (s.size : Int)) = false := beq_eq_false_iff_ne.2 (by omega)
          have hjn : decide (j = s.size) = false := decide_eq_false (by omega)
          go_wp2
          all_goals go_ret2
          all_goals exact ⟨ret_pair ⟨HO.out.1.symm, HO.out.2.symm⟩, Below.refl _ _⟩
      · obtain rfl : k = s.size := by omega
        have HW := Lib.hid (scan_whole (by rw [HLen.out]; exact Nat.le_refl _) H.out)
        have hT : (s.data.toList.drop 0).length = s.size - 0 := by rw [List.length_drop, HLen.out]
        have HT := Lib.hid hT
        clear hT hlt
        by_cases h1 : j = 0
        · have HO := Lib.hid (HNo.out (refM_bad HW.out (.inl (by omega))))
          have z1 : ((j : Int) == 0) = true := beq_iff_eq.2 (by omega)
          clear h1
          go_wp2_with fail
          go_ret2
          exact ⟨ret_pair ⟨HO.out.1.symm, HO.out.2.symm⟩, Below.refl _ _⟩
        · have z1 : ((j : Int) == 0) = false := beq_eq_false_iff_ne.2 (by omega)
          by_cases h2 : j + 1 = s.size
          · have HO := Lib.hid (HNo.out (refM_bad HW.out (.inr (.inl (by rw [HT.out]; omega)))))
            have z2 : ((j : Int) == (s.size : Int) - 1) = true := beq_iff_eq.2 (by omega)
            clear h1 h2
            go_wp2_with fail
            go_ret2
            exact ⟨ret_pair ⟨HO.out.1.symm, HO.out.2.symm⟩, Below.refl _ _⟩
          · have z2 : ((j : Int) == (s.size : Int) - 1) = false := beq_eq_false_iff_ne.2 (by omega)
            by_cases h3 : 18 < s.size - j
            · have HO := Lib.hid (HNo.out (refM_bad HW.out (.inr (.inr (by rw [HT.out]; omega)))))
              have z3 : decide ((18 : Int) < (s.size : Int) - (j : Int)) = true := decide_eq_true (by omega)
              clear h1 h2 h3
              go_wp2_with fail
              go_ret2
              exact ⟨ret_pair ⟨HO.out.1.symm, HO.out.2.symm⟩, Below.refl _ _⟩
            · have z3 : decide ((18 : Int) < (s.size : Int) - (j : Int)) = false := decide_eq_false (by omega)
              have HO := HYes.out _ (refM_good HW.out (by rw [HT.out]; omega))
              have HB := scan_frac HW.out
              have e : 0 + (j - 0 + 1) = j + 1 := by omega
              rw [List.drop_drop, e] at HO HB
              have HO := Lib.hid HO
              have HB := Lib.hid HB
              clear h1 h2 h3 e
              go_wp2_with fail
              go_loop [8, 9] (fun v i => ∃ (m : Nat) (q : Int), j + 1 ≤ m ∧ m ≤ s.size ∧ i = .int .i64 ((m : Int) - 1) ∧ v = .int .i64 q ∧ 0 ≤ q ∧ q ≤ 131072 ∧ Hid (((Sc.facc (s.data.toList.drop m) : Nat) : Int) = q)) (fun _ i => (intOf i + 1).toNat)
              case atStart => exact ⟨s.size, 0, by omega, Nat.le_refl _, rfl, rfl, by omega, by omega, Lib.hid (facc_end _ _ (by rw [HLen.out]; omega))⟩
              case round =>
                obtain ⟨m, q, hm0, hm, rfl, rfl, hq0, hq1, HQ⟩ := hrel
                rcases m with _ | r
                · omega
                · have e : (((r + 1 : Nat) : Int) - 1) = (r : Int) := by omega
                  rw [e]
                  clear e
                  by_cases hr : r = j
                  · subst hr
                    go_wp2_with fail
                    refine (one_yes _ _).mono ?_
                    rintro e w' ⟨rfl, rfl⟩
                    go_wp2_with fail
                    go_ret2
                    exact ⟨ret_fit (by unfold Sc.sgn; simp only [if_true, if_false, Bool.false_eq_true]; have := HP.out; have := HQ.out; omega) HO.out, Below.refl _ _⟩
                  · have hlt : r < s.size := by omega
                    have hrj : (j : Int) < (r : Int) := by omega
                    have hd := HB.out s[r] (List.mem_of_getElem? (i := r - (j + 1)) (by rw [List.getElem?_drop, show j + 1 + (r - (j + 1)) = r by omega]; exact byte_at s r hlt))
                    obtain ⟨hd1, hd2⟩ := hd
                    have HN := Lib.hid (facc_step _ _ _ (byte_at s r hlt) (by omega))
                    clear hr
                    go_wp2
                    go_round
                    case rel => exact ⟨r, _, by omega, by omega, rfl, rfl, by omega, by omega, Lib.hid (by rw [HN.out, HQ.out])⟩
                    case measure => simp [intOf]

end Go.Proofs.YtjaaajlghlcioaaDoor
