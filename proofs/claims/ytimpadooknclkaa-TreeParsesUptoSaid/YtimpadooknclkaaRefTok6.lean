/-
  The reference's Real, End and Fault (layer 6): the tokens of the kinds that there are, where a group ends, and what is wrong with tokens first; and Texts, that holds two lists of texts against one another.
-/
import Derived.Test.YtimpadooknclkaaNodes
import Derived.Test.YtimpadooknclkaaRefPlain
set_option linter.unusedVariables false
set_option linter.unusedSimpArgs false
namespace Go.Proofs.Ytimpadooknclkaa
open Go.RowKit

theorem tk_bne0 {z n : Int} (h : z ≠ n) : (z == n) = false := beq_eq_false_iff_ne.2 h
theorem take_filter_yes {ts : List Tok} {k : Nat} {t : Tok} (h : ts[k]? = some t) (hr : Tr.realB t = true) : Tr.reals (ts.take (k + 1)) = Tr.reals (ts.take k) ++ [t] := by
  rw [List.take_add_one, h, Tr.reals_append]
  simp [Tr.reals, hr]
theorem take_filter_no {ts : List Tok} {k : Nat} {t : Tok} (h : ts[k]? = some t) (hr : Tr.realB t = false) : Tr.reals (ts.take (k + 1)) = Tr.reals (ts.take k) := by
  rw [List.take_add_one, h, Tr.reals_append]
  simp [Tr.reals, hr]
theorem reals_len (ts : List Tok) (k : Nat) : (Tr.reals (ts.take k)).length ≤ k := Nat.le_trans (List.length_filter_le ..) (List.length_take_le ..)

set_option maxHeartbeats 2000000 in
set_option maxRecDepth 100000 in
theorem real_nil (p : Option Addr) (cap : Nat) (w : World) : Calls Try.prog 14 #[.slice p 0 cap] w (RowPost [] w) := by
  have HO := Lib.hid (ownT_made w)
  have HB := Lib.hid (below_alloc w (.cells #[] 36))
  go_enter Try.func14, Try.ntmps14
  go_wp2
  refine wp_loop_rounds 1 ?_
  rw [rounds_succ]
  go_wp2
  go_ret
  exact ⟨_, rfl, HO.out, HB.out⟩

set_option maxHeartbeats 4000000 in
set_option maxRecDepth 100000 in
theorem real_some (b o cap : Nat) (ts : List Tok) (hn : ts.length * 32 ≤ 140737488355328) (w : World) (hc : ∀ i t, ts[i]? = some t → TokAt w b (o + i * 3) t) :
    Calls Try.prog 14 #[.slice (some ⟨b, o, none⟩) ts.length cap] w (RowPost (Tr.reals ts) w) := by
  obtain ⟨i0, hi, hz0, hz1, hz2⟩ := info_parts infoTok
  have HC := Lib.hid hc
  have HN := Lib.hid hn
  have hn1 : ts.length ≤ 9223372036854775807 := by omega
  have HO0 := Lib.hid (ownT_made w)
  have HB0 := Lib.hid (below_alloc w (.cells #[] 36))
  clear hc hn
  go_enter Try.func14, Try.ntmps14
  go_wp2
  go_loopw [3, 4] (fun ov iv wr => ∃ k : Nat, k ≤ ts.length ∧ iv = .int .i64 k ∧ Hid (OwnT w.heap.size ov (Tr.reals (ts.take k)) wr) ∧ Hid (Below w.heap.size w wr)) (fun _ iv _ => ts.length - (intOf iv).toNat)
  case atStart => exact ⟨0, Nat.zero_le _, rfl, HO0, HB0⟩
  case round =>
    obtain ⟨k, hk, rfl, HO, HB⟩ := hrel
    clear HO0 HB0
    by_cases hlt : k < ts.length
    · obtain ⟨⟨K, S, A⟩, ht⟩ : ∃ t, ts[k]? = some t := ⟨_, List.getElem?_eq_getElem hlt⟩
      have DT := HC.out k _ ht
      have d1 := cell_below HB.out DT.k
      have d2 := cell_below HB.out DT.s
      have d3 := cell_below HB.out DT.a
      simp only [] at d1 d2 d3
      have k0 : (0 : Int) ≤ (k : Int) := by omega
      have k1 : (k : Int) < (ts.length : Int) := by omega
      have hll := reals_len ts k
      by_cases hr : 0 ≤ K ∧ K ≤ 3
      · have HM := Lib.hid (take_filter_yes ht (show Tr.realB ⟨K, S, A⟩ = true by unfold Tr.realB; simp; exact hr))
        have e0 := hr.1
        have e3 := hr.2
        have hown := World.ownsRow.alloc HO.out (.cells #[.int .i64 K, .string (str S), .int .i64 A] 36)
        have hnn := HN.out
        clear hr ht DT
        go_wp2_with (at_builtin; refine wpList_append_own _ rfl _ _ 22 rfl w.heap.size 36 i0 _ 3 32 Try.underlying22 hi hz0 hz1 hz2 rfl (by decide) _ _ _ rfl hown ⟨wr.heap.size, 0, none⟩ 1 1 (tokCells ⟨K, S, A⟩) rfl rfl (cell_tok_new _ ⟨K, S, A⟩ _) (one_cells ⟨K, S, A⟩) (by unfold maxLen; omega) (by omega) (by have := HB.out.size; simp; omega) ?_; intro v9 w9 hown9 hgrow9 hnil9; have HB9 := Lib.hid ((HB.out.alloc HB.out.size (.cells #[.int .i64 K, .string (str S), .int .i64 A] 36)).grown hgrow9 (by have := HB.out.size; simp; omega) (fun q hq => (World.ownsRow.lt hown q hq).1)); have HO9 := Lib.hid hown9; clear hown hown9 hgrow9 hnil9)
        go_roundw
        case rel => exact ⟨k + 1, by omega, by go_num, Lib.hid (by rw [HM.out]; exact ownT_snoc HO9.out), HB9⟩
        case measure => simp [intOf]; omega
      · have HM := Lib.hid (take_filter_no ht (show Tr.realB ⟨K, S, A⟩ = false by unfold Tr.realB; rw [Bool.and_eq_false_iff, decide_eq_false_iff_not, decide_eq_false_iff_not]; simp only []; omega))
        clear ht DT
        by_cases h0 : 0 ≤ K
        · have h3 : ¬ K ≤ 3 := by omega
          clear hr
          go_wp2_with fail
          go_roundw
          case rel => exact ⟨k + 1, by omega, by go_num, Lib.hid (by rw [HM.out]; exact HO.out), HB⟩
          case measure => simp [intOf]; omega
        · clear hr
          go_wp2_with fail
          go_roundw
          case rel => exact ⟨k + 1, by omega, by go_num, Lib.hid (by rw [HM.out]; exact HO.out), HB⟩
          case measure => simp [intOf]; omega
    · have HT : Hid (ts.take k = ts) := Lib.hid (List.take_of_length_le (by omega))
      go_wp2
      go_ret
      exact ⟨_, rfl, by have h := HO.out; rw [HT.out] at h; exact h, HB.out⟩
/-- The reference's Real, at every slice of tokens. -/
theorem real_any (v : Value) (ts : List Tok) (hn : ts.length * 32 ≤ 140737488355328) (w : World) (h : ToksAt w v ts) : Calls Try.prog 14 #[v] w (RowPost (Tr.reals ts) w) := by
  obtain ⟨⟨p, c, rfl, _⟩, m, k⟩ := h
  rcases Nat.eq_zero_or_pos ts.length with h0 | h0
  · obtain rfl : ts = [] := List.eq_nil_of_length_eq_zero h0
    exact real_nil p c w
  · obtain ⟨b, o, d, e, q⟩ := k h0
    obtain ⟨rfl, rfl⟩ : p = some ⟨b, o, none⟩ ∧ c = d := by injection e with a1 a2 a3; exact ⟨a1, a3⟩
    exact real_some b o _ ts hn w q

/-! ### where a group ends -/
theorem ends_step {k : Nat} {t : Tok} {r : List Tok} {n : Nat} (h : Tr.ends k (t :: r) = some n) (hk : 1 ≤ k ∨ t.kind = 2) : ∃ k' : Nat, (k' : Int) = (if t.kind = 2 then (k : Int) + 1 else if t.kind = 3 then (k : Int) - 1 else (k : Int)) ∧ ((k' = 0 ∧ n = 0) ∨ (1 ≤ k' ∧ 1 ≤ n ∧ Tr.ends k' r = some (n - 1))) := by
  by_cases h2 : t.kind = 2
  · rw [Tr.ends_open h2] at h
    refine ⟨k + 1, by rw [if_pos h2]; omega, .inr ⟨by omega, ?_⟩⟩
    cases he : Tr.ends (k + 1) r with
    | none => rw [he] at h; cases h
    | some m => rw [he] at h; simp at h; subst h; exact ⟨by omega, by simp⟩
  · have hk1 : 1 ≤ k := by rcases hk with h | h; exact h; exact absurd h h2
    obtain ⟨j, rfl⟩ : ∃ j, k = j + 1 := ⟨k - 1, by omega⟩
    by_cases h3 : t.kind = 3
    · cases j with
      | zero =>
        rw [Tr.ends_last h3] at h
        injection h with h
        exact ⟨0, by rw [if_neg h2, if_pos h3]; omega, .inl ⟨rfl, h.symm⟩⟩
      | succ j =>
        rw [Tr.ends_close h3] at h
        refine ⟨j + 1, by rw [if_neg h2, if_pos h3]; omega, .inr ⟨by omega, ?_⟩⟩
        cases he : Tr.ends (j + 1) r with
        | none => rw [he] at h; cases h
        | some m => rw [he] at h; simp at h; subst h; exact ⟨by omega, by simp⟩
    · rw [Tr.ends_plain h2 h3] at h
      refine ⟨j + 1, by rw [if_neg h2, if_neg h3], .inr ⟨by omega, ?_⟩⟩
      cases he : Tr.ends (j + 1) r with
      | none => rw [he] at h; cases h
      | some m => rw [he] at h; simp at h; subst h; exact ⟨by omega, by simp⟩
theorem ends_lt : ∀ {l : List Tok} {k n : Nat}, Tr.ends k l = some n → n < l.length
  | [], k, n, h => by cases h
  | t :: r, k, n, h => by
    unfold Tr.ends at h
    simp only [] at h
    generalize (if t.kind = 2 then k + 1 else if t.kind = 3 then k - 1 else k) = q at h
    split at h
    · injection h with h; subst h; simp
    · rename_i h2
      cases he : Tr.ends q r with
      | none => rw [he] at h; cases h
      | some m =>
        rw [he] at h
        injection h with h
        have := ends_lt he
        simp at h ⊢
        omega

set_option maxHeartbeats 4000000 in
set_option maxRecDepth 100000 in
theorem end_any (b o cap : Nat) (ts : List Tok) (hn1 : ts.length ≤ 4611686018427387904) (p n : Nat) (t0 : Tok) (h0 : ts[p]? = some t0) (h2 : t0.kind = 2) (he : Tr.ends 0 (ts.drop p) = some n) (w : World) (hc : ∀ i t, ts[i]? = some t → TokAt w b (o + i * 3) t) :
    Calls Try.prog 39 #[.slice (some ⟨b, o, none⟩) ts.length cap, .int .i64 (p : Int)] w (Is (.int .i64 ((p : Int) + (n : Int))) w) := by
  have HC := Lib.hid hc
  have hpl := ends_lt he
  rw [List.length_drop] at hpl
  have HE := Lib.hid he
  have H0 := Lib.hid (And.intro h0 h2)
  clear hc he h0 h2
  go_enter Try.func39, Try.ntmps39
  go_wp2
  go_loopw [5, 6] (fun ov iv wr => ∃ k m : Nat, m ≤ n ∧ (k : Int) ≤ m ∧ iv = .int .i64 ((p : Int) + (m : Int)) ∧ ov = .int .i64 (k : Int) ∧ Hid (Tr.ends k (ts.drop (p + m)) = some (n - m)) ∧ Hid (1 ≤ k ∨ m = 0) ∧ wr = w) (fun _ iv _ => (ts.length + 1) - (intOf iv).toNat)
  case atStart => exact ⟨0, 0, Nat.zero_le _, by omega, by simp, rfl, Lib.hid HE.out, Lib.hid (.inr rfl), rfl⟩
  case round =>
    obtain ⟨k, m, hm, hkm, rfl, rfl, HR, HK, rfl⟩ := hrel
    obtain ⟨⟨K, S, A⟩, ht⟩ : ∃ t, ts[p + m]? = some t := ⟨_, List.getElem?_eq_getElem (by omega)⟩
    have DT := HC.out (p + m) _ ht
    have d1 := DT.k
    simp only [] at d1
    have k0 : (0 : Int) ≤ (p : Int) + (m : Int) := by omega
    have k1 : (p : Int) + (m : Int) < (ts.length : Int) := by omega
    have e1 : ((p : Int) + (m : Int)).toNat = p + m := by omega
    have hd : ts.drop (p + m) = ⟨K, S, A⟩ :: ts.drop (p + m + 1) := by
      obtain ⟨hj, e⟩ := List.getElem?_eq_some_iff.1 ht
      rw [← e]; exact List.drop_eq_getElem_cons hj
    have hK : 1 ≤ k ∨ K = 2 := by
      rcases HK.out with h | h
      · exact .inl h
      · subst h
        have h1 := H0.out.1
        rw [Nat.add_zero] at ht
        rw [ht] at h1
        injection h1 with h1
        right
        have := H0.out.2
        rw [← h1] at this
        exact this
    have hstep := HR.out
    rw [hd] at hstep
    obtain ⟨k', hk', hcase⟩ := ends_step hstep hK
    simp only [] at hk'
    have HQ := Lib.hid hcase
    have HH := Lib.hid hk'
    clear hstep hd hcase DT ht
    by_cases c2 : K = 2
    · subst c2
      rw [if_pos rfl] at hk'
      have hw : (k : Int) + 1 ≤ 9223372036854775807 := by omega
      have z1 : ((k : Int) + 1 == 0) = false := tk_bne0 (by omega)
      clear hk' hK
      go_wp2_with fail
      go_roundw
      case rel => 
        have hkk : (k' : Int) = (k : Int) + 1 := by have := HH.out; simp at this; exact this
        rcases HQ.out with ⟨q1, q2⟩ | ⟨q1, q2, q3⟩
        · omega
        · exact ⟨k', m + 1, by omega, by omega, by go_num, by rw [hkk], Lib.hid (by rw [show p + (m + 1) = p + m + 1 by omega, show n - (m + 1) = n - m - 1 by omega]; exact q3), Lib.hid (.inl q1), by trivial⟩
      case measure => simp [intOf]; omega
    · by_cases c3 : K = 3
      · subst c3
        rw [if_neg (by omega), if_pos rfl] at hk'
        have e2 : ((3 : Int) == 2) = false := rfl
        have hk1 : 1 ≤ k := by omega
        clear hK
        by_cases hz : k = 1
        · subst hz
          clear hk'
          go_wp2_with fail
          go_ret
          have hn0 : n = m := by
            have := HH.out
            simp at this
            rcases HQ.out with ⟨q1, q2⟩ | ⟨q1, q2, q3⟩ <;> omega
          exact ⟨ret_int (by rw [hn0]), rfl⟩
        · have z1 : ((k : Int) - 1 == 0) = false := tk_bne0 (by omega)
          have hw : (k : Int) - 1 ≤ 9223372036854775807 := by omega
          have hw2 : -9223372036854775808 ≤ (k : Int) - 1 := by omega
          have HZ := Lib.hid hz
          clear hk' hz
          go_wp2_with fail
          go_roundw
          case rel =>
            have hkk : (k' : Int) = (k : Int) - 1 := by have := HH.out; simp at this; exact this
            rcases HQ.out with ⟨q1, q2⟩ | ⟨q1, q2, q3⟩
            · have := HZ.out; omega
            · exact ⟨k', m + 1, by omega, by omega, by go_num, by rw [hkk], Lib.hid (by rw [show p + (m + 1) = p + m + 1 by omega, show n - (m + 1) = n - m - 1 by omega]; exact q3), Lib.hid (.inl q1), by trivial⟩
          case measure => simp [intOf]; omega
      · rw [if_neg c2, if_neg c3] at hk'
        have e2 : (K == 2) = false := tk_bne0 c2
        have e3 : (K == 3) = false := tk_bne0 c3
        have hk1 : 1 ≤ k := by rcases hK with h | h; exact h; exact absurd h c2
        have z1 : ((k : Int) == 0) = false := tk_bne0 (by omega)
        have HC23 := Lib.hid (And.intro c2 c3)
        clear hk' hK c2 c3
        go_wp2_with fail
        go_roundw
        case rel =>
          have hkk : (k' : Int) = (k : Int) := by have := HH.out; rw [if_neg HC23.out.1, if_neg HC23.out.2] at this; exact this
          rcases HQ.out with ⟨q1, q2⟩ | ⟨q1, q2, q3⟩
          · omega
          · exact ⟨k', m + 1, by omega, by omega, by go_num, by rw [hkk], Lib.hid (by rw [show p + (m + 1) = p + m + 1 by omega, show n - (m + 1) = n - m - 1 by omega]; exact q3), Lib.hid (.inl q1), by trivial⟩
        case measure => simp [intOf]; omega
end Go.Proofs.Ytimpadooknclkaa
