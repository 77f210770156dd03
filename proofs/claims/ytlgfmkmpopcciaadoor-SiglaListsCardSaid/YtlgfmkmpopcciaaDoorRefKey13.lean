/-
  The reference's Key, Name, Find.
-/
import Derived.Test.YtlgfmkmpopcciaaDoorApp13
import Derived.Lib.Strings
set_option linter.unusedVariables false
set_option linter.unusedSimpArgs false
namespace Go.Proofs.YtlgfmkmpopcciaaDoor
open Go.RowKit

theorem all_take {p : UInt8 → Bool} {l : List UInt8} {k : Nat} {c : UInt8} (hk : l[k]? = some c) (h : (l.take k).all p = true) : (p c = true → (l.take (k + 1)).all p = true) ∧ (p c = false → l.all p = false) := by
  constructor
  · intro hc
    rw [List.take_add_one, hk, List.all_append, h]
    simp [hc]
  · intro hc
    cases e : l.all p with
    | false => rfl
    | true =>
      rw [List.all_eq_true.1 e c (List.mem_of_getElem? hk)] at hc
      cases hc
set_option maxHeartbeats 4000000 in
set_option maxRecDepth 100000 in
theorem refKey_any (s : ByteArray) (hs : s.size ≤ 281474976710656) (w : World) : Calls Tryd.prog 31 #[.string s] w (Is (.bool (Sg.keyOk s.data.toList)) w) := by
  have hn : s.size ≤ 9223372036854775807 := by omega
  obtain ⟨L, hL⟩ : ∃ L, L = s.data.toList := ⟨_, rfl⟩
  have HLl : Hid (L.length = s.size) := Lib.hid (by rw [hL, size13])
  have HB := Lib.hid (fun k h => byte13 s k h)
  rw [← hL] at HB ⊢
  clear hL
  obtain ⟨q, hq⟩ : ∃ q, q = Sg.keyOk L := ⟨_, rfl⟩
  have HQ := Lib.hid hq
  rw [← hq]
  clear hq
  have H0 : Hid ((L.take 0).all Sg.keyC = true) := Lib.hid rfl
  go_enter Tryd.func31, Tryd.ntmps31
  go_wp2_with fail
  go_loopw [3] (fun iv wr => ∃ k : Nat, k ≤ s.size ∧ iv = .int .i64 k ∧ Hid ((L.take k).all Sg.keyC = true) ∧ wr = w) (fun iv _ => s.size - (intOf iv).toNat)
  case atStart => exact ⟨0, Nat.zero_le _, rfl, H0, rfl⟩
  case round =>
    obtain ⟨k, hk, rfl, HT, rfl⟩ := hrel
    clear H0
    by_cases hlt : k < s.size
    · have hb := HB.out k hlt
      have k0 : (0 : Int) ≤ (k : Int) := by omega
      have kl : (k : Int) < (s.size : Int) := by omega
      obtain ⟨c, hcx⟩ : ∃ c, c = s[k] := ⟨_, rfl⟩
      rw [← hcx] at hb
      have HK := Lib.hid (all_take hb HT.out)
      have HN0 : Hid (Sg.keyC c = false → q = false) := Lib.hid (fun h => by rw [HQ.out]; unfold Sg.keyOk; rw [(all_take hb HT.out).2 h]; rfl)
      go_upto_region 5 with fail
      rw [← hcx]
      clear hb hcx
      have hc : (0 ≤ c.toNat ∧ c.toNat ≤ 47) ∨ (48 ≤ c.toNat ∧ c.toNat ≤ 57) ∨ (58 ≤ c.toNat ∧ c.toNat ≤ 64) ∨ (65 ≤ c.toNat ∧ c.toNat ≤ 90) ∨ (91 ≤ c.toNat ∧ c.toNat ≤ 96) ∨ (97 ≤ c.toNat ∧ c.toNat ≤ 122) ∨ (123 ≤ c.toNat ∧ c.toNat ≤ 255) := by have := c.toNat_lt; omega
      rcases hc with ⟨l0, l1⟩ | ⟨l0, l1⟩ | ⟨l0, l1⟩ | ⟨l0, l1⟩ | ⟨l0, l1⟩ | ⟨l0, l1⟩ | ⟨l0, l1⟩
      · have g48 : ¬ ((48 : Int) ≤ (c.toNat : Int)) := by omega
        have g97 : ¬ ((97 : Int) ≤ (c.toNat : Int)) := by omega
        have g65 : ¬ ((65 : Int) ≤ (c.toNat : Int)) := by omega
        have g57 : ((c.toNat : Int) ≤ (57 : Int)) := by omega
        have g122 : ((c.toNat : Int) ≤ (122 : Int)) := by omega
        have g90 : ((c.toNat : Int) ≤ (90 : Int)) := by omega
        have HN := Lib.hid (HN0.out (by unfold Sg.keyC; simp only [Bool.or_eq_false_iff, decide_eq_false_iff_not]; omega))
        go_wp2
        go_ret
        rw [HN.out]
        exact ⟨rfl, rfl⟩
      · have g48 : ((48 : Int) ≤ (c.toNat : Int)) := by omega
        have g97 : ¬ ((97 : Int) ≤ (c.toNat : Int)) := by omega
        have g65 : ¬ ((65 : Int) ≤ (c.toNat : Int)) := by omega
        have g57 : ((c.toNat : Int) ≤ (57 : Int)) := by omega
        have g122 : ((c.toNat : Int) ≤ (122 : Int)) := by omega
        have g90 : ((c.toNat : Int) ≤ (90 : Int)) := by omega
        have HN := Lib.hid (HK.out.1 (by unfold Sg.keyC; simp only [Bool.or_eq_true, decide_eq_true_eq]; omega))
        go_wp2
        go_roundw
        case rel => exact ⟨k + 1, by omega, by go_num, HN, trivial⟩
        case measure => simp [intOf]; omega
      · have g48 : ((48 : Int) ≤ (c.toNat : Int)) := by omega
        have g97 : ¬ ((97 : Int) ≤ (c.toNat : Int)) := by omega
        have g65 : ¬ ((65 : Int) ≤ (c.toNat : Int)) := by omega
        have g57 : ¬ ((c.toNat : Int) ≤ (57 : Int)) := by omega
        have g122 : ((c.toNat : Int) ≤ (122 : Int)) := by omega
        have g90 : ((c.toNat : Int) ≤ (90 : Int)) := by omega
        have HN := Lib.hid (HN0.out (by unfold Sg.keyC; simp only [Bool.or_eq_false_iff, decide_eq_false_iff_not]; omega))
        go_wp2
        go_ret
        rw [HN.out]
        exact ⟨rfl, rfl⟩
      · have g48 : ((48 : Int) ≤ (c.toNat : Int)) := by omega
        have g97 : ¬ ((97 : Int) ≤ (c.toNat : Int)) := by omega
        have g65 : ((65 : Int) ≤ (c.toNat : Int)) := by omega
        have g57 : ¬ ((c.toNat : Int) ≤ (57 : Int)) := by omega
        have g122 : ((c.toNat : Int) ≤ (122 : Int)) := by omega
        have g90 : ((c.toNat : Int) ≤ (90 : Int)) := by omega
        have HN := Lib.hid (HK.out.1 (by unfold Sg.keyC; simp only [Bool.or_eq_true, decide_eq_true_eq]; omega))
        go_wp2
        go_roundw
        case rel => exact ⟨k + 1, by omega, by go_num, HN, trivial⟩
        case measure => simp [intOf]; omega
      · have g48 : ((48 : Int) ≤ (c.toNat : Int)) := by omega
        have g97 : ¬ ((97 : Int) ≤ (c.toNat : Int)) := by omega
        have g65 : ((65 : Int) ≤ (c.toNat : Int)) := by omega
        have g57 : ¬ ((c.toNat : Int) ≤ (57 : Int)) := by omega
        have g122 : ((c.toNat : Int) ≤ (122 : Int)) := by omega
        have g90 : ¬ ((c.toNat : Int) ≤ (90 : Int)) := by omega
        have HN := Lib.hid (HN0.out (by unfold Sg.keyC; simp only [Bool.or_eq_false_iff, decide_eq_false_iff_not]; omega))
        go_wp2
        go_ret
        rw [HN.out]
        exact ⟨rfl, rfl⟩
      · have g48 : ((48 : Int) ≤ (c.toNat : Int)) := by omega
        have g97 : ((97 : Int) ≤ (c.toNat : Int)) := by omega
        have g65 : ((65 : Int) ≤ (c.toNat : Int)) := by omega
        have g57 : ¬ ((c.toNat : Int) ≤ (57 : Int)) := by omega
        have g122 : ((c.toNat : Int) ≤ (122 : Int)) := by omega
        have g90 : ¬ ((c.toNat : Int) ≤ (90 : Int)) := by omega
        have HN := Lib.hid (HK.out.1 (by unfold Sg.keyC; simp only [Bool.or_eq_true, decide_eq_true_eq]; omega))
        go_wp2
        go_roundw
        case rel => exact ⟨k + 1, by omega, by go_num, HN, trivial⟩
        case measure => simp [intOf]; omega
      · have g48 : ((48 : Int) ≤ (c.toNat : Int)) := by omega
        have g97 : ((97 : Int) ≤ (c.toNat : Int)) := by omega
        have g65 : ((65 : Int) ≤ (c.toNat : Int)) := by omega
        have g57 : ¬ ((c.toNat : Int) ≤ (57 : Int)) := by omega
        have g122 : ¬ ((c.toNat : Int) ≤ (122 : Int)) := by omega
        have g90 : ¬ ((c.toNat : Int) ≤ (90 : Int)) := by omega
        have HN := Lib.hid (HN0.out (by unfold Sg.keyC; simp only [Bool.or_eq_false_iff, decide_eq_false_iff_not]; omega))
        go_wp2
        go_ret
        rw [HN.out]
        exact ⟨rfl, rfl⟩
    · obtain rfl : k = s.size := by omega
      have HA : Hid (L.all Sg.keyC = true) := Lib.hid (by have := HT.out; rwa [List.take_of_length_le (by rw [HLl.out]; exact Nat.le_refl _)] at this)
      have HE : Hid (q = (decide (1 ≤ s.size) && decide (s.size ≤ 8))) := Lib.hid (by rw [HQ.out]; unfold Sg.keyOk; rw [HA.out, HLl.out, Bool.true_and])
      by_cases h1 : 1 ≤ s.size
      · by_cases h8 : s.size ≤ 8
        · have g1 : (1 : Int) ≤ (s.size : Int) := by omega
          have g8 : (s.size : Int) ≤ (8 : Int) := by omega
          rw [decide_eq_true h1, decide_eq_true h8] at HE
          go_wp2
          go_ret
          rw [HE.out]
          exact ⟨rfl, rfl⟩
        · have g1 : (1 : Int) ≤ (s.size : Int) := by omega
          have g8 : ¬ (s.size : Int) ≤ (8 : Int) := by omega
          rw [decide_eq_true h1, decide_eq_false h8] at HE
          go_wp2
          go_ret
          rw [HE.out]
          exact ⟨rfl, rfl⟩
      · have g1 : ¬ (1 : Int) ≤ (s.size : Int) := by omega
        rw [decide_eq_false h1] at HE
        go_wp2
        go_ret
        rw [HE.out]
        exact ⟨rfl, rfl⟩
set_option maxHeartbeats 4000000 in
set_option maxRecDepth 100000 in
theorem refName_any (s : ByteArray) (hs : s.size ≤ 281474976710656) (w : World) : Calls Tryd.prog 32 #[.string s] w (Is (.bool (Sg.nameOk s.data.toList)) w) := by
  have hn : s.size ≤ 9223372036854775807 := by omega
  obtain ⟨L, hL⟩ : ∃ L, L = s.data.toList := ⟨_, rfl⟩
  have HLl : Hid (L.length = s.size) := Lib.hid (by rw [hL, size13])
  have HB := Lib.hid (fun k h => byte13 s k h)
  rw [← hL] at HB ⊢
  clear hL
  obtain ⟨q, hq⟩ : ∃ q, q = Sg.nameOk L := ⟨_, rfl⟩
  have HQ := Lib.hid hq
  rw [← hq]
  clear hq
  have H0 : Hid ((L.take 0).all (fun c => decide (c ≠ 10)) = true) := Lib.hid rfl
  go_enter Tryd.func32, Tryd.ntmps32
  go_wp2_with fail
  go_loopw [3] (fun iv wr => ∃ k : Nat, k ≤ s.size ∧ iv = .int .i64 k ∧ Hid ((L.take k).all (fun c => decide (c ≠ 10)) = true) ∧ wr = w) (fun iv _ => s.size - (intOf iv).toNat)
  case atStart => exact ⟨0, Nat.zero_le _, rfl, H0, rfl⟩
  case round =>
    obtain ⟨k, hk, rfl, HT, rfl⟩ := hrel
    clear H0
    by_cases hlt : k < s.size
    · have hb := HB.out k hlt
      have k0 : (0 : Int) ≤ (k : Int) := by omega
      have kl : (k : Int) < (s.size : Int) := by omega
      have HT2 := Lib.hid (all_take hb HT.out)
      by_cases hc : s[k] = 10
      · have HN : Hid (q = false) := Lib.hid (by rw [HQ.out]; unfold Sg.nameOk; rw [HT2.out.2 (by rw [hc]; rfl)]; rfl)
        have hbq : ((s[k].toNat : Int) == 10) = true := by rw [hc]; rfl
        clear hb hc
        go_wp2
        go_ret
        rw [HN.out]
        exact ⟨rfl, rfl⟩
      · have HN := Lib.hid (HT2.out.1 (by simp [hc]))
        have hbq : ((s[k].toNat : Int) == 10) = false := by
          rw [beq_eq_false_iff_ne]
          intro e
          exact hc (UInt8.toNat_inj.1 (by have : (10 : UInt8).toNat = 10 := rfl; omega))
        clear hb hc
        go_wp2
        go_roundw
        case rel => exact ⟨k + 1, by omega, by go_num, HN, trivial⟩
        case measure => simp [intOf]; omega
    · obtain rfl : k = s.size := by omega
      have HA : Hid (L.all (fun c => decide (c ≠ 10)) = true) := Lib.hid (by have := HT.out; rwa [List.take_of_length_le (by rw [HLl.out]; exact Nat.le_refl _)] at this)
      have HE : Hid (q = (decide (1 ≤ s.size) && decide (s.size ≤ 200))) := Lib.hid (by rw [HQ.out]; unfold Sg.nameOk; rw [HA.out, HLl.out, Bool.true_and])
      by_cases h1 : 1 ≤ s.size
      · by_cases h8 : s.size ≤ 200
        · have g1 : (1 : Int) ≤ (s.size : Int) := by omega
          have g8 : (s.size : Int) ≤ (200 : Int) := by omega
          rw [decide_eq_true h1, decide_eq_true h8] at HE
          go_wp2
          go_ret
          rw [HE.out]
          exact ⟨rfl, rfl⟩
        · have g1 : (1 : Int) ≤ (s.size : Int) := by omega
          have g8 : ¬ (s.size : Int) ≤ (200 : Int) := by omega
          rw [decide_eq_true h1, decide_eq_false h8] at HE
          go_wp2
          go_ret
          rw [HE.out]
          exact ⟨rfl, rfl⟩
      · have g1 : ¬ (1 : Int) ≤ (s.size : Int) := by omega
        rw [decide_eq_false h1] at HE
        go_wp2
        go_ret
        rw [HE.out]
        exact ⟨rfl, rfl⟩
theorem toL_no13 {a b : List UInt8} (h : a ≠ b) : ((str a).toList == (str b).toList) = false := beq_eq_false_iff_ne.2 fun e => h (by rw [Lib.toList_data, Lib.toList_data, str_data, str_data] at e; exact e)
/-- the first key, from a place on -/
theorem find_here {t : List Sg.Sig} {k : Nat} {x : Sg.Sig} {key : List UInt8} (hx : t[k]? = some x) (h : ∀ y ∈ t.take k, y.k ≠ key) (he : x.k = key) : Sg.find t key = (k : Int) := by
  obtain ⟨hk, hx'⟩ := List.getElem?_eq_some_iff.1 hx
  have hf : t.findIdx (fun y => decide (y.k = key)) = k := by
    rw [List.findIdx_eq hk]
    refine ⟨by simp [hx', he], fun j hj => ?_⟩
    simp only [decide_eq_false_iff_not]
    exact h _ (List.mem_of_getElem? (i := j) (by rw [List.getElem?_take_of_lt hj]; exact List.getElem?_eq_getElem (by omega)))
  unfold Sg.find
  rw [if_pos (by rw [hf]; exact hk), hf]
theorem find_miss {t : List Sg.Sig} {key : List UInt8} (h : ∀ y ∈ t, y.k ≠ key) : Sg.find t key = -1 := Sg.find_no (fun hm => by
  unfold Sg.keys at hm
  obtain ⟨x, hx, he⟩ := List.mem_map.1 hm
  exact h x hx he)
set_option maxHeartbeats 4000000 in
set_option maxRecDepth 100000 in
theorem refFind_any (v : Value) (t : List Sg.Sig) (key : List UInt8) (w : World) (h : SgsAt w v t) : Calls Tryd.prog 18 #[v, .string (str key)] w (Is (.int .i64 (Sg.find t key)) w) := by
  have HA := Lib.hid h
  obtain ⟨⟨a, cp, rfl, hcap⟩, hm, _⟩ := h
  have hza : t.length ≤ 9223372036854775807 := by unfold maxLen at hm; omega
  obtain ⟨n, hn⟩ : ∃ n, n = t.length := ⟨_, rfl⟩
  have Hn := Lib.hid hn
  obtain ⟨q, hq⟩ : ∃ q, q = Sg.find t key := ⟨_, rfl⟩
  have HQ := Lib.hid hq
  rw [← hn] at hza ⊢
  rw [← hq]
  clear hn hm hcap hq
  have H0 : Hid (∀ y ∈ t.take 0, y.k ≠ key) := Lib.hid (by simp)
  go_enter Tryd.func18, Tryd.ntmps18
  go_wp2_with fail
  go_loopw [5] (fun iv wr => ∃ k : Nat, k ≤ n ∧ iv = .int .i64 k ∧ Hid (∀ y ∈ t.take k, y.k ≠ key) ∧ wr = w) (fun iv _ => n - (intOf iv).toNat)
  case atStart => exact ⟨0, Nat.zero_le _, rfl, H0, rfl⟩
  case round =>
    obtain ⟨k, hk, rfl, HT, rfl⟩ := hrel
    clear H0
    by_cases hlt : k < n
    · obtain ⟨b1, o1, d1, e1, r1⟩ := HA.out.2.2 (by rw [← Hn.out]; omega)
      obtain ⟨rfl, rfl⟩ : a = some ⟨b1, o1, none⟩ ∧ cp = d1 := by injection e1 with a1 a2 a3; exact ⟨a1, a3⟩
      obtain ⟨x, hx⟩ : ∃ x, t[k]? = some x := ⟨_, List.getElem?_eq_getElem (by rw [← Hn.out]; exact hlt)⟩
      obtain ⟨y0, y1⟩ := sg_cells (r1 k x hx)
      have k0 : (0 : Int) ≤ (k : Int) := by omega
      have kl : (k : Int) < (n : Int) := by omega
      by_cases he : x.k = key
      · have HE : Hid (q = (k : Int)) := Lib.hid (HQ.out.trans (find_here hx HT.out he))
        rw [he] at y0
        clear r1 e1 hx he
        go_wp2
        go_ret
        rw [HE.out]
        exact ⟨rfl, rfl⟩
      · have HN : Hid (∀ y ∈ t.take (k + 1), y.k ≠ key) := Lib.hid (fun y hy => by
          rw [It.take_snoc hx] at hy
          rcases List.mem_append.1 hy with hy | hy
          · exact HT.out y hy
          · simp at hy; subst hy; exact he)
        have hb := toL_no13 he
        clear r1 e1 hx he
        go_wp2
        go_roundw
        case rel => exact ⟨k + 1, by omega, by go_num, HN, trivial⟩
        case measure => simp [intOf]; omega
    · have HE : Hid (q = -1) := Lib.hid (HQ.out.trans (find_miss (by have := HT.out; rwa [List.take_of_length_le (by rw [← Hn.out]; omega)] at this)))
      go_wp2
      go_ret
      rw [HE.out]
      exact ⟨rfl, rfl⟩
end Go.Proofs.YtlgfmkmpopcciaaDoor
