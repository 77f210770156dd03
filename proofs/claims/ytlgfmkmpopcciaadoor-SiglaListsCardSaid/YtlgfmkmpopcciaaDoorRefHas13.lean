/-
  The reference's has, dots.
-/
import Derived.Test.YtlgfmkmpopcciaaDoorRefCut13
set_option linter.unusedVariables false
set_option linter.unusedSimpArgs false
namespace Go.Proofs.YtlgfmkmpopcciaaDoor
open Go.RowKit

namespace Sg
theorem dots_first : ∀ (L : List UInt8) (k : Nat), L[k]? = some 46 → L[k + 1]? = some 46 → (∀ j : Nat, j < k → ¬ (L[j]? = some 46 ∧ L[j + 1]? = some 46)) → dots L = some k
  | [], k, h, _, _ => by simp at h
  | [a], k, _, h, _ => by simp at h
  | a :: b :: r, 0, h1, h2, _ => by
    simp at h1 h2
    subst h1 h2
    rfl
  | a :: b :: r, k + 1, h1, h2, h3 => by
    have h0 := h3 0 (by omega)
    simp at h0
    simp only [List.getElem?_cons_succ] at h1 h2
    have ih := dots_first (b :: r) k h1 (by simpa using h2) (fun j hj => by
      have := h3 (j + 1) (by omega)
      simpa using this)
    simp only [dots]
    rw [if_neg (fun e => h0 e.1 e.2), ih]
    rfl
theorem dots_never : ∀ (L : List UInt8), (∀ j : Nat, ¬ (L[j]? = some 46 ∧ L[j + 1]? = some 46)) → dots L = none
  | [], _ => rfl
  | [a], _ => rfl
  | a :: b :: r, h => by
    have h0 := h 0
    simp at h0
    simp only [dots]
    rw [if_neg (fun e => h0 e.1 e.2), dots_never (b :: r) (fun j => by
      have := h (j + 1)
      simpa using this)]
    rfl
end Sg
def dotsZ : Option Nat → Int
  | none => -1
  | some k => k
set_option maxHeartbeats 4000000 in
set_option maxRecDepth 100000 in
theorem refHas_any (v : Value) (l : List (List UInt8)) (s : List UInt8) (w : World) (h : TxsAt w v l) : Calls Tryd.prog 42 #[v, .string (str s)] w (Is (.bool (decide (s ∈ l))) w) := by
  have HA := Lib.hid h
  obtain ⟨⟨a, cp, rfl, hcap⟩, hm, _⟩ := h
  have hza : l.length ≤ 9223372036854775807 := by unfold maxLen at hm; omega
  obtain ⟨n, hn⟩ : ∃ n, n = l.length := ⟨_, rfl⟩
  have Hn := Lib.hid hn
  obtain ⟨q, hq⟩ : ∃ q, q = decide (s ∈ l) := ⟨_, rfl⟩
  have HQ := Lib.hid hq
  rw [← hn] at hza ⊢
  rw [← hq]
  clear hn hm hcap hq
  have H0 : Hid (s ∉ l.take 0) := Lib.hid (by simp)
  go_enter Tryd.func42, Tryd.ntmps42
  go_wp2_with fail
  go_loopw [5] (fun iv wr => ∃ k : Nat, k ≤ n ∧ iv = .int .i64 k ∧ Hid (s ∉ l.take k) ∧ wr = w) (fun iv _ => n - (intOf iv).toNat)
  case atStart => exact ⟨0, Nat.zero_le _, rfl, H0, rfl⟩
  case round =>
    obtain ⟨k, hk, rfl, HT, rfl⟩ := hrel
    clear H0
    by_cases hlt : k < n
    · obtain ⟨b1, o1, d1, e1, r1⟩ := HA.out.2.2 (by rw [← Hn.out]; omega)
      obtain ⟨rfl, rfl⟩ : a = some ⟨b1, o1, none⟩ ∧ cp = d1 := by injection e1 with a1 a2 a3; exact ⟨a1, a3⟩
      obtain ⟨x, hx⟩ : ∃ x, l[k]? = some x := ⟨_, List.getElem?_eq_getElem (by rw [← Hn.out]; exact hlt)⟩
      have y0 := tx_cells (r1 k x hx)
      rw [Nat.mul_one] at y0
      have k0 : (0 : Int) ≤ (k : Int) := by omega
      have kl : (k : Int) < (n : Int) := by omega
      by_cases he : x = s
      · have HE : Hid (q = true) := Lib.hid (HQ.out.trans (decide_eq_true (by rw [← he]; exact List.mem_of_getElem? hx)))
        rw [he] at y0
        clear r1 e1 hx he
        go_wp2
        go_ret
        rw [HE.out]
        exact ⟨rfl, rfl⟩
      · have HN : Hid (s ∉ l.take (k + 1)) := Lib.hid (fun hm => by
          rw [It.take_snoc hx] at hm
          rcases List.mem_append.1 hm with hm | hm
          · exact HT.out hm
          · simp at hm; exact he hm.symm)
        have hb := toL_no13 he
        clear r1 e1 hx he
        go_wp2
        go_roundw
        case rel => exact ⟨k + 1, by omega, by go_num, HN, trivial⟩
        case measure => simp [intOf]; omega
    · have HE : Hid (q = false) := Lib.hid (HQ.out.trans (decide_eq_false (by have := HT.out; rwa [List.take_of_length_le (by rw [← Hn.out]; omega)] at this)))
      go_wp2
      go_ret
      rw [HE.out]
      exact ⟨rfl, rfl⟩
set_option maxHeartbeats 4000000 in
set_option maxRecDepth 100000 in
theorem refDots_any (s : ByteArray) (hs : s.size ≤ 281474976710656) (w : World) : Calls Tryd.prog 46 #[.string s] w (Is (.int .i64 (dotsZ (Sg.dots s.data.toList))) w) := by
  have hn : s.size ≤ 9223372036854775807 := by omega
  obtain ⟨L, hL⟩ : ∃ L, L = s.data.toList := ⟨_, rfl⟩
  have HLl : Hid (L.length = s.size) := Lib.hid (by rw [hL, size13])
  have HB := Lib.hid (fun k h => byte13 s k h)
  rw [← hL] at HB ⊢
  clear hL
  obtain ⟨q, hq⟩ : ∃ q, q = Sg.dots L := ⟨_, rfl⟩
  have HQ := Lib.hid hq
  rw [← hq]
  clear hq
  have H0 : Hid (∀ j : Nat, j < 0 → ¬ (L[j]? = some 46 ∧ L[j + 1]? = some 46)) := Lib.hid (fun j hj => absurd hj (by omega))
  go_enter Tryd.func46, Tryd.ntmps46
  go_wp2_with fail
  go_loopw [3] (fun iv wr => ∃ k : Nat, k ≤ s.size ∧ iv = .int .i64 k ∧ Hid (∀ j : Nat, j < k → ¬ (L[j]? = some 46 ∧ L[j + 1]? = some 46)) ∧ wr = w) (fun iv _ => s.size - (intOf iv).toNat)
  case atStart => exact ⟨0, Nat.zero_le _, rfl, H0, rfl⟩
  case round =>
    obtain ⟨k, hk, rfl, HT, rfl⟩ := hrel
    clear H0
    by_cases hlt : k + 1 < s.size
    · have hk1 : k < s.size := by omega
      have hb := HB.out k hk1
      have hb2 := HB.out (k + 1) hlt
      have k0 : (0 : Int) ≤ (k : Int) := Int.natCast_nonneg k
      have kl : (k : Int) < (s.size : Int) := Int.ofNat_lt.2 hk1
      have m0 : (0 : Int) ≤ (k : Int) + 1 := by omega
      have ml : (k : Int) + 1 < (s.size : Int) := by omega
      have HNx : Hid (¬ (L[k]? = some 46 ∧ L[k + 1]? = some 46) → ∀ j : Nat, j < k + 1 → ¬ (L[j]? = some 46 ∧ L[j + 1]? = some 46)) := Lib.hid (fun h j hj => by
        by_cases e : j = k
        · rw [e]; exact h
        · exact HT.out j (by omega))
      by_cases hc : s[k] = 46
      · have hbq : ((s[k].toNat : Int) == 46) = true := by rw [hc]; rfl
        by_cases hd : s[k + 1] = 46
        · have hbr : ((s[k + 1].toNat : Int) == 46) = true := by rw [hd]; rfl
          have HE : Hid (q = some k) := Lib.hid (HQ.out.trans (Sg.dots_first L k (by rw [hb, hc]) (by rw [hb2, hd]) HT.out))
          clear hb hb2 hc hd
          go_wp2
          go_ret
          rw [HE.out]
          exact ⟨rfl, rfl⟩
        · have hbr : ((s[k + 1].toNat : Int) == 46) = false := by
            rw [beq_eq_false_iff_ne]
            intro e
            exact hd (UInt8.toNat_inj.1 (by have : (46 : UInt8).toNat = 46 := rfl; omega))
          have HN := Lib.hid (HNx.out (fun h => hd (by have := h.2; rw [hb2] at this; exact Option.some.inj this)))
          clear hb hb2 hc hd
          go_wp2
          go_roundw
          case rel => exact ⟨k + 1, by omega, by go_num, HN, trivial⟩
          case measure => simp [intOf]; omega
      · have hbq : ((s[k].toNat : Int) == 46) = false := by
          rw [beq_eq_false_iff_ne]
          intro e
          exact hc (UInt8.toNat_inj.1 (by have : (46 : UInt8).toNat = 46 := rfl; omega))
        have HN := Lib.hid (HNx.out (fun h => hc (by have := h.1; rw [hb] at this; exact Option.some.inj this)))
        clear hb hb2 hc
        go_wp2
        go_roundw
        case rel => exact ⟨k + 1, by omega, by go_num, HN, trivial⟩
        case measure => simp [intOf]; omega
    · have HE : Hid (q = none) := Lib.hid (HQ.out.trans (Sg.dots_never L (fun j h => by
        by_cases hj : j < k
        · exact HT.out j hj h
        · have h2 := (List.getElem?_eq_some_iff.1 h.2).1
          rw [HLl.out] at h2
          omega)))
      have hml : ¬ (k : Int) + 1 < (s.size : Int) := by omega
      go_wp2
      go_ret
      rw [HE.out]
      exact ⟨rfl, rfl⟩
end Go.Proofs.YtlgfmkmpopcciaaDoor
