/-
  The reference's Cut, dots.
-/
import Derived.Test.YtlgfmkmpopcciaaDoorRefKey13
import Derived.BigQuiet
set_option linter.unusedVariables false
set_option linter.unusedSimpArgs false
namespace Go.Proofs.YtlgfmkmpopcciaaDoor
open Go.RowKit

theorem extract13 (s : ByteArray) (a b : Nat) (h : b ≤ s.size) : s.extract a b = str ((s.data.toList.drop a).take (b - a)) := by
  apply ByteArray.ext
  simp [str, ByteArray.data_extract]
  rw [← Array.toList_inj]
  simp
theorem wr_succ13 {k n : Nat} (h : k < n) (hn : n ≤ 281474976710656) : IntKind.i64.wrap ((k : Int) + 1) = (k : Int) + 1 := by rw [IntWalk.i64_left]; exact IntWalk.wrap64_in _ ⟨by omega, by omega⟩
theorem w64_succ13 {k n : Nat} (h : k < n) (hn : n ≤ 281474976710656) : wrap64 ((k : Int) + 1) = (k : Int) + 1 := IntWalk.wrap64_in _ ⟨by omega, by omega⟩
theorem cut_here13 {L : List UInt8} {k : Nat} (hk : L[k]? = some 32) (h : (32 : UInt8) ∉ L.take k) : Sg.cut L = some (L.take k, L.drop (k + 1)) := by
  have e : L = L.take k ++ 32 :: L.drop (k + 1) := by
    conv => lhs; rw [← List.take_append_drop k L, It.drop_at hk]
  conv => lhs; rw [e]
  exact Sg.cut_at _ h
theorem cut_none13 {L : List UInt8} (h : (32 : UInt8) ∉ L) : Sg.cut L = none := by
  cases e : Sg.cut L with
  | none => rfl
  | some x =>
    obtain ⟨a, b⟩ := x
    have := (Sg.cut_some e).1
    exact absurd (by rw [this]; simp) h
def cutV : Option (List UInt8 × List UInt8) → Value
  | none => .tuple #[.string ByteArray.empty, .string ByteArray.empty, .bool false]
  | some x => .tuple #[.string (str x.1), .string (str x.2), .bool true]
theorem free_next {c x : UInt8} {L : List UInt8} {k : Nat} (hk : L[k]? = some x) (hx : x ≠ c) (h : c ∉ L.take k) : c ∉ L.take (k + 1) := by
  rw [List.take_add_one, hk]
  intro hm
  rcases List.mem_append.1 hm with hm | hm
  · exact h hm
  · simp at hm
    exact hx hm.symm
set_option maxHeartbeats 4000000 in
set_option maxRecDepth 100000 in
theorem refCut_any (s : ByteArray) (hs : s.size ≤ 281474976710656) (w : World) : Calls Tryd.prog 30 #[.string s] w (Ret (cutV (Sg.cut s.data.toList)) w) := by
  have hn : s.size ≤ 9223372036854775807 := by omega
  obtain ⟨L, hL⟩ : ∃ L, L = s.data.toList := ⟨_, rfl⟩
  have HLl : Hid (L.length = s.size) := Lib.hid (by rw [hL, size13])
  have HB := Lib.hid (fun k h => byte13 s k h)
  have HX := Lib.hid (fun a b h => extract13 s a b h)
  rw [← hL] at HB HX ⊢
  clear hL
  obtain ⟨q, hq⟩ : ∃ q, q = Sg.cut L := ⟨_, rfl⟩
  have HQ := Lib.hid hq
  rw [← hq]
  clear hq
  have H0 : Hid ((32 : UInt8) ∉ L.take 0) := Lib.hid (by simp)
  go_enter Tryd.func30, Tryd.ntmps30
  go_wp2_with fail
  go_loopw [5] (fun iv wr => ∃ k : Nat, k ≤ s.size ∧ iv = .int .i64 k ∧ Hid ((32 : UInt8) ∉ L.take k) ∧ wr = w) (fun iv _ => s.size - (intOf iv).toNat)
  case atStart => exact ⟨0, Nat.zero_le _, rfl, H0, rfl⟩
  case round =>
    obtain ⟨k, hk, rfl, HT, rfl⟩ := hrel
    clear H0
    by_cases hlt : k < s.size
    · have hb := HB.out k hlt
      have k0 : (0 : Int) ≤ (k : Int) := by omega
      have kl : (k : Int) < (s.size : Int) := by omega
      by_cases hc : s[k] = 32
      · rw [hc] at hb
        have HE : Hid (q = some (L.take k, L.drop (k + 1))) := Lib.hid (HQ.out.trans (cut_here13 hb HT.out))
        have HE1 : Hid (s.extract 0 k = str (L.take k)) := Lib.hid (by rw [HX.out 0 k (by omega), List.drop_zero, Nat.sub_zero])
        have HE2 : Hid (s.extract (k + 1) s.size = str (L.drop (k + 1))) := Lib.hid (by rw [HX.out (k + 1) s.size (Nat.le_refl _), List.take_of_length_le (by rw [List.length_drop, HLl.out]; exact Nat.le_refl _)])
        have hbq : ((s[k].toNat : Int) == 32) = true := by rw [hc]; rfl
        have k1 : (0 : Int) ≤ (k : Int) + 1 := by omega
        have k2 : (k : Int) + 1 ≤ (s.size : Int) := by omega
        have k3 : (k : Int) ≤ (s.size : Int) := by omega
        have kw := wr_succ13 hlt hs
        have kw2 := w64_succ13 hlt hs
        clear hb hc
        go_upto_region 5 with fail
        go_quiet (fail)
        go_wp2
        exact bodyPost_ret (v := .tuple #[.string (s.extract 0 k), .string (s.extract (k + 1) s.size), .bool true]) (by simp [results, Tryd.results30, go_sem]) rfl ⟨by rw [HE.out, HE1.out, HE2.out]; rfl, below_drew _ _⟩
      · have HN := Lib.hid (free_next hb hc HT.out)
        have hbq : ((s[k].toNat : Int) == 32) = false := by
          rw [beq_eq_false_iff_ne]
          intro e
          exact hc (UInt8.toNat_inj.1 (by have : (32 : UInt8).toNat = 32 := rfl; omega))
        clear hb hc
        go_wp2
        go_roundw
        case rel => exact ⟨k + 1, by omega, by go_num, HN, trivial⟩
        case measure => simp [intOf]; omega
    · have HE : Hid (q = none) := Lib.hid (HQ.out.trans (cut_none13 (by have := HT.out; rwa [List.take_of_length_le (by rw [HLl.out]; omega)] at this)))
      go_wp2
      exact bodyPost_ret (v := .tuple #[.string ByteArray.empty, .string ByteArray.empty, .bool false]) (by simp [results, Tryd.results30, go_sem]; rfl) rfl ⟨by rw [HE.out]; rfl, Below.refl _ _⟩
end Go.Proofs.YtlgfmkmpopcciaaDoor
