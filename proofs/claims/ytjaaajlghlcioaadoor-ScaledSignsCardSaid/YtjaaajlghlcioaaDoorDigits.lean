/-
  The reference's numerals: what Digits of the document's answers returns.
-/
import Derived.Test.YtjaaajlghlcioaaDoorNum
set_option linter.unusedVariables false
set_option linter.unusedSimpArgs false
namespace Go.Proofs.YtjaaajlghlcioaaDoor
open Go.RowKit

theorem dec_big (k : Nat) (h : ¬ k < 10) : Lib.decDigits k = Lib.decDigits (k / 10) ++ [UInt8.ofNat (48 + k % 10)] := by
  rw [Lib.decDigits, dif_neg h]
def tens : ByteArray := ⟨#[48, 49, 50, 51, 52, 53, 54, 55, 56, 57]⟩
theorem tens_at (d : Nat) (h : d < 10) : (tens.extract d (d + 1)).data.toList = [UInt8.ofNat (48 + d)] := by
  have : ∀ d : Fin 10, (tens.extract d.val (d.val + 1)).data.toList = [UInt8.ofNat (48 + d.val)] := by decide +kernel
  exact this ⟨d, h⟩

set_option maxHeartbeats 1000000 in
set_option maxRecDepth 100000 in
theorem digits_any (N : Nat) (hN : N ≤ 18446744073709551615) (w : World) :
    Calls Tryd.prog 35 #[.int .u64 N] w fun e w' => e = .returned (.string ⟨(Lib.decDigits N).toArray⟩) ∧ w' = w := by
  have hlen := dec_len N hN
  go_enter Tryd.func35, Tryd.ntmps35
  go_wp2
  go_loop [0, 3] (fun n s => ∃ (k : Nat) (l : ByteArray), k ≤ 18446744073709551615 ∧ n = .int .u64 k ∧ s = .string l ∧ Hid (Lib.decDigits N = Lib.decDigits k ++ l.data.toList)) (fun n _ => (intOf n).toNat)
  case atStart => exact ⟨N, ByteArray.empty, hN, rfl, rfl, by show _ = _; simp⟩
  case round =>
    obtain ⟨k, l, hk, rfl, rfl, H⟩ := hrel
    have hl : l.size + (Lib.decDigits k).length ≤ 20 := by
      have := congrArg List.length H.out
      rw [List.length_append] at this
      rw [Lib.size_eq]; omega
    by_cases hk9 : k < 10
    · go_wp2
      go_ret
      refine ⟨ret_str ?_, rfl⟩
      show (tens.extract k (k + 1) ++ l).data.toList = Lib.decDigits N
      rw [H.out, ByteArray.data_append, Array.toList_append, tens_at k hk9, Lib.decDigits_one hk9]
    · go_wp2
      go_round
      case rel =>
        refine ⟨k / 10, tens.extract (k % 10) (k % 10 + 1) ++ l, by omega, by simp, rfl, ?_⟩
        show _ = _
        rw [H.out, ByteArray.data_append, Array.toList_append, tens_at (k % 10) (by omega), dec_big k hk9]
        simp
      case measure => simp [intOf]; omega

theorem digits_int (x : Int) (h0 : 0 ≤ x) (h1 : x ≤ 18446744073709551615) (w : World) :
    Calls Tryd.prog 35 #[.int .u64 x] w fun e w' => e = .returned (.string ⟨(Lib.decDigits x.toNat).toArray⟩) ∧ w' = w := by
  have h := digits_any x.toNat (by omega) w
  rw [Int.toNat_of_nonneg h0] at h
  exact h
end Go.Proofs.YtjaaajlghlcioaaDoor
