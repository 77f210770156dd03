/-
  The reference's Letter and Bytes.
-/
import Derived.Test.YtjlnffdklhmonaaDoorBase
set_option linter.unusedVariables false
set_option linter.unusedSimpArgs false
namespace Go.Proofs.YtjlnffdklhmonaaDoor
open Go.RowKit

set_option maxHeartbeats 1000000 in
set_option maxRecDepth 100000 in
theorem refLetter_any (c : Int) (w : World) : Calls Tryd.prog 60 #[.int .i32 c] w (Is (.bool (Ut.letter c)) w) := by
  have hl : Hid (Ut.letter c = decide (0 ≤ c ∧ c ≤ 1114111 ∧ (c < 55296 ∨ 57343 < c))) := rfl
  by_cases h0 : 0 ≤ c
  · by_cases h1 : c ≤ 1114111
    · by_cases h2 : c < 55296
      · go_enter Tryd.func60, Tryd.ntmps60
        go_wp2
        all_goals go_ret
        all_goals exact ⟨ret_bool (by rw [hl.out]; first | exact (decide_eq_true (by omega)).symm | (rw [Bool.eq_iff_iff]; simp; omega)), rfl⟩
      · by_cases h3 : 57343 < c
        all_goals
          go_enter Tryd.func60, Tryd.ntmps60
          go_wp2
          all_goals go_ret
          all_goals exact ⟨ret_bool (by rw [hl.out, Bool.eq_iff_iff]; simp; omega), rfl⟩
    · go_enter Tryd.func60, Tryd.ntmps60
      go_wp2
      all_goals go_ret
      all_goals exact ⟨ret_bool (by rw [hl.out, Bool.eq_iff_iff]; simp; omega), rfl⟩
  · go_enter Tryd.func60, Tryd.ntmps60
    go_wp2
    all_goals go_ret
    all_goals exact ⟨ret_bool (by rw [hl.out, Bool.eq_iff_iff]; simp; omega), rfl⟩

theorem enc1 {n : Nat} (h : n < 128) : Ut.enc n = [Ut.b8 n] := by unfold Ut.enc; rw [if_pos h]
theorem enc2 {n : Nat} (h0 : 128 ≤ n) (h : n < 2048) : Ut.enc n = [Ut.b8 (192 + n / 64), Ut.b8 (128 + n % 64)] := by unfold Ut.enc; rw [if_neg (by omega), if_pos h]
theorem enc3 {n : Nat} (h0 : 2048 ≤ n) (h : n < 65536) : Ut.enc n = [Ut.b8 (224 + n / 4096), Ut.b8 (128 + n / 64 % 64), Ut.b8 (128 + n % 64)] := by unfold Ut.enc; rw [if_neg (by omega), if_neg (by omega), if_pos h]
theorem enc4 {n : Nat} (h0 : 65536 ≤ n) : Ut.enc n = [Ut.b8 (240 + n / 262144), Ut.b8 (128 + n / 4096 % 64), Ut.b8 (128 + n / 64 % 64), Ut.b8 (128 + n % 64)] := by unfold Ut.enc; rw [if_neg (by omega), if_neg (by omega), if_neg (by omega)]
theorem b8_int {n : Nat} (h : n < 256) {x : Int} (e : x = (n : Int)) : Value.int .u8 x = Value.int .u8 ((Ut.b8 n).toNat : Int) := by rw [Ut.b8_nat h, e]

set_option maxHeartbeats 1000000 in
set_option maxRecDepth 100000 in
theorem bytes_any (c : Int) (h0 : 0 ≤ c) (h1 : c ≤ 1114111) (w : World) : Calls Tryd.prog 61 #[.int .i32 c] w (Ret (.string ⟨(Ut.enc c.toNat).toArray⟩) w) := by
  by_cases a1 : c < 128
  · have he := Lib.hid (enc1 (n := c.toNat) (by omega))
    have hcv := conv_bytes w 1 1 [Ut.b8 c.toNat] rfl #[.int .u8 c] (by simp only [List.map_cons, List.map_nil]; rw [← b8_int (x := c) (by omega) (by omega)])
    go_enter Tryd.func61, Tryd.ntmps61
    go_wp2
    go_ret
    exact ⟨ret_strL he.out.symm, below_alloc _ _⟩
  · by_cases a2 : c < 2048
    · have he := Lib.hid (enc2 (n := c.toNat) (by omega) (by omega))
      have hcv := conv_bytes w 2 2 [Ut.b8 (192 + c.toNat / 64), Ut.b8 (128 + c.toNat % 64)] rfl #[.int .u8 (192 + c / 64), .int .u8 (128 + c % 64)] (by simp only [List.map_cons, List.map_nil]; rw [← b8_int (x := 192 + c / 64) (by omega) (by omega), ← b8_int (x := 128 + c % 64) (by omega) (by omega)])
      have b1 : 128 ≤ c := by omega
      clear a1
      go_enter Tryd.func61, Tryd.ntmps61
      go_wp2
      go_ret
      exact ⟨ret_strL he.out.symm, below_alloc _ _⟩
    · by_cases a3 : c < 65536
      · have he := Lib.hid (enc3 (n := c.toNat) (by omega) (by omega))
        have hcv := conv_bytes w 3 3 [Ut.b8 (224 + c.toNat / 4096), Ut.b8 (128 + c.toNat / 64 % 64), Ut.b8 (128 + c.toNat % 64)] rfl #[.int .u8 (224 + c / 4096), .int .u8 (128 + c / 64 % 64), .int .u8 (128 + c % 64)] (by simp only [List.map_cons, List.map_nil]; rw [← b8_int (x := 224 + c / 4096) (by omega) (by omega), ← b8_int (x := 128 + c / 64 % 64) (by omega) (by omega), ← b8_int (x := 128 + c % 64) (by omega) (by omega)])
        have b1 : 2048 ≤ c := by omega
        clear a1 a2
        go_enter Tryd.func61, Tryd.ntmps61
        go_wp2
        go_ret
        exact ⟨ret_strL he.out.symm, below_alloc _ _⟩
      · have he := Lib.hid (enc4 (n := c.toNat) (by omega))
        have hcv := conv_bytes w 4 4 [Ut.b8 (240 + c.toNat / 262144), Ut.b8 (128 + c.toNat / 4096 % 64), Ut.b8 (128 + c.toNat / 64 % 64), Ut.b8 (128 + c.toNat % 64)] rfl #[.int .u8 (240 + c / 262144), .int .u8 (128 + c / 4096 % 64), .int .u8 (128 + c / 64 % 64), .int .u8 (128 + c % 64)] (by simp only [List.map_cons, List.map_nil]; rw [← b8_int (x := 240 + c / 262144) (by omega) (by omega), ← b8_int (x := 128 + c / 4096 % 64) (by omega) (by omega), ← b8_int (x := 128 + c / 64 % 64) (by omega) (by omega), ← b8_int (x := 128 + c % 64) (by omega) (by omega)])
        have b1 : 65536 ≤ c := by omega
        clear a1 a2 a3
        go_enter Tryd.func61, Tryd.ntmps61
        go_wp2
        go_ret
        exact ⟨ret_strL he.out.symm, below_alloc _ _⟩
end Go.Proofs.YtjlnffdklhmonaaDoor
