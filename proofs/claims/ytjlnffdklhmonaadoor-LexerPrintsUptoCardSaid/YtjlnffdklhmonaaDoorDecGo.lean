/-
  What Go's decoder answers and the letter that bytes begin with are one: plain mathematics, no program.
-/
import Derived.Test.YtjlnffdklhmonaaDoorUtf
import Derived.Lib.TrimUEq
import Derived.Lib.RuneBytes
import Derived.Shelf.Unicode.DecodeSlow
set_option linter.unusedVariables false
set_option linter.unusedSimpArgs false
namespace Go.Proofs.YtjlnffdklhmonaaDoor.Ut
open Go.Lib

def go (l : List UInt8) : Nat × Nat := decodeN l.length (at8 l 0) (at8 l 1) (at8 l 2) (at8 l 3)
theorem at_0 (a : UInt8) (r : List UInt8) : at8 (a :: r) 0 = a.toNat := rfl
theorem at_1 (a b : UInt8) (r : List UInt8) : at8 (a :: b :: r) 1 = b.toNat := rfl
theorem at_2 (a b c : UInt8) (r : List UInt8) : at8 (a :: b :: c :: r) 2 = c.toNat := rfl
theorem at_3 (a b c d : UInt8) (r : List UInt8) : at8 (a :: b :: c :: d :: r) 3 = d.toNat := rfl
theorem b8_of (b : UInt8) (n : Nat) (h : b.toNat = n) : b8 n = b := by
  unfold b8
  rw [← h]
  exact UInt8.ofNat_toNat
/-- the decoder at a letter's bytes -/
theorem go_enc (c : Nat) (r : List UInt8) (hc : letterN c = true) : go (enc c ++ r) = (c, (enc c).length) := by
  have hl := of_decide_eq_true hc
  unfold go enc
  split
  · rename_i h1
    simp only [List.cons_append, List.nil_append, List.length_cons, List.length_nil, at_0, b8_nat (show c < 256 by omega)]
    unfold decodeN
    rw [if_pos h1]
  · split
    · rename_i h1 h2
      simp only [List.cons_append, List.nil_append, List.length_cons, List.length_nil, at_0, at_1, b8_nat (show 192 + c / 64 < 256 by omega), b8_nat (show 128 + c % 64 < 256 by omega)]
      unfold decodeN
      rw [if_neg (by omega), if_pos (by omega), if_pos (by omega)]
      exact Prod.ext (by simp only []; omega) rfl
    · split
      · rename_i h1 h2 h3
        simp only [List.cons_append, List.nil_append, List.length_cons, List.length_nil, at_0, at_1, at_2, b8_nat (show 224 + c / 4096 < 256 by omega), b8_nat (show 128 + c / 64 % 64 < 256 by omega), b8_nat (show 128 + c % 64 < 256 by omega)]
        unfold decodeN
        rw [if_neg (by omega), if_neg (by omega), if_pos (by omega), if_pos (by omega)]
        exact Prod.ext (by simp only []; omega) rfl
      · rename_i h1 h2 h3
        simp only [List.cons_append, List.nil_append, List.length_cons, List.length_nil, at_0, at_1, at_2, at_3, b8_nat (show 240 + c / 262144 < 256 by omega), b8_nat (show 128 + c / 4096 % 64 < 256 by omega), b8_nat (show 128 + c / 64 % 64 < 256 by omega), b8_nat (show 128 + c % 64 < 256 by omega)]
        unfold decodeN
        rw [if_neg (by omega), if_neg (by omega), if_neg (by omega), if_pos (by omega), if_pos (by omega)]
        exact Prod.ext (by simp only []; omega) rfl
theorem go_some {l : List UInt8} {c n : Nat} (h : first l = some (c, n)) : go l = (c, n) ∧ ¬ (c = 65533 ∧ n = 1) := by
  obtain ⟨a1, a2, a3, _, _, _⟩ := first_some h
  have e := go_enc c (l.drop n) a1
  rw [← a2, a3] at e
  refine ⟨e, fun ⟨h1, h2⟩ => ?_⟩
  rw [h1] at a3
  have : (enc 65533).length = 3 := by decide
  omega
theorem no_first {l : List UInt8} {c : Nat} (h : first l = none) (hc : letterN c = true) (r : List UInt8) (e : l = enc c ++ r) : False := by
  rw [e, first_enc c r hc] at h
  cases h
/-- where no letter begins the decoder answers U+FFFD and 1 -/
theorem go_none {l : List UInt8} (h0 : l ≠ []) (h : first l = none) : go l = (65533, 1) := by
  unfold go decodeN
  match l, h0, h with
  | a :: r, _, h =>
    rw [at_0]
    split
    · rename_i h1
      exfalso
      refine no_first (c := a.toNat) h (decide_eq_true (by omega)) r ?_
      unfold enc
      rw [if_pos h1, b8_of a _ rfl]
      rfl
    · split
      · rename_i h1 h2
        match r, h, h2 with
        | [], _, h2 => simp at h2
        | b :: r, h, h2 =>
          rw [at_1] at h2 ⊢
          split
          · rename_i h3
            exfalso
            have := b.toNat_lt
            refine no_first (c := a.toNat % 32 * 64 + b.toNat % 64) h (decide_eq_true (by omega)) r ?_
            unfold enc
            rw [if_neg (by omega), if_pos (by omega), b8_of a _ (by omega), b8_of b _ (by omega)]
            rfl
          · rfl
      · split
        · rename_i h1 h2 h3
          match r, h, h3 with
          | [], _, h3 => simp at h3
          | [b], _, h3 => simp at h3
          | b :: d :: r, h, h3 =>
            rw [at_1, at_2] at h3 ⊢
            split
            · rename_i h4
              exfalso
              have := b.toNat_lt
              have := d.toNat_lt
              refine no_first (c := a.toNat % 16 * 4096 + b.toNat % 64 * 64 + d.toNat % 64) h (decide_eq_true (by omega)) r ?_
              unfold enc
              rw [if_neg (by omega), if_neg (by omega), if_pos (by omega), b8_of a _ (by omega), b8_of b _ (by omega), b8_of d _ (by omega)]
              rfl
            · rfl
        · split
          · rename_i h1 h2 h3 h4
            match r, h, h4 with
            | [], _, h4 => simp at h4
            | [b], _, h4 => simp at h4
            | [b, d], _, h4 => simp at h4
            | b :: d :: x :: r, h, h4 =>
              rw [at_1, at_2, at_3] at h4 ⊢
              split
              · rename_i h5
                exfalso
                have := b.toNat_lt
                have := d.toNat_lt
                have := x.toNat_lt
                refine no_first (c := a.toNat % 8 * 262144 + b.toNat % 64 * 4096 + d.toNat % 64 * 64 + x.toNat % 64) h (decide_eq_true (by omega)) r ?_
                unfold enc
                rw [if_neg (by omega), if_neg (by omega), if_neg (by omega), b8_of a _ (by omega), b8_of b _ (by omega), b8_of d _ (by omega), b8_of x _ (by omega)]
                rfl
              · rfl
          · rfl
theorem go_is (s : ByteArray) (h : 0 < s.size) : decodeGo s = go s.data.toList := by
  unfold decodeGo go
  rw [if_neg (by omega), decode_N]
  rfl
/-- a letter's bytes as the library's encoder lays them -/
theorem rune_enc (c : Int) (hc : letter c = true) : encodeRune c = enc c.toNat := by
  have hl := of_decide_eq_true hc
  have key : ∀ x : Int, x.toNat.toUInt8 = b8 x.toNat := fun x => rfl
  unfold encodeRune enc
  by_cases h1 : c ≤ 127
  · rw [encodeRuneZ_one hl.1 h1, if_pos (by omega)]
    rfl
  · by_cases h2 : c ≤ 2047
    · rw [encodeRuneZ_two (by omega) h2, if_neg (by omega), if_pos (by omega)]
      simp only [List.map_cons, List.map_nil, key]
      rw [show (192 + c / 64).toNat = 192 + c.toNat / 64 by omega, show (128 + c % 64).toNat = 128 + c.toNat % 64 by omega]
    · by_cases h3 : c ≤ 65535
      · rw [encodeRuneZ_three (by omega), if_neg (by omega), if_neg (by omega), if_pos (by omega)]
        simp only [List.map_cons, List.map_nil, key]
        rw [show (224 + c / 4096).toNat = 224 + c.toNat / 4096 by omega, show (128 + c / 64 % 64).toNat = 128 + c.toNat / 64 % 64 by omega, show (128 + c % 64).toNat = 128 + c.toNat % 64 by omega]
      · rw [encodeRuneZ_four (by omega) hl.2.1, if_neg (by omega), if_neg (by omega), if_neg (by omega)]
        simp only [List.map_cons, List.map_nil, key]
        rw [show (240 + c / 262144).toNat = 240 + c.toNat / 262144 by omega, show (128 + c / 4096 % 64).toNat = 128 + c.toNat / 4096 % 64 by omega, show (128 + c / 64 % 64).toNat = 128 + c.toNat / 64 % 64 by omega, show (128 + c % 64).toNat = 128 + c.toNat % 64 by omega]
end Go.Proofs.YtjlnffdklhmonaaDoor.Ut
