/-
  The reference's questions on single bytes: blank, letter of a command's name, special, escape, command.
-/
import Derived.Test.YtjlnffdklhmonaaDoorBase
import Derived.Test.YtjlnffdklhmonaaDoorLexMore
set_option linter.unusedVariables false
set_option linter.unusedSimpArgs false
namespace Go.Proofs.YtjlnffdklhmonaaDoor
open Go.RowKit

theorem bne0 {z n : Int} (h : z ≠ n) : (z == n) = false := beq_eq_false_iff_ne.2 h
set_option maxHeartbeats 1000000 in
set_option maxRecDepth 100000 in
theorem refBlank_any (c : UInt8) (w : World) : Calls Tryd.prog 22 #[.int .u8 (c.toNat : Int)] w (Is (.bool (Lx.blank c)) w) := by
  have hl : Hid (Lx.blank c = decide (c.toNat = 9 ∨ c.toNat = 10 ∨ c.toNat = 13 ∨ c.toNat = 32)) := rfl
  obtain ⟨z, hz⟩ : ∃ z : Int, z = (c.toNat : Int) := ⟨_, rfl⟩
  rw [← hz]
  have HZ := Lib.hid hz
  clear hz
  by_cases h1 : z = 9
  · subst h1
    go_enter Tryd.func22, Tryd.ntmps22
    go_wp2
    go_ret
    exact ⟨ret_bool (by have := HZ.out; rw [hl.out, Bool.eq_iff_iff]; simp; omega), rfl⟩
  · have e1 := bne0 h1
    by_cases h2 : z = 10
    · subst h2
      go_enter Tryd.func22, Tryd.ntmps22
      go_wp2
      go_ret
      exact ⟨ret_bool (by have := HZ.out; rw [hl.out, Bool.eq_iff_iff]; simp; omega), rfl⟩
    · have e2 := bne0 h2
      by_cases h3 : z = 13
      · subst h3
        go_enter Tryd.func22, Tryd.ntmps22
        go_wp2
        go_ret
        exact ⟨ret_bool (by have := HZ.out; rw [hl.out, Bool.eq_iff_iff]; simp; omega), rfl⟩
      · have e3 := bne0 h3
        have H := Lib.hid (And.intro h1 (And.intro h2 h3))
        clear h1 h2 h3
        go_enter Tryd.func22, Tryd.ntmps22
        go_wp2
        go_ret
        exact ⟨ret_bool (by have := HZ.out; have := H.out; rw [hl.out, Bool.eq_iff_iff]; simp; omega), rfl⟩
set_option maxHeartbeats 1000000 in
set_option maxRecDepth 100000 in
theorem refSpecial_any (c : UInt8) (w : World) : Calls Tryd.prog 40 #[.int .u8 (c.toNat : Int)] w (Is (.bool (Lx.special c)) w) := by
  have hl : Hid (Lx.special c = decide (c.toNat = 92 ∨ c.toNat = 123 ∨ c.toNat = 125 ∨ c.toNat = 37)) := rfl
  obtain ⟨z, hz⟩ : ∃ z : Int, z = (c.toNat : Int) := ⟨_, rfl⟩
  rw [← hz]
  have HZ := Lib.hid hz
  clear hz
  by_cases h1 : z = 92
  · subst h1
    go_enter Tryd.func40, Tryd.ntmps40
    go_wp2
    go_ret
    exact ⟨ret_bool (by have := HZ.out; rw [hl.out, Bool.eq_iff_iff]; simp; omega), rfl⟩
  · have e1 := bne0 h1
    by_cases h2 : z = 123
    · subst h2
      go_enter Tryd.func40, Tryd.ntmps40
      go_wp2
      go_ret
      exact ⟨ret_bool (by have := HZ.out; rw [hl.out, Bool.eq_iff_iff]; simp; omega), rfl⟩
    · have e2 := bne0 h2
      by_cases h3 : z = 125
      · subst h3
        go_enter Tryd.func40, Tryd.ntmps40
        go_wp2
        go_ret
        exact ⟨ret_bool (by have := HZ.out; rw [hl.out, Bool.eq_iff_iff]; simp; omega), rfl⟩
      · have e3 := bne0 h3
        have H := Lib.hid (And.intro h1 (And.intro h2 h3))
        clear h1 h2 h3
        go_enter Tryd.func40, Tryd.ntmps40
        go_wp2
        go_ret
        exact ⟨ret_bool (by have := HZ.out; have := H.out; rw [hl.out, Bool.eq_iff_iff]; simp; omega), rfl⟩
set_option maxHeartbeats 1000000 in
set_option maxRecDepth 100000 in
theorem refAlpha_any (c : UInt8) (w : World) : Calls Tryd.prog 31 #[.int .u8 (c.toNat : Int)] w (Is (.bool (Lx.alpha c)) w) := by
  have hl : Hid (Lx.alpha c = decide ((97 ≤ c.toNat ∧ c.toNat ≤ 122) ∨ (65 ≤ c.toNat ∧ c.toNat ≤ 90))) := rfl
  obtain ⟨z, hz⟩ : ∃ z : Int, z = (c.toNat : Int) := ⟨_, rfl⟩
  rw [← hz]
  have HZ := Lib.hid hz
  clear hz
  by_cases h1 : 97 ≤ z
  · by_cases h2 : z ≤ 122
    · go_enter Tryd.func31, Tryd.ntmps31
      go_wp2
      go_ret
      exact ⟨ret_bool (by have := HZ.out; rw [hl.out, Bool.eq_iff_iff]; simp; omega), rfl⟩
    · go_enter Tryd.func31, Tryd.ntmps31
      go_wp2
      go_ret
      exact ⟨ret_bool (by have := HZ.out; rw [hl.out, Bool.eq_iff_iff]; simp; omega), rfl⟩
  · by_cases h2 : 65 ≤ z
    · go_enter Tryd.func31, Tryd.ntmps31
      go_wp2
      all_goals go_ret
      all_goals exact ⟨ret_bool (by have := HZ.out; rw [hl.out, Bool.eq_iff_iff]; simp; omega), rfl⟩
    · go_enter Tryd.func31, Tryd.ntmps31
      go_wp2
      go_ret
      exact ⟨ret_bool (by have := HZ.out; rw [hl.out, Bool.eq_iff_iff]; simp; omega), rfl⟩

/-! ### at a place of a text -/
/-- does an escape begin at the head of bytes? -/
def escH (l : List UInt8) : Bool := match l with
  | c :: d :: _ => Lx.bsl c && Lx.escd d
  | _ => false
def cmdH (l : List UInt8) : Bool := match l with
  | c :: r => Lx.isCmd c r
  | [] => false
theorem drop_head (s : ByteArray) (k : Nat) (h : k < s.size) : s.data.toList.drop k = s[k] :: s.data.toList.drop (k + 1) := by
  have hl : k < s.data.toList.length := by rw [← Lib.size_eq]; exact h
  rw [List.drop_eq_getElem_cons hl]; rfl
theorem drop_end (s : ByteArray) (k : Nat) (h : s.size ≤ k) : s.data.toList.drop k = [] := List.drop_eq_nil_of_le (by rw [← Lib.size_eq]; exact h)

set_option maxHeartbeats 2000000 in
set_option maxRecDepth 100000 in
theorem refEscape_any (s : ByteArray) (k : Nat) (hk : k < s.size) (hs : s.size ≤ 4611686018427387904) (w : World) : Calls Tryd.prog 48 #[.string s, .int .i64 (k : Int)] w (Is (.bool (escH (s.data.toList.drop k))) w) := by
  have k0 : (0 : Int) ≤ (k : Int) := by omega
  have k1 : (k : Int) < (s.size : Int) := by omega
  have hd := drop_head s k hk
  by_cases hc : s[k].toNat = 92
  · have hci : ((s[k].toNat : Int)) = 92 := by omega
    by_cases h2 : k + 1 < s.size
    · have k2 : (k : Int) + 1 < (s.size : Int) := by omega
      have hd2 := drop_head s (k + 1) h2
      have HS := Lib.hid (fun w => refSpecial_any s[k + 1] w)
      have he : escH (s.data.toList.drop k) = (Lx.special s[k + 1] || decide (s[k + 1].toNat = 45)) := by
        rw [hd, hd2]
        show (Lx.bsl s[k] && Lx.escd s[k + 1]) = _
        have : Lx.bsl s[k] = true := decide_eq_true hc
        rw [this, Bool.true_and]
        unfold Lx.escd Lx.special
        rw [Bool.eq_iff_iff]
        simp
        omega
      rw [he]
      clear he hd hd2
      cases hsp : Lx.special s[k + 1] with
      | true =>
        rw [hsp] at HS
        clear hsp
        go_enter Tryd.func48, Tryd.ntmps48
        go_wp2_with fail
        refine (HS.out _).mono ?_
        rintro e w' ⟨rfl, rfl⟩
        go_wp2_with fail
        go_ret
        exact ⟨rfl, rfl⟩
      | false =>
        rw [hsp] at HS
        clear hsp
        go_enter Tryd.func48, Tryd.ntmps48
        go_wp2_with fail
        refine (HS.out _).mono ?_
        rintro e w' ⟨rfl, rfl⟩
        go_wp2_with fail
        go_ret
        exact ⟨ret_bool (by rw [Bool.eq_iff_iff]; simp; omega), rfl⟩
    · have k2 : ¬ ((k : Int) + 1 < (s.size : Int)) := by omega
      have he : escH (s.data.toList.drop k) = false := by rw [hd, drop_end s (k + 1) (by omega)]; rfl
      rw [he]
      clear he hd
      go_enter Tryd.func48, Tryd.ntmps48
      go_wp2
      go_ret
      exact ⟨rfl, rfl⟩
  · have hci : ((s[k].toNat : Int) == 92) = false := bne0 (by omega)
    have he : escH (s.data.toList.drop k) = false := by
      rw [hd]
      cases s.data.toList.drop (k + 1) with
      | nil => rfl
      | cons d r =>
        show (Lx.bsl s[k] && Lx.escd d) = false
        have : Lx.bsl s[k] = false := decide_eq_false hc
        rw [this]; rfl
    rw [he]
    clear he hd
    go_enter Tryd.func48, Tryd.ntmps48
    go_wp2
    go_ret
    exact ⟨rfl, rfl⟩

set_option maxHeartbeats 2000000 in
set_option maxRecDepth 100000 in
theorem refCommand_any (s : ByteArray) (k : Nat) (hk : k < s.size) (hs : s.size ≤ 4611686018427387904) (w : World) : Calls Tryd.prog 30 #[.string s, .int .i64 (k : Int)] w (Is (.bool (cmdH (s.data.toList.drop k))) w) := by
  have k0 : (0 : Int) ≤ (k : Int) := by omega
  have k1 : (k : Int) < (s.size : Int) := by omega
  have hd := drop_head s k hk
  by_cases hc : s[k].toNat = 92
  · have hci : ((s[k].toNat : Int)) = 92 := by omega
    by_cases h2 : k + 1 < s.size
    · have k2 : (k : Int) + 1 < (s.size : Int) := by omega
      have hd2 := drop_head s (k + 1) h2
      have HS := Lib.hid (fun w => refAlpha_any s[k + 1] w)
      have he : cmdH (s.data.toList.drop k) = Lx.alpha s[k + 1] := by
        rw [hd, hd2]
        show (Lx.bsl s[k] && Lx.alpha s[k + 1]) = _
        have : Lx.bsl s[k] = true := decide_eq_true hc
        rw [this]; rfl
      rw [he]
      clear he hd hd2
      go_enter Tryd.func30, Tryd.ntmps30
      go_wp2_with fail
      refine (HS.out _).mono ?_
      rintro e w' ⟨rfl, rfl⟩
      go_wp2_with fail
      go_ret
      exact ⟨rfl, rfl⟩
    · have k2 : ¬ ((k : Int) + 1 < (s.size : Int)) := by omega
      have he : cmdH (s.data.toList.drop k) = false := by
        rw [hd, drop_end s (k + 1) (by omega)]
        show (Lx.bsl s[k] && false) = false
        simp
      rw [he]
      clear he hd
      go_enter Tryd.func30, Tryd.ntmps30
      go_wp2
      go_ret
      exact ⟨rfl, rfl⟩
  · have hci : ((s[k].toNat : Int) == 92) = false := bne0 (by omega)
    have he : cmdH (s.data.toList.drop k) = false := by
      rw [hd]
      show (Lx.bsl s[k] && _) = false
      have : Lx.bsl s[k] = false := decide_eq_false hc
      rw [this]; rfl
    rw [he]
    clear he hd
    go_enter Tryd.func30, Tryd.ntmps30
    go_wp2
    go_ret
    exact ⟨rfl, rfl⟩
end Go.Proofs.YtjlnffdklhmonaaDoor
