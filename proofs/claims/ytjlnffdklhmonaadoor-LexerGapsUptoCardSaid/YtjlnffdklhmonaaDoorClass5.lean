/-
  What the program's questions on single bytes and on heads of texts answer: classOf, special, isLetter, letters, denoted, commentEnd, and the library's Clone.
-/
import Derived.Test.YtjlnffdklhmonaaDoorBytes5
import Derived.Test.YtjlnffdklhmonaaDoorShelf
import Derived.Test.YtjlnffdklhmonaaDoorRefLex
set_option linter.unusedVariables false
set_option linter.unusedSimpArgs false
namespace Go.Proofs.YtjlnffdklhmonaaDoor
open Go.RowKit

/-- a byte's class, by number -/
def cls (c : UInt8) : Int := if Lx.blank c then 1 else if c.toNat = 37 then 2 else if c.toNat = 92 then 3 else if c.toNat = 123 then 4 else if c.toNat = 125 then 5 else 0

set_option maxHeartbeats 1000000 in
set_option maxRecDepth 100000 in
theorem classOf_any (c : UInt8) (w : World) : Calls Tryd.prog 24 #[.int .u8 (c.toNat : Int)] w (Is (.int .i64 (cls c)) w) := by
  have hl : Hid (cls c = if c.toNat = 9 ∨ c.toNat = 10 ∨ c.toNat = 13 ∨ c.toNat = 32 then 1 else if c.toNat = 37 then 2 else if c.toNat = 92 then 3 else if c.toNat = 123 then 4 else if c.toNat = 125 then 5 else 0) := Lib.hid (by unfold cls Lx.blank; simp)
  obtain ⟨z, hz⟩ : ∃ z : Int, z = (c.toNat : Int) := ⟨_, rfl⟩
  rw [← hz]
  have HZ := Lib.hid hz
  clear hz
  by_cases h1 : z = 9
  · subst h1
    go_enter Tryd.func24, Tryd.ntmps24
    go_wp2
    go_ret
    exact ⟨ret_int (by have := HZ.out; rw [hl.out]; split <;> omega), rfl⟩
  · have e1 := bne0 h1
    by_cases h2 : z = 10
    · subst h2
      go_enter Tryd.func24, Tryd.ntmps24
      go_wp2
      go_ret
      exact ⟨ret_int (by have := HZ.out; rw [hl.out]; split <;> omega), rfl⟩
    · have e2 := bne0 h2
      by_cases h3 : z = 13
      · subst h3
        go_enter Tryd.func24, Tryd.ntmps24
        go_wp2
        go_ret
        exact ⟨ret_int (by have := HZ.out; rw [hl.out]; split <;> omega), rfl⟩
      · have e3 := bne0 h3
        by_cases h4 : z = 32
        · subst h4
          go_enter Tryd.func24, Tryd.ntmps24
          go_wp2
          go_ret
          exact ⟨ret_int (by have := HZ.out; rw [hl.out]; split <;> omega), rfl⟩
        · have e4 := bne0 h4
          have hl2 : Hid (cls c = if c.toNat = 37 then 2 else if c.toNat = 92 then 3 else if c.toNat = 123 then 4 else if c.toNat = 125 then 5 else 0) := Lib.hid (by have := HZ.out; rw [hl.out, if_neg (by omega)])
          clear hl
          by_cases h5 : z = 37
          · subst h5
            go_enter Tryd.func24, Tryd.ntmps24
            go_wp2
            go_ret
            exact ⟨ret_int (by have := HZ.out; rw [hl2.out, if_pos (by omega)]), rfl⟩
          · have e5 := bne0 h5
            by_cases h6 : z = 92
            · subst h6
              go_enter Tryd.func24, Tryd.ntmps24
              go_wp2
              go_ret
              exact ⟨ret_int (by have := HZ.out; rw [hl2.out, if_neg (by omega), if_pos (by omega)]), rfl⟩
            · have e6 := bne0 h6
              by_cases h7 : z = 123
              · subst h7
                go_enter Tryd.func24, Tryd.ntmps24
                go_wp2
                go_ret
                exact ⟨ret_int (by have := HZ.out; rw [hl2.out, if_neg (by omega), if_neg (by omega), if_pos (by omega)]), rfl⟩
              · have e7 := bne0 h7
                by_cases h8 : z = 125
                · subst h8
                  go_enter Tryd.func24, Tryd.ntmps24
                  go_wp2
                  go_ret
                  exact ⟨ret_int (by have := HZ.out; rw [hl2.out, if_neg (by omega), if_neg (by omega), if_neg (by omega), if_pos (by omega)]), rfl⟩
                · have e8 := bne0 h8
                  have H := Lib.hid (And.intro h5 (And.intro h6 (And.intro h7 h8)))
                  clear h1 h2 h3 h4 h5 h6 h7 h8
                  go_enter Tryd.func24, Tryd.ntmps24
                  go_wp2
                  go_ret
                  exact ⟨ret_int (by have := HZ.out; have := H.out; rw [hl2.out, if_neg (by omega), if_neg (by omega), if_neg (by omega), if_neg (by omega)]), rfl⟩

theorem special_cls (c : UInt8) : Lx.special c = (!(cls c == 0) && !(cls c == 1)) := by
  unfold cls Lx.special Lx.blank
  rw [Bool.eq_iff_iff]
  simp
  split
  · simp; omega
  · split
    · simp; omega
    · split
      · simp; omega
      · split
        · simp; omega
        · split
          · simp; omega
          · simp; omega

set_option maxHeartbeats 1000000 in
set_option maxRecDepth 100000 in
theorem special_any (c : UInt8) (w : World) : Calls Tryd.prog 39 #[.int .u8 (c.toNat : Int)] w (Is (.bool (Lx.special c)) w) := by
  have hs := special_cls c
  have cC := Lib.hid (fun w => classOf_any c w)
  obtain ⟨n, hn⟩ : ∃ n, n = cls c := ⟨_, rfl⟩
  rw [← hn] at cC hs
  rw [hs]
  clear hs hn
  by_cases h0 : n = 0
  · subst h0
    go_enter Tryd.func39, Tryd.ntmps39
    go_wp2_with fail
    refine (cC.out _).mono ?_
    rintro e w' ⟨rfl, rfl⟩
    go_wp2_with fail
    go_ret
    exact ⟨rfl, rfl⟩
  · have h1 : (n == 0) = false := bne0 h0
    have h2 : (n != 0) = true := by simp only [bne, h1]; rfl
    rw [h1]
    go_enter Tryd.func39, Tryd.ntmps39
    go_wp2_with fail
    refine (cC.out _).mono ?_
    rintro e w' ⟨rfl, rfl⟩
    go_wp2_with fail
    refine (cC.out _).mono ?_
    rintro e w' ⟨rfl, rfl⟩
    go_wp2_with fail
    go_ret
    exact ⟨rfl, rfl⟩

set_option maxHeartbeats 1000000 in
set_option maxRecDepth 100000 in
theorem isLetter_any (c : UInt8) (w : World) : Calls Tryd.prog 44 #[.int .u8 (c.toNat : Int)] w (Is (.bool (Lx.alpha c)) w) := by
  have hl : Hid (Lx.alpha c = decide ((97 ≤ c.toNat ∧ c.toNat ≤ 122) ∨ (65 ≤ c.toNat ∧ c.toNat ≤ 90))) := rfl
  obtain ⟨z, hz⟩ : ∃ z : Int, z = (c.toNat : Int) := ⟨_, rfl⟩
  rw [← hz]
  have HZ := Lib.hid hz
  clear hz
  by_cases h1 : 97 ≤ z
  · by_cases h2 : z ≤ 122
    · go_enter Tryd.func44, Tryd.ntmps44
      go_wp2
      go_ret
      exact ⟨ret_bool (by have := HZ.out; rw [hl.out, Bool.eq_iff_iff]; simp; omega), rfl⟩
    · go_enter Tryd.func44, Tryd.ntmps44
      go_wp2
      go_ret
      exact ⟨ret_bool (by have := HZ.out; rw [hl.out, Bool.eq_iff_iff]; simp; omega), rfl⟩
  · by_cases h2 : 65 ≤ z
    · go_enter Tryd.func44, Tryd.ntmps44
      go_wp2
      all_goals go_ret
      all_goals exact ⟨ret_bool (by have := HZ.out; rw [hl.out, Bool.eq_iff_iff]; simp; omega), rfl⟩
    · go_enter Tryd.func44, Tryd.ntmps44
      go_wp2
      go_ret
      exact ⟨ret_bool (by have := HZ.out; rw [hl.out, Bool.eq_iff_iff]; simp; omega), rfl⟩

theorem each_of_all {l : List UInt8} {p : UInt8 → Bool} {k : Nat} (hk : k ≤ l.length) (h : (l.take k).all p = true) : ∀ i, i < k → ∃ c, l[i]? = some c ∧ p c = true := fun i hi => by
  have hl : i < l.length := by omega
  refine ⟨l[i], List.getElem?_eq_getElem hl, List.all_eq_true.1 h _ ?_⟩
  exact List.mem_of_getElem? (i := i) (by rw [List.getElem?_take_of_lt hi, List.getElem?_eq_getElem hl])
theorem while_at {s : ByteArray} {p : UInt8 → Bool} {k : Nat} (hk : k < s.size) (h : (s.data.toList.take k).all p = true) (hp : p s[k] = false) : s.data.toList.takeWhile p = s.data.toList.take k :=
  run_len p _ k (each_of_all (by rw [← Lib.size_eq]; omega) h) (.inr ⟨_, byte_at s k hk, hp⟩)
theorem while_end {s : ByteArray} {p : UInt8 → Bool} {k : Nat} (hk : s.size ≤ k) (h : (s.data.toList.take k).all p = true) : s.data.toList.takeWhile p = s.data.toList := by
  rw [List.take_of_length_le (by rw [← Lib.size_eq]; exact hk)] at h
  have h3 := run_len p s.data.toList s.data.toList.length (each_of_all (Nat.le_refl _) (by rw [List.take_length]; exact h)) (.inl (Nat.le_refl _))
  rw [h3, List.take_length]

set_option maxHeartbeats 2000000 in
set_option maxRecDepth 100000 in
theorem letters_any (s : ByteArray) (hs : s.size ≤ 4611686018427387904) (w : World) : Calls Tryd.prog 26 #[.string s] w (Is (.string (str (s.data.toList.takeWhile Lx.alpha))) w) := by
  have HS := Lib.hid hs
  go_enter Tryd.func26, Tryd.ntmps26
  go_wp2_with fail
  go_loopw [6] (fun iv wr => ∃ k : Nat, k ≤ s.size ∧ iv = .int .i64 k ∧ Hid ((s.data.toList.take k).all Lx.alpha = true) ∧ wr = w) (fun iv _ => s.size - (intOf iv).toNat)
  case atStart => exact ⟨0, Nat.zero_le _, rfl, Lib.hid rfl, rfl⟩
  case round =>
    obtain ⟨k, hk, rfl, HA, rfl⟩ := hrel
    by_cases hlt : k < s.size
    · have k0 : (0 : Int) ≤ (k : Int) := by omega
      have k1 : (k : Int) < (s.size : Int) := by omega
      have cL := Lib.hid (fun w => isLetter_any s[k] w)
      cases hL : Lx.alpha s[k] with
      | false =>
        have HW := Lib.hid (while_at hlt HA.out hL)
        rw [hL] at cL
        clear hL
        go_wp2_with fail
        refine (cL.out _).mono ?_
        rintro e w1 ⟨rfl, rfl⟩
        go_wp2_with fail
        go_ret
        exact ⟨ret_str (by rw [str_data, HW.out, ByteArray.data_extract, Array.toList_extract]; simp), rfl⟩
      | true =>
        have HA2 := Lib.hid (all_next (p := Lx.alpha) (byte_at s k hlt) hL HA.out)
        rw [hL] at cL
        clear hL
        go_wp2_with fail
        refine (cL.out _).mono ?_
        rintro e w1 ⟨rfl, rfl⟩
        go_wp2_with fail
        go_roundw
        case rel => exact ⟨k + 1, by omega, by go_num, HA2, by trivial⟩
        case measure => simp [intOf]; omega
    · have HW := Lib.hid (while_end (p := Lx.alpha) (by omega) HA.out)
      go_wp2_with fail
      go_ret
      exact ⟨ret_str (by rw [str_data, HW.out]), rfl⟩

/-- what an escape stands for whose bytes behind the backslash these are -/
def den (l : List UInt8) : List UInt8 := match l with
  | [] => []
  | d :: _ => if Lx.escd d then Lx.esc d else []

set_option maxHeartbeats 2000000 in
set_option maxRecDepth 100000 in
theorem denoted_any (s : ByteArray) (hs : s.size ≤ 4611686018427387904) (w : World) : Calls Tryd.prog 46 #[.string s] w (Is (.string (str (den s.data.toList))) w) := by
  by_cases h0 : s.size = 0
  · have he : s = ByteArray.empty := by
      apply ByteArray.ext
      apply Array.eq_empty_of_size_eq_zero
      exact h0
    subst he
    go_enter Tryd.func46, Tryd.ntmps46
    go_wp2_with fail
    go_ret
    exact ⟨rfl, rfl⟩
  · have hd := drop_head s 0 (by omega)
    rw [List.drop_zero] at hd
    have hne : s.toList.isEmpty = false := by rw [Lib.toList_data, hd]; rfl
    have k1 : (0 : Int) < (s.size : Int) := by omega
    have HE := Lib.hid (slice_one s 0 (by omega))
    by_cases h45 : (s[0]'(by omega)).toNat = 45
    · have h45i : ((s[0]'(by omega)).toNat : Int) = 45 := by omega
      have HD : Hid (den s.data.toList = [194, 173]) := Lib.hid (by
        rw [hd]
        show (if _ then _ else _) = _
        rw [if_pos (show Lx.escd (s[0]'(by omega)) = true from decide_eq_true (by omega))]
        unfold Lx.esc
        rw [if_pos h45])
      clear hd h45
      go_enter Tryd.func46, Tryd.ntmps46
      go_wp2_with fail
      go_ret
      exact ⟨ret_str (by rw [str_data, HD.out]), rfl⟩
    · have h45i : (((s[0]'(by omega)).toNat : Int) == 45) = false := bne0 (by omega)
      have cS := Lib.hid (fun w => special_any (s[0]'(by omega)) w)
      have hesc : Lx.escd (s[0]'(by omega)) = Lx.special (s[0]'(by omega)) := by
        unfold Lx.escd Lx.special
        rw [Bool.eq_iff_iff]
        simp
        omega
      cases hsp : Lx.special (s[0]'(by omega)) with
      | true =>
        have HD : Hid (den s.data.toList = [s[0]'(by omega)]) := Lib.hid (by
          rw [hd]
          show (if _ then _ else _) = _
          rw [if_pos (by rw [hesc, hsp])]
          unfold Lx.esc
          rw [if_neg h45])
        rw [hsp] at cS
        clear hd h45 hesc hsp
        go_enter Tryd.func46, Tryd.ntmps46
        go_wp2_with fail
        refine (cS.out _).mono ?_
        rintro e w1 ⟨rfl, rfl⟩
        go_wp2_with fail
        go_ret
        exact ⟨ret_str (by rw [str_data, HD.out]; exact HE.out), rfl⟩
      | false =>
        have HD : Hid (den s.data.toList = []) := Lib.hid (by
          rw [hd]
          show (if _ then _ else _) = _
          rw [if_neg (by rw [hesc, hsp]; simp)])
        rw [hsp] at cS
        clear hd h45 hesc hsp
        go_enter Tryd.func46, Tryd.ntmps46
        go_wp2_with fail
        refine (cS.out _).mono ?_
        rintro e w1 ⟨rfl, rfl⟩
        go_wp2_with fail
        go_ret
        exact ⟨ret_str (by rw [str_data, HD.out]), rfl⟩

theorem index_while (l : List UInt8) : Lib.indexByte l 10 = if (l.takeWhile Lx.not10).length = l.length then -1 else ((l.takeWhile Lx.not10).length : Int) := by
  induction l with
  | nil => rfl
  | cons c r ih =>
    unfold Lib.indexByte
    by_cases hc : c.toNat = 10
    · have e : c = 10 := Lx.u8_of hc
      have hn : Lx.not10 c = false := decide_eq_false (by omega)
      rw [if_pos (by rw [e]; decide), List.takeWhile_cons, hn]
      simp
    · have hn : Lx.not10 c = true := decide_eq_true hc
      have hb : (c == 10) = false := beq_eq_false_iff_ne.2 (fun e => hc (by rw [e]; rfl))
      rw [hb, List.takeWhile_cons, hn]
      simp only [Bool.false_eq_true, if_false, if_true, List.length_cons, Nat.add_right_cancel_iff]
      rw [ih]
      by_cases hl : (r.takeWhile Lx.not10).length = r.length
      · rw [if_pos hl]; simp [hl]
      · rw [if_neg hl, if_neg hl, if_neg (by simp)]
        omega

set_option maxHeartbeats 2000000 in
set_option maxRecDepth 100000 in
theorem commentEnd_any (s : ByteArray) (a : Nat) (ha : a < s.size) (hs : s.size ≤ 4611686018427387904) (w : World) : Calls Tryd.prog 25 #[.string s, .int .i64 (a : Int)] w (Is (.int .i64 ((a : Int) + (((s.data.toList.drop a).takeWhile Lx.not10).length : Int))) w) := by
  have a0 : (0 : Int) ≤ (a : Int) := by omega
  have a1 : (a : Int) ≤ (s.size : Int) := by omega
  have hi := index_while (s.data.toList.drop a)
  have hll : (s.data.toList.drop a).length = s.size - a := by rw [List.length_drop, ← Lib.size_eq]
  have hle : ((s.data.toList.drop a).takeWhile Lx.not10).length ≤ (s.data.toList.drop a).length := (List.takeWhile_sublist _).length_le
  rw [hll] at hi hle
  obtain ⟨n, hn⟩ : ∃ n, n = ((s.data.toList.drop a).takeWhile Lx.not10).length := ⟨_, rfl⟩
  rw [← hn] at hi hle ⊢
  have cI : Hid (∀ w, Calls Tryd.prog 43 #[.string (s.extract a s.size), .int .u8 10] w (fun e w' => e = .returned (.int .i64 (if n = s.size - a then -1 else (n : Int))) ∧ w' = w)) := Lib.hid (fun w => by
    have h := Tryd.strings_IndexByte (s.extract a s.size) 10 w
    rw [drop_text] at h
    rw [← hi]
    exact h)
  clear hi hll hn
  by_cases hq : n = s.size - a
  · rw [if_pos hq] at cI
    have HQ : Hid (n = s.size - a) := Lib.hid hq
    have HA := Lib.hid ha
    clear hq hle
    go_enter Tryd.func25, Tryd.ntmps25
    go_wp2_with fail
    refine (cI.out _).mono ?_
    rintro e w1 ⟨rfl, rfl⟩
    go_wp2_with fail
    go_ret
    exact ⟨ret_int (by have := HQ.out; have := HA.out; omega), rfl⟩
  · rw [if_neg hq] at cI
    have n0 : (0 : Int) ≤ (n : Int) := by omega
    have n1 : (n : Int) ≤ 4611686018427387904 := by omega
    have a2 : (a : Int) ≤ 4611686018427387904 := by omega
    clear hq hle
    go_enter Tryd.func25, Tryd.ntmps25
    go_wp2_with fail
    refine (cI.out _).mono ?_
    rintro e w1 ⟨rfl, rfl⟩
    go_wp2_with fail
    go_ret
    exact ⟨by go_num, rfl⟩

set_option maxHeartbeats 1000000 in
set_option maxRecDepth 100000 in
theorem clone_any (s : ByteArray) (hs : s.size ≤ 281474976710656) (w : World) : Calls Tryd.prog 27 #[.string s] w (Ret (.string s) w) := by
  have cC := Lib.hid (fun w => Tryd.stringslite_Clone s w hs)
  go_enter Tryd.func27, Tryd.ntmps27
  go_wp2_with fail
  refine (cC.out _).mono ?_
  rintro e w1 ⟨rfl, hb⟩
  have HB := Lib.hid hb
  clear hb
  go_wp2_with fail
  go_ret
  exact ⟨rfl, HB.out⟩
end Go.Proofs.YtjlnffdklhmonaaDoor
