/-
  What the program's allDigits, parsePoints and parseFraction answer.
-/
import Derived.Test.YtmehldekebphfaaGreatDoorParts
import Derived.Test.YtmehldekebphfaaGreatDoorPar
set_option linter.unusedVariables false
set_option linter.unusedSimpArgs false
namespace Go.Proofs.YtmehldekebphfaaGreatDoor
open Go.RowKit

theorem all_next {l : List UInt8} {k : Nat} {c : UInt8} (h : (l.take k).all Fm.isDig = true) (hc : l[k]? = some c) (hd : 48 ≤ (c.toNat : Int) ∧ (c.toNat : Int) ≤ 57) : (l.take (k + 1)).all Fm.isDig = true := by
  rw [take_next _ _ _ hc, List.all_append, h]
  simp [Fm.isDig]; omega
theorem digs_bad {l : List UInt8} {k : Nat} {c : UInt8} (hc : l[k]? = some c) (hd : ¬ (48 ≤ (c.toNat : Int) ∧ (c.toNat : Int) ≤ 57)) : Sc.digs l = false := by
  unfold Sc.digs
  have : l.all Fm.isDig = false := by
    rw [List.all_eq_false]
    refine ⟨c, List.mem_of_getElem? hc, ?_⟩
    unfold Fm.isDig
    simp
    omega
  rw [this, Bool.and_false]
theorem digs_end {s : ByteArray} {k : Nat} (h : (s.data.toList.take k).all Fm.isDig = true) (hk : s.size ≤ k) : Sc.digs s.data.toList = !s.data.toList.isEmpty := by
  rw [List.take_of_length_le (by rw [← Lib.size_eq]; exact hk)] at h
  unfold Sc.digs
  rw [h, Bool.and_true]

set_option maxHeartbeats 2000000 in
set_option maxRecDepth 100000 in
theorem allDigits_any (s : ByteArray) (hs : s.size ≤ 9223372036854775807) (w : World) :
    Calls Tryz.prog 137 #[.string s] w (Is (.bool (Sc.digs s.data.toList)) w) := by
  go_enter Tryz.func137, Tryz.ntmps137
  go_wp2
  go_loop [6] (fun i => ∃ k : Nat, k ≤ s.size ∧ i = .int .i64 k ∧ Hid ((s.data.toList.take k).all Fm.isDig = true)) (fun i => s.size - (intOf i).toNat)
  case atStart => exact ⟨0, Nat.zero_le _, rfl, by show _ = _; simp⟩
  case round =>
    obtain ⟨k, hk, rfl, H⟩ := hrel
    by_cases hlt : k < s.size
    · by_cases hd : 48 ≤ (s[k].toNat : Int) ∧ (s[k].toNat : Int) ≤ 57
      · have HN := Lib.hid (all_next H.out (byte_at s k hlt) hd)
        obtain ⟨hd1, hd2⟩ := hd
        go_wp2
        go_round
        case rel => exact ⟨k + 1, by omega, by go_num, HN⟩
        case measure => simp [intOf]; omega
      · have hbad := Lib.hid (digs_bad (byte_at s k hlt) hd)
        go_wp2
        all_goals go_ret
        all_goals exact ⟨ret_bool hbad.out.symm, rfl⟩
    · have hend := Lib.hid (digs_end H.out (show s.size ≤ k by omega))
      go_wp2
      all_goals go_ret
      all_goals exact ⟨ret_bool (by rw [hend.out, Lib.toList_data]), rfl⟩

theorem capped_zero (l : List UInt8) : ((min (Fm.spell 0 (l.take 0)) 16384 : Nat) : Int) = 0 := by
  have h : Fm.spell 0 [] = 0 := rfl
  rw [List.take_zero, h]
  omega
theorem capped_next {l : List UInt8} {k : Nat} {c : UInt8} (hc : l[k]? = some c) (hd : 48 ≤ (c.toNat : Int)) :
    ((min (Fm.spell 0 (l.take (k + 1))) 16384 : Nat) : Int) = min (10 * ((min (Fm.spell 0 (l.take k)) 16384 : Nat) : Int) + ((c.toNat : Int) - 48)) 16384 := by
  rw [take_next _ _ _ hc, Sc.min_spell]
  omega
set_option maxHeartbeats 2000000 in
set_option maxRecDepth 100000 in
theorem points_no (s : ByteArray) (hs : s.size ≤ 9223372036854775807) (h : Sc.digs s.data.toList = false) (w : World) :
    Calls Tryz.prog 122 #[.string s] w (Is (Two 0 false) w) := by
  have HD := Lib.hid (ret_bool h)
  have H := allDigits_any s hs w
  rw [h] at H
  have HH := Lib.hid H
  clear h H HD
  go_enter Tryz.func122, Tryz.ntmps122
  go_wp2_with fail
  refine HH.out.mono ?_
  rintro e w' ⟨rfl, rfl⟩
  go_wp2_with fail
  go_ret2
  exact ⟨rfl, rfl⟩

set_option maxHeartbeats 2000000 in
set_option maxRecDepth 100000 in
theorem points_yes (s : ByteArray) (hs : s.size ≤ 9223372036854775807) (h : Sc.digs s.data.toList = true) (w : World) :
    Calls Tryz.prog 122 #[.string s] w (Is (Two ((65536 * min (Fm.spell 0 s.data.toList) 16384 : Nat) : Int) true) w) := by
  have HB := Lib.hid (Sc.digs_dig h)
  have H := allDigits_any s hs w
  rw [h] at H
  have HH := Lib.hid H
  clear h H
  go_enter Tryz.func122, Tryz.ntmps122
  go_wp2_with fail
  refine HH.out.mono ?_
  rintro e w' ⟨rfl, rfl⟩
  go_wp2_with fail
  go_loop [4, 11] (fun v i => ∃ (k : Nat) (p : Int), k ≤ s.size ∧ i = .int .i64 k ∧ v = .int .i64 p ∧ 0 ≤ p ∧ p ≤ 16384 ∧ Hid (((min (Fm.spell 0 (s.data.toList.take k)) 16384 : Nat) : Int) = p)) (fun _ i => s.size - (intOf i).toNat)
  case atStart => exact ⟨0, 0, Nat.zero_le _, rfl, rfl, by omega, by omega, Lib.hid (capped_zero _)⟩
  case round =>
    obtain ⟨k, p, hk, rfl, rfl, hp0, hp1, HP⟩ := hrel
    by_cases hlt : k < s.size
    · have hd := HB.out s[k] (List.mem_of_getElem? (byte_at s k hlt))
      obtain ⟨hd1, hd2⟩ := hd
      have HN := Lib.hid (capped_next (byte_at s k hlt) (by omega))
      go_wp2
      all_goals go_round
      case rel => exact ⟨k + 1, _, by omega, by go_num, rfl, by omega, by omega, Lib.hid (by rw [HN.out, HP.out])⟩
      case measure => simp [intOf]; omega
    · have HT : Hid (s.data.toList.take k = s.data.toList) := by show _ = _; exact List.take_of_length_le (by rw [← Lib.size_eq]; omega)
      go_wp2
      go_ret2
      exact ⟨ret_pair ⟨by rw [← HT.out]; have := HP.out; omega, rfl⟩, rfl⟩

/-! ### digits behind a dot -/
theorem facc_step (l : List UInt8) (k : Nat) (c : UInt8) (h : l[k]? = some c) (hd : 48 ≤ (c.toNat : Int)) : ((Sc.facc (l.drop k) : Nat) : Int) = (((Sc.facc (l.drop (k + 1)) : Nat) : Int) + 131072 * ((c.toNat : Int) - 48)) / 10 := by
  obtain ⟨hk, e⟩ := List.getElem?_eq_some_iff.1 h
  rw [List.drop_eq_getElem_cons hk, Sc.facc_cons, e]
  omega
theorem facc_end (l : List UInt8) (k : Nat) (h : l.length ≤ k) : ((Sc.facc (l.drop k) : Nat) : Int) = 0 := by
  rw [List.drop_eq_nil_of_le h]; rfl
theorem facc_small {l : List UInt8} (h : ∀ c ∈ l, 48 ≤ c.toNat ∧ c.toNat ≤ 57) (k : Nat) : Sc.facc (l.drop k) ≤ 131072 := Sc.facc_le _ (fun c hc => h c (List.mem_of_mem_drop hc))

set_option maxHeartbeats 2000000 in
set_option maxRecDepth 100000 in
theorem fraction_long (s : ByteArray) (hs : s.size ≤ 9223372036854775807) (h : 17 < s.size) (w : World) :
    Calls Tryz.prog 123 #[.string s] w (Is (Two 0 false) w) := by
  go_enter Tryz.func123, Tryz.ntmps123
  go_wp2_with fail
  go_ret2
  exact ⟨rfl, rfl⟩
set_option maxHeartbeats 2000000 in
set_option maxRecDepth 100000 in
theorem fraction_no (s : ByteArray) (hl : s.size ≤ 17) (h : Sc.digs s.data.toList = false) (w : World) :
    Calls Tryz.prog 123 #[.string s] w (Is (Two 0 false) w) := by
  have H := allDigits_any s (by omega) w
  rw [h] at H
  have HH := Lib.hid H
  clear h H
  go_enter Tryz.func123, Tryz.ntmps123
  go_wp2_with fail
  refine HH.out.mono ?_
  rintro e w' ⟨rfl, rfl⟩
  go_wp2_with fail
  go_ret2
  exact ⟨rfl, rfl⟩
set_option maxHeartbeats 2000000 in
set_option maxRecDepth 100000 in
theorem fraction_yes (s : ByteArray) (hl : s.size ≤ 17) (h : Sc.digs s.data.toList = true) (w : World) :
    Calls Tryz.prog 123 #[.string s] w (Is (Two (((Sc.facc s.data.toList + 1) / 2 : Nat) : Int) true) w) := by
  have HB := Lib.hid (Sc.digs_dig h)
  have H := allDigits_any s (by omega) w
  rw [h] at H
  have HH := Lib.hid H
  clear h H
  go_enter Tryz.func123, Tryz.ntmps123
  go_wp2_with fail
  refine HH.out.mono ?_
  rintro e w' ⟨rfl, rfl⟩
  go_wp2_with fail
  go_loop [4, 5] (fun v i => ∃ (k : Nat) (p : Int), k ≤ s.size ∧ i = .int .i64 ((k : Int) - 1) ∧ v = .int .i64 p ∧ 0 ≤ p ∧ p ≤ 131072 ∧ Hid (((Sc.facc (s.data.toList.drop k) : Nat) : Int) = p)) (fun _ i => (intOf i + 1).toNat)
  case atStart => exact ⟨s.size, 0, Nat.le_refl _, rfl, rfl, by omega, by omega, Lib.hid (facc_end _ _ (by rw [← Lib.size_eq]; omega))⟩
  case round =>
    obtain ⟨k, p, hk, rfl, rfl, hp0, hp1, HP⟩ := hrel
    rcases k with _ | j
    · go_wp2_with fail
      go_ret2
      exact ⟨ret_pair ⟨by have := HP.out; rw [List.drop_zero] at this; omega, rfl⟩, rfl⟩
    · have hlt : j < s.size := by omega
      have hd := HB.out s[j] (List.mem_of_getElem? (byte_at s j hlt))
      obtain ⟨hd1, hd2⟩ := hd
      have HN := Lib.hid (facc_step _ _ _ (byte_at s j hlt) (by omega))
      have e : (((j + 1 : Nat) : Int) - 1) = (j : Int) := by omega
      rw [e]
      clear e
      go_wp2
      go_round
      case rel => exact ⟨j, _, by omega, rfl, rfl, by omega, by omega, Lib.hid (by rw [HN.out, HP.out])⟩
      case measure => simp [intOf]
end Go.Proofs.YtmehldekebphfaaGreatDoor
