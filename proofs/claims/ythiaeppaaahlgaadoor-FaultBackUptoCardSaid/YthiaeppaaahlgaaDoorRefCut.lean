/-
  The reference's Name and Cut: what they return.
-/
import Derived.Test.YthiaeppaaahlgaaDoorCut
import Derived.Test.YthiaeppaaahlgaaDoorRefNum
set_option linter.unusedVariables false
set_option linter.unusedSimpArgs false
namespace Go.Proofs.YthiaeppaaahlgaaDoor
open Go.RowKit

set_option maxHeartbeats 2000000 in
set_option maxRecDepth 100000 in
theorem name_any (s : ByteArray) (hs : s.size ≤ 9223372036854775807) (w : World) :
    Calls Tryd.prog 12 #[.string s] w fun e w' => e = .returned (.bool (Fm.okName s.data.toList)) ∧ w' = w := by
  go_enter Tryd.func12, Tryd.ntmps12
  go_wp2
  go_loop [3] (fun i => ∃ k : Nat, k ≤ s.size ∧ i = .int .i64 k ∧ Hid ((s.data.toList.take k).all okByte = true)) (fun i => s.size - (intOf i).toNat)
  case atStart => exact ⟨0, Nat.zero_le _, rfl, by show _ = _; simp⟩
  case round =>
    obtain ⟨k, hk, rfl, H⟩ := hrel
    by_cases hlt : k < s.size
    · by_cases hd : 97 ≤ (s[k].toNat : Int) ∧ (s[k].toNat : Int) ≤ 122
      · have HN := Lib.hid (all_next H.out (byte_at s k hlt) hd)
        obtain ⟨hd1, hd2⟩ := hd
        go_wp2
        go_round
        case rel => exact ⟨k + 1, by omega, by go_num, HN⟩
        case measure => simp [intOf]; omega
      · have hbad := Lib.hid (name_bad (byte_at s k hlt) hd)
        go_wp2
        all_goals go_ret
        all_goals exact ⟨ret_bool hbad.out.symm, rfl⟩
    · have hend := Lib.hid (name_end H.out (show s.size ≤ k by omega))
      go_wp2
      all_goals go_ret
      all_goals refine ⟨ret_bool ?_, rfl⟩
      all_goals rw [hend.out]

/-! ### Cut -/
theorem occ_test (s p : ByteArray) (k : Nat) (h : k + p.size ≤ s.size) : ((s.extract k (k + p.size)).toList == p.toList) = Lib.occAt s.data.toList p.data.toList k := by
  rw [Lib.extract_toList, Lib.toList_data]
  unfold Lib.occAt
  have hl : p.size = p.data.toList.length := Lib.size_eq p
  rw [show k + p.size - k = p.data.toList.length by omega]
  cases hp : p.data.toList.isPrefixOf (s.data.toList.drop k) with
  | true =>
    obtain ⟨t, ht⟩ := List.isPrefixOf_iff_prefix.1 hp
    rw [← ht, List.take_left]; simp
  | false =>
    rw [beq_eq_false_iff_ne]
    intro e
    rw [List.isPrefixOf_iff_prefix.2 ⟨_, by
      conv => lhs; arg 1; rw [← e]
      exact List.take_append_drop _ _⟩] at hp
    cases hp
theorem occ_late (s p : ByteArray) (j : Nat) (h : s.size < j + p.size) (hp : p.data.toList ≠ []) : Lib.occAt s.data.toList p.data.toList j = false := by
  cases ho : Lib.occAt s.data.toList p.data.toList j with
  | false => rfl
  | true =>
    have := congrArg List.length (Fm.occ_split ho)
    rw [Lib.size_eq s, Lib.size_eq p] at h
    have h0 : 0 < p.data.toList.length := List.length_pos_iff.2 hp
    simp only [List.length_append, List.length_take, List.length_drop] at this
    omega
theorem none_next {s p : ByteArray} {k : Nat} (H : ∀ j, j < k → Lib.occAt s.data.toList p.data.toList j = false) (h : Lib.occAt s.data.toList p.data.toList k = false) : ∀ j, j < k + 1 → Lib.occAt s.data.toList p.data.toList j = false := by
  intro j hj
  rcases Nat.lt_or_ge j k with h' | h'
  · exact H j h'
  · obtain rfl : j = k := by omega
    exact h
def cutVal (s p : List UInt8) : Value := .tuple #[.string ⟨(Lib.cut s p).1.toArray⟩, .string ⟨(Lib.cut s p).2.1.toArray⟩, .bool (Lib.cut s p).2.2]
theorem ret3_str {a b c d : ByteArray} {x y : Bool} (h1 : a.data.toList = c.data.toList) (h2 : b.data.toList = d.data.toList) (h3 : x = y) : Ending.returned (.tuple #[.string a, .string b, .bool x]) = .returned (.tuple #[.string c, .string d, .bool y]) := by
  obtain ⟨⟨a⟩⟩ := a; obtain ⟨⟨b⟩⟩ := b; obtain ⟨⟨c⟩⟩ := c; obtain ⟨⟨d⟩⟩ := d; simp at h1 h2; rw [h1, h2, h3]

set_option maxHeartbeats 4000000 in
set_option maxRecDepth 100000 in
theorem refCut_any (s p : ByteArray) (hs : s.size + p.size + 1 ≤ 9223372036854775807) (hp : p.data.toList ≠ []) (w : World) :
    Calls Tryd.prog 18 #[.string s, .string p] w fun e w' => e = .returned (cutVal s.data.toList p.data.toList) ∧ ∃ n, w' = w.drewN n := by
  have HP := Lib.hid hp
  clear hp
  go_enter Tryd.func18, Tryd.ntmps18
  go_wp2
  go_loop [7] (fun i => ∃ k : Nat, k ≤ s.size + 1 ∧ i = .int .i64 k ∧ Hid (∀ j, j < k → Lib.occAt s.data.toList p.data.toList j = false)) (fun i => s.size + 1 - (intOf i).toNat)
  case atStart => exact ⟨0, Nat.zero_le _, rfl, fun j hj => by omega⟩
  case round =>
    obtain ⟨k, hk, rfl, H⟩ := hrel
    by_cases hlt : k + p.size ≤ s.size
    · have HO := occ_test s p k hlt
      cases ho : Lib.occAt s.data.toList p.data.toList k with
      | false =>
        have HN := Lib.hid (none_next H.out ho)
        rw [ho] at HO
        clear ho
        go_wp2
        go_round
        case rel => exact ⟨k + 1, by omega, by go_num, HN⟩
        case measure => simp [intOf]; omega
      | true =>
        have HC := Lib.hid (Fm.cut_first s.data.toList p.data.toList k (by rw [← Lib.size_eq]; omega) ho H.out)
        rw [ho] at HO
        clear ho
        go_wp2
        have hw1 : IntKind.i64.wrap ((k : Int) + (p.size : Int)) = (k : Int) + (p.size : Int) := wrap_pos _ (by omega) (by omega)
        have hk0 : (0 : Int) ≤ (k : Int) + (p.size : Int) := by omega
        have ht : ((k : Int) + (p.size : Int)).toNat = k + p.size := by omega
        have hk1 : (k : Int) ≤ (s.size : Int) := by omega
        go_quiet (fail)
        go_wp2
        go_ret3
        refine ⟨ret3_str ?_ ?_ ?_, _, rfl⟩
        · rw [HC.out, Lib.extract_data, List.drop_zero]; rfl
        · rw [HC.out, Lib.extract_to_end, Lib.size_eq p]
        · rw [HC.out]
    · have HC := Lib.hid (Fm.cut_never s.data.toList p.data.toList (fun j _ => by
        rcases Nat.lt_or_ge j k with h | h
        · exact H.out j h
        · exact occ_late s p j (by omega) HP.out))
      go_wp2
      go_ret3
      refine ⟨ret3_str ?_ ?_ ?_, 0, rfl⟩
      all_goals rw [HC.out]
end Go.Proofs.YthiaeppaaahlgaaDoor
