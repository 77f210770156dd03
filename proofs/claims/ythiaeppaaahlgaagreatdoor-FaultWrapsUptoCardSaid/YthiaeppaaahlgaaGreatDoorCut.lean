/-
  When a stage's name is valid, and that the program's validName says so.
-/
import Derived.Test.YthiaeppaaahlgaaGreatDoorNum
import Derived.Lib.IndexMore
import Derived.Deep.QuietTactic
import Derived.BigQuiet
import Derived.RegionTactic
import Derived.OwnWalk
import Derived.Lib.IndexBytes
set_option linter.unusedVariables false
set_option linter.unusedSimpArgs false
namespace Go.Proofs.YthiaeppaaahlgaaGreatDoor
open Go.RowKit

def okByte (c : UInt8) : Bool := decide (97 ≤ c.toNat ∧ c.toNat ≤ 122)
theorem okName_eq (l : List UInt8) : Fm.okName l = (!l.isEmpty && l.all okByte) := rfl
theorem all_next {l : List UInt8} {k : Nat} {c : UInt8} (h : (l.take k).all okByte = true) (hc : l[k]? = some c) (hd : 97 ≤ (c.toNat : Int) ∧ (c.toNat : Int) ≤ 122) : (l.take (k + 1)).all okByte = true := by
  rw [take_next _ _ _ hc, List.all_append, h]
  simp [okByte]; omega
theorem name_bad {l : List UInt8} {k : Nat} {c : UInt8} (hc : l[k]? = some c) (hd : ¬ (97 ≤ (c.toNat : Int) ∧ (c.toNat : Int) ≤ 122)) : Fm.okName l = false := by
  rw [okName_eq]
  have : l.all okByte = false := by
    rw [List.all_eq_false]
    refine ⟨c, List.mem_of_getElem? hc, ?_⟩
    unfold okByte
    simp
    omega
  rw [this, Bool.and_false]
theorem name_end {s : ByteArray} {k : Nat} (h : (s.data.toList.take k).all okByte = true) (hk : s.size ≤ k) : Fm.okName s.data.toList = decide (0 < s.size) := by
  rw [List.take_of_length_le (by rw [← Lib.size_eq]; exact hk)] at h
  rw [okName_eq, h, Bool.and_true, Lib.size_eq]
  cases s.data.toList <;> simp
theorem ret_bool {a b : Bool} (h : a = b) : Ending.returned (.bool a) = .returned (.bool b) := by rw [h]

set_option maxHeartbeats 2000000 in
set_option maxRecDepth 100000 in
theorem validName_any (s : ByteArray) (hs : s.size ≤ 9223372036854775807) (w : World) :
    Calls Tryz.prog 17 #[.string s] w fun e w' => e = .returned (.bool (Fm.okName s.data.toList)) ∧ w' = w := by
  go_enter Tryz.func17, Tryz.ntmps17
  go_wp2
  go_loop [6] (fun i => ∃ k : Nat, k ≤ s.size ∧ i = .int .i64 k ∧ Hid ((s.data.toList.take k).all okByte = true)) (fun i => s.size - (intOf i).toNat)
  case atStart => exact ⟨0, Nat.zero_le _, rfl, by show _ = _; simp⟩
  case round =>
    obtain ⟨k, hk, rfl, H⟩ := hrel
    by_cases hlt : k < s.size
    · by_cases hd : 97 ≤ (s[k].toNat : Int) ∧ (s[k].toNat : Int) ≤ 122
      · have HN := Lib.hid (all_next H.out (byte_at s k hlt) hd)
        obtain ⟨hd1, hd2⟩ := hd
        go_wp2
        go_round
        case rel => exact ⟨k + 1, by omega, by go_num, HN⟩
        case measure => simp [intOf]; omega
      · have hbad := Lib.hid (name_bad (byte_at s k hlt) hd)
        go_wp2
        all_goals go_ret
        all_goals exact ⟨ret_bool hbad.out.symm, rfl⟩
    · have hend := Lib.hid (name_end H.out (show s.size ≤ k by omega))
      go_wp2
      all_goals go_ret
      all_goals refine ⟨ret_bool ?_, rfl⟩
      all_goals rw [hend.out, Lib.toList_data, Lib.size_eq]
      all_goals (cases s.data.toList <;> simp)
end Go.Proofs.YthiaeppaaahlgaaGreatDoor
