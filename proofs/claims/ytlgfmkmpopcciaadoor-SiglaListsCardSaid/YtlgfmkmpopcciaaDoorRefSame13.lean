/-
  The reference's Texts and Same, at lists that are the same, wherever each lies.
-/
import Derived.Test.YtlgfmkmpopcciaaDoorApp13
set_option linter.unusedVariables false
set_option linter.unusedSimpArgs false
namespace Go.Proofs.YtlgfmkmpopcciaaDoor
open Go.RowKit

def BoolD (b : Bool) (w : World) (e : Ending) (w' : World) : Prop := e = .returned (.bool b) ∧ ∃ n, w' = w.drewN n
set_option maxHeartbeats 4000000 in
set_option maxRecDepth 100000 in
theorem texts_self (v1 v2 : Value) (xs : List (List UInt8)) (w : World) (h1 : TxsAt w v1 xs) (h2 : TxsAt w v2 xs) : Calls Tryd.prog 23 #[v1, v2] w (BoolD true w) := by
  obtain ⟨⟨p1, c1, rfl, _⟩, m1, k1⟩ := h1
  obtain ⟨⟨p2, c2, rfl, _⟩, m2, k2⟩ := h2
  have hn : xs.length ≤ 9223372036854775807 := by unfold maxLen at m1; omega
  have HK1 := Lib.hid k1
  have HK2 := Lib.hid k2
  clear k1 k2 m1 m2
  go_enter Tryd.func23, Tryd.ntmps23
  go_wp2
  go_loopw [5] (fun i wr => ∃ k m : Nat, k ≤ xs.length ∧ i = .int .i64 k ∧ wr = w.drewN m) (fun i _ => xs.length - (intOf i).toNat)
  case atStart => exact ⟨0, 0, Nat.zero_le _, rfl, rfl⟩
  case round =>
    obtain ⟨k, m, hk, rfl, rfl⟩ := hrel
    by_cases hlt : k < xs.length
    · obtain ⟨b1, o1, d1, e1, q1⟩ := HK1.out (by omega)
      obtain ⟨b2, o2, d2, e2, q2⟩ := HK2.out (by omega)
      obtain ⟨rfl, rfl⟩ : p1 = some ⟨b1, o1, none⟩ ∧ c1 = d1 := by injection e1 with a1 a2 a3; exact ⟨a1, a3⟩
      obtain ⟨rfl, rfl⟩ : p2 = some ⟨b2, o2, none⟩ ∧ c2 = d2 := by injection e2 with a1 a2 a3; exact ⟨a1, a3⟩
      obtain ⟨s, hs⟩ : ∃ s, xs[k]? = some s := ⟨_, List.getElem?_eq_getElem hlt⟩
      have y1 := tx_cells (q1 k s hs)
      have y2 := tx_cells (q2 k s hs)
      rw [Nat.mul_one] at y1 y2
      have k0 : (0 : Int) ≤ (k : Int) := by omega
      have kl : (k : Int) < (xs.length : Int) := by omega
      clear q1 q2 e1 e2 hs
      go_wp2_with fail
      go_quiet (fail)
      go_wp2
      go_roundw
      case rel => exact ⟨k + 1, m + nq, by omega, by go_num, rfl⟩
      case measure => simp [intOf]; omega
    · go_wp2
      go_ret
      exact ⟨rfl, m, rfl⟩
set_option maxHeartbeats 4000000 in
set_option maxRecDepth 100000 in
theorem same_self (v1 v2 : Value) (xs : List Sg.Sig) (w : World) (h1 : SgsAt w v1 xs) (h2 : SgsAt w v2 xs) : Calls Tryd.prog 12 #[v1, v2] w (BoolD true w) := by
  obtain ⟨⟨p1, c1, rfl, _⟩, m1, k1⟩ := h1
  obtain ⟨⟨p2, c2, rfl, _⟩, m2, k2⟩ := h2
  have hn : xs.length ≤ 9223372036854775807 := by unfold maxLen at m1; omega
  have HK1 := Lib.hid k1
  have HK2 := Lib.hid k2
  clear k1 k2 m1 m2
  go_enter Tryd.func12, Tryd.ntmps12
  go_wp2
  go_loopw [5] (fun i wr => ∃ k m : Nat, k ≤ xs.length ∧ i = .int .i64 k ∧ wr = w.drewN m) (fun i _ => xs.length - (intOf i).toNat)
  case atStart => exact ⟨0, 0, Nat.zero_le _, rfl, rfl⟩
  case round =>
    obtain ⟨k, m, hk, rfl, rfl⟩ := hrel
    by_cases hlt : k < xs.length
    · obtain ⟨b1, o1, d1, e1, q1⟩ := HK1.out (by omega)
      obtain ⟨b2, o2, d2, e2, q2⟩ := HK2.out (by omega)
      obtain ⟨rfl, rfl⟩ : p1 = some ⟨b1, o1, none⟩ ∧ c1 = d1 := by injection e1 with a1 a2 a3; exact ⟨a1, a3⟩
      obtain ⟨rfl, rfl⟩ : p2 = some ⟨b2, o2, none⟩ ∧ c2 = d2 := by injection e2 with a1 a2 a3; exact ⟨a1, a3⟩
      obtain ⟨s, hs⟩ : ∃ s, xs[k]? = some s := ⟨_, List.getElem?_eq_getElem hlt⟩
      obtain ⟨y1, z1⟩ := sg_cells (q1 k s hs)
      obtain ⟨y2, z2⟩ := sg_cells (q2 k s hs)
      have k0 : (0 : Int) ≤ (k : Int) := by omega
      have kl : (k : Int) < (xs.length : Int) := by omega
      clear q1 q2 e1 e2 hs
      go_wp2_with fail
      go_quiet (fail)
      go_wp2
      go_roundw
      case rel => exact ⟨k + 1, m + nq, by omega, by go_num, rfl⟩
      case measure => simp [intOf]; omega
    · go_wp2
      go_ret
      exact ⟨rfl, m, rfl⟩
end Go.Proofs.YtlgfmkmpopcciaaDoor
