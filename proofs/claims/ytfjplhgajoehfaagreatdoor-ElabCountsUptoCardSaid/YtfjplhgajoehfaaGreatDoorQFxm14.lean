/-
  What the document's example says.
-/
import Derived.Test.YtfjplhgajoehfaaGreatDoorQSml14
set_option linter.unusedVariables false
namespace Go.Proofs.YtfjplhgajoehfaaGreatDoor
open Go.RowKit
/-- what the law's fixed looks at -/
def glance : El.Res → Option (List (List (List UInt8) × List (Nat × Nat)))
  | .ok s => some (s.sides.map fun d => (d.words, d.notes.map fun n => (n.fr, n.til)))
  | .bad _ _ => none
def badOf : El.Res → Option (Int × Int)
  | .ok _ => none
  | .bad c a => some (c, a)
theorem glance_small_k (k : Nat) : glance (El.made [] (k + 2) smallL) = some [([[97], [98], [99], [101]], [(1, 3)])] := by kernel_rfl
theorem bad_none_k (k : Nat) : (badOf (El.made [] (k + 2) [])).map (·.1) = some 140 := by kernel_rfl
theorem bad_word_k (k : Nat) : (badOf (El.made [] (k + 2) [.mk false [97] [] 0])).map (·.1) = some 141 := by kernel_rfl
theorem deep_two : El.deepest = 65534 + 2 := by unfold El.deepest; omega
theorem made_none : ∃ a, El.made [] El.deepest [] = .bad 140 a := by
  have h := bad_none_k 65534
  rw [← deep_two] at h
  cases e : El.made [] El.deepest [] with
  | ok s => rw [e] at h; cases h
  | bad c a => rw [e] at h; simp [badOf] at h; exact ⟨a, by rw [h]⟩
theorem made_word : ∃ a, El.made [] El.deepest [.mk false [97] [] 0] = .bad 141 a := by
  have h := bad_word_k 65534
  rw [← deep_two] at h
  cases e : El.made [] El.deepest [.mk false [97] [] 0] with
  | ok s => rw [e] at h; cases h
  | bad c a => rw [e] at h; simp [badOf] at h; exact ⟨a, by rw [h]⟩
theorem made_small : ∃ s d n, El.made [] El.deepest smallL = .ok s ∧ s.sides = [d] ∧ d.words = [[97], [98], [99], [101]] ∧ d.notes = [n] ∧ n.fr = 1 ∧ n.til = 3 := by
  have h := glance_small_k 65534
  rw [← deep_two] at h
  cases e : El.made [] El.deepest smallL with
  | bad c a => rw [e] at h; cases h
  | ok s =>
    rw [e] at h
    have h2 := Option.some.inj h
    match hs : s.sides with
    | [] => rw [hs] at h2; cases h2
    | [d] =>
      rw [hs] at h2
      injection h2 with h3 _
      injection h3 with h4 h5
      match hn : d.notes with
      | [] => rw [hn] at h5; cases h5
      | [n] =>
        rw [hn] at h5
        injection h5 with h6 _
        injection h6 with h7 h8
        exact ⟨s, d, n, rfl, hs, h4, hn, h7, h8⟩
      | n :: m :: r => rw [hn] at h5; injection h5 with _ h6; cases h6
    | d :: d2 :: r => rw [hs] at h2; injection h2 with _ h3; cases h3
end Go.Proofs.YtfjplhgajoehfaaGreatDoor
