/-
  Words that are codes or lengths: small facts that the reference's walk and the program's share.
-/
import Derived.Test.YtmehldekebphfaaGreatDoorParse
import Derived.Test.YtmehldekebphfaaGreatDoorRefSplit7
set_option linter.unusedVariables false
set_option linter.unusedSimpArgs false
namespace Go.Proofs.YtmehldekebphfaaGreatDoor
open Go.RowKit

theorem lenB_parse {l : List UInt8} {n : Int} (h : Mt.lenB l = some n) : parseV l = n := by
  unfold Mt.lenB at h
  unfold parseV
  cases hp : Sc.parse l with
  | none => rw [hp] at h; cases h
  | some k =>
    rw [hp] at h
    simp only [] at h
    split at h
    · injection h
    · cases h
theorem lenB_is (l : List UInt8) : (Mt.lenB l).isSome = (parseB l && decide (Sc.print (parseV l) = l)) := by
  unfold Mt.lenB parseB parseV
  cases hp : Sc.parse l with
  | none => rfl
  | some k =>
    simp only [Option.isSome_some, Bool.true_and, Option.getD_some]
    by_cases h : Sc.print k = l
    · rw [if_pos h, decide_eq_true h]; rfl
    · rw [if_neg h, decide_eq_false h]; rfl
theorem bytes_eq7 (l : List UInt8) (s : ByteArray) : ((⟨l.toArray⟩ : ByteArray).toList == s.toList) = decide (l = s.data.toList) := by
  rw [Lib.toList_data, Lib.toList_data]
  by_cases h : l = s.data.toList
  · rw [decide_eq_true h]; simp [h]
  · rw [decide_eq_false h]; exact beq_eq_false_iff_ne.2 (by simpa using h)

theorem dec_bound : ∀ (m k : Nat), (Lib.decDigits k).length ≤ m → k < 10 ^ m
  | 0, k, h => by
    exfalso
    rw [Lib.decDigits] at h
    split at h <;> simp at h
  | m + 1, k, h => by
    by_cases hk : k < 10
    · have : 1 ≤ 10 ^ m := Nat.one_le_pow _ _ (by decide)
      rw [Nat.pow_succ]
      omega
    · rw [Lib.decDigits, dif_neg hk, List.length_append, List.length_singleton] at h
      have := dec_bound m (k / 10) (by omega)
      rw [Nat.pow_succ]
      omega
theorem code_bound {l : List UInt8} {n : Int} (h : Mt.codeB l = some n) : 0 ≤ n ∧ n < 10000000 := by
  obtain ⟨_, h0, h1⟩ := Mt.codeB_some h
  refine ⟨h0, ?_⟩
  obtain ⟨u, rfl⟩ : ∃ u : Nat, n = (u : Int) := ⟨n.toNat, by omega⟩
  rw [Lib.itoa_nonneg] at h1
  have := dec_bound 7 u (by omega)
  omega
theorem num_of_ok {l : List UInt8} {v : Int} (h : Lib.atoiAll l = .ok v) : Fm.num l = if Lib.itoa v = l then some v else none := by
  unfold Fm.num; rw [h]
theorem num_of_bad {l : List UInt8} (h : ∀ v, Lib.atoiAll l ≠ .ok v) : Fm.num l = none := by
  unfold Fm.num
  split
  · rename_i v hv; exact absurd hv (h v)
  · rfl
theorem codeB_no {l : List UInt8} (h : Fm.num l = none) : Mt.codeB l = none := by unfold Mt.codeB; rw [h]
theorem codeB_long {l : List UInt8} (h : 7 < l.length) : Mt.codeB l = none := by
  unfold Mt.codeB
  split
  · rw [if_neg (by omega)]
  · rfl
theorem codeB_neg {l : List UInt8} {v : Int} (h : Lib.atoiAll l = .ok v) (h0 : v < 0) : Mt.codeB l = none := by
  unfold Mt.codeB
  rw [num_of_ok h]
  split
  · rename_i n hn
    split at hn
    · injection hn with hn; subst hn; rw [if_neg (by omega)]
    · cases hn
  · rfl
theorem codeB_yes {l : List UInt8} {v : Int} (h : Lib.atoiAll l = .ok v) (h0 : 0 ≤ v) (hl : l.length ≤ 7) (hi : Lib.itoa v = l) : Mt.codeB l = some v := by
  unfold Mt.codeB
  rw [num_of_ok h, if_pos hi]
  simp only []
  rw [if_pos ⟨h0, by omega⟩]
theorem below_bytes {w w' : World} {e : TypeId} (h : w' = w ∨ ∃ t, w' = Lib.bytesWorld w e t) : Below w.heap.size w w' := by
  rcases h with rfl | ⟨t, rfl⟩
  · exact Below.refl _ _
  · exact Lib.bytesWorld_below _ _ _
end Go.Proofs.YtmehldekebphfaaGreatDoor
