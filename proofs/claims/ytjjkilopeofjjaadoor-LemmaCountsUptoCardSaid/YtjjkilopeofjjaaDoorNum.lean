/-
  How long decimal numerals are, and small facts on bytes of a text.
-/
import Derived.Test.YtjjkilopeofjjaaDoorBase
import Derived.Test.YtjjkilopeofjjaaDoorProg
import Derived.Test.YtjjkilopeofjjaaDoorMath
import Derived.Tactics
import Derived.Tactics2
import Derived.WalkKit
import Derived.LoopTactic
import Derived.Deep.LoopGhost
import Derived.Lib.Walk
import Derived.Lib.Hide
import Derived.WalkSpells
import Derived.IntWalk
import Derived.KernelRfl
set_option linter.unusedVariables false
set_option linter.unusedSimpArgs false
namespace Go.Proofs.YtjjkilopeofjjaaDoor
open Go.RowKit

theorem nDigits_le : ∀ (j N : Nat), 1 ≤ j → N < 10 ^ j → Lib.nDigits N ≤ j
  | 0, _, h, _ => by omega
  | 1, N, _, h => by rw [Lib.nDigits_small (by simpa using h)]; omega
  | j + 2, N, _, h => by
    by_cases hN : N < 10
    · rw [Lib.nDigits_small hN]; omega
    · rw [Lib.nDigits_big hN]
      have := nDigits_le (j + 1) (N / 10) (by omega) (by rw [Nat.pow_succ] at h; omega)
      omega
theorem dec_len (N : Nat) (h : N ≤ 18446744073709551615) : (Lib.decDigits N).length ≤ 20 := by
  rw [Lib.decDigits_length]
  exact nDigits_le 20 N (by omega) (by have : (10 : Nat) ^ 20 = 100000000000000000000 := by decide
                                       rw [this]; omega)
theorem num_len {l : List UInt8} {v : Int} (h : Fm.num l = some v) : l.length ≤ 20 := by
  have hr := Fm.num_range h
  rw [Fm.num_some h]
  unfold Lib.itoa
  split
  · rw [List.length_cons, Lib.decDigits_length]
    have := nDigits_le 19 v.natAbs (by omega) (by have : (10 : Nat) ^ 19 = 10000000000000000000 := by decide
                                                  rw [this]; omega)
    omega
  · exact dec_len _ (by omega)
end Go.Proofs.YtjjkilopeofjjaaDoor
