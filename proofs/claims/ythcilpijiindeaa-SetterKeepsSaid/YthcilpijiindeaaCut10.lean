/-
  Parts of slices: of items, of numbers.
-/
import Derived.Test.YthcilpijiindeaaIdx10
set_option linter.unusedVariables false
set_option linter.unusedSimpArgs false
namespace Go.Proofs.Ythcilpijiindeaa
open Go.RowKit

/-! ### parts of a slice of items -/
theorem elemIt : Try.prog.elem 22 = 40 := by kernel_rfl
theorem sizeIt (wx : World) : (sizeOf 40).run Try.prog wx = .ok 9 wx := by kernel_rfl
theorem run_head9 (a : Option Addr) (n k cap : Nat) (h : k ≤ cap) (wx : World) : (Instr.slice 22 (.slice a n cap) none (some (.int .i64 (k : Int))) none).run Try.prog wx = .ok (.slice a k cap) wx := by
  rw [run_slice_h (ht := by rw [elemIt]; exact Try.underlying22) (h0 := by omega) (h2 := by omega), elemIt, sizeIt]
  cases a <;> simp [Result.andThen, sliced, Addr.add]
/-- where the rest of a slice begins -/
def tailA (a : Option Addr) (k cap : Nat) : Option Addr := a.map fun p => if cap = k then p else p.add (k * 9)
theorem run_tail9 (a : Option Addr) (n k cap : Nat) (h : k ≤ n) (wx : World) : (Instr.slice 22 (.slice a n cap) (some (.int .i64 (k : Int))) none none).run Try.prog wx = .ok (.slice (tailA a k cap) (n - k) (cap - k)) wx := by
  rw [run_slice_l (ht := by rw [elemIt]; exact Try.underlying22) (h0 := by omega) (h1 := by omega), elemIt, sizeIt]
  cases a with
  | none => simp [Result.andThen, sliced, tailA]
  | some p =>
    simp [Result.andThen, sliced, tailA]
    split <;> rfl
theorem slc_head {w : World} {a : Option Addr} {cap : Nat} {l : List It.Itm} (h : ItsAt w (.slice a l.length cap) l) (k : Nat) (hk : k ≤ l.length) : ItsAt w (.slice a k cap) (l.take k) := by
  obtain ⟨⟨a', c', e, hc⟩, hm, hx⟩ := h
  injection e with e1 e2 e3
  subst e1 e3
  have hl : (l.take k).length = k := by rw [List.length_take]; omega
  refine ⟨⟨a, cap, by rw [hl], by rw [hl]; omega⟩, by rw [hl]; omega, fun hp => ?_⟩
  rw [hl] at hp
  obtain ⟨b, o, c', e, hq⟩ := hx (by omega)
  injection e with e1 e2 e3
  subst e1 e3
  refine ⟨b, o, cap, by rw [hl], fun i x hi => hq i x ?_⟩
  rw [List.getElem?_take] at hi
  split at hi
  · exact hi
  · cases hi
theorem slc_tail {w : World} {a : Option Addr} {cap : Nat} {l : List It.Itm} (h : ItsAt w (.slice a l.length cap) l) (k : Nat) (hk : k ≤ l.length) : ItsAt w (.slice (tailA a k cap) (l.length - k) (cap - k)) (l.drop k) := by
  obtain ⟨⟨a', c', e, hc⟩, hm, hx⟩ := h
  injection e with e1 e2 e3
  subst e1 e3
  have hl : (l.drop k).length = l.length - k := List.length_drop ..
  refine ⟨⟨_, _, by rw [hl], by rw [hl]; omega⟩, by rw [hl]; omega, fun hp => ?_⟩
  rw [hl] at hp
  obtain ⟨b, o, c', e, hq⟩ := hx (by omega)
  injection e with e1 e2 e3
  subst e1 e3
  refine ⟨b, o + k * 9, cap - k, ?_, fun i x hi => ?_⟩
  · rw [hl]
    have : ¬ cap = k := by omega
    simp [tailA, this, Addr.add]
  · rw [List.getElem?_drop] at hi
    have := hq (k + i) x hi
    rw [show o + k * 9 + i * 9 = o + (k + i) * 9 by omega]
    exact this
theorem slc_mid {w : World} {a : Option Addr} {cap : Nat} {l : List It.Itm} {n : Nat} (hn : n = l.length) (h : ItsAt w (.slice a n cap) l) (k m : Nat) (hk : k ≤ m) (hm : m ≤ n) : ItsAt w (.slice (tailA a k cap) (m - k) (cap - k)) ((l.take m).drop k) := by
  subst hn
  have h1 := slc_head h m hm
  have hl : (l.take m).length = m := by rw [List.length_take]; omega
  have h2 := slc_tail (l := l.take m) (a := a) (cap := cap) (by rw [hl]; exact h1) k (by rw [hl]; exact hk)
  rw [hl] at h2
  exact h2
theorem run_mid10 (a : Option Addr) (n k m cap : Nat) (h : k ≤ m) (h2 : m ≤ cap) (wx : World) : (Instr.slice 22 (.slice a n cap) (some (.int .i64 (k : Int))) (some (.int .i64 (m : Int))) none).run Try.prog wx = .ok (.slice (tailA a k cap) (m - k) (cap - k)) wx := by
  rw [run_slice_lh (ht := by rw [elemIt]; exact Try.underlying22) (h0 := by omega) (h1 := by omega) (h2 := by omega), elemIt, sizeIt]
  cases a with
  | none => simp [Result.andThen, sliced, tailA]
  | some p =>
    simp [Result.andThen, sliced, tailA]
    split <;> rfl
end Go.Proofs.Ythcilpijiindeaa
