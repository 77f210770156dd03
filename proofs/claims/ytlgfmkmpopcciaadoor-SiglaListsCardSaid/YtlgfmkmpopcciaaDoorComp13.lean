/-
  The plain mathematics of a list in short: runs, their words, a blank ahead of each; no program is mentioned here.
-/
import Derived.Test.YtlgfmkmpopcciaaDoorRun13
import Derived.Test.YtlgfmkmpopcciaaDoorSgB13
set_option linter.unusedVariables false
set_option linter.unusedSimpArgs false
namespace Go.Proofs.YtlgfmkmpopcciaaDoor
open Go.Proofs.YtlgfmkmpopcciaaDoor

theorem comp_run (P : List UInt8 → Bool) : ∀ (run acc rest : List (List UInt8)), (∀ k ∈ run, P k = true) → Sg.comp P acc (run ++ rest) = Sg.comp P (acc ++ run) rest
  | [], acc, rest, _ => by simp
  | k :: r, acc, rest, h => by
    rw [List.cons_append]
    simp only [Sg.comp]
    rw [if_pos (h k List.mem_cons_self), comp_run P r (acc ++ [k]) rest (fun m hm => h m (List.mem_cons_of_mem _ hm)), List.append_assoc]
    rfl
/-- one run, and what follows it -/
theorem comp_step (P : List UInt8 → Bool) (run : List (List UInt8)) (h : ∀ k ∈ run, P k = true) : Sg.comp P [] run = Sg.emit run ∧ ∀ k rest, P k = false → Sg.comp P [] (run ++ k :: rest) = Sg.emit run ++ Sg.comp P [] rest := by
  constructor
  · have := comp_run P run [] [] h
    rw [List.append_nil, List.nil_append] at this
    rw [this]
    rfl
  · intro k rest hk
    rw [comp_run P run [] (k :: rest) h, List.nil_append]
    simp only [Sg.comp]
    rw [if_neg (by rw [hk]; decide)]
theorem emit_words {run : List (List UInt8)} (h : ∀ k ∈ run, k.length ≤ 8) : (Sg.emit run).length ≤ run.length ∧ ∀ w ∈ Sg.emit run, w.length ≤ 20 := by
  unfold Sg.emit
  split
  · rename_i h3
    refine ⟨by simp; omega, fun w hw => ?_⟩
    rw [List.mem_singleton] at hw
    subst hw
    have h0 : (run.headD []).length ≤ 8 := by
      cases run with
      | nil => simp
      | cons x r => exact h x List.mem_cons_self
    have h1 : (run.getLastD []).length ≤ 8 := by
      rw [List.getLastD_eq_getLast?]
      cases e : run.getLast? with
      | none => simp
      | some x => exact h x (List.mem_of_getLast? e)
    rw [List.length_append, List.length_append]
    have : Sg.dd.length = 2 := rfl
    omega
  · exact ⟨Nat.le_refl _, fun w hw => Nat.le_trans (h w hw) (by omega)⟩
theorem comp_words (P : List UInt8 → Bool) : ∀ (rest run : List (List UInt8)), (∀ k ∈ run, k.length ≤ 8) → (∀ k ∈ rest, k.length ≤ 8) → (Sg.comp P run rest).length ≤ run.length + rest.length ∧ ∀ w ∈ Sg.comp P run rest, w.length ≤ 20
  | [], run, h, _ => by
    simp only [Sg.comp]
    exact ⟨by simpa using (emit_words h).1, (emit_words h).2⟩
  | k :: r, run, h, hr => by
    have hr2 : ∀ m ∈ r, m.length ≤ 8 := fun m hm => hr m (List.mem_cons_of_mem _ hm)
    simp only [Sg.comp]
    split
    · have := comp_words P r (run ++ [k]) (fun m hm => by
        rcases List.mem_append.1 hm with hm | hm
        · exact h m hm
        · rw [List.mem_singleton] at hm; subst hm; exact hr m List.mem_cons_self) hr2
      refine ⟨?_, this.2⟩
      have h1 := this.1
      rw [List.length_append] at h1
      simp at h1 ⊢
      omega
    · have h1 := comp_words P r [] (by simp) hr2
      have h2 := emit_words h
      refine ⟨?_, fun w hw => ?_⟩
      · rw [List.length_append]
        have := h1.1
        simp at this ⊢
        omega
      · rcases List.mem_append.1 hw with hw | hw
        · exact h2.2 w hw
        · exact h1.2 w hw
theorem spaced_join : ∀ (w : List UInt8) (r : List (List UInt8)), spaced (w :: r) = 32 :: Mt.join 32 (w :: r)
  | w, [] => by simp [spaced, Mt.join]
  | w, a :: r => by
    have ih := spaced_join a r
    rw [Mt.join_cons 32 w (by simp)]
    unfold spaced at ih ⊢
    rw [List.flatMap_cons, ih]
    rfl
/-- the blank ahead of all goes -/
theorem trim_spaced (ws : List (List UInt8)) : Lib.trimPrefix (spaced ws) [32] = Mt.join 32 ws := by
  cases ws with
  | nil => rfl
  | cons w r =>
    rw [spaced_join]
    simp [Lib.trimPrefix, Lib.hasPrefix]
end Go.Proofs.YtlgfmkmpopcciaaDoor
