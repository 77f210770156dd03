/-
  What Lex answers, its parts by name; tokens that a statement lays itself; bounds.
-/
import Derived.Test.YtjlnffdklhmonaaDoorCalls5
import Derived.Test.YtjlnffdklhmonaaDoorRefPlain
import Derived.Test.YtjlnffdklhmonaaDoorFltEq
set_option linter.unusedVariables false
set_option linter.unusedSimpArgs false
namespace Go.Proofs.YtjlnffdklhmonaaDoor
open Go.RowKit

def LexIs (ts : List Tok) (c a : Int) (w : World) (e : Ending) (w' : World) : Prop :=
  ∃ v, e = .returned (.tuple #[v, .agg #[.int .i64 c, .int .i64 a]]) ∧ OwnT w.heap.size v ts w' ∧ Below w.heap.size w w'
theorem lex_post {l : List UInt8} {w : World} {e : Ending} {w' : World} {ts : List Tok} {c a : Int} (h : LexPost l w e w') (h1 : Lx.lexL l = ts) (h2 : Lx.lexC l = c) (h3 : Lx.lexA l = a) : LexIs ts c a w e w' := by
  obtain ⟨v, he, hv, hb⟩ := h
  exact ⟨v, by rw [he, h2, h3]; rfl, by rw [← h1]; exact hv, hb⟩
theorem lex_is (s : ByteArray) (hs : s.size * 32 ≤ 140737488355328) (ts : List Tok) (c a : Int) (h1 : Lx.lexL s.data.toList = ts) (h2 : Lx.lexC s.data.toList = c) (h3 : Lx.lexA s.data.toList = a) (w : World) (hT : Tabs w) :
    Calls Tryd.prog 10 #[.string s] w (LexIs ts c a w) := (lex_any s hs w hT).mono fun _ _ h => lex_post h h1 h2 h3
theorem toks_new (w : World) (ts : List Tok) (T : TypeId) (hn : ts.length ≤ maxLen) : ToksAt (w.alloc (.cells (allCells ts).toArray T)) (.slice (some ⟨w.heap.size, 0, none⟩) ts.length ts.length) ts := by
  refine ⟨⟨_, _, rfl, Nat.le_refl _⟩, hn, fun _ => ⟨_, 0, _, rfl, fun i t ht => ?_⟩⟩
  obtain ⟨a1, a2, a3⟩ := allCells_at ts i t ht
  have e1 : (0 + i * 3) + 1 = i * 3 + 1 := by omega
  have e2 : (0 + i * 3) + 2 = i * 3 + 2 := by omega
  exact ⟨by rw [Nat.zero_add]; simpa using a1, by rw [e1]; simpa using a2, by rw [e2]; simpa using a3⟩

/-! ### how many tokens a source has, and how long they are -/
theorem lexF_room : ∀ (f p : Nat) (l : List UInt8), Lx.room (Lx.lexF f p l).1 ≤ 4 * l.length
  | 0, p, l => Nat.zero_le _
  | f + 1, p, [] => Nat.zero_le _
  | f + 1, p, c :: r => by
    unfold Lx.lexF
    have hp := Lx.step_pos (l := c :: r)
    cases hs : Lx.step (c :: r) with
    | bad => exact Nat.zero_le _
    | gap n =>
      simp only []
      have h1 := lexF_room f (p + n) ((c :: r).drop n)
      rw [List.length_drop] at h1
      omega
    | tok k t n =>
      simp only []
      rw [hs] at hp
      have hn := hp (by simp)
      simp only [Lx.Step.len] at hn
      have h1 := lexF_room f (p + n) ((c :: r).drop n)
      rw [List.length_drop] at h1
      have h2 : t.length ≤ n ∧ n ≤ (c :: r).length := by
        rw [Lx.step_cons] at hs
        split at hs
        · cases hs
        · split at hs
          · cases hs
          · split at hs
            · injection hs with _ e1 e2; subst e1 e2; simp
            · split at hs
              · injection hs with _ e1 e2; subst e1 e2; simp
              · split at hs
                · injection hs with _ e1 e2
                  subst e1 e2
                  have h3 := congrArg List.length (List.takeWhile_append_dropWhile (p := Lx.alpha) (l := r))
                  rw [List.length_append] at h3
                  simp only [List.length_cons]
                  omega
                · split at hs
                  · cases hs
                  · injection hs with _ e1 e2
                    subst e1 e2
                    have h3 := word_len (c :: r).length (c :: r) (Nat.le_refl _)
                    have h4 := (Lx.word_is (c :: r).length (c :: r) (Nat.le_refl _)).1
                    exact ⟨h3, h4⟩
      unfold Lx.room at h1 ⊢
      rw [List.map_cons, List.sum_cons]
      simp only []
      omega
theorem lexL_room (l : List UInt8) : Lx.room (Lx.lexL l) ≤ 4 * l.length := by
  unfold Lx.lexL
  split
  · exact lexF_room _ _ _
  · exact Nat.zero_le _
theorem room_len (ts : List Tok) : 2 * ts.length ≤ Lx.room ts := by
  unfold Lx.room
  induction ts with
  | nil => exact Nat.le_refl _
  | cons t r ih => rw [List.map_cons, List.sum_cons, List.length_cons]; omega
theorem room_plain (ts : List Tok) : Lx.room (ts.map Lx.plain) = Lx.room ts := by
  unfold Lx.room
  rw [List.map_map]
  rfl
theorem print_len (ts : List Tok) : (Lx.print ts).length ≤ Lx.room ts := by
  unfold Lx.print
  split
  · exact Lx.prs_len ts
  · exact Nat.zero_le _
end Go.Proofs.YtjlnffdklhmonaaDoor
