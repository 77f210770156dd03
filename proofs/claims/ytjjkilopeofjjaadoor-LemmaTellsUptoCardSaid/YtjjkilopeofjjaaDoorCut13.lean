/-
  Plain mathematics: a text at each place of a byte, and back; no program is mentioned here.
-/
import Derived.Test.YtjjkilopeofjjaaDoorProg
set_option linter.unusedVariables false
set_option linter.unusedSimpArgs false
namespace Go.Proofs.YtjjkilopeofjjaaDoor.Mt

def split (c : UInt8) : List UInt8 → List (List UInt8)
  | [] => [[]]
  | x :: r => if x = c then [] :: split c r else match split c r with
    | [] => [[x]]
    | h :: t => (x :: h) :: t
def join (c : UInt8) : List (List UInt8) → List UInt8
  | [] => []
  | [l] => l
  | l :: m :: r => l ++ c :: join c (m :: r)
theorem split_ne (c : UInt8) : ∀ l, split c l ≠ []
  | [] => by simp [split]
  | x :: r => by
    unfold split
    split
    · simp
    · have := split_ne c r
      split <;> simp
theorem join_cons (c : UInt8) (l : List UInt8) {r : List (List UInt8)} (h : r ≠ []) : join c (l :: r) = l ++ c :: join c r := by
  cases r with
  | nil => exact absurd rfl h
  | cons m r => rfl
theorem join_split (c : UInt8) : ∀ l, join c (split c l) = l
  | [] => rfl
  | x :: r => by
    have ih := join_split c r
    have hn := split_ne c r
    unfold split
    split
    · rename_i hx
      rw [join_cons c [] hn, ih, hx]
      rfl
    · cases hs : split c r with
      | nil => exact absurd hs hn
      | cons h t =>
        rw [hs] at ih
        cases t with
        | nil => simp only [join] at ih ⊢; rw [ih]
        | cons m t => rw [join_cons c h (by simp)] at ih; simp only []; rw [join_cons c (x :: h) (by simp), ← ih]; rfl
theorem split_plain {c : UInt8} : ∀ {l : List UInt8}, c ∉ l → split c l = [l]
  | [], _ => rfl
  | x :: r, h => by
    have h1 : x ≠ c := fun e => h (by rw [e]; exact List.mem_cons_self ..)
    have h2 := split_plain (l := r) (c := c) (fun e => h (List.mem_cons_of_mem _ e))
    unfold split
    rw [if_neg h1, h2]
theorem split_at (c : UInt8) (r : List UInt8) : split c (c :: r) = [] :: split c r := by
  show (if c = c then _ else _) = _
  rw [if_pos rfl]
theorem split_on {c x : UInt8} (h : x ≠ c) {r p : List UInt8} {t : List (List UInt8)} (e : split c r = p :: t) : split c (x :: r) = (x :: p) :: t := by
  rw [split, if_neg h, e]
theorem split_more {c : UInt8} (r : List UInt8) : ∀ {l : List UInt8}, c ∉ l → split c (l ++ c :: r) = l :: split c r
  | [], _ => by rw [List.nil_append, split_at]
  | x :: l, h => by
    have h1 : x ≠ c := fun e => h (by rw [e]; exact List.mem_cons_self ..)
    have h2 := split_more r (l := l) (c := c) (fun e => h (List.mem_cons_of_mem _ e))
    rw [List.cons_append, split_on h1 h2]
theorem split_join {c : UInt8} : ∀ {ls : List (List UInt8)}, ls ≠ [] → (∀ l ∈ ls, c ∉ l) → split c (join c ls) = ls
  | [], h, _ => absurd rfl h
  | [l], _, h => split_plain (h l (List.mem_cons_self ..))
  | l :: m :: r, _, h => by
    rw [join_cons c l (by simp), split_more _ (h l (List.mem_cons_self ..)), split_join (by simp) (fun x hx => h x (List.mem_cons_of_mem _ hx))]
theorem split_free (c : UInt8) : ∀ (l : List UInt8), ∀ p ∈ split c l, c ∉ p
  | [], p, hp => by simp [split] at hp; simp [hp]
  | x :: r, p, hp => by
    have ih := split_free c r
    have hn := split_ne c r
    unfold split at hp
    split at hp
    · rcases List.mem_cons.1 hp with rfl | hp
      · simp
      · exact ih p hp
    · rename_i hx
      cases hs : split c r with
      | nil => exact absurd hs hn
      | cons h t =>
        rw [hs] at hp ih
        simp only [] at hp
        rcases List.mem_cons.1 hp with rfl | hp
        · intro hm
          rcases List.mem_cons.1 hm with e | hm
          · exact hx e.symm
          · exact ih h (List.mem_cons_self ..) hm
        · exact ih p (List.mem_cons_of_mem _ hp)
/-- lines, each with its end, and what lies behind them -/
theorem split_lines {c : UInt8} (r : List UInt8) : ∀ {ls : List (List UInt8)}, (∀ l ∈ ls, c ∉ l) → split c ((ls.flatMap fun l => l ++ [c]) ++ r) = ls ++ split c r
  | [], _ => rfl
  | l :: ls, h => by
    have e : ((l :: ls).flatMap fun l => l ++ [c]) ++ r = l ++ c :: ((ls.flatMap fun l => l ++ [c]) ++ r) := by simp
    rw [e, split_more _ (h l (List.mem_cons_self ..)), split_lines r (fun x hx => h x (List.mem_cons_of_mem _ hx))]
    rfl
theorem join_lines (c : UInt8) (r : List UInt8) : ∀ (ls : List (List UInt8)), join c (ls ++ [r]) = (ls.flatMap fun l => l ++ [c]) ++ r
  | [] => rfl
  | l :: ls => by
    rw [List.cons_append, join_cons c l (by simp), join_lines c r ls, List.flatMap_cons, List.append_assoc, List.append_assoc]
    rfl
end Go.Proofs.YtjjkilopeofjjaaDoor.Mt
