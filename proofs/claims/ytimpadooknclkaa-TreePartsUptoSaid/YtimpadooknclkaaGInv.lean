/-
  What tokens that form nodes begin with: the relation G read backwards. No code in it.
-/
import Derived.Test.YtimpadooknclkaaTr3
set_option linter.unusedVariables false
set_option linter.unusedSimpArgs false
namespace Go.Proofs.Ytimpadooknclkaa.Tr
open Go.Proofs.Ytimpadooknclkaa

theorem G.inv_nil {d : Nat} {ns : List Nd} (h : G d [] ns) : ns = [] := by cases h; rfl
theorem G.inv_head {d : Nat} {t : Tok} {r : List Tok} {ns : List Nd} (h : G d (t :: r) ns) : t.kind = 0 ∨ t.kind = 1 := by
  cases h with
  | word h hr => exact .inl h
  | cmd h hr => exact .inr h
  | grp h => exact .inr h
theorem G.inv_word {d : Nat} {t : Tok} {r : List Tok} {ns : List Nd} (h : G d (t :: r) ns) (hk : t.kind = 0) : ∃ ns', ns = .mk false t.text [] t.loc :: ns' ∧ G d r ns' := by
  cases h with
  | word h hr => exact ⟨_, rfl, hr⟩
  | cmd h hr => omega
  | grp h => omega
theorem G.inv_args {d : Nat} {t : Tok} {r : List Tok} {x : List UInt8} {args : List (List Nd)} {a : Int} {ns : List Nd} (h : G d (t :: r) (.mk true x args a :: ns)) (hk : t.kind = 1) :
    (args = [] ∧ G d r ns ∧ (r = [] ∨ ∃ u q, r = u :: q ∧ u.kind ≠ 2)) ∨ ∃ o b c q g args', r = o :: (b ++ c :: q) ∧ o.kind = 2 ∧ c.kind = 3 ∧ G (d + 1) b g ∧ args = g :: args' ∧ G d (t :: q) (.mk true x args' a :: ns) := by
  cases h with
  | cmd h hr =>
    left
    refine ⟨rfl, hr, ?_⟩
    cases r with
    | nil => exact .inl rfl
    | cons u q => exact .inr ⟨u, q, rfl, by have := hr.inv_head; omega⟩
  | grp h ho hc hd hb hr => exact .inr ⟨_, _, _, _, _, _, rfl, ho, hc, hb, rfl, hr⟩
theorem G.inv_cmd {d : Nat} {t : Tok} {r : List Tok} {ns : List Nd} (h : G d (t :: r) ns) (hk : t.kind = 1) : ∃ args ns', ns = .mk true t.text args t.loc :: ns' := h.head t r rfl hk
end Go.Proofs.Ytimpadooknclkaa.Tr
