/-
  The plain mathematics of package lexer: what a source's bytes are, piece by piece; no program is mentioned here.
-/
import Derived.Test.YtimpadooknclkaaUtf
set_option linter.unusedVariables false
set_option linter.unusedSimpArgs false
namespace Go.Proofs.Ytimpadooknclkaa.Lx

/-! ### bytes -/
def blank (c : UInt8) : Bool := decide (c.toNat = 9 ∨ c.toNat = 10 ∨ c.toNat = 13 ∨ c.toNat = 32)
def alpha (c : UInt8) : Bool := decide ((97 ≤ c.toNat ∧ c.toNat ≤ 122) ∨ (65 ≤ c.toNat ∧ c.toNat ≤ 90))
def special (c : UInt8) : Bool := decide (c.toNat = 92 ∨ c.toNat = 123 ∨ c.toNat = 125 ∨ c.toNat = 37)
def bsl (c : UInt8) : Bool := decide (c.toNat = 92)
def escd (d : UInt8) : Bool := decide (d.toNat = 92 ∨ d.toNat = 123 ∨ d.toNat = 125 ∨ d.toNat = 37 ∨ d.toNat = 45)
def esc (d : UInt8) : List UInt8 := if d.toNat = 45 then [194, 173] else [d]
def ends (c : UInt8) : Bool := special c || blank c
theorem u8_of {c : UInt8} {n : Nat} (h : c.toNat = n) : c = UInt8.ofNat n := by rw [← h]; exact UInt8.ofNat_toNat.symm
theorem bsl_is {c : UInt8} (h : bsl c = true) : c = 92 := u8_of (of_decide_eq_true h)
theorem bsl_special {c : UInt8} (h : special c = false) : bsl c = false := by
  unfold special at h; unfold bsl
  have := of_decide_eq_false h
  exact decide_eq_false (by omega)
theorem alpha_not {c : UInt8} (h : alpha c = true) : special c = false ∧ blank c = false ∧ escd c = false ∧ bsl c = false ∧ c.toNat < 128 ∧ 10 < c.toNat := by
  have := of_decide_eq_true h
  unfold special blank escd bsl
  exact ⟨decide_eq_false (by omega), decide_eq_false (by omega), decide_eq_false (by omega), decide_eq_false (by omega), by omega, by omega⟩
theorem escd_low {c : UInt8} (h : escd c = true) : c.toNat < 128 := by
  have := of_decide_eq_true h
  omega

/-! ### tokens -/
structure Tok where
  kind : Int
  text : List UInt8
  loc : Int
deriving DecidableEq
/-- what stands at the head of bytes -/
inductive Step where
  | gap (n : Nat)
  | tok (k : Int) (t : List UInt8) (n : Nat)
  | bad
def word : List UInt8 → List UInt8 × Nat
  | [] => ([], 0)
  | [c] => if ends c then ([], 0) else ([c], 1)
  | c :: d :: r => if bsl c && escd d then (esc d ++ (word r).1, (word r).2 + 2) else if ends c then ([], 0) else (c :: (word (d :: r)).1, (word (d :: r)).2 + 1)
def not10 (c : UInt8) : Bool := decide (c.toNat ≠ 10)
def isCmd (c : UInt8) (r : List UInt8) : Bool := bsl c && (match r with | [] => false | d :: _ => alpha d)
def step : List UInt8 → Step
  | [] => .bad
  | c :: r => if blank c then .gap 1 else if c.toNat = 37 then .gap (1 + (r.takeWhile not10).length) else if c.toNat = 123 then .tok 2 [] 1 else if c.toNat = 125 then .tok 3 [] 1
    else if isCmd c r then .tok 1 (r.takeWhile alpha) (1 + (r.takeWhile alpha).length)
    else if (word (c :: r)).2 = 0 then .bad else .tok 0 (word (c :: r)).1 (word (c :: r)).2
/-- how many bytes a step takes -/
def Step.len : Step → Nat
  | .gap n => n
  | .tok _ _ n => n
  | .bad => 0
theorem step_cons (c : UInt8) (r : List UInt8) : step (c :: r) = if blank c then .gap 1 else if c.toNat = 37 then .gap (1 + (r.takeWhile not10).length) else if c.toNat = 123 then .tok 2 [] 1 else if c.toNat = 125 then .tok 3 [] 1
    else if isCmd c r then .tok 1 (r.takeWhile alpha) (1 + (r.takeWhile alpha).length)
    else if (word (c :: r)).2 = 0 then .bad else .tok 0 (word (c :: r)).1 (word (c :: r)).2 := rfl
theorem step_pos {l : List UInt8} (h : step l ≠ .bad) : 1 ≤ (step l).len := by
  cases l with
  | nil => exact absurd rfl h
  | cons c r =>
    rw [step_cons] at h ⊢
    by_cases h1 : blank c = true
    · rw [if_pos h1]; exact Nat.le_refl _
    · rw [if_neg h1] at h ⊢
      by_cases h2 : c.toNat = 37
      · rw [if_pos h2]; simp [Step.len]
      · rw [if_neg h2] at h ⊢
        by_cases h3 : c.toNat = 123
        · rw [if_pos h3]; exact Nat.le_refl _
        · rw [if_neg h3] at h ⊢
          by_cases h4 : c.toNat = 125
          · rw [if_pos h4]; exact Nat.le_refl _
          · rw [if_neg h4] at h ⊢
            by_cases h5 : isCmd c r = true
            · rw [if_pos h5]; simp [Step.len]
            · rw [if_neg h5] at h ⊢
              by_cases h6 : (word (c :: r)).2 = 0
              · rw [if_pos h6] at h; exact absurd rfl h
              · rw [if_neg h6]; simp [Step.len]; omega
def lexF : Nat → Nat → List UInt8 → List Tok × Option Nat
  | 0, _, _ => ([], none)
  | _ + 1, _, [] => ([], none)
  | f + 1, p, c :: r => match step (c :: r) with
    | .gap n => lexF f (p + n) ((c :: r).drop n)
    | .tok k t n => (⟨k, t, p⟩ :: (lexF f (p + n) ((c :: r).drop n)).1, (lexF f (p + n) ((c :: r).drop n)).2)
    | .bad => ([], some p)
theorem lexF_nil (f p : Nat) : lexF f p [] = ([], none) := by cases f <;> rfl
theorem lexF_more : ∀ (f g p : Nat) (l : List UInt8), l.length ≤ f → l.length ≤ g → lexF f p l = lexF g p l
  | 0, g, p, l, h, _ => by
    have : l = [] := List.eq_nil_of_length_eq_zero (by omega)
    rw [this, lexF_nil, lexF_nil]
  | f + 1, 0, p, l, _, h => by
    have : l = [] := List.eq_nil_of_length_eq_zero (by omega)
    rw [this, lexF_nil, lexF_nil]
  | f + 1, g + 1, p, [], _, _ => rfl
  | f + 1, g + 1, p, c :: r, h1, h2 => by
    have hp := step_pos (l := c :: r)
    unfold lexF
    cases hs : step (c :: r) with
    | bad => rfl
    | gap n =>
      rw [hs] at hp
      have := hp (by simp)
      simp only [Step.len] at this
      simp only []
      exact lexF_more f g _ _ (by rw [List.length_drop]; simp at h1 ⊢; omega) (by rw [List.length_drop]; simp at h2 ⊢; omega)
    | tok k t n =>
      rw [hs] at hp
      have := hp (by simp)
      simp only [Step.len] at this
      simp only []
      rw [lexF_more f g _ _ (by rw [List.length_drop]; simp at h1 ⊢; omega) (by rw [List.length_drop]; simp at h2 ⊢; omega)]
/-- the tokens of bytes from place p on, and where there is a fault -/
def lex (p : Nat) (l : List UInt8) : List Tok × Option Nat := lexF l.length p l
theorem lex_nil (p : Nat) : lex p [] = ([], none) := rfl
theorem lex_gap {l : List UInt8} {n : Nat} (p : Nat) (h : step l = .gap n) : lex p l = lex (p + n) (l.drop n) := by
  cases l with
  | nil => cases h
  | cons c r =>
    have hp := step_pos (l := c :: r) (by rw [h]; simp)
    rw [h] at hp
    simp only [Step.len] at hp
    unfold lex
    simp only [List.length_cons, lexF, h]
    exact lexF_more _ _ _ _ (by rw [List.length_drop]; simp; omega) (Nat.le_refl _)
theorem lex_tok {l : List UInt8} {k : Int} {t : List UInt8} {n : Nat} (p : Nat) (h : step l = .tok k t n) : lex p l = (⟨k, t, p⟩ :: (lex (p + n) (l.drop n)).1, (lex (p + n) (l.drop n)).2) := by
  cases l with
  | nil => cases h
  | cons c r =>
    have hp := step_pos (l := c :: r) (by rw [h]; simp)
    rw [h] at hp
    simp only [Step.len] at hp
    unfold lex
    simp only [List.length_cons, lexF, h]
    rw [lexF_more r.length ((c :: r).drop n).length _ _ (by rw [List.length_drop]; simp; omega) (Nat.le_refl _)]
theorem lex_bad {l : List UInt8} (p : Nat) (hl : l ≠ []) (h : step l = .bad) : lex p l = ([], some p) := by
  cases l with
  | nil => exact absurd rfl hl
  | cons c r =>
    unfold lex
    simp only [List.length_cons, lexF, h]

/-! ### words -/
inductive Wd : List UInt8 → List UInt8 → Prop
  | nil : Wd [] []
  | esc {d : UInt8} {b t : List UInt8} : escd d = true → Wd b t → Wd (92 :: d :: b) (Lx.esc d ++ t)
  | plain {c : UInt8} {b t : List UInt8} : ends c = false → Wd b t → Wd (c :: b) (c :: t)
theorem ends_bsl {c : UInt8} (h : ends c = false) : bsl c = false := by
  unfold ends at h
  rw [Bool.or_eq_false_iff] at h
  exact bsl_special h.1
theorem word_one (c : UInt8) : word [c] = if ends c then ([], 0) else ([c], 1) := rfl
theorem word_two (c d : UInt8) (r : List UInt8) : word (c :: d :: r) = if bsl c && escd d then (esc d ++ (word r).1, (word r).2 + 2) else if ends c then ([], 0) else (c :: (word (d :: r)).1, (word (d :: r)).2 + 1) := by
  conv => lhs; unfold word
theorem word_plain {c : UInt8} (h : ends c = false) (r : List UInt8) : word (c :: r) = (c :: (word r).1, (word r).2 + 1) := by
  cases r with
  | nil => rw [word_one, h]; rfl
  | cons d r => rw [word_two, ends_bsl h, h]; rfl
theorem word_esc {d : UInt8} (h : escd d = true) (r : List UInt8) : word (92 :: d :: r) = (esc d ++ (word r).1, (word r).2 + 2) := by
  rw [word_two, h]; rfl
theorem wd_word {b t : List UInt8} (h : Wd b t) {r : List UInt8} (hr : (word r).2 = 0) (hr1 : (word r).1 = []) : word (b ++ r) = (t, b.length) := by
  induction h with
  | nil => exact Prod.ext hr1 hr
  | esc hd _ ih => rw [List.cons_append, List.cons_append, word_esc hd, ih]; rfl
  | plain hc _ ih => rw [List.cons_append, word_plain hc, ih]; rfl
theorem word_none {l : List UInt8} (h : (word l).2 = 0) : (word l).1 = [] := by
  match l with
  | [] => rfl
  | [c] =>
    rw [word_one] at h ⊢
    split at h
    · rename_i hc; rw [if_pos hc]
    · cases h
  | c :: d :: r =>
    rw [word_two] at h ⊢
    split at h
    · simp at h
    · split at h
      · rename_i h1 h2; rw [if_neg h1, if_pos h2]
      · simp at h
theorem word_is : ∀ (k : Nat) (l : List UInt8), l.length ≤ k → (word l).2 ≤ l.length ∧ Wd (l.take (word l).2) (word l).1 ∧ (word (l.drop (word l).2)).2 = 0
  | _, [], _ => ⟨Nat.le_refl _, .nil, rfl⟩
  | 0, _ :: _, h => by simp at h
  | k + 1, [c], _ => by
    rw [word_one]
    split
    · rename_i h; exact ⟨by simp, .nil, by show (word [c]).2 = 0; rw [word_one, if_pos h]⟩
    · rename_i h; exact ⟨by simp, .plain (by simpa using h) .nil, rfl⟩
  | k + 1, c :: d :: r, h => by
    simp only [List.length_cons] at h
    rw [word_two]
    split
    · rename_i h1
      rw [Bool.and_eq_true] at h1
      obtain ⟨a1, a2, a3⟩ := word_is k r (by omega)
      obtain rfl := bsl_is h1.1
      exact ⟨by simp; omega, by simpa using Wd.esc h1.2 a2, by simpa using a3⟩
    · split
      · rename_i h1 h2
        refine ⟨by simp, .nil, ?_⟩
        show (word (c :: d :: r)).2 = 0
        rw [word_two, if_neg h1, if_pos h2]
      · rename_i h1 h2
        obtain ⟨a1, a2, a3⟩ := word_is k (d :: r) (by simp; omega)
        simp only [List.length_cons] at a1
        exact ⟨by simp; omega, by simpa using Wd.plain (by simpa using h2) a2, by simpa using a3⟩
theorem wd_pos {c : UInt8} {b t : List UInt8} (h : Wd (c :: b) t) (r : List UInt8) : (word (c :: b ++ r)).2 ≠ 0 := by
  cases h with
  | esc hd _ => rw [List.cons_append, List.cons_append, word_esc hd]; simp
  | plain hc _ => rw [List.cons_append, word_plain hc]; simp
end Go.Proofs.Ytimpadooknclkaa.Lx
