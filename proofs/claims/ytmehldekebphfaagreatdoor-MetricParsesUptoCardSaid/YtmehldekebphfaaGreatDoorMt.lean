/-
  The plain mathematics of package metric: tables, their lines, their text, what a text is read as; no program is mentioned here.
-/
import Derived.Test.YtmehldekebphfaaGreatDoorCuts7
import Derived.Test.YtmehldekebphfaaGreatDoorUtf
import Derived.Lib.ItoaLen
set_option linter.unusedVariables false
set_option linter.unusedSimpArgs false
namespace Go.Proofs.YtmehldekebphfaaGreatDoor.Mt
open Go.Lib

/-! ### tables -/
structure Ch where
  code : Int
  w : Int
  h : Int
  d : Int
  deriving DecidableEq
structure Kn where
  a : Int
  b : Int
  w : Int
  deriving DecidableEq
structure Lg where
  a : Int
  b : Int
  to : Int
  deriving DecidableEq
structure Tab where
  sw : Int := 0
  st : Int := 0
  sk : Int := 0
  order : Int := 0
  hyph : Int := 0
  chars : List Ch := []
  kerns : List Kn := []
  ligs : List Lg := []
  deriving DecidableEq
def amount (n : Int) : Bool := decide (0 ≤ n) && Sc.fits n
def find (m : Tab) (c : Int) : Option Ch := m.chars.find? fun x => x.code == c
def has (m : Tab) (c : Int) : Bool := (find m c).isSome
def kern (m : Tab) (a b : Int) : Int := ((m.kerns.find? fun k => k.a == a && k.b == b).map (·.w)).getD 0
def lig (m : Tab) (a b : Int) : Option Int := (m.ligs.find? fun k => k.a == a && k.b == b).map (·.to)
def rises (a b c d : Int) : Bool := decide (a < c) || (a == c && decide (b < d))
/-- each behind the one ahead of it -/
def up {α : Type} (r : α → α → Bool) : List α → Bool
  | [] => true
  | [_] => true
  | x :: y :: t => r x y && up r (y :: t)
def chOk (c : Ch) : Bool := Ut.letter c.code && amount c.w && amount c.h && amount c.d
def knOk (m : Tab) (k : Kn) : Bool := has m k.a && has m k.b && Sc.fits k.w
def lgOk (m : Tab) (l : Lg) : Bool := has m l.a && has m l.b && has m l.to
def may (m : Tab) : Bool :=
  decide (m.chars.length ≤ 256 ∧ m.kerns.length ≤ 1000 ∧ m.ligs.length ≤ 1000 ∧ m.order = 0) && (amount m.sw && amount m.st && amount m.sk && has m m.hyph)
    && (m.chars.all chOk && up (fun a b => decide (a.code < b.code)) m.chars) && (m.kerns.all (knOk m) && up (fun a b => rises a.a a.b b.a b.b) m.kerns)
    && (m.ligs.all (lgOk m) && up (fun a b => rises a.a a.b b.a b.b) m.ligs)

/-! ### words -/
def codeB (l : List UInt8) : Option Int := match Fm.num l with
  | some n => if 0 ≤ n ∧ l.length < 8 then some n else none
  | none => none
def lenB (l : List UInt8) : Option Int := match Sc.parse l with
  | some n => if Sc.print n = l then some n else none
  | none => none
theorem codeB_some {l : List UInt8} {n : Int} (h : codeB l = some n) : l = itoa n ∧ 0 ≤ n ∧ (itoa n).length < 8 := by
  unfold codeB at h
  cases hn : Fm.num l with
  | none => rw [hn] at h; cases h
  | some k =>
    rw [hn] at h
    simp only [] at h
    split at h
    · injection h with h
      subst h
      rename_i hk
      have := Fm.num_some hn
      exact ⟨this, hk.1, this ▸ hk.2⟩
    · cases h
theorem codeB_itoa {n : Int} (h0 : 0 ≤ n) (h1 : (itoa n).length < 8) (h2 : n ≤ 9223372036854775807) : codeB (itoa n) = some n := by
  unfold codeB
  rw [Fm.num_itoa n (by omega) h2]
  simp only []
  rw [if_pos ⟨h0, h1⟩]
theorem lenB_some {l : List UInt8} {n : Int} (h : lenB l = some n) : l = Sc.print n ∧ Sc.fits n = true := by
  unfold lenB at h
  cases hn : Sc.parse l with
  | none => rw [hn] at h; cases h
  | some k =>
    rw [hn] at h
    simp only [] at h
    split at h
    · injection h with h
      subst h
      rename_i hk
      refine ⟨hk.symm, ?_⟩
      cases hf : Sc.fits k with
      | true => rfl
      | false =>
        rw [Sc.print_no hf] at hk
        subst hk
        rw [Sc.parse_nil] at hn
        cases hn
    · cases h
theorem lenB_print {n : Int} (h : Sc.fits n = true) : lenB (Sc.print n) = some n := by
  unfold lenB
  rw [Sc.parse_print h]
  simp only [if_true]

/-! ### lines -/
inductive Ln where
  | space (a b c : Int)
  | hyphen (c : Int)
  | char (c w h d : Int)
  | kern (a b w : Int)
  | lig (a b t : Int)
  deriving DecidableEq
def kind : Ln → Nat
  | .space .. => 0
  | .hyphen .. => 1
  | .char .. => 2
  | .kern .. => 3
  | .lig .. => 4
def spaceW : List UInt8 := [115, 112, 97, 99, 101]
def hyphenW : List UInt8 := [104, 121, 112, 104, 101, 110]
def charW : List UInt8 := [99, 104, 97, 114]
def kernW : List UInt8 := [107, 101, 114, 110]
def ligW : List UInt8 := [108, 105, 103]
def wordsOf : Ln → List (List UInt8)
  | .space a b c => [spaceW, Sc.print a, Sc.print b, Sc.print c]
  | .hyphen c => [hyphenW, itoa c]
  | .char c w h d => [charW, itoa c, Sc.print w, Sc.print h, Sc.print d]
  | .kern a b w => [kernW, itoa a, itoa b, Sc.print w]
  | .lig a b t => [ligW, itoa a, itoa b, itoa t]
def text (l : Ln) : List UInt8 := join 32 (wordsOf l)
def codeOk (n : Int) : Prop := 0 ≤ n ∧ (itoa n).length < 8 ∧ n ≤ 9223372036854775807
def lnOk : Ln → Prop
  | .space a b c => Sc.fits a = true ∧ Sc.fits b = true ∧ Sc.fits c = true
  | .hyphen c => codeOk c
  | .char c w h d => codeOk c ∧ Sc.fits w = true ∧ Sc.fits h = true ∧ Sc.fits d = true
  | .kern a b w => codeOk a ∧ codeOk b ∧ Sc.fits w = true
  | .lig a b t => codeOk a ∧ codeOk b ∧ codeOk t
def three {α : Type} (f : Int → Int → Int → α) : Option Int → Option Int → Option Int → Option α
  | some a, some b, some c => some (f a b c)
  | _, _, _ => none
theorem three_some {α : Type} {f : Int → Int → Int → α} {a b c : Option Int} {x : α} (h : three f a b c = some x) : ∃ p q r, a = some p ∧ b = some q ∧ c = some r ∧ x = f p q r := by
  unfold three at h
  split at h
  · injection h with h
    exact ⟨_, _, _, rfl, rfl, rfl, h.symm⟩
  · cases h
def rowOf : List (List UInt8) → Option Ln
  | [k, a] => if k = hyphenW then (codeB a).map .hyphen else none
  | [k, a, b, c] => if k = spaceW then three .space (lenB a) (lenB b) (lenB c) else if k = kernW then three .kern (codeB a) (codeB b) (lenB c) else if k = ligW then three .lig (codeB a) (codeB b) (codeB c) else none
  | [k, a, b, c, d] => if k = charW then (codeB a).bind fun x => three (.char x) (lenB b) (lenB c) (lenB d) else none
  | _ => none
def row (s : List UInt8) : Option Ln := rowOf (split 32 s)
theorem num_top {l : List UInt8} {n : Int} (h : codeB l = some n) : codeOk n ∧ l = itoa n := by
  obtain ⟨h1, h2, h3⟩ := codeB_some h
  refine ⟨⟨h2, h3, ?_⟩, h1⟩
  unfold codeB at h
  cases hn : Fm.num l with
  | none => rw [hn] at h; cases h
  | some k =>
    rw [hn] at h
    simp only [] at h
    split at h
    · injection h with h
      subst h
      exact (Fm.num_range hn).2
    · cases h
theorem print_free (c : UInt8) (hc : c.toNat < 45) (n : Int) : c ∉ Sc.print n := by
  intro h
  unfold Sc.print at h
  split at h
  · rcases List.mem_append.1 h with h | h
    · split at h
      · simp at h; subst h; revert hc; decide
      · cases h
    · rcases List.mem_append.1 h with h | h
      · have := Fm.decDigits_dig _ c h; omega
      · rcases List.mem_append.1 h with h | h
        · simp at h; subst h; revert hc; decide
        · have := Sc.bytes_dig (ds := Sc.fracDs (n.natAbs % 65536)) (Sc.fracDs_ok _ (Nat.mod_lt _ (by decide))).2.2.1 c h; omega
  · cases h
theorem itoa_free (c : UInt8) (hc : c.toNat < 45) (n : Int) : c ∉ itoa n := by
  intro h
  rcases Fm.itoa_bytes n c h with h | h
  · subst h; revert hc; decide
  · omega
theorem words_free (c : UInt8) (hc : c.toNat < 45) (l : Ln) : ∀ w ∈ wordsOf l, c ∉ w := by
  have k : ∀ W ∈ [spaceW, hyphenW, charW, kernW, ligW], c ∉ W := by
    intro W hW h
    have : ∀ W ∈ [spaceW, hyphenW, charW, kernW, ligW], ∀ x ∈ W, 45 ≤ x.toNat := by decide
    have := this W hW c h
    omega
  simp only [List.forall_mem_cons] at k
  obtain ⟨k0, k1, k2, k3, k4, _⟩ := k
  have p := print_free c hc
  have q := itoa_free c hc
  cases l <;> simp [wordsOf, k0, k1, k2, k3, k4, p, q]
theorem words_ne (l : Ln) : wordsOf l ≠ [] := by cases l <;> simp [wordsOf]
theorem row_text {l : Ln} (h : lnOk l) : row (text l) = some l := by
  unfold row text
  rw [split_join (words_ne l) (words_free 32 (by decide) l)]
  cases l with
  | space a b c =>
    obtain ⟨h1, h2, h3⟩ := h
    simp only [wordsOf, rowOf]
    rw [if_pos trivial, lenB_print h1, lenB_print h2, lenB_print h3]; rfl
  | hyphen c =>
    obtain ⟨h1, h2, h3⟩ := h
    simp only [wordsOf, rowOf]
    rw [if_pos trivial, codeB_itoa h1 h2 h3]; rfl
  | char c w h d =>
    obtain ⟨⟨h1, h2, h3⟩, h4, h5, h6⟩ := h
    simp only [wordsOf, rowOf]
    rw [if_pos trivial, codeB_itoa h1 h2 h3, lenB_print h4, lenB_print h5, lenB_print h6]; rfl
  | kern a b w =>
    obtain ⟨⟨h1, h2, h3⟩, ⟨h4, h5, h6⟩, h7⟩ := h
    simp only [wordsOf, rowOf]
    rw [if_neg (by decide), if_pos trivial, codeB_itoa h1 h2 h3, codeB_itoa h4 h5 h6, lenB_print h7]; rfl
  | lig a b t =>
    obtain ⟨⟨h1, h2, h3⟩, ⟨h4, h5, h6⟩, h7, h8, h9⟩ := h
    simp only [wordsOf, rowOf]
    rw [if_neg (by decide), if_neg (by decide), if_pos trivial, codeB_itoa h1 h2 h3, codeB_itoa h4 h5 h6, codeB_itoa h7 h8 h9]; rfl
theorem text_row {s : List UInt8} {l : Ln} (h : row s = some l) : s = text l ∧ lnOk l := by
  unfold row at h
  have e := join_split 32 s
  generalize split 32 s = w at h e
  subst e
  unfold rowOf at h
  split at h
  · split at h
    · rename_i hk
      subst hk
      obtain ⟨n, hn, rfl⟩ := Option.map_eq_some_iff.1 h
      obtain ⟨h1, rfl⟩ := num_top hn
      exact ⟨rfl, h1⟩
    · cases h
  · split at h
    · rename_i hk
      subst hk
      obtain ⟨p, q, r, h1, h2, h3, rfl⟩ := three_some h
      obtain ⟨rfl, k1⟩ := lenB_some h1
      obtain ⟨rfl, k2⟩ := lenB_some h2
      obtain ⟨rfl, k3⟩ := lenB_some h3
      exact ⟨rfl, k1, k2, k3⟩
    · split at h
      · rename_i hk
        subst hk
        obtain ⟨p, q, r, h1, h2, h3, rfl⟩ := three_some h
        obtain ⟨k1, rfl⟩ := num_top h1
        obtain ⟨k2, rfl⟩ := num_top h2
        obtain ⟨rfl, k3⟩ := lenB_some h3
        exact ⟨rfl, k1, k2, k3⟩
      · split at h
        · rename_i hk
          subst hk
          obtain ⟨p, q, r, h1, h2, h3, rfl⟩ := three_some h
          obtain ⟨k1, rfl⟩ := num_top h1
          obtain ⟨k2, rfl⟩ := num_top h2
          obtain ⟨k3, rfl⟩ := num_top h3
          exact ⟨rfl, k1, k2, k3⟩
        · cases h
  · split at h
    · rename_i hk
      subst hk
      obtain ⟨n, hn, h⟩ := Option.bind_eq_some_iff.1 h
      obtain ⟨p, q, r, h1, h2, h3, rfl⟩ := three_some h
      obtain ⟨k0, rfl⟩ := num_top hn
      obtain ⟨rfl, k1⟩ := lenB_some h1
      obtain ⟨rfl, k2⟩ := lenB_some h2
      obtain ⟨rfl, k3⟩ := lenB_some h3
      exact ⟨rfl, k0, k1, k2, k3⟩
    · cases h
  · cases h
end Go.Proofs.YtmehldekebphfaaGreatDoor.Mt
