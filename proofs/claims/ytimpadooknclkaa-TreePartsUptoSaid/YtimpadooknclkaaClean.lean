/-
  The plain mathematics of package lexer, third part: bytes that are letters, cut and put together; a text escaped, and what a word stands for.
-/
import Derived.Test.YtimpadooknclkaaPieces
set_option linter.unusedVariables false
set_option linter.unusedSimpArgs false
namespace Go.Proofs.Ytimpadooknclkaa.Lx
open Ut (enc encs letterN b8 b8_nat)

theorem clean_of {L : List Nat} (h : ∀ c ∈ L, letterN c = true) : Ut.clean (encs L) = true := by
  unfold Ut.clean
  rw [Ut.dec_encs h]; rfl
theorem clean_has {s : List UInt8} (h : Ut.clean s = true) : ∃ L, (∀ c ∈ L, letterN c = true) ∧ s = encs L := ⟨_, (Ut.dec_is s).2.1, Ut.clean_iff.1 h⟩
theorem clean_app {a b : List UInt8} (ha : Ut.clean a = true) (hb : Ut.clean b = true) : Ut.clean (a ++ b) = true := by
  obtain ⟨L, h1, rfl⟩ := clean_has ha
  obtain ⟨M, h2, rfl⟩ := clean_has hb
  rw [← Ut.encs_append]
  exact clean_of fun c hc => (List.mem_append.1 hc).elim (h1 c) (h2 c)
theorem enc_low {c : Nat} (h : c < 128) : enc c = [b8 c] := by unfold enc; rw [if_pos h]
theorem letter_low {c : Nat} (h : c < 128) : letterN c = true := decide_eq_true (by omega)
theorem b8_of' (x : UInt8) : b8 x.toNat = x := by unfold b8; exact UInt8.ofNat_toNat
theorem enc_byte (x : UInt8) (h : x.toNat < 128) : [x] = enc x.toNat := by rw [enc_low h, b8_of']
theorem clean_byte {x : UInt8} (h : x.toNat < 128) : Ut.clean [x] = true := by
  have : [x] = encs [x.toNat] := by rw [enc_byte x h]; simp [encs]
  rw [this]
  exact clean_of (fun c hc => by simp at hc; subst hc; exact letter_low h)
/-- all bytes of a letter from 128 on are from 128 on, too; the first one from 192 on, the others below -/
theorem enc_high {c : Nat} (hc : letterN c = true) (h : 128 ≤ c) : ∃ x r, enc c = x :: r ∧ 192 ≤ x.toNat ∧ (∀ y ∈ r, 128 ≤ y.toNat ∧ y.toNat < 192) ∧ r ≠ [] ∧ (x.toNat = 194 → ∀ y q, r = y :: q → y.toNat = 173 → c = 173) := by
  have hl := Ut.letterN_le hc
  unfold enc
  rw [if_neg (by omega)]
  split
  · refine ⟨_, _, rfl, by rw [b8_nat (by omega)]; omega, ?_, by simp, ?_⟩
    · intro y hy
      simp at hy
      subst hy
      rw [b8_nat (by omega)]; omega
    · intro h1 y q e h2
      injection e with e _
      rw [b8_nat (by omega)] at h1
      rw [← e, b8_nat (by omega)] at h2
      omega
  · split
    · refine ⟨_, _, rfl, by rw [b8_nat (by omega)]; omega, ?_, by simp, ?_⟩
      · intro y hy
        simp at hy
        rcases hy with rfl | rfl <;> rw [b8_nat (by omega)] <;> omega
      · intro h1 y q e h2
        rw [b8_nat (by omega)] at h1
        omega
    · refine ⟨_, _, rfl, by rw [b8_nat (by omega)]; omega, ?_, by simp, ?_⟩
      · intro y hy
        simp at hy
        rcases hy with rfl | rfl | rfl <;> rw [b8_nat (by omega)] <;> omega
      · intro h1 y q e h2
        rw [b8_nat (by omega)] at h1
        omega
theorem enc_high_mem {c : Nat} (hc : letterN c = true) (h : 128 ≤ c) : ∀ y ∈ enc c, 128 ≤ y.toNat := by
  obtain ⟨x, r, e, h1, h2, _⟩ := enc_high hc h
  rw [e]
  intro y hy
  rcases List.mem_cons.1 hy with rfl | hy
  · omega
  · exact (h2 y hy).1

/-- a letter of one byte parts what is ahead of it from what is behind it -/
theorem cut_encs : ∀ (L : List Nat) (a : List UInt8) (x : UInt8) (b : List UInt8), (∀ c ∈ L, letterN c = true) → x.toNat < 128 → encs L = a ++ x :: b → Ut.clean a = true ∧ Ut.clean b = true
  | [], a, x, b, _, _, e => by
    have := congrArg List.length e
    simp [encs] at this
  | c :: L, a, x, b, hL, hx, e => by
    have hc := hL c (List.mem_cons_self ..)
    have hL' := fun d hd => hL d (List.mem_cons_of_mem _ hd)
    rw [Ut.encs_cons] at e
    rcases List.append_eq_append_iff.1 e with ⟨a', e1, e2⟩ | ⟨c', e1, e2⟩
    · obtain ⟨i1, i2⟩ := cut_encs L a' x b hL' hx e2
      refine ⟨?_, i2⟩
      rw [e1]
      have h1 : enc c = encs [c] := by simp [encs]
      rw [h1]
      exact clean_app (clean_of (fun d hd => by simp at hd; subst hd; exact hc)) i1
    · cases c' with
      | nil =>
        rw [List.append_nil] at e1
        rw [List.nil_append] at e2
        obtain ⟨i1, i2⟩ := cut_encs L [] x b hL' hx e2.symm
        refine ⟨?_, i2⟩
        rw [← e1]
        have h1 : enc c = encs [c] := by simp [encs]
        rw [h1]
        exact clean_of (fun d hd => by simp at hd; subst hd; exact hc)
      | cons y c' =>
        rw [List.cons_append] at e2
        injection e2 with e2 e3
        subst e2
        have hlow : c < 128 := by
          rcases Nat.lt_or_ge c 128 with h | h
          · exact h
          · have := enc_high_mem hc h x (by rw [e1]; simp)
            omega
        rw [enc_low hlow] at e1
        have hl := congrArg List.length e1
        simp at hl
        have ha : a = [] := List.eq_nil_of_length_eq_zero (by omega)
        have hc' : c' = [] := List.eq_nil_of_length_eq_zero (by omega)
        subst ha hc'
        rw [List.nil_append] at e3
        exact ⟨by decide, by rw [e3]; exact clean_of hL'⟩
theorem clean_cut {a : List UInt8} {x : UInt8} {b : List UInt8} (h : Ut.clean (a ++ x :: b) = true) (hx : x.toNat < 128) : Ut.clean a = true ∧ Ut.clean (x :: b) = true ∧ Ut.clean b = true := by
  obtain ⟨L, h1, e⟩ := clean_has h
  obtain ⟨i1, i2⟩ := cut_encs L a x b h1 hx e.symm
  exact ⟨i1, clean_app (a := [x]) (clean_byte hx) i2, i2⟩

/-! ### what a word stands for -/
theorem wd_high : ∀ (xs b t : List UInt8), (∀ y ∈ xs, 128 ≤ y.toNat) → Wd (xs ++ b) t → ∃ t', t = xs ++ t' ∧ Wd b t'
  | [], b, t, _, h => ⟨t, rfl, h⟩
  | x :: xs, b, t, hx, h => by
    have h0 := hx x (List.mem_cons_self ..)
    rw [List.cons_append] at h
    generalize hq : x :: (xs ++ b) = q at h
    cases h with
    | nil => cases hq
    | esc _ _ => injection hq with hq _; rw [hq] at h0; exact absurd h0 (by decide)
    | plain hc hw =>
      injection hq with h1 h2
      subst h1 h2
      obtain ⟨t', e, hw'⟩ := wd_high xs b _ (fun y hy => hx y (List.mem_cons_of_mem _ hy)) hw
      exact ⟨t', by rw [e]; rfl, hw'⟩
theorem esc_encs {d : UInt8} (h : escd d = true) : ∃ c, letterN c = true ∧ esc d = enc c := by
  have hl := escd_low h
  unfold esc
  split
  · exact ⟨173, by decide, by decide⟩
  · exact ⟨d.toNat, letter_low hl, enc_byte d hl⟩
theorem wd_encs : ∀ (k : Nat) (L : List Nat) (t : List UInt8), L.length ≤ k → (∀ c ∈ L, letterN c = true) → Wd (encs L) t → ∃ M, (∀ c ∈ M, letterN c = true) ∧ t = encs M
  | _, [], t, _, _, h => by
    have e : encs [] = [] := rfl
    rw [e] at h
    cases h
    exact ⟨[], fun c hc => by simp at hc, rfl⟩
  | 0, c :: L, t, h, _, _ => by simp at h
  | k + 1, c :: L, t, hk, hL, h => by
    simp only [List.length_cons] at hk
    have hc := hL c (List.mem_cons_self ..)
    have hL' := fun d hd => hL d (List.mem_cons_of_mem _ hd)
    rw [Ut.encs_cons] at h
    have key : ∀ t', Wd (encs L) t' → t = enc c ++ t' → ∃ M, (∀ c ∈ M, letterN c = true) ∧ t = encs M := fun t' hw e => by
      obtain ⟨M, m1, m2⟩ := wd_encs k L t' (by omega) hL' hw
      exact ⟨c :: M, fun d hd => (List.mem_cons.1 hd).elim (fun e => e ▸ hc) (m1 d), by rw [e, m2]; rfl⟩
    rcases Nat.lt_or_ge c 128 with hlow | hhigh
    · rw [enc_low hlow] at h key
      rw [List.cons_append, List.nil_append] at h
      generalize hq : b8 c :: encs L = q at h
      cases h with
      | nil => cases hq
      | plain hcc hw =>
        injection hq with h1 h2
        subst h1 h2
        exact key _ hw rfl
      | esc hd hw =>
        rename_i d b t
        injection hq with h1 h2
        cases L with
        | nil => cases h2
        | cons e L =>
          have he := hL' e (List.mem_cons_self ..)
          rw [Ut.encs_cons] at h2
          have hdl := escd_low hd
          have hel : e < 128 := by
            rcases Nat.lt_or_ge e 128 with h | h
            · exact h
            · obtain ⟨x, r, e1, e2, _⟩ := enc_high he h
              rw [e1, List.cons_append] at h2
              injection h2 with h2 _
              rw [h2] at e2
              omega
          rw [enc_low hel, List.cons_append, List.nil_append] at h2
          injection h2 with h3 h4
          subst h4
          simp only [List.length_cons] at hk
          obtain ⟨M, m1, m2⟩ := wd_encs k L _ (by omega) (fun x hx => hL' x (List.mem_cons_of_mem _ hx)) hw
          obtain ⟨g, g1, g2⟩ := esc_encs hd
          exact ⟨g :: M, fun x hx => (List.mem_cons.1 hx).elim (fun e => e ▸ g1) (m1 x), by rw [g2, m2]; rfl⟩
    · obtain ⟨t', e, hw⟩ := wd_high _ _ _ (enc_high_mem hc hhigh) h
      exact key t' hw e
theorem wd_clean {b t : List UInt8} (h : Wd b t) (hb : Ut.clean b = true) : Ut.clean t = true := by
  obtain ⟨L, h1, rfl⟩ := clean_has hb
  obtain ⟨M, m1, rfl⟩ := wd_encs L.length L t (Nat.le_refl _) h1 h
  exact clean_of m1
theorem ends_parts {c : UInt8} (h : ends c = false) : special c = false ∧ blank c = false := by
  unfold ends at h
  exact Bool.or_eq_false_iff.1 h
/-- what a word stands for has no blank -/
theorem wd_blank {b t : List UInt8} (h : Wd b t) : ∀ c ∈ t, blank c = false := by
  induction h with
  | nil => intro c hc; simp at hc
  | esc hd _ ih =>
    intro c hc
    rcases List.mem_append.1 hc with hc | hc
    · have hh := of_decide_eq_true hd
      unfold esc at hc
      split at hc
      · simp at hc; rcases hc with rfl | rfl <;> decide
      · simp at hc; subst hc
        unfold blank
        exact decide_eq_false (by omega)
    · exact ih c hc
  | plain hd _ ih =>
    intro c hc
    rcases List.mem_cons.1 hc with rfl | hc
    · exact (ends_parts hd).2
    · exact ih c hc
theorem wd_nonempty {b t : List UInt8} (h : Wd b t) (hb : b ≠ []) : t ≠ [] := by
  cases h with
  | nil => exact absurd rfl hb
  | esc hd _ => unfold esc; split <;> simp
  | plain _ _ => simp

/-! ### a text escaped -/
def soft (c d : UInt8) : Bool := decide (c.toNat = 194 ∧ d.toNat = 173)
def escape : List UInt8 → List UInt8
  | [] => []
  | [c] => if special c then [92, c] else [c]
  | c :: d :: r => if soft c d then 92 :: 45 :: escape r else (if special c then [92, c] else [c]) ++ escape (d :: r)
theorem escape_one (c : UInt8) : escape [c] = if special c then [92, c] else [c] := rfl
theorem escape_two (c d : UInt8) (r : List UInt8) : escape (c :: d :: r) = if soft c d then 92 :: 45 :: escape r else (if special c then [92, c] else [c]) ++ escape (d :: r) := by
  conv => lhs; unfold escape
theorem special_escd {c : UInt8} (h : special c = true) : escd c = true ∧ esc c = [c] ∧ c.toNat < 128 := by
  have := of_decide_eq_true h
  exact ⟨decide_eq_true (by omega), by unfold esc; rw [if_neg (by omega)], by omega⟩
theorem wd_single {c : UInt8} {b t : List UInt8} (hb : blank c = false) (h : Wd b t) : Wd ((if special c then [92, c] else [c]) ++ b) (c :: t) := by
  cases hs : special c with
  | true =>
    obtain ⟨h1, h2, _⟩ := special_escd hs
    have := Wd.esc h1 h
    rw [h2] at this
    exact this
  | false => exact .plain (by unfold ends; rw [hs, hb]; rfl) h
theorem escape_wd : ∀ (k : Nat) (t : List UInt8), t.length ≤ k → (∀ c ∈ t, blank c = false) → Wd (escape t) t
  | _, [], _, _ => .nil
  | 0, _ :: _, h, _ => by simp at h
  | k + 1, [c], _, hb => by
    rw [escape_one]
    have := wd_single (hb c (List.mem_cons_self ..)) Wd.nil
    rw [List.append_nil] at this
    exact this
  | k + 1, c :: d :: r, h, hb => by
    simp only [List.length_cons] at h
    rw [escape_two]
    split
    · rename_i hs
      have hh := of_decide_eq_true hs
      obtain rfl : c = 194 := u8_of hh.1
      obtain rfl : d = 173 := u8_of hh.2
      exact Wd.esc (d := 45) (by decide) (escape_wd k r (by omega) (fun x hx => hb x (List.mem_cons_of_mem _ (List.mem_cons_of_mem _ hx))))
    · exact wd_single (hb c (List.mem_cons_self ..)) (escape_wd k (d :: r) (by simp; omega) (fun x hx => hb x (List.mem_cons_of_mem _ hx)))
theorem escape_ne {t : List UInt8} (h : t ≠ []) : escape t ≠ [] := by
  match t with
  | [] => exact absurd rfl h
  | [c] => rw [escape_one]; split <;> simp
  | c :: d :: r =>
    rw [escape_two]
    split
    · simp
    · split <;> simp
theorem escape_pass {c : UInt8} (hs : special c = false) (r : List UInt8) (hp : ∀ d q, r = d :: q → soft c d = false) : escape (c :: r) = c :: escape r := by
  cases r with
  | nil => rw [escape_one, hs]; rfl
  | cons d q => rw [escape_two, hp d q rfl, hs]; rfl
theorem soft_not {c d : UInt8} (h : c.toNat ≠ 194) : soft c d = false := decide_eq_false (fun e => h e.1)
theorem high_special {c : UInt8} (h : 128 ≤ c.toNat) : special c = false := decide_eq_false (by omega)
theorem escape_cont : ∀ (q r : List UInt8), (∀ y ∈ q, 128 ≤ y.toNat ∧ y.toNat < 192) → escape (q ++ r) = q ++ escape r
  | [], r, _ => rfl
  | y :: q, r, h => by
    have hy := h y (List.mem_cons_self ..)
    rw [List.cons_append, escape_pass (high_special hy.1) _ (fun d s _ => soft_not (by omega)), escape_cont q r (fun z hz => h z (List.mem_cons_of_mem _ hz))]
    rfl
/-- the letters of a text escaped -/
def escN (c : Nat) : List Nat := if c = 173 then [92, 45] else if special (b8 c) ∧ c < 128 then [92, c] else [c]
theorem escape_letter {c : Nat} (hc : letterN c = true) (r : List UInt8) (hr : Ut.clean r = true) : escape (enc c ++ r) = encs (escN c) ++ escape r := by
  unfold escN
  rcases Nat.lt_or_ge c 128 with hlow | hhigh
  · rw [enc_low hlow, List.cons_append, List.nil_append, if_neg (by omega)]
    have h0 : (b8 c).toNat = c := b8_nat (by omega)
    have hsft : ∀ d, soft (b8 c) d = false := fun d => soft_not (by rw [h0]; omega)
    have hes : escape (b8 c :: r) = (if special (b8 c) then [92, b8 c] else [b8 c]) ++ escape r := by
      cases r with
      | nil => rw [escape_one]; show _ = _ ++ []; rw [List.append_nil]
      | cons d q => rw [escape_two, hsft d]; rfl
    rw [hes]
    cases hs : special (b8 c) with
    | true =>
      rw [if_pos rfl, if_pos ⟨rfl, hlow⟩]
      have : encs [92, c] = [92, b8 c] := by rw [Ut.encs_cons, Ut.encs_cons, enc_low hlow, enc_low (show 92 < 128 by decide)]; rfl
      rw [this]
    | false =>
      rw [if_neg (by simp), if_neg (by simp)]
      have : encs [c] = [b8 c] := by simp [encs, enc_low hlow]
      rw [this]
  · by_cases h173 : c = 173
    · subst h173
      rw [if_pos rfl]
      have e : enc 173 = [194, 173] := by decide
      rw [e, List.cons_append, List.cons_append, List.nil_append, escape_two, if_pos (by decide)]
      have : encs [92, 45] = [92, 45] := by decide
      rw [this]; rfl
    · rw [if_neg h173, if_neg (by omega)]
      have : encs [c] = enc c := by simp [encs]
      rw [this]
      obtain ⟨x, q, e, h1, h2, h3, h4⟩ := enc_high hc hhigh
      rw [e, List.cons_append, escape_pass (high_special (by omega)) _ (fun d s he => ?_), escape_cont q r h2]
      · rfl
      · cases q with
        | nil => exact absurd rfl h3
        | cons y q =>
          rw [List.cons_append] at he
          injection he with he _
          subst he
          exact decide_eq_false (fun hh => h173 (h4 hh.1 y q rfl hh.2))
theorem escape_encs : ∀ (L : List Nat), (∀ c ∈ L, letterN c = true) → escape (encs L) = encs (L.flatMap escN)
  | [], _ => rfl
  | c :: L, h => by
    have hL' := fun d hd => h d (List.mem_cons_of_mem _ hd)
    rw [Ut.encs_cons, escape_letter (h c (List.mem_cons_self ..)) _ (clean_of hL'), escape_encs L hL', List.flatMap_cons, Ut.encs_append]
theorem escape_clean {t : List UInt8} (h : Ut.clean t = true) : Ut.clean (escape t) = true := by
  obtain ⟨L, h1, rfl⟩ := clean_has h
  rw [escape_encs L h1]
  refine clean_of (fun c hc => ?_)
  obtain ⟨d, hd, hc⟩ := List.mem_flatMap.1 hc
  unfold escN at hc
  split at hc
  · simp at hc; rcases hc with rfl | rfl <;> decide
  · split at hc
    · simp at hc; rcases hc with rfl | rfl
      · decide
      · exact h1 _ hd
    · simp at hc; subst hc; exact h1 _ hd
end Go.Proofs.Ytimpadooknclkaa.Lx
