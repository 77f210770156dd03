/-
  The plain mathematics of package metric, third part: that print and parse undo one another; faults; what is found; no program is mentioned here.
-/
import Derived.Test.YtmehldekebphfaaGreatDoorTab7
set_option linter.unusedVariables false
set_option linter.unusedSimpArgs false
namespace Go.Proofs.YtmehldekebphfaaGreatDoor.Mt
open Go.Lib

theorem ok_map {α : Type} (f : α → Ln) (k : Nat) (hk : ∀ a, kind (f a) = k) (h2 : 2 ≤ k) (r : List Ln) (hr : ∀ i, 2 ≤ i → okFrom i k r = true) : ∀ (l : List α) (i last : Nat), 2 ≤ i → last ≤ k → (l = [] → okFrom i last r = true) → okFrom i last (l.map f ++ r) = true
  | [], i, last, _, _, h => h rfl
  | a :: l, i, last, hi, hl, _ => by
    rw [List.map_cons, List.cons_append]
    simp only [okFrom, hk, Bool.and_eq_true]
    refine ⟨?_, ok_map f k hk h2 r hr l (i + 1) k (by omega) (Nat.le_refl _) (fun e => hr _ (by omega))⟩
    unfold good
    rw [if_neg (by omega)]
    simp [h2, hl]
theorem ok_ligs (l : List Lg) (i last : Nat) (hi : 2 ≤ i) (hl : last ≤ 4) : okFrom i last (l.map lnL) = true := by
  have := ok_map lnL 4 (fun _ => rfl) (by decide) [] (fun _ _ => rfl) l i last hi hl (fun _ => rfl)
  rwa [List.append_nil] at this
theorem ok_kerns (k : List Kn) (l : List Lg) (i last : Nat) (hi : 2 ≤ i) (hl : last ≤ 3) : okFrom i last (k.map lnK ++ l.map lnL) = true :=
  ok_map lnK 3 (fun _ => rfl) (by decide) _ (fun j hj => ok_ligs l j 3 hj (by decide)) k i last hi hl (fun _ => ok_ligs l i last hi (by omega))
theorem ok_lines (m : Tab) : okFrom 0 0 (lines m) = true := by
  unfold lines
  simp only [okFrom, good, kind, Bool.and_eq_true]
  refine ⟨by simp, by simp, ?_⟩
  exact ok_map lnC 2 (fun _ => rfl) (by decide) _ (fun j hj => ok_kerns _ _ j 2 hj (by decide)) _ _ _ (by decide) (by decide) (fun _ => ok_kerns _ _ _ _ (by decide) (by decide))

/-! ### what a table that may be has -/
theorem may_parts {m : Tab} (h : may m = true) : (m.chars.length ≤ 256 ∧ m.kerns.length ≤ 1000 ∧ m.ligs.length ≤ 1000 ∧ m.order = 0) ∧ (amount m.sw = true ∧ amount m.st = true ∧ amount m.sk = true ∧ has m m.hyph = true) ∧
    ((∀ c ∈ m.chars, chOk c = true) ∧ up (fun a b => decide (a.code < b.code)) m.chars = true) ∧ ((∀ k ∈ m.kerns, knOk m k = true) ∧ up (fun a b => rises a.a a.b b.a b.b) m.kerns = true) ∧ ((∀ l ∈ m.ligs, lgOk m l = true) ∧ up (fun a b => rises a.a a.b b.a b.b) m.ligs = true) := by
  unfold may at h
  simp only [Bool.and_eq_true, decide_eq_true_eq, List.all_eq_true] at h
  obtain ⟨⟨⟨⟨h0, h1⟩, h2⟩, h3⟩, h4⟩ := h
  exact ⟨h0, ⟨h1.1.1.1, h1.1.1.2, h1.1.2, h1.2⟩, h2, h3, h4⟩
theorem amount_fits {n : Int} (h : amount n = true) : Sc.fits n = true := by
  unfold amount at h
  simp only [Bool.and_eq_true] at h
  exact h.2
theorem nd_step (k : Nat) (hk : ∀ n, n < 10 ^ k → nDigits n ≤ k) (hp : 1 ≤ k) (n : Nat) (h : n < 10 ^ (k + 1)) : nDigits n ≤ k + 1 := by
  by_cases hs : n < 10
  · rw [nDigits_small hs]; omega
  · rw [nDigits_big hs]
    have := hk (n / 10) (by rw [Nat.pow_succ] at h; omega)
    omega
theorem nd_le : ∀ (k n : Nat), 1 ≤ k → n < 10 ^ k → nDigits n ≤ k
  | 0, n, h, _ => by omega
  | 1, n, _, h => by rw [nDigits_small (by simpa using h)]; exact Nat.le_refl _
  | k + 2, n, _, h => nd_step (k + 1) (fun n hn => nd_le (k + 1) n (by omega) hn) (by omega) n h
theorem nd (n : Nat) (h : n ≤ 1114111) : nDigits n < 8 := by
  have := nd_le 7 n (by decide) (by omega)
  omega
theorem letter_code {c : Int} (h : Ut.letter c = true) : codeOk c := by
  obtain ⟨h0, h1⟩ := Ut.letter_pos h
  refine ⟨h0, ?_, by omega⟩
  have e : itoa c = decDigits c.toNat := by unfold itoa; rw [if_neg (by omega)]
  rw [e]
  have hl : c.toNat ≤ 1114111 := by omega
  generalize c.toNat = n at hl
  rw [decDigits_length]
  exact nd n hl
theorem has_mem {m : Tab} {c : Int} (h : has m c = true) : ∃ x ∈ m.chars, x.code = c := by
  unfold has find at h
  rw [Option.isSome_iff_exists] at h
  obtain ⟨x, hx⟩ := h
  exact ⟨x, List.mem_of_find?_eq_some hx, by simpa using List.find?_some hx⟩
theorem has_code {m : Tab} (h : may m = true) {c : Int} (hc : has m c = true) : codeOk c := by
  obtain ⟨x, hx, rfl⟩ := has_mem hc
  have := (may_parts h).2.2.1.1 x hx
  unfold chOk at this
  simp only [Bool.and_eq_true] at this
  exact letter_code this.1.1.1
theorem lines_ok {m : Tab} (h : may m = true) : ∀ l ∈ lines m, lnOk l := by
  obtain ⟨_, ⟨h1, h2, h3, h4⟩, ⟨h5, _⟩, ⟨h6, _⟩, ⟨h7, _⟩⟩ := may_parts h
  intro l hl
  unfold lines at hl
  simp only [List.mem_cons, List.mem_append, List.mem_map] at hl
  rcases hl with rfl | rfl | ⟨c, hc, rfl⟩ | ⟨c, hc, rfl⟩ | ⟨c, hc, rfl⟩
  · exact ⟨amount_fits h1, amount_fits h2, amount_fits h3⟩
  · exact has_code h h4
  · have k := h5 c hc
    unfold chOk at k
    simp only [Bool.and_eq_true] at k
    exact ⟨letter_code k.1.1.1, amount_fits k.1.1.2, amount_fits k.1.2, amount_fits k.2⟩
  · have k := h6 c hc
    unfold knOk at k
    simp only [Bool.and_eq_true] at k
    exact ⟨has_code h k.1.1, has_code h k.1.2, k.2⟩
  · have k := h7 c hc
    unfold lgOk at k
    simp only [Bool.and_eq_true] at k
    exact ⟨has_code h k.1.1, has_code h k.1.2, has_code h k.2⟩

/-! ### print and parse -/
theorem text_free (l : Ln) : (10 : UInt8) ∉ text l := by
  have hw := words_free 10 (by decide) l
  have : ∀ (ws : List (List UInt8)), (∀ w ∈ ws, (10 : UInt8) ∉ w) → (10 : UInt8) ∉ join 32 ws := by
    intro ws
    induction ws with
    | nil => intro _; simp [join]
    | cons w r ih =>
      intro h
      cases r with
      | nil => exact h w (List.mem_cons_self ..)
      | cons x r =>
        rw [join_cons 32 w (by simp)]
        intro hm
        rcases List.mem_append.1 hm with hm | hm
        · exact h w (List.mem_cons_self ..) hm
        · rcases List.mem_cons.1 hm with hm | hm
          · revert hm; decide
          · exact ih (fun y hy => h y (List.mem_cons_of_mem _ hy)) hm
  exact this _ hw
theorem body_eq (ls : List Ln) : body ls = (ls.map text).flatMap fun l => l ++ [10] := by
  unfold body
  rw [List.flatMap_map]
theorem split_body (ls : List Ln) (r : List UInt8) : split 10 (body ls ++ r) = ls.map text ++ split 10 r := by
  rw [body_eq]
  exact split_lines r (by
    intro l hl
    obtain ⟨x, _, rfl⟩ := List.mem_map.1 hl
    exact text_free x)
theorem parse_print {m : Tab} (h : may m = true) : parse (print m) = .inl m := by
  have e : split 10 (print m) = (lines m).map text ++ [[]] := by
    unfold print
    rw [if_pos h]
    have := split_body (lines m) []
    rw [List.append_nil] at this
    rw [this]
    rfl
  obtain ⟨last, k⟩ := read_lines [[]] (by simp) (lines m) 0 0 {} (lines_ok h) (ok_lines m)
  have hl : 2 ≤ (lines m).length := by simp [lines]
  unfold parse
  rw [e, k, fold_lines m (may_parts h).1.2.2.2]
  rw [read, if_pos ⟨rfl, by omega⟩]
  simp only [h, if_true]
theorem print_parse {s : List UInt8} {m : Tab} (h : parse s = .inl m) : may m = true ∧ print m = s := by
  unfold parse at h
  have e := join_split 10 s
  generalize split 10 s = p at h e
  subst e
  cases hr : read 0 0 {} p with
  | inr i => rw [hr] at h; cases h
  | inl m' =>
    rw [hr] at h
    simp only [] at h
    split at h
    · rename_i hm
      injection h with h
      subst h
      refine ⟨hm, ?_⟩
      obtain ⟨ls, h1, h2, h3, h4, h5⟩ := read_some p 0 0 {} m' hr
      obtain ⟨k1, k2⟩ := lines_fold ls h3 (by omega)
      unfold print
      rw [if_pos hm, h4, k1, h1, join_lines, List.append_nil, body_eq]
    · cases h
/-! ### faults -/
theorem read_fault : ∀ (p : List (List UInt8)) (i last : Nat) (m : Tab) (n : Nat), read i last m p = .inr n → i ≤ n
  | [], i, last, m, n, h => by simp [read] at h; omega
  | [l], i, last, m, n, h => by
    rw [read] at h
    split at h
    · cases h
    · injection h with h; omega
  | l :: s :: r, i, last, m, n, h => by
    rw [read] at h
    cases hr : row l with
    | none => rw [hr] at h; injection h with h; omega
    | some ln =>
      rw [hr] at h
      simp only [] at h
      split at h
      · have := read_fault (s :: r) (i + 1) _ _ n h; omega
      · injection h with h; omega
/-- the lines ahead of the fault read as well with others behind them -/
theorem read_ahead (q : List (List UInt8)) (hq : q ≠ []) : ∀ (p : List (List UInt8)) (i last : Nat) (m : Tab) (n : Nat), p ≠ [] → read i last m p = .inr n → n < i + p.length ∧ ∀ n', read i last m (p.take (n - i) ++ q) = .inr n' → n ≤ n'
  | [], i, last, m, n, hp, h => absurd rfl hp
  | [l], i, last, m, n, _, h => by
    rw [read] at h
    split at h
    · cases h
    · injection h with h
      subst h
      exact ⟨by simp, fun n' hn' => by simpa using read_fault _ _ _ _ _ hn'⟩
  | l :: s :: r, i, last, m, n, _, h => by
    have stop : n = i → n < i + (l :: s :: r).length ∧ ∀ n', read i last m ((l :: s :: r).take (n - i) ++ q) = .inr n' → n ≤ n' := fun e => by
      subst e
      exact ⟨by simp, fun n' hn' => by simpa using read_fault _ _ _ _ _ hn'⟩
    rw [read] at h
    cases hr : row l with
    | none => rw [hr] at h; injection h with h; exact stop h.symm
    | some ln =>
      rw [hr] at h
      simp only [] at h
      split at h
      · rename_i hg
        have hge := read_fault (s :: r) (i + 1) _ _ n h
        obtain ⟨a, b⟩ := read_ahead q hq (s :: r) (i + 1) _ _ n (by simp) h
        refine ⟨by simp at a ⊢; omega, fun n' hn' => ?_⟩
        have e : n - i = (n - (i + 1)) + 1 := by omega
        rw [e, List.take_succ_cons, List.cons_append, read_cons hr hg (by simp [hq])] at hn'
        exact b n' hn'
      · injection h with h; exact stop h.symm
theorem parse_fault {s more : List UInt8} {n : Int} (h : parse s = .inr (70, n)) : ∃ k : Nat, n = k ∧ k < (split 10 s).length ∧
    ∀ n', parse ((((split 10 s).take k).flatMap fun l => l ++ [10]) ++ more) = .inr (70, n') → n ≤ n' := by
  unfold parse at h
  cases hr : read 0 0 {} (split 10 s) with
  | inl m =>
    rw [hr] at h
    simp only [] at h
    split at h
    · cases h
    · injection h with h; injection h with h _; exact absurd h (by decide)
  | inr k =>
    rw [hr] at h
    injection h with h; injection h with _ h
    obtain ⟨a, b⟩ := read_ahead (split 10 more) (split_ne _ _) (split 10 s) 0 0 {} k (split_ne _ _) hr
    refine ⟨k, h.symm, by omega, fun n' hn' => ?_⟩
    have e := split_lines more (c := 10) (ls := (split 10 s).take k) (fun l hl => split_free 10 s l (List.mem_of_mem_take hl))
    unfold parse at hn'
    rw [e] at hn'
    cases hr' : read 0 0 {} ((split 10 s).take k ++ split 10 more) with
    | inl m =>
      rw [hr'] at hn'
      simp only [] at hn'
      split at hn'
      · cases hn'
      · injection hn' with h; injection h with h _; exact absurd h (by decide)
    | inr k' =>
      rw [hr'] at hn'
      injection hn' with h'; injection h' with _ h'
      have := b k' (by simpa using hr')
      omega
/-! ### what is found of a table that may be -/
/-- in a row that rises, each stands behind those ahead of it -/
theorem up_lt {α : Type} {r : α → α → Bool} (ht : ∀ a b c, r a b = true → r b c = true → r a c = true) : ∀ {l : List α}, up r l = true → ∀ (i j : Nat) (x y : α), i < j → l[i]? = some x → l[j]? = some y → r x y = true
  | [], _, i, j, x, y, _, hi, _ => by simp at hi
  | [a], _, i, j, x, y, hij, _, hj => by
    have : j < 1 := by
      rcases Nat.lt_or_ge j 1 with h | h
      · exact h
      · rw [List.getElem?_eq_none (by simpa using h)] at hj; cases hj
    omega
  | a :: b :: t, h, i, j, x, y, hij, hi, hj => by
    simp only [up, Bool.and_eq_true] at h
    obtain ⟨h0, h1⟩ := h
    match i, j, hij with
    | 0, 1, _ => simp at hi hj; subst hi hj; exact h0
    | 0, j + 2, _ =>
      simp at hi hj
      subst hi
      exact ht _ _ _ h0 (up_lt ht h1 0 (j + 1) b y (by omega) (by simp) (by simpa using hj))
    | i + 1, j + 1, hij => exact up_lt ht h1 i j x y (by omega) (by simpa using hi) (by simpa using hj)
/-- the first one of a kind that no other one ahead is of -/
theorem find_at {α : Type} {p : α → Bool} : ∀ {l : List α} {i : Nat} {x : α}, l[i]? = some x → p x = true → (∀ (j : Nat) (y : α), j < i → l[j]? = some y → p y = false) → l.find? p = some x
  | [], i, x, h, _, _ => by simp at h
  | a :: t, 0, x, h, hp, _ => by simp at h; subst h; simp [List.find?_cons, hp]
  | a :: t, i + 1, x, h, hp, hn => by
    have h0 := hn 0 a (by omega) (by simp)
    rw [List.find?_cons, h0]
    exact find_at (l := t) (i := i) (by simpa using h) hp (fun j y hj hy => hn (j + 1) y (by omega) (by simpa using hy))
theorem rises_trans {a b c d e f : Int} (h : rises a b c d = true) (k : rises c d e f = true) : rises a b e f = true := by
  unfold rises at *
  simp only [Bool.or_eq_true, Bool.and_eq_true, decide_eq_true_eq, beq_iff_eq] at *
  omega
theorem rises_no {a b : Int} : rises a b a b = false := by
  unfold rises
  simp
theorem found {m : Tab} (h : may m = true) {i : Nat} {c : Ch} (hc : m.chars[i]? = some c) : find m c.code = some c := by
  have hu := (may_parts h).2.2.1.2
  refine find_at hc (by simp) (fun j y hj hy => ?_)
  have := up_lt (r := fun a b => decide (a.code < b.code)) (fun a b c h k => decide_eq_true (by have := of_decide_eq_true h; have := of_decide_eq_true k; omega)) hu j i y c hj hy hc
  have := of_decide_eq_true this
  simp
  omega
theorem kern_found {m : Tab} (h : may m = true) {i : Nat} {k : Kn} (hk : m.kerns[i]? = some k) : kern m k.a k.b = k.w := by
  have hu := (may_parts h).2.2.2.1.2
  have : m.kerns.find? (fun x => x.a == k.a && x.b == k.b) = some k := by
    refine find_at hk (by simp) (fun j y hj hy => ?_)
    have hr := up_lt (r := fun a b => rises a.a a.b b.a b.b) (fun a b c h k => rises_trans (a := a.a) (b := a.b) (c := b.a) (d := b.b) (e := c.a) (f := c.b) h k) hu j i y k hj hy hk
    cases he : (y.a == k.a && y.b == k.b) with
    | false => rfl
    | true =>
      simp only [Bool.and_eq_true, beq_iff_eq] at he
      simp only [he.1, he.2, rises_no] at hr
      cases hr
  unfold kern
  rw [this]; rfl
theorem lig_found {m : Tab} (h : may m = true) {i : Nat} {k : Lg} (hk : m.ligs[i]? = some k) : lig m k.a k.b = some k.to := by
  have hu := (may_parts h).2.2.2.2.2
  have : m.ligs.find? (fun x => x.a == k.a && x.b == k.b) = some k := by
    refine find_at hk (by simp) (fun j y hj hy => ?_)
    have hr := up_lt (r := fun a b => rises a.a a.b b.a b.b) (fun a b c h k => rises_trans (a := a.a) (b := a.b) (c := b.a) (d := b.b) (e := c.a) (f := c.b) h k) hu j i y k hj hy hk
    cases he : (y.a == k.a && y.b == k.b) with
    | false => rfl
    | true =>
      simp only [Bool.and_eq_true, beq_iff_eq] at he
      simp only [he.1, he.2, rises_no] at hr
      cases hr
  unfold lig
  rw [this]; rfl
theorem hyph_found {m : Tab} (h : may m = true) : (find m m.hyph).isSome = true := (may_parts h).2.1.2.2.2
end Go.Proofs.YtmehldekebphfaaGreatDoor.Mt
