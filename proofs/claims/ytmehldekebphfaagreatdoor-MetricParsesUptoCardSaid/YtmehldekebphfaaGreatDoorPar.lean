/-
  The plain mathematics of package scaled, second part: a length's print, what a text is parsed as, that the two undo one another, and the document's procedure of parsing; no program is mentioned here.
-/
import Derived.Test.YtmehldekebphfaaGreatDoorLen
set_option linter.unusedVariables false
set_option linter.unusedSimpArgs false
namespace Go.Proofs.YtmehldekebphfaaGreatDoor.Sc
open Go.Lib

/-! ### print -/
def fracDs (r : Nat) : List Nat := (Fr.frac 5 (10 * r + 5) 10).getD []
def bytesOf (ds : List Nat) : List UInt8 := ds.map fun d => UInt8.ofNat (48 + d)
theorem bytesOf_append (x y : List Nat) : bytesOf (x ++ y) = bytesOf x ++ bytesOf y := List.map_append
def print (n : Int) : List UInt8 := if fits n then (if n < 0 then [45] else []) ++ (decDigits (n.natAbs / 65536) ++ ([46] ++ bytesOf (fracDs (n.natAbs % 65536)))) else []
theorem fracDs_ok (r : Nat) (h : r < 65536) : Fr.frac 5 (10 * r + 5) 10 = some (fracDs r) ∧ (Fr.acc (fracDs r) + 1) / 2 = r ∧ (∀ d ∈ fracDs r, d ≤ 9) ∧ fracDs r ≠ [] ∧ (fracDs r).length ≤ 5 := by
  obtain ⟨ds, h1, h2⟩ := Fr.frac_ok r h
  have e : fracDs r = ds := by unfold fracDs; rw [h1]; rfl
  rw [e]
  exact ⟨h1, h2⟩
theorem print_no {n : Int} (h : fits n = false) : print n = [] := by
  unfold print; rw [if_neg (by rw [h]; decide)]
theorem print_neg {a : Int} (h : fits a = true) (ha : 0 < a) : print (-a) = [45] ++ print a := by
  have h2 : fits (-a) = true := by rw [fits_neg]; exact h
  unfold print
  rw [if_pos h, if_pos h2, if_pos (by omega), if_neg (by omega), Int.natAbs_neg]
  rfl

/-! ### parse -/
def digs (l : List UInt8) : Bool := !l.isEmpty && l.all Fm.isDig
def facc (l : List UInt8) : Nat := Fr.acc (l.map fun c => c.toNat - 48)
def fracB (l : List UInt8) : Bool := decide (l.length ≤ 17) && digs l
def body (t : List UInt8) : Option Nat :=
  if digs (cut t [46]).1 then
    if (cut t [46]).2.2 then (if fracB (cut t [46]).2.1 then some (65536 * min (Fm.spell 0 (cut t [46]).1) 16384 + (facc (cut t [46]).2.1 + 1) / 2) else none)
    else some (65536 * min (Fm.spell 0 (cut t [46]).1) 16384)
  else none
def neg (l : List UInt8) : Bool := l.head? == some 45
def unsigned (l : List UInt8) : List UInt8 := if neg l then l.drop 1 else l
def sgn (b : Bool) (m : Nat) : Int := if b then -(m : Int) else m
def fin (b : Bool) : Option Nat → Option Int
  | none => none
  | some m => if fits (sgn b m) then some (sgn b m) else none
def parse (l : List UInt8) : Option Int := fin (neg l) (body (unsigned l))

theorem isDig_iff {c : UInt8} : Fm.isDig c = true ↔ 48 ≤ c.toNat ∧ c.toNat ≤ 57 := by unfold Fm.isDig; exact decide_eq_true_iff
theorem all_dig {l : List UInt8} : l.all Fm.isDig = true ↔ ∀ c ∈ l, 48 ≤ c.toNat ∧ c.toNat ≤ 57 := by
  rw [List.all_eq_true]
  exact ⟨fun h c hc => isDig_iff.1 (h c hc), fun h c hc => isDig_iff.2 (h c hc)⟩
theorem digs_of {l : List UInt8} (h0 : l ≠ []) (h : ∀ c ∈ l, 48 ≤ c.toNat ∧ c.toNat ≤ 57) : digs l = true := by
  unfold digs
  rw [all_dig.2 h]
  cases l with
  | nil => exact absurd rfl h0
  | cons => rfl
theorem digs_dig {l : List UInt8} (h : digs l = true) : ∀ c ∈ l, 48 ≤ c.toNat ∧ c.toNat ≤ 57 := by
  unfold digs at h
  simp only [Bool.and_eq_true] at h
  exact all_dig.1 h.2
theorem bytes_dig {ds : List Nat} (h : ∀ d ∈ ds, d ≤ 9) : ∀ c ∈ bytesOf ds, 48 ≤ c.toNat ∧ c.toNat ≤ 57 := by
  intro c hc
  obtain ⟨d, hd, rfl⟩ := List.mem_map.1 hc
  have := h d hd
  show 48 ≤ (UInt8.ofNat (48 + d)).toNat ∧ (UInt8.ofNat (48 + d)).toNat ≤ 57
  rw [Fm.dig_toNat d (by omega)]; omega
theorem facc_bytes {ds : List Nat} (h : ∀ d ∈ ds, d ≤ 9) : facc (bytesOf ds) = Fr.acc ds := by
  unfold facc bytesOf
  rw [List.map_map]
  congr 1
  conv => rhs; rw [← List.map_id ds]
  apply List.map_congr_left
  intro d hd
  have := h d hd
  show (UInt8.ofNat (48 + d)).toNat - 48 = id d
  rw [Fm.dig_toNat d (by omega)]
  show 48 + d - 48 = d
  omega
theorem no_dot {l : List UInt8} (h : ∀ c ∈ l, 48 ≤ c.toNat ∧ c.toNat ≤ 57) : (46 : UInt8) ∉ l := by
  intro hm
  have := (h 46 hm).1
  exact absurd this (by decide)
/-- P2.5: what is printed is parsed as it was. -/
theorem parse_print {n : Int} (h : fits n = true) : parse (print n) = some n := by
  have hf := fits_yes h
  obtain ⟨_, hv, h9, hne, hlen⟩ := fracDs_ok (n.natAbs % 65536) (by omega)
  have hp : print n = (if n < 0 then [45] else []) ++ (decDigits (n.natAbs / 65536) ++ ([46] ++ bytesOf (fracDs (n.natAbs % 65536)))) := by unfold print; rw [if_pos h]
  have hneg : neg (print n) = decide (n < 0) := by
    rw [hp]
    by_cases h0 : n < 0
    · rw [if_pos h0, decide_eq_true h0]; rfl
    · rw [if_neg h0, decide_eq_false h0]
      have hd := Fm.decDigits_dig (n.natAbs / 65536)
      have hn := Fm.decDigits_ne (n.natAbs / 65536)
      cases hl : decDigits (n.natAbs / 65536) with
      | nil => exact absurd hl hn
      | cons c r =>
        rw [hl] at hd
        have := hd c (List.mem_cons_self ..)
        show (some c == some 45) = false
        rw [beq_eq_false_iff_ne]
        intro e
        injection e with e
        rw [e] at this
        exact absurd this.1 (by decide)
  have hun : unsigned (print n) = decDigits (n.natAbs / 65536) ++ ([46] ++ bytesOf (fracDs (n.natAbs % 65536))) := by
    unfold unsigned
    rw [hneg, hp]
    by_cases h0 : n < 0
    · rw [decide_eq_true h0, if_pos rfl, if_pos h0]; rfl
    · rw [decide_eq_false h0, if_neg (by decide), if_neg h0]; rfl
  have hcut : cut (unsigned (print n)) [46] = (decDigits (n.natAbs / 65536), bytesOf (fracDs (n.natAbs % 65536)), true) := by
    rw [hun]
    exact Fm.cut_here (x := 46) rfl (no_dot (Fm.decDigits_dig _))
  have hb : body (unsigned (print n)) = some n.natAbs := by
    unfold body
    rw [hcut]
    simp only
    rw [if_pos (digs_of (Fm.decDigits_ne _) (Fm.decDigits_dig _)), if_pos trivial, if_pos, facc_bytes h9, hv, Fm.spell_dec]
    · congr 1; omega
    · unfold fracB
      rw [digs_of (by intro e; exact hne (List.map_eq_nil_iff.1 e)) (bytes_dig h9)]
      have : (bytesOf (fracDs (n.natAbs % 65536))).length ≤ 17 := by unfold bytesOf; rw [List.length_map]; omega
      rw [decide_eq_true this]; rfl
  unfold parse
  rw [hb, hneg]
  have hs : sgn (decide (n < 0)) n.natAbs = n := by
    unfold sgn
    by_cases h0 : n < 0
    · rw [decide_eq_true h0, if_pos rfl]; omega
    · rw [decide_eq_false h0, if_neg (by decide)]; omega
  unfold fin
  simp only
  rw [hs, if_pos h]
theorem print_inj {n m : Int} (hn : fits n = true) (hm : fits m = true) : (print m = print n) ↔ m = n := by
  refine ⟨fun h => ?_, fun h => by rw [h]⟩
  have h1 := parse_print hn
  rw [← h, parse_print hm] at h1
  injection h1
theorem parse_nil : parse [] = none := by
  have : body (unsigned []) = none := by
    have hc : cut (unsigned []) [46] = ([], [], false) := Fm.cut_none (x := 46) rfl (by unfold unsigned neg; simp)
    unfold body
    rw [hc]
    rfl
  unfold parse
  rw [this]; rfl
theorem print_len (n : Int) : (print n).length ≤ 26 := by
  cases h : fits n with
  | false => rw [print_no h]; simp
  | true =>
    obtain ⟨_, _, _, _, hlen⟩ := fracDs_ok (n.natAbs % 65536) (by omega)
    unfold print
    rw [if_pos h]
    have hf := fits_yes h
    have hd : (decDigits (n.natAbs / 65536)).length ≤ 5 := by
      rw [decDigits_length]
      have nd : ∀ (j N : Nat), 1 ≤ j → N < 10 ^ j → nDigits N ≤ j := by
        intro j
        induction j with
        | zero => intro N h _; omega
        | succ j ih =>
          intro N _ hN
          by_cases h10 : N < 10
          · rw [nDigits_small h10]; omega
          · rw [nDigits_big h10]
            rw [Nat.pow_succ] at hN
            by_cases hj : j = 0
            · subst hj; omega
            · have := ih (N / 10) (by omega) (by omega)
              omega
      exact nd 5 _ (by omega) (by have : (10 : Nat) ^ 5 = 100000 := by decide
                                  omega)
    have hb : (bytesOf (fracDs (n.natAbs % 65536))).length ≤ 5 := by unfold bytesOf; rw [List.length_map]; exact hlen
    simp only [List.length_append, List.length_cons, List.length_nil]
    have : (if n < 0 then [(45 : UInt8)] else []).length ≤ 1 := by split <;> simp
    omega

/-! ### the document's procedure of parsing -/
def cap (n : Nat) (c : UInt8) : Nat := if n < 100000 then 10 * n + (c.toNat - 48) else n
def step : Option (Nat × Option Nat × Nat) → UInt8 → Option (Nat × Option Nat × Nat)
  | none, _ => none
  | some (n, d, j), c => if c = 46 ∧ d = none then some (n, some j, j + 1) else if Fm.isDig c then some (if d = none then cap n c else n, d, j + 1) else none
def scan (t : List UInt8) : Option (Nat × Option Nat × Nat) := t.foldl step (some (0, none, 0))
theorem scan_snoc (t : List UInt8) (c : UInt8) : scan (t ++ [c]) = step (scan t) c := by
  unfold scan; rw [List.foldl_append]; rfl
theorem foldl_none (l : List UInt8) : l.foldl step none = none := by
  induction l with
  | nil => rfl
  | cons c r ih => exact ih
theorem scan_bad {t : List UInt8} {k : Nat} (h : scan (t.take k) = none) : scan t = none := by
  conv => lhs; rw [← List.take_append_drop k t]
  unfold scan at *
  rw [List.foldl_append, h, foldl_none]
theorem ndig_dot : Fm.isDig 46 = false := by decide
theorem foldl_digs (l : List UInt8) : ∀ (n : Nat) (d : Option Nat) (j : Nat), (∀ c ∈ l, 48 ≤ c.toNat ∧ c.toNat ≤ 57) → l.foldl step (some (n, d, j)) = some (if d = none then l.foldl cap n else n, d, j + l.length) := by
  induction l with
  | nil => intro n d j _; cases d <;> rfl
  | cons c r ih =>
    intro n d j h
    have hc := h c (List.mem_cons_self ..)
    have h46 : c ≠ 46 := by intro e; rw [e] at hc; exact absurd hc.1 (by decide)
    have hs : step (some (n, d, j)) c = some (if d = none then cap n c else n, d, j + 1) := by
      unfold step
      simp only
      rw [if_neg (fun e => h46 e.1), if_pos (isDig_iff.2 hc)]
    rw [List.foldl_cons, hs, ih _ _ _ (fun x hx => h x (List.mem_cons_of_mem _ hx))]
    cases d with
    | none => simp; omega
    | some x => simp; omega
theorem foldl_bad_some (l : List UInt8) : ∀ (n x j : Nat), l.all Fm.isDig = false → l.foldl step (some (n, some x, j)) = none := by
  induction l with
  | nil => intro n x j h; cases h
  | cons c r ih =>
    intro n x j h
    rw [List.foldl_cons]
    cases hc : Fm.isDig c with
    | true =>
      have hs : step (some (n, some x, j)) c = some (n, some x, j + 1) := by
        unfold step
        simp only
        rw [if_neg (fun e => by cases e.2), if_pos hc]; rfl
      rw [hs]
      rw [List.all_cons, hc, Bool.true_and] at h
      exact ih _ _ _ h
    | false =>
      have hs : step (some (n, some x, j)) c = none := by
        unfold step
        simp only
        rw [if_neg (fun e => by cases e.2), if_neg (by rw [hc]; decide)]
      rw [hs, foldl_none]
theorem foldl_bad_none (l : List UInt8) : ∀ (n j : Nat), (46 : UInt8) ∉ l → l.all Fm.isDig = false → l.foldl step (some (n, none, j)) = none := by
  induction l with
  | nil => intro n j _ h; cases h
  | cons c r ih =>
    intro n j h46 h
    rw [List.foldl_cons]
    have hne : c ≠ 46 := fun e => h46 (by rw [e]; exact List.mem_cons_self ..)
    cases hc : Fm.isDig c with
    | true =>
      have hs : step (some (n, none, j)) c = some (cap n c, none, j + 1) := by
        unfold step
        simp only
        rw [if_neg (fun e => hne e.1), if_pos hc]; rfl
      rw [hs]
      rw [List.all_cons, hc, Bool.true_and] at h
      exact ih _ _ (fun hm => h46 (List.mem_cons_of_mem _ hm)) h
    | false =>
      have hs : step (some (n, none, j)) c = none := by
        unfold step
        simp only
        rw [if_neg (fun e => hne e.1), if_neg (by rw [hc]; decide)]
      rw [hs, foldl_none]
theorem cap_spell (l : List UInt8) : ∀ (n v : Nat), (n = v ∨ 100000 ≤ n ∧ 100000 ≤ v) → (l.foldl cap n = Fm.spell v l ∨ 100000 ≤ l.foldl cap n ∧ 100000 ≤ Fm.spell v l) := by
  induction l with
  | nil => intro n v h; exact h
  | cons c r ih =>
    intro n v h
    show (r.foldl cap (cap n c) = Fm.spell (v * 10 + (c.toNat - 48)) r ∨ _)
    refine ih _ _ ?_
    unfold cap
    rcases h with rfl | h
    · split
      · left; omega
      · right; omega
    · rw [if_neg (by omega)]; right; omega
def refM (t : List UInt8) : Option Nat :=
  match scan t with
  | none => none
  | some (n, none, _) => if t.length = 0 then none else some (65536 * n)
  | some (n, some d, _) => if d = 0 ∨ d + 1 = t.length ∨ 18 < t.length - d then none else some (65536 * n + (facc (t.drop (d + 1)) + 1) / 2)
def refParse (l : List UInt8) : Option Int := fin (neg l) (refM (unsigned l))
theorem fin_same {b : Bool} {x y f : Nat} (h : x = y ∨ 100000 ≤ x ∧ 100000 ≤ y) : fin b (some (65536 * x + f)) = fin b (some (65536 * min y 16384 + f)) := by
  have big : ∀ z : Nat, 1073741823 < z → fits (sgn b z) = false := by
    intro z hz
    apply fits_not
    unfold sgn
    split <;> omega
  by_cases hy : y < 16384
  · rcases h with rfl | h
    · rw [show min x 16384 = x by omega]
    · omega
  · unfold fin
    simp only
    rw [big _ (by omega), big _ (by omega)]
    rfl
theorem cut_split (t : List UInt8) : ((46 : UInt8) ∉ t ∧ cut t [46] = (t, [], false)) ∨ ∃ p f, t = p ++ (46 :: f) ∧ (46 : UInt8) ∉ p ∧ cut t [46] = (p, f, true) := by
  induction t with
  | nil => exact .inl ⟨by simp, Fm.cut_none (x := 46) rfl (by simp)⟩
  | cons c r ih =>
    by_cases hc : c = 46
    · subst hc
      exact .inr ⟨[], r, rfl, by simp, Fm.cut_here (l := []) (sep := [46]) (r := r) (x := 46) rfl (by simp)⟩
    · rcases ih with ⟨h1, _⟩ | ⟨p, f, rfl, h1, _⟩
      · have : (46 : UInt8) ∉ c :: r := by simp [h1]; exact fun e => hc e.symm
        exact .inl ⟨this, Fm.cut_none (x := 46) rfl this⟩
      · have : (46 : UInt8) ∉ c :: p := by simp [h1]; exact fun e => hc e.symm
        exact .inr ⟨c :: p, f, rfl, this, Fm.cut_here (l := c :: p) (sep := [46]) (r := f) (x := 46) rfl this⟩
/-- The document's procedure, step by step, parses what 'parse' tells. -/
theorem refParse_eq (l : List UInt8) : refParse l = parse l := by
  unfold refParse parse
  generalize unsigned l = t
  generalize neg l = b
  rcases cut_split t with ⟨h46, hc⟩ | ⟨p, f, rfl, h46, hc⟩
  · unfold body
    rw [hc]
    simp only
    cases hd : t.all Fm.isDig with
    | false =>
      have hs : scan t = none := foldl_bad_none t 0 0 h46 hd
      have : digs t = false := by unfold digs; rw [hd, Bool.and_false]
      rw [this, if_neg (by decide)]
      unfold refM
      rw [hs]
    | true =>
      have hs : scan t = some (t.foldl cap 0, none, 0 + t.length) := foldl_digs t 0 none 0 (all_dig.1 hd)
      unfold refM
      rw [hs]
      simp only
      cases t with
      | nil => rfl
      | cons c r =>
        have : digs (c :: r) = true := digs_of (by simp) (all_dig.1 hd)
        rw [this, if_pos rfl, if_neg (by simp), if_neg (by decide)]
        exact fin_same (f := 0) (cap_spell (c :: r) 0 0 (.inl rfl))
  · unfold body
    rw [hc]
    simp only
    rw [if_pos trivial]
    cases hd : p.all Fm.isDig with
    | false =>
      have hs : scan (p ++ 46 :: f) = none := by
        unfold scan
        rw [List.foldl_append, foldl_bad_none p 0 0 h46 hd, foldl_none]
      have : digs p = false := by unfold digs; rw [hd, Bool.and_false]
      rw [this, if_neg (by decide)]
      unfold refM
      rw [hs]
    | true =>
      have hs1 : scan (p ++ 46 :: f) = f.foldl step (some (p.foldl cap 0, some p.length, p.length + 1)) := by
        have hst : step (some (p.foldl cap 0, none, 0 + p.length)) 46 = some (p.foldl cap 0, some p.length, p.length + 1) := by
          unfold step
          simp only
          rw [if_pos ⟨trivial, trivial⟩]
          simp
        unfold scan
        rw [List.foldl_append, foldl_digs p 0 none 0 (all_dig.1 hd), if_pos rfl, List.foldl_cons, hst]
      cases hf : f.all Fm.isDig with
      | false =>
        rw [foldl_bad_some f _ _ _ hf] at hs1
        have : fracB f = false := by unfold fracB digs; rw [hf, Bool.and_false, Bool.and_false]
        rw [this, if_neg (show ¬ (false = true) by decide), ite_self]
        unfold refM
        rw [hs1]
      | true =>
        rw [foldl_digs f _ _ _ (all_dig.1 hf), if_neg (by simp)] at hs1
        have hl : (p ++ 46 :: f).length = p.length + f.length + 1 := by simp; omega
        have hdr : (p ++ 46 :: f).drop (p.length + 1) = f := by
          rw [← List.drop_drop, List.drop_left]; rfl
        have hM : refM (p ++ 46 :: f) = if p.length = 0 ∨ f.length = 0 ∨ 17 < f.length then none else some (65536 * p.foldl cap 0 + (facc f + 1) / 2) := by
          unfold refM
          rw [hs1]
          simp only
          rw [hdr, hl]
          by_cases hq : p.length = 0 ∨ f.length = 0 ∨ 17 < f.length
          · rw [if_pos (by omega), if_pos hq]
          · rw [if_neg (by omega), if_neg hq]
        rw [hM]
        by_cases hp0 : p = []
        · subst hp0
          rw [if_pos (.inl rfl)]
          rfl
        · have hpl : p.length ≠ 0 := fun e => hp0 (List.eq_nil_of_length_eq_zero e)
          rw [digs_of hp0 (all_dig.1 hd), if_pos rfl]
          by_cases hf0 : f = []
          · subst hf0
            rw [if_pos (.inr (.inl rfl))]
            rfl
          · have hfl : f.length ≠ 0 := fun e => hf0 (List.eq_nil_of_length_eq_zero e)
            by_cases h17 : f.length ≤ 17
            · have : fracB f = true := by
                unfold fracB
                rw [decide_eq_true h17, digs_of hf0 (all_dig.1 hf)]; rfl
              rw [this, if_pos rfl, if_neg (by omega)]
              exact fin_same (cap_spell p 0 0 (.inl rfl))
            · have : fracB f = false := by
                unfold fracB
                rw [decide_eq_false h17]; rfl
              rw [this, if_neg (show ¬ (false = true) by decide), if_pos (by omega)]
/-- what is read of digits behind a dot stays small -/
theorem facc_cons (c : UInt8) (r : List UInt8) : facc (c :: r) = (facc r + 131072 * (c.toNat - 48)) / 10 := rfl
theorem facc_le (l : List UInt8) (h : ∀ c ∈ l, 48 ≤ c.toNat ∧ c.toNat ≤ 57) : facc l ≤ 131072 := by
  induction l with
  | nil => show 0 ≤ 131072; omega
  | cons c r ih =>
    have h1 := ih (fun x hx => h x (List.mem_cons_of_mem _ hx))
    have h2 := h c (List.mem_cons_self ..)
    rw [facc_cons]
    omega
theorem cap_le (l : List UInt8) : ∀ n : Nat, n ≤ 1000207 → l.foldl cap n ≤ 1000207 := by
  induction l with
  | nil => intro n h; exact h
  | cons c r ih =>
    intro n h
    rw [List.foldl_cons]
    refine ih _ ?_
    have := c.toNat_lt
    unfold cap
    split <;> omega
theorem min_spell (l : List UInt8) (c : UInt8) : min (Fm.spell 0 (l ++ [c])) 16384 = min (10 * min (Fm.spell 0 l) 16384 + (c.toNat - 48)) 16384 := by
  rw [Fm.spell_append]; omega
end Go.Proofs.YtmehldekebphfaaGreatDoor.Sc
