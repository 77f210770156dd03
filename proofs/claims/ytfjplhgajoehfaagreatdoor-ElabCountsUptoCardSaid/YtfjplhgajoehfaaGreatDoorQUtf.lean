/-
  The plain mathematics of package utf: letters, their bytes, which letters bytes are, and where they are none first; no program is mentioned here.
  Small facts that the walks of a seat share: what is returned, what stays in memory, bytes of a text.
  Numbers that fit, and their sums: plain mathematics; the landed Fits and Add, and the reference's Fits.
  The plain mathematics of packages glue and item: glue that may be, its sums, items that may be, boxes, the items of words and lines; no program is mentioned here.
  Slices of numbers: how they lie in memory, a call's own and others.
  What package utf's calls answer, in the words of the plain mathematics; faults in memory, rows of the call's own.
-/
import Derived.Lib.Strings
import Derived.Test.YtfjplhgajoehfaaGreatDoorProg
import Derived.Tactics
import Derived.Tactics2
import Derived.WalkKit
import Derived.LoopTactic
import Derived.Deep.LoopGhost
import Derived.Lib.Walk
import Derived.Lib.Hide
import Derived.WalkSpells
import Derived.WalkSmall
import Derived.IntWalk
import Derived.KernelRfl
import Derived.Deep.QuietTactic
import Derived.BigQuiet
import Derived.RegionTactic
import Derived.Lib.QuietBelow
import Derived.Maps.AppendAt
import Derived.OwnWalk
import Derived.Laws.IdiomStrings
set_option linter.unusedVariables false
set_option linter.unusedSimpArgs false
namespace Go.Proofs.YtfjplhgajoehfaaGreatDoor.Ut

/-! ### letters and their bytes -/
def letterN (n : Nat) : Bool := decide (n ≤ 1114111 ∧ (n < 55296 ∨ 57343 < n))
theorem letterN_le {n : Nat} (h : letterN n = true) : n ≤ 1114111 := (of_decide_eq_true h).1
/-- a number is a letter -/
def letter (c : Int) : Bool := decide (0 ≤ c ∧ c ≤ 1114111 ∧ (c < 55296 ∨ 57343 < c))
theorem letter_nat (n : Nat) : letter (n : Int) = letterN n := by
  unfold letter letterN
  rw [Bool.eq_iff_iff, decide_eq_true_iff, decide_eq_true_iff]
  omega
theorem letter_pos {c : Int} (h : letter c = true) : 0 ≤ c ∧ c ≤ 1114111 := by
  have := of_decide_eq_true h
  omega
def b8 (n : Nat) : UInt8 := UInt8.ofNat n
theorem b8_nat {n : Nat} (h : n < 256) : (b8 n).toNat = n := by
  unfold b8
  rw [UInt8.toNat_ofNat']; omega
/-- a letter's bytes -/
def enc (n : Nat) : List UInt8 :=
  if n < 128 then [b8 n]
  else if n < 2048 then [b8 (192 + n / 64), b8 (128 + n % 64)]
  else if n < 65536 then [b8 (224 + n / 4096), b8 (128 + n / 64 % 64), b8 (128 + n % 64)]
  else [b8 (240 + n / 262144), b8 (128 + n / 4096 % 64), b8 (128 + n / 64 % 64), b8 (128 + n % 64)]
def encs (l : List Nat) : List UInt8 := l.flatMap enc
theorem encs_nil : encs [] = [] := rfl
theorem encs_cons (c : Nat) (l : List Nat) : encs (c :: l) = enc c ++ encs l := rfl
theorem encs_append (l m : List Nat) : encs (l ++ m) = encs l ++ encs m := by simp [encs]
theorem encs_snoc (l : List Nat) (c : Nat) : encs (l ++ [c]) = encs l ++ enc c := by simp [encs]
theorem enc_len (n : Nat) : 1 ≤ (enc n).length ∧ (enc n).length ≤ 4 := by
  unfold enc
  split
  · simp
  · split
    · simp
    · split <;> simp
theorem encs_len (l : List Nat) : l.length ≤ (encs l).length ∧ (encs l).length ≤ 4 * l.length := by
  induction l with
  | nil => exact ⟨Nat.le_refl _, Nat.le_refl _⟩
  | cons c r ih =>
    have := enc_len c
    rw [encs_cons, List.length_append, List.length_cons]
    omega
/-- how many bytes a letter has whose first byte is b -/
def lenOf (b : UInt8) : Nat := if b.toNat < 128 then 1 else if b.toNat < 224 then 2 else if b.toNat < 240 then 3 else 4
theorem enc_head {n : Nat} (h : letterN n = true) : ∃ b r, enc n = b :: r ∧ (enc n).length = lenOf b := by
  have hn := letterN_le h
  unfold enc
  split
  · refine ⟨_, _, rfl, ?_⟩
    unfold lenOf
    rw [b8_nat (by omega), if_pos (by omega)]
    rfl
  · split
    · refine ⟨_, _, rfl, ?_⟩
      unfold lenOf
      rw [b8_nat (by omega), if_neg (by omega), if_pos (by omega)]
      rfl
    · split
      · refine ⟨_, _, rfl, ?_⟩
        unfold lenOf
        rw [b8_nat (by omega), if_neg (by omega), if_neg (by omega), if_pos (by omega)]
        rfl
      · refine ⟨_, _, rfl, ?_⟩
        unfold lenOf
        rw [b8_nat (by omega), if_neg (by omega), if_neg (by omega), if_neg (by omega)]
        rfl

/-! ### the letter that bytes begin with -/
def at8 (s : List UInt8) (i : Nat) : Nat := (s.getD i 0).toNat
def val (s : List UInt8) : Nat → Nat
  | 0 => 0
  | 1 => at8 s 0
  | 2 => 64 * (at8 s 0 % 32) + at8 s 1 % 64
  | 3 => 64 * (64 * (at8 s 0 % 16) + at8 s 1 % 64) + at8 s 2 % 64
  | _ => 64 * (64 * (64 * (at8 s 0 % 8) + at8 s 1 % 64) + at8 s 2 % 64) + at8 s 3 % 64
def hit (s : List UInt8) (n : Nat) : Bool := decide (n ≤ s.length) && (letterN (val s n) && enc (val s n) == s.take n)
def first (s : List UInt8) : Option (Nat × Nat) :=
  if hit s 1 then some (val s 1, 1) else if hit s 2 then some (val s 2, 2) else if hit s 3 then some (val s 3, 3) else if hit s 4 then some (val s 4, 4) else none
theorem hit_parts {s : List UInt8} {n : Nat} (h : hit s n = true) : n ≤ s.length ∧ letterN (val s n) = true ∧ enc (val s n) = s.take n ∧ (enc (val s n)).length = n := by
  unfold hit at h
  simp only [Bool.and_eq_true, decide_eq_true_eq, beq_iff_eq] at h
  refine ⟨h.1, h.2.1, h.2.2, ?_⟩
  rw [h.2.2, List.length_take]; omega
theorem first_some {s : List UInt8} {c n : Nat} (h : first s = some (c, n)) : letterN c = true ∧ s = enc c ++ s.drop n ∧ (enc c).length = n ∧ 1 ≤ n ∧ n ≤ 4 ∧ n ≤ s.length := by
  have key : ∀ m, 1 ≤ m → m ≤ 4 → hit s m = true → some (val s m, m) = some (c, n) → letterN c = true ∧ s = enc c ++ s.drop n ∧ (enc c).length = n ∧ 1 ≤ n ∧ n ≤ 4 ∧ n ≤ s.length := by
    intro m h1 h4 hm e
    injection e with e
    injection e with e1 e2
    obtain ⟨a1, a2, a3, a4⟩ := hit_parts hm
    subst e1 e2
    exact ⟨a2, by rw [a3, List.take_append_drop], a4, h1, h4, a1⟩
  unfold first at h
  split at h
  · exact key 1 (by omega) (by omega) (by assumption) h
  · split at h
    · exact key 2 (by omega) (by omega) (by assumption) h
    · split at h
      · exact key 3 (by omega) (by omega) (by assumption) h
      · split at h
        · exact key 4 (by omega) (by omega) (by assumption) h
        · cases h
/-- bytes that begin as a letter's do are no letter of another length -/
theorem hit_len {c : Nat} {r : List UInt8} {n : Nat} (hc : letterN c = true) (hn : 1 ≤ n) (h : hit (enc c ++ r) n = true) : n = (enc c).length := by
  obtain ⟨a1, a2, a3, a4⟩ := hit_parts h
  obtain ⟨b, x, e1, e2⟩ := enc_head hc
  obtain ⟨b', x', e1', e2'⟩ := enc_head a2
  have hb : b' = b := by
    have h1 : (enc (val (enc c ++ r) n)).head? = some b' := by rw [e1']; rfl
    rw [a3, e1] at h1
    cases n with
    | zero => omega
    | succ n =>
      simp at h1
      exact h1.symm
  rw [e2, ← hb, ← e2', a4]
theorem val_enc (c : Nat) (r : List UInt8) (hc : letterN c = true) : val (enc c ++ r) (enc c).length = c := by
  have hn := letterN_le hc
  unfold enc
  split
  · show at8 _ 0 = c
    unfold at8
    show (b8 c).toNat = c
    rw [b8_nat (by omega)]
  · split
    · show 64 * (at8 _ 0 % 32) + at8 _ 1 % 64 = c
      unfold at8
      show 64 * ((b8 (192 + c / 64)).toNat % 32) + (b8 (128 + c % 64)).toNat % 64 = c
      rw [b8_nat (by omega), b8_nat (by omega)]
      omega
    · split
      · show 64 * (64 * (at8 _ 0 % 16) + at8 _ 1 % 64) + at8 _ 2 % 64 = c
        unfold at8
        show 64 * (64 * ((b8 (224 + c / 4096)).toNat % 16) + (b8 (128 + c / 64 % 64)).toNat % 64) + (b8 (128 + c % 64)).toNat % 64 = c
        rw [b8_nat (by omega), b8_nat (by omega), b8_nat (by omega)]
        omega
      · show 64 * (64 * (64 * (at8 _ 0 % 8) + at8 _ 1 % 64) + at8 _ 2 % 64) + at8 _ 3 % 64 = c
        unfold at8
        show 64 * (64 * (64 * ((b8 (240 + c / 262144)).toNat % 8) + (b8 (128 + c / 4096 % 64)).toNat % 64) + (b8 (128 + c / 64 % 64)).toNat % 64) + (b8 (128 + c % 64)).toNat % 64 = c
        rw [b8_nat (by omega), b8_nat (by omega), b8_nat (by omega), b8_nat (by omega)]
        omega
theorem hit_enc (c : Nat) (r : List UInt8) (hc : letterN c = true) : hit (enc c ++ r) (enc c).length = true := by
  unfold hit
  rw [val_enc c r hc, hc, List.take_left, decide_eq_true (by rw [List.length_append]; omega)]
  simp
theorem first_enc (c : Nat) (r : List UInt8) (hc : letterN c = true) : first (enc c ++ r) = some (c, (enc c).length) := by
  have hl := enc_len c
  have hv := val_enc c r hc
  have hh := hit_enc c r hc
  have no : ∀ n, 1 ≤ n → n ≠ (enc c).length → hit (enc c ++ r) n = false := by
    intro n h1 h2
    cases h : hit (enc c ++ r) n with
    | false => rfl
    | true => exact absurd (hit_len hc h1 h) h2
  generalize (enc c).length = L at *
  unfold first
  rcases Nat.lt_or_ge L 2 with h | h
  · obtain rfl : L = 1 := by omega
    rw [hh, if_pos rfl, hv]
  · rw [no 1 (by omega) (by omega), if_neg (by decide)]
    rcases Nat.lt_or_ge L 3 with h | h
    · obtain rfl : L = 2 := by omega
      rw [hh, if_pos rfl, hv]
    · rw [no 2 (by omega) (by omega), if_neg (by decide)]
      rcases Nat.lt_or_ge L 4 with h | h
      · obtain rfl : L = 3 := by omega
        rw [hh, if_pos rfl, hv]
      · rw [no 3 (by omega) (by omega), if_neg (by decide)]
        obtain rfl : L = 4 := by omega
        rw [hh, if_pos rfl, hv]
theorem first_nil : first [] = none := by decide
/-- what bytes begin with is told by four of them -/
theorem first_more (s t : List UInt8) (h : 4 ≤ s.length) : first (s ++ t) = first s := by
  have ha : ∀ i, i < 4 → at8 (s ++ t) i = at8 s i := by
    intro i hi
    unfold at8
    rw [List.getD_eq_getElem?_getD, List.getD_eq_getElem?_getD, List.getElem?_append_left (by omega)]
  have hv : ∀ n, 1 ≤ n → n ≤ 4 → val (s ++ t) n = val s n := by
    intro n h1 h4
    have c : n = 1 ∨ n = 2 ∨ n = 3 ∨ n = 4 := by omega
    rcases c with rfl | rfl | rfl | rfl
    · show at8 _ 0 = at8 _ 0
      rw [ha 0 (by omega)]
    · show 64 * (at8 _ 0 % 32) + at8 _ 1 % 64 = 64 * (at8 _ 0 % 32) + at8 _ 1 % 64
      rw [ha 0 (by omega), ha 1 (by omega)]
    · show 64 * (64 * (at8 _ 0 % 16) + at8 _ 1 % 64) + at8 _ 2 % 64 = 64 * (64 * (at8 _ 0 % 16) + at8 _ 1 % 64) + at8 _ 2 % 64
      rw [ha 0 (by omega), ha 1 (by omega), ha 2 (by omega)]
    · show 64 * (64 * (64 * (at8 _ 0 % 8) + at8 _ 1 % 64) + at8 _ 2 % 64) + at8 _ 3 % 64 = 64 * (64 * (64 * (at8 _ 0 % 8) + at8 _ 1 % 64) + at8 _ 2 % 64) + at8 _ 3 % 64
      rw [ha 0 (by omega), ha 1 (by omega), ha 2 (by omega), ha 3 (by omega)]
  have hh : ∀ n, 1 ≤ n → n ≤ 4 → hit (s ++ t) n = hit s n := by
    intro n h1 h4
    unfold hit
    rw [hv n h1 h4, List.take_append_of_le_length (by omega), decide_eq_true (show n ≤ (s ++ t).length by rw [List.length_append]; omega), decide_eq_true (show n ≤ s.length by omega)]
  unfold first
  rw [hh 1 (by omega) (by omega), hh 2 (by omega) (by omega), hh 3 (by omega) (by omega), hh 4 (by omega) (by omega), hv 1 (by omega) (by omega), hv 2 (by omega) (by omega), hv 3 (by omega) (by omega), hv 4 (by omega) (by omega)]

/-! ### the letters of bytes, and what is left at the first place at which there is none -/
def decF : Nat → List UInt8 → List Nat × List UInt8
  | 0, s => ([], s)
  | f + 1, s =>
    match first s with
    | none => ([], s)
    | some (c, n) => (c :: (decF f (s.drop n)).1, (decF f (s.drop n)).2)
def dec (s : List UInt8) : List Nat × List UInt8 := decF s.length s
theorem decF_is : ∀ (f : Nat) (s : List UInt8), s.length ≤ f → s = encs (decF f s).1 ++ (decF f s).2 ∧ (∀ c ∈ (decF f s).1, letterN c = true) ∧ first (decF f s).2 = none
  | 0, s, h => by
    obtain rfl : s = [] := List.eq_nil_of_length_eq_zero (by omega)
    exact ⟨rfl, (fun c hc => by cases hc), first_nil⟩
  | f + 1, s, h => by
    cases hf : first s with
    | none =>
      have e : decF (f + 1) s = ([], s) := by
        unfold decF
        rw [hf]
      rw [e]
      exact ⟨rfl, (fun c hc => by cases hc), hf⟩
    | some x =>
      obtain ⟨c, n⟩ := x
      obtain ⟨a1, a2, a3, a4, a5, a6⟩ := first_some hf
      have e : decF (f + 1) s = (c :: (decF f (s.drop n)).1, (decF f (s.drop n)).2) := by
        conv => lhs; unfold decF
        rw [hf]
      obtain ⟨i1, i2, i3⟩ := decF_is f (s.drop n) (by rw [List.length_drop]; omega)
      rw [e]
      refine ⟨?_, ?_, i3⟩
      · show s = encs (c :: (decF f (s.drop n)).1) ++ (decF f (s.drop n)).2
        rw [encs_cons, List.append_assoc, ← i1]
        exact a2
      · intro d hd
        rcases List.mem_cons.1 hd with rfl | hd
        · exact a1
        · exact i2 d hd
theorem dec_is (s : List UInt8) : s = encs (dec s).1 ++ (dec s).2 ∧ (∀ c ∈ (dec s).1, letterN c = true) ∧ first (dec s).2 = none := decF_is _ s (Nat.le_refl _)
/-- there is just one way to read bytes as letters, up to where there is none -/
theorem read_one : ∀ (l m : List Nat) (t u : List UInt8), (∀ c ∈ l, letterN c = true) → (∀ c ∈ m, letterN c = true) → first t = none → first u = none → encs l ++ t = encs m ++ u → l = m ∧ t = u
  | [], [], t, u, _, _, _, _, h => ⟨rfl, h⟩
  | [], c :: m, t, u, _, hm, ht, _, h => by
    exfalso
    have h1 := first_enc c (encs m ++ u) (hm c (List.mem_cons_self ..))
    have h : t = encs (c :: m) ++ u := h
    rw [encs_cons, List.append_assoc] at h
    rw [← h, ht] at h1
    cases h1
  | c :: l, [], t, u, hl, _, _, hu, h => by
    exfalso
    have h1 := first_enc c (encs l ++ t) (hl c (List.mem_cons_self ..))
    have h : encs (c :: l) ++ t = u := h
    rw [encs_cons, List.append_assoc] at h
    rw [h, hu] at h1
    cases h1
  | c :: l, d :: m, t, u, hl, hm, ht, hu, h => by
    rw [encs_cons, encs_cons, List.append_assoc, List.append_assoc] at h
    have h1 := first_enc c (encs l ++ t) (hl c (List.mem_cons_self ..))
    have h2 := first_enc d (encs m ++ u) (hm d (List.mem_cons_self ..))
    rw [h, h2] at h1
    injection h1 with h1
    injection h1 with h1 _
    subst h1
    have h3 := List.append_cancel_left h
    have ih := read_one l m t u (fun c hc => hl c (List.mem_cons_of_mem _ hc)) (fun c hc => hm c (List.mem_cons_of_mem _ hc)) ht hu h3
    exact ⟨by rw [ih.1], ih.2⟩
theorem dec_of {s : List UInt8} {l : List Nat} {t : List UInt8} (h : s = encs l ++ t) (hl : ∀ c ∈ l, letterN c = true) (ht : first t = none) : dec s = (l, t) := by
  obtain ⟨h1, h2, h3⟩ := dec_is s
  obtain ⟨e1, e2⟩ := read_one (dec s).1 l (dec s).2 t h2 hl h3 ht (by rw [← h1]; exact h)
  exact Prod.ext e1 e2
theorem dec_encs {l : List Nat} (hl : ∀ c ∈ l, letterN c = true) : dec (encs l) = (l, []) := dec_of (by simp) hl first_nil
theorem dec_len (s : List UInt8) : (dec s).1.length ≤ s.length ∧ (encs (dec s).1).length ≤ s.length := by
  have h := (dec_is s).1
  have h1 := congrArg List.length h
  rw [List.length_append] at h1
  have h2 := encs_len (dec s).1
  omega
/-- do bytes consist of letters? -/
def clean (s : List UInt8) : Bool := (dec s).2.isEmpty
/-- where there is no letter first -/
def stop (s : List UInt8) : Nat := (encs (dec s).1).length
theorem clean_iff {s : List UInt8} : clean s = true ↔ s = encs (dec s).1 := by
  have h := (dec_is s).1
  unfold clean
  rw [List.isEmpty_iff]
  constructor
  · intro e
    rw [e, List.append_nil] at h
    exact h
  · intro e
    have h1 := congrArg List.length h
    have h2 := congrArg List.length e
    rw [List.length_append] at h1
    exact List.eq_nil_of_length_eq_zero (by omega)
theorem stop_lt {s : List UInt8} (h : clean s = false) : stop s < s.length := by
  have h1 := congrArg List.length (dec_is s).1
  rw [List.length_append] at h1
  unfold stop
  have : (dec s).2.length ≠ 0 := by
    intro e
    have : clean s = true := by unfold clean; rw [List.eq_nil_of_length_eq_zero e]; rfl
    rw [this] at h; cases h
  omega
theorem stop_clean {s : List UInt8} (h : clean s = true) : stop s = s.length := by
  have h1 := clean_iff.1 h
  unfold stop
  rw [← h1]
/-- the places at which letters begin, the first of them at place p -/
def places (p : Nat) : List Nat → List Nat
  | [] => []
  | c :: r => p :: places (p + (enc c).length) r
theorem places_append (l m : List Nat) : ∀ p, places p (l ++ m) = places p l ++ places (p + (encs l).length) m := by
  induction l with
  | nil => intro p; rfl
  | cons c r ih =>
    intro p
    show p :: places (p + (enc c).length) (r ++ m) = p :: (places (p + (enc c).length) r ++ places (p + (encs (c :: r)).length) m)
    rw [ih, encs_cons, List.length_append, Nat.add_assoc]
theorem places_length (l : List Nat) : ∀ p, (places p l).length = l.length := by
  induction l with
  | nil => intro p; rfl
  | cons c r ih => intro p; show (places _ r).length + 1 = r.length + 1; rw [ih]
theorem places_at (l : List Nat) : ∀ (p i : Nat), i < l.length → (places p l)[i]? = some (p + (encs (l.take i)).length) := by
  induction l with
  | nil => intro p i h; exact absurd h (Nat.not_lt_zero _)
  | cons c r ih =>
    intro p i h
    cases i with
    | zero => show some p = _; simp [encs]
    | succ i =>
      show (places (p + (enc c).length) r)[i]? = _
      rw [ih _ i (by simpa using h), List.take_succ_cons, encs_cons, List.length_append, Nat.add_assoc]
theorem places_shift (l : List Nat) : ∀ p q, places (p + q) l = (places q l).map (p + ·) := by
  induction l with
  | nil => intro p q; rfl
  | cons c r ih =>
    intro p q
    show (p + q) :: places (p + q + (enc c).length) r = (p + q) :: (places (q + (enc c).length) r).map (p + ·)
    rw [Nat.add_assoc, ih]

/-! ### what the statements ask -/
/-- the bytes up to the fault are letters -/
theorem up_to_fault (s : List UInt8) : dec (s.take (stop s)) = ((dec s).1, []) := by
  obtain ⟨h1, h2, _⟩ := dec_is s
  have e : s.take (stop s) = encs (dec s).1 := by
    have h := List.take_left (l₁ := encs (dec s).1) (l₂ := (dec s).2)
    rw [← h1] at h
    exact h
  rw [e]
  exact dec_encs h2
/-- a fault stays where it is, whatever stands four bytes and more behind it -/
theorem fault_stays (s t : List UInt8) (h : 4 ≤ s.length - stop s) : (dec (s ++ t)).1 = (dec s).1 ∧ clean (s ++ t) = false := by
  obtain ⟨h1, h2, h3⟩ := dec_is s
  have hl := congrArg List.length h1
  rw [List.length_append] at hl
  have h4 : 4 ≤ (dec s).2.length := by unfold stop at h; omega
  have e := dec_of (s := s ++ t) (l := (dec s).1) (t := (dec s).2 ++ t) (by rw [← List.append_assoc, ← h1]) h2 (by rw [first_more _ _ h4]; exact h3)
  refine ⟨by rw [e], ?_⟩
  unfold clean
  rw [e]
  cases hd : (dec s).2 with
  | nil => rw [hd] at h4; exact absurd h4 (by decide)
  | cons => rfl
/-- of two texts, one behind the other -/
theorem dec_parts {s : List UInt8} (h : clean s = true) (t : List UInt8) : dec (s ++ t) = ((dec s).1 ++ (dec t).1, (dec t).2) := by
  obtain ⟨_, h2, _⟩ := dec_is s
  obtain ⟨t1, t2, t3⟩ := dec_is t
  refine dec_of ?_ ?_ t3
  · rw [encs_append, List.append_assoc, ← t1, ← clean_iff.1 h]
  · intro c hc
    rcases List.mem_append.1 hc with hc | hc
    · exact h2 c hc
    · exact t2 c hc
end Go.Proofs.YtfjplhgajoehfaaGreatDoor.Ut

set_option linter.unusedVariables false
set_option linter.unusedSimpArgs false
namespace Go.Proofs.YtfjplhgajoehfaaGreatDoor
open Go.RowKit

theorem ret_str {a b : ByteArray} (h : a.data.toList = b.data.toList) : Ending.returned (.string a) = .returned (.string b) := by
  obtain ⟨⟨a⟩⟩ := a; obtain ⟨⟨b⟩⟩ := b; simp at h; rw [h]
theorem ret_strL {a : ByteArray} {l : List UInt8} (h : a.data.toList = l) : Ending.returned (.string a) = .returned (.string ⟨l.toArray⟩) := ret_str (by rw [h])
theorem ret_int {k : IntKind} {a b : Int} (h : a = b) : Ending.returned (.int k a) = .returned (.int k b) := by rw [h]
theorem ret_bool {a b : Bool} (h : a = b) : Ending.returned (.bool a) = .returned (.bool b) := by rw [h]
theorem w64 {x : Int} (h0 : -9223372036854775808 ≤ x) (h1 : x ≤ 9223372036854775807) : wrap64 x = x := by unfold wrap64; omega
theorem take_next (l : List UInt8) (k : Nat) (c : UInt8) (h : l[k]? = some c) : l.take (k + 1) = l.take k ++ [c] := by
  rw [List.take_add_one, h]; rfl
theorem byte_at (s : ByteArray) (k : Nat) (h : k < s.size) : s.data.toList[k]? = some s[k] := by
  have : k < s.data.toList.length := by rw [← Lib.size_eq]; exact h
  rw [List.getElem?_eq_getElem this]; rfl
theorem at8_at (s : ByteArray) (k : Nat) (h : k < s.size) : Ut.at8 s.data.toList k = s[k].toNat := by
  unfold Ut.at8
  rw [List.getD_eq_getElem?_getD, byte_at s k h]; rfl

def Is (v : Value) (w : World) (e : Ending) (w' : World) : Prop := e = .returned v ∧ w = w'
/-- what is returned, where what lay in memory stays as it was -/
def Ret (v : Value) (w : World) (e : Ending) (w' : World) : Prop := e = .returned v ∧ Below w.heap.size w w'
theorem Is.ret {v : Value} {w w' : World} {e : Ending} (h : Is v w e w') : Ret v w e w' := ⟨h.1, h.2 ▸ Below.refl _ _⟩
theorem cell_below {w w' : World} (hb : Below w.heap.size w w') {p : Addr} {v : Value} (h : w.cell? p = some v) : w'.cell? p = some v := by
  rw [hb.cell (block_lt_of_cell h)]; exact h
theorem below_alloc (w : World) (o : Obj) : Below w.heap.size w (w.alloc o) := (Below.refl _ _).alloc (Nat.le_refl _) o
theorem below_step {w w1 w2 : World} (h : Below w.heap.size w w1) (k : Below w1.heap.size w1 w2) : Below w.heap.size w w2 := h.trans (k.mono h.size)
theorem below_drew (w : World) (k : Nat) : Below w.heap.size w (w.drewN k) := ⟨rfl, rfl, rfl, by simp [World.drewN], fun i hi => by simp [World.drewN]⟩
end Go.Proofs.YtfjplhgajoehfaaGreatDoor

set_option linter.unusedVariables false
set_option linter.unusedSimpArgs false
namespace Go.Proofs.YtfjplhgajoehfaaGreatDoor.Sc
def fits (n : Int) : Bool := decide (-1073741823 ≤ n ∧ n ≤ 1073741823)
theorem fits_yes {n : Int} (h : fits n = true) : -1073741823 ≤ n ∧ n ≤ 1073741823 := of_decide_eq_true h
theorem fits_no {n : Int} (h : fits n = false) : n < -1073741823 ∨ 1073741823 < n := by
  have := of_decide_eq_false h
  omega
theorem fits_of {n : Int} (h0 : -1073741823 ≤ n) (h1 : n ≤ 1073741823) : fits n = true := decide_eq_true ⟨h0, h1⟩
theorem fits_not {n : Int} (h : n < -1073741823 ∨ 1073741823 < n) : fits n = false := decide_eq_false (by omega)
/-- what fits, or 0 -/
def fitV (n : Int) : Int := if fits n then n else 0
def addB (a b : Int) : Bool := fits a && fits b && fits (a + b)
def addV (a b : Int) : Int := if addB a b then a + b else 0
theorem add_fit {a b : Int} (ha : fits a = true) (hb : fits b = true) : fitV (a + b) = addV a b ∧ fits (a + b) = addB a b := by
  have h : addB a b = fits (a + b) := by unfold addB; rw [ha, hb]; rfl
  exact ⟨by unfold fitV addV; rw [h], h.symm⟩
theorem add_out {a b : Int} (h : fits a = false ∨ fits b = false) : addV a b = 0 ∧ addB a b = false := by
  have h : addB a b = false := by unfold addB; rcases h with h | h <;> rw [h] <;> simp
  exact ⟨by unfold addV; rw [h]; rfl, h⟩
end Go.Proofs.YtfjplhgajoehfaaGreatDoor.Sc
namespace Go.Proofs.YtfjplhgajoehfaaGreatDoor
open Go.RowKit
theorem ret_pair {a b : Int} {c d : Bool} (h : a = b ∧ c = d) : Ending.returned (.tuple #[.int .i64 a, .bool c]) = .returned (.tuple #[.int .i64 b, .bool d]) := by rw [h.1, h.2]
/-- a number and whether it is one -/
abbrev Two (n : Int) (b : Bool) : Value := .tuple #[.int .i64 n, .bool b]

end Go.Proofs.YtfjplhgajoehfaaGreatDoor

set_option linter.unusedVariables false
set_option linter.unusedSimpArgs false
namespace Go.Proofs.YtfjplhgajoehfaaGreatDoor.It

structure Gl where
  w : Int
  st : Int
  sk : Int
  o : Int
  deriving DecidableEq
structure Itm where
  k : Int
  g : Gl
  p : Int
  f : Bool
  n : Int
  q : Int
  deriving DecidableEq
structure Pt where
  s : ByteArray
  w : Int
  h : Int
  d : Int

/-! ### glue -/
def amt (n : Int) : Bool := decide (0 ≤ n) && Sc.fits n
def size (n : Int) : Int := if n < 0 then -n else n
def glOk (g : Gl) : Bool := decide (0 ≤ g.o ∧ g.o ≤ 3) && Sc.fits g.w && amt g.st && amt g.sk
def sumZ : List Gl → Int
  | [] => 0
  | g :: r => size g.w + sumZ r
def sumT : List Gl → Int
  | [] => 0
  | g :: r => g.st + sumT r
def sumK : List Gl → Int
  | [] => 0
  | g :: r => g.sk + sumK r
def sumW : List Gl → Int
  | [] => 0
  | g :: r => g.w + sumW r
/-- the stretch of one order -/
def sumO (i : Int) : List Gl → Int
  | [] => 0
  | g :: r => (if g.o = i then g.st else 0) + sumO i r
def sumsOk (l : List Gl) : Bool := Sc.fits (sumZ l) && Sc.fits (sumT l) && Sc.fits (sumK l)
def glMay (l : List Gl) : Bool := decide (l.length ≤ 2000) && l.all glOk && sumsOk l

theorem sumZ_app (a b : List Gl) : sumZ (a ++ b) = sumZ a + sumZ b := by induction a with
  | nil => simp [sumZ]
  | cons g r ih => simp only [List.cons_append, sumZ, ih]; omega
theorem sumT_app (a b : List Gl) : sumT (a ++ b) = sumT a + sumT b := by induction a with
  | nil => simp [sumT]
  | cons g r ih => simp only [List.cons_append, sumT, ih]; omega
theorem sumK_app (a b : List Gl) : sumK (a ++ b) = sumK a + sumK b := by induction a with
  | nil => simp [sumK]
  | cons g r ih => simp only [List.cons_append, sumK, ih]; omega
theorem sumW_app (a b : List Gl) : sumW (a ++ b) = sumW a + sumW b := by induction a with
  | nil => simp [sumW]
  | cons g r ih => simp only [List.cons_append, sumW, ih]; omega
theorem sumO_app (i : Int) (a b : List Gl) : sumO i (a ++ b) = sumO i a + sumO i b := by induction a with
  | nil => simp [sumO]
  | cons g r ih => simp only [List.cons_append, sumO, ih]; omega
theorem take_snoc {α : Type} {l : List α} {k : Nat} {x : α} (h : l[k]? = some x) : l.take (k + 1) = l.take k ++ [x] := by
  rw [List.take_add_one, h]; rfl
theorem amt_yes {n : Int} (h : amt n = true) : 0 ≤ n ∧ n ≤ 1073741823 := by
  unfold amt at h
  rw [Bool.and_eq_true] at h
  exact ⟨of_decide_eq_true h.1, (Sc.fits_yes h.2).2⟩
theorem amt_of {n : Int} (h0 : 0 ≤ n) (h1 : n ≤ 1073741823) : amt n = true := by
  unfold amt
  rw [decide_eq_true h0, Sc.fits_of (by omega) h1]; rfl
theorem size_nonneg (n : Int) : 0 ≤ size n := by unfold size; split <;> omega
theorem glOk_yes {g : Gl} (h : glOk g = true) : (0 ≤ g.o ∧ g.o ≤ 3) ∧ (-1073741823 ≤ g.w ∧ g.w ≤ 1073741823) ∧ (0 ≤ g.st ∧ g.st ≤ 1073741823) ∧ (0 ≤ g.sk ∧ g.sk ≤ 1073741823) := by
  unfold glOk at h
  simp only [Bool.and_eq_true] at h
  obtain ⟨⟨⟨h1, h2⟩, h3⟩, h4⟩ := h
  exact ⟨of_decide_eq_true h1, Sc.fits_yes h2, amt_yes h3, amt_yes h4⟩
theorem size_le {n : Int} (h : -1073741823 ≤ n ∧ n ≤ 1073741823) : size n ≤ 1073741823 := by unfold size; split <;> omega
/-- sums of glue that is right, one by one -/
theorem sums_bound : ∀ l : List Gl, l.all glOk = true → (0 ≤ sumZ l ∧ sumZ l ≤ 1073741823 * (l.length : Int)) ∧ (0 ≤ sumT l ∧ sumT l ≤ 1073741823 * (l.length : Int)) ∧ (0 ≤ sumK l ∧ sumK l ≤ 1073741823 * (l.length : Int)) ∧ (-sumZ l ≤ sumW l ∧ sumW l ≤ sumZ l) ∧ ∀ i, 0 ≤ sumO i l ∧ sumO i l ≤ sumT l
  | [], _ => by simp [sumZ, sumT, sumK, sumW, sumO]
  | g :: r, h => by
    rw [List.all_cons, Bool.and_eq_true] at h
    obtain ⟨⟨a1, a2⟩, ⟨b1, b2⟩, ⟨c1, c2⟩, ⟨d1, d2⟩, e⟩ := sums_bound r h.2
    obtain ⟨go, gw, gt, gk⟩ := glOk_yes h.1
    have z0 := size_nonneg g.w
    have z1 := size_le gw
    have z2 : -size g.w ≤ g.w ∧ g.w ≤ size g.w := by unfold size; split <;> omega
    simp only [sumZ, sumT, sumK, sumW, List.length_cons]
    refine ⟨by omega, by omega, by omega, by omega, fun i => ?_⟩
    have := e i
    simp only [sumO, sumT]
    split <;> omega
theorem glMay_yes {l : List Gl} (h : glMay l = true) : l.length ≤ 2000 ∧ l.all glOk = true ∧ sumsOk l = true := by
  unfold glMay at h
  simp only [Bool.and_eq_true] at h
  exact ⟨of_decide_eq_true h.1.1, h.1.2, h.2⟩
theorem sumsOk_yes {l : List Gl} (h : sumsOk l = true) : sumZ l ≤ 1073741823 ∧ sumT l ≤ 1073741823 ∧ sumK l ≤ 1073741823 := by
  unfold sumsOk at h
  simp only [Bool.and_eq_true] at h
  exact ⟨(Sc.fits_yes h.1.1).2, (Sc.fits_yes h.1.2).2, (Sc.fits_yes h.2).2⟩
theorem sumsOk_of {l : List Gl} (hl : l.all glOk = true) (h : sumZ l ≤ 1073741823 ∧ sumT l ≤ 1073741823 ∧ sumK l ≤ 1073741823) : sumsOk l = true := by
  obtain ⟨⟨a1, a2⟩, ⟨b1, b2⟩, ⟨c1, c2⟩, _⟩ := sums_bound l hl
  unfold sumsOk
  rw [Sc.fits_of (by omega) (by omega), Sc.fits_of (by omega) (by omega), Sc.fits_of (by omega) (by omega)]; rfl
/-- what may be, may be in part -/
theorem glMay_left {a b : List Gl} (h : glMay (a ++ b) = true) : glMay a = true ∧ glMay b = true := by
  obtain ⟨h1, h2, h3⟩ := glMay_yes h
  rw [List.all_append, Bool.and_eq_true] at h2
  have s := sumsOk_yes h3
  rw [sumZ_app, sumT_app, sumK_app] at s
  rw [List.length_append] at h1
  obtain ⟨⟨a1, a2⟩, ⟨b1, b2⟩, ⟨c1, c2⟩, _⟩ := sums_bound a h2.1
  obtain ⟨⟨d1, d2⟩, ⟨e1, e2⟩, ⟨f1, f2⟩, _⟩ := sums_bound b h2.2
  constructor
  · unfold glMay
    rw [decide_eq_true (by omega), h2.1, sumsOk_of h2.1 (by omega)]; rfl
  · unfold glMay
    rw [decide_eq_true (by omega), h2.2, sumsOk_of h2.2 (by omega)]; rfl
theorem glMay_take {l : List Gl} (h : glMay l = true) (k : Nat) : glMay (l.take k) = true := by
  rw [← List.take_append_drop k l] at h
  exact (glMay_left h).1
theorem glMay_stop {l : List Gl} {k : Nat} (h : glMay (l.take k) = false) : glMay l = false := by
  cases e : glMay l with
  | false => rfl
  | true => rw [glMay_take e k] at h; exact h
/-- one more: what is asked of it -/
theorem glMay_next {l : List Gl} {k : Nat} {g : Gl} (hk : l[k]? = some g) (hl : l.length ≤ 2000) (hm : glMay (l.take k) = true) : glMay (l.take (k + 1)) = (glOk g && Sc.fits (sumZ (l.take k) + size g.w) && Sc.fits (sumT (l.take k) + g.st) && Sc.fits (sumK (l.take k) + g.sk)) := by
  obtain ⟨h1, h2, h3⟩ := glMay_yes hm
  rw [take_snoc hk]
  unfold glMay sumsOk
  rw [List.all_append, h2, sumZ_app, sumT_app, sumK_app, decide_eq_true (by have := (List.getElem?_eq_some_iff.1 hk).1; simp; omega)]
  simp only [List.all_cons, List.all_nil, sumZ, sumT, sumK, Int.add_zero, Bool.true_and, Bool.and_true, Bool.and_assoc]
theorem glMay_nil : glMay [] = true := by decide
theorem glMay_one (g : Gl) : glMay [g] = glOk g := by
  cases h : glOk g with
  | false =>
    unfold glMay
    rw [List.all_cons, h]
    simp
  | true =>
    have hl : [g].all glOk = true := by rw [List.all_cons, h]; rfl
    obtain ⟨go, gw, gt, gk⟩ := glOk_yes h
    have := size_le gw
    unfold glMay
    rw [hl, sumsOk_of hl (by simp only [sumZ, sumT, sumK]; omega)]
    simp

/-! ### items -/
def plainG (g : Gl) : Bool := decide (g.st = 0) && decide (g.sk = 0) && decide (g.o = 0)
def boxG (g : Gl) : Bool := amt g.w && plainG g
def penOk (n : Int) : Bool := decide (-10000 ≤ n) && decide (n ≤ 10000)
/-- may an item by itself be? -/
def right (x : Itm) : Bool :=
  if x.k = 0 then boxG x.g && decide (x.p = 0) && !x.f && decide (0 ≤ x.n) && decide (0 ≤ x.q)
  else if x.n ≠ 0 ∨ x.q ≠ 0 then false
  else if x.k = 1 then glOk x.g && decide (x.g.sk ≤ x.g.w) && decide (x.p = 0) && !x.f
  else decide (x.k = 2) && boxG x.g && penOk x.p
def gls (l : List Itm) : List Gl := l.map (·.g)
def may (l : List Itm) : Bool := decide (l.length ≤ 2000) && l.all right && glMay (gls l)
def boxes (l : List Itm) : List Itm := l.filter fun x => decide (x.k = 0)
theorem plain_eq (g : Gl) : plainG g = decide (g = ⟨g.w, 0, 0, 0⟩) := by
  obtain ⟨a, b, c, d⟩ := g
  unfold plainG
  rw [Bool.eq_iff_iff]
  simp [and_assoc]
theorem may_yes {l : List Itm} (h : may l = true) : l.length ≤ 2000 ∧ l.all right = true ∧ glMay (gls l) = true := by
  unfold may at h
  simp only [Bool.and_eq_true] at h
  exact ⟨of_decide_eq_true h.1.1, h.1.2, h.2⟩
theorem may_parts {a b : List Itm} (h : may (a ++ b) = true) : may a = true ∧ may b = true := by
  obtain ⟨h1, h2, h3⟩ := may_yes h
  rw [List.all_append, Bool.and_eq_true] at h2
  unfold gls at h3
  rw [List.map_append] at h3
  obtain ⟨h4, h5⟩ := glMay_left h3
  rw [List.length_append] at h1
  unfold may gls
  rw [h2.1, h2.2, h4, h5, decide_eq_true (by omega), decide_eq_true (by omega)]
  exact ⟨rfl, rfl⟩
theorem may_long {l : List Itm} (h : 2000 < l.length) : may l = false := by
  unfold may
  rw [decide_eq_false (by omega)]; rfl
theorem boxes_app (a b : List Itm) : boxes (a ++ b) = boxes a ++ boxes b := List.filter_append ..

/-! ### what is built -/
def pen (hy : Int) : Itm := ⟨2, ⟨hy, 0, 0, 0⟩, 50, true, 0, 0⟩
def box (w n i : Int) : Itm := ⟨0, ⟨w, 0, 0, 0⟩, 0, false, n, i⟩
def spc (g : Gl) : Itm := ⟨1, g, 0, false, 0, 0⟩
def endI : List Itm := [⟨2, ⟨0, 0, 0, 0⟩, 10000, false, 0, 0⟩, ⟨1, ⟨0, 65536, 0, 1⟩, 0, false, 0, 0⟩, ⟨2, ⟨0, 0, 0, 0⟩, -10000, false, 0, 0⟩]
def wordI (hy n : Int) (i : Nat) : List Pt → List Itm
  | [] => []
  | p :: r => (if 0 < i then [pen hy] else []) ++ box p.w n i :: wordI hy n (i + 1) r
def wordsI (sp : Gl) (hy n : Int) (i : Nat) : List (List Pt) → List Itm
  | [] => []
  | w :: r => (if 0 < i then [spc sp] else []) ++ (wordI hy n 0 w ++ wordsI sp hy (n + 1) (i + 1) r)
def versI (sp : Gl) (hy n : Int) : List (List (List Pt)) → List Itm
  | [] => []
  | l :: r => wordsI sp hy n 0 l ++ (endI ++ versI sp hy (n + l.length) r)
theorem drop_at {α : Type} {l : List α} {k : Nat} {x : α} (h : l[k]? = some x) : l.drop k = x :: l.drop (k + 1) := by
  obtain ⟨hk, e⟩ := List.getElem?_eq_some_iff.1 h
  rw [List.drop_eq_getElem_cons hk, e]
theorem drop_end {α : Type} {l : List α} {k : Nat} (h : l.length ≤ k) : l.drop k = [] := List.drop_of_length_le h
theorem word_at {hy n : Int} {l : List Pt} {k : Nat} {p : Pt} (h : l[k]? = some p) : wordI hy n k (l.drop k) = (if 0 < k then [pen hy] else []) ++ box p.w n k :: wordI hy n (k + 1) (l.drop (k + 1)) := by
  rw [drop_at h]; rfl
theorem words_at {sp : Gl} {hy n : Int} {l : List (List Pt)} {k : Nat} {p : List Pt} (h : l[k]? = some p) : wordsI sp hy n k (l.drop k) = (if 0 < k then [spc sp] else []) ++ (wordI hy n 0 p ++ wordsI sp hy (n + 1) (k + 1) (l.drop (k + 1))) := by
  rw [drop_at h]; rfl
theorem vers_at {sp : Gl} {hy n : Int} {l : List (List (List Pt))} {k : Nat} {p : List (List Pt)} (h : l[k]? = some p) : versI sp hy n (l.drop k) = wordsI sp hy n 0 p ++ (endI ++ versI sp hy (n + p.length) (l.drop (k + 1))) := by
  rw [drop_at h]; rfl
def cnt (l : List (List (List Pt))) : Nat := (l.map List.length).sum
theorem vers_app (sp : Gl) (hy : Int) : ∀ (a b : List (List (List Pt))) (n : Int), versI sp hy n (a ++ b) = versI sp hy n a ++ versI sp hy (n + cnt a) b
  | [], b, n => by simp [versI, cnt]
  | l :: r, b, n => by
    have e : n + (l.length : Int) + (cnt r : Int) = n + ((cnt (l :: r) : Nat) : Int) := by
      simp only [cnt, List.map_cons, List.sum_cons]; omega
    rw [List.cons_append, versI, vers_app sp hy r b, versI, e]
    simp only [List.append_assoc]
theorem wordI_len (hy n : Int) : ∀ (l : List Pt) (i : Nat), l.length ≤ (wordI hy n i l).length ∧ (wordI hy n i l).length ≤ 2 * l.length
  | [], i => by simp [wordI]
  | p :: r, i => by
    have := wordI_len hy n r (i + 1)
    simp only [wordI, List.length_append, List.length_cons]
    split <;> simp <;> omega
end Go.Proofs.YtfjplhgajoehfaaGreatDoor.It

set_option linter.unusedVariables false
set_option linter.unusedSimpArgs false
namespace Go.Proofs.YtfjplhgajoehfaaGreatDoor
open Go.RowKit

/-- v is a slice of the numbers xs of kind k -/
def IntsAt (k : IntKind) (w : World) (v : Value) (xs : List Int) : Prop :=
  (∃ a cap, v = .slice a xs.length cap ∧ xs.length ≤ cap) ∧ xs.length ≤ maxLen ∧ (0 < xs.length → ∃ b o cap, v = .slice (some ⟨b, o, none⟩) xs.length cap ∧ ∀ i x, xs[i]? = some x → w.cell? ⟨b, o + i, none⟩ = some (.int k x))
theorem IntsAt.mono {k : IntKind} {w w' : World} {v : Value} {xs : List Int} (hb : Below w.heap.size w w') (h : IntsAt k w v xs) : IntsAt k w' v xs := by
  obtain ⟨h1, h2, h3⟩ := h
  refine ⟨h1, h2, fun hp => ?_⟩
  obtain ⟨b, o, cap, e, hc⟩ := h3 hp
  exact ⟨b, o, cap, e, fun i s hs => cell_below hb (hc i s hs)⟩
theorem ints_none (k : IntKind) (w : World) : IntsAt k w (.slice none 0 0) [] := ⟨⟨none, 0, rfl, Nat.le_refl _⟩, by unfold maxLen; simp, fun h => by simp at h⟩
/-- v is a slice of the call's own, of the numbers xs -/
def OwnI (k : IntKind) (E : TypeId) (B : Nat) (v : Value) (xs : List Int) (w : World) : Prop := w.ownsRow B E 1 v xs.length (xs.map (Value.int k))
theorem OwnI.kept {k : IntKind} {E : TypeId} {B : Nat} {v : Value} {xs : List Int} {w w' : World} (h : OwnI k E B v xs w) (hb : Below w.heap.size w w') : OwnI k E B v xs w' :=
  World.ownsRow.kept h (row := none) ⟨hb.os, hb.tape, hb.output, hb.size, fun i hi _ => hb.block i hi⟩ (by cases v.ownBlock <;> simp)
theorem OwnI.mono {k : IntKind} {E : TypeId} {B : Nat} {v : Value} {xs : List Int} {w w' : World} (h : OwnI k E B v xs w) (hb : Below w.heap.size w w') : OwnI k E B v xs w' := h.kept hb
theorem OwnI.base {k : IntKind} {E : TypeId} {B B' : Nat} {v : Value} {xs : List Int} {w : World} (h : OwnI k E B v xs w) (hB : B' ≤ B) : OwnI k E B' v xs w := by
  refine ⟨h.1, ?_⟩
  rcases h.2 with h2 | ⟨g, cap, cur, e, hg, rest⟩
  · exact .inl h2
  · exact .inr ⟨g, cap, cur, e, Nat.le_trans hB hg, rest⟩
theorem OwnI.set {k : IntKind} {E : TypeId} {B p i : Nat} {v y : Value} {xs : List Int} {w : World} (h : OwnI k E B v xs w) (hp : p < B) : OwnI k E B v xs (w.setCell ⟨p, i, none⟩ y) := by
  refine World.ownsRow.kept h (row := some p) ?_ ?_
  · have hb : Below 0 w (w.setCell ⟨p, i, none⟩ y) := (Below.refl 0 w).setCell (p := ⟨p, i, none⟩) (Nat.zero_le _) y
    refine ⟨hb.os, hb.tape, hb.output, hb.size, fun j hj hne => ?_⟩
    exact Below.heap_setCell w ⟨p, i, none⟩ y j (fun e => hne (by rw [e]))
  · exact .inr fun e => by
      have := (World.ownsRow.lt h p e).1
      omega
theorem add_none (b o i : Nat) : (⟨b, o, none⟩ : Addr).add i = ⟨b, o + i, none⟩ := by unfold Addr.add; split <;> simp_all
theorem OwnI.at {k : IntKind} {E : TypeId} {B : Nat} {v : Value} {xs : List Int} {w : World} (h : OwnI k E B v xs w) : IntsAt k w v xs := by
  have h0 := h
  rcases h.2 with ⟨rfl, hn⟩ | ⟨g, cap, cur, rfl, _, hg, hcap, hmax, hsz, htake⟩
  · refine ⟨⟨none, 0, by rw [hn], by omega⟩, by omega, fun hp => by omega⟩
  · refine ⟨⟨_, _, rfl, hcap⟩, by omega, fun hp => ⟨g, 0, cap, rfl, fun i s hs => ?_⟩⟩
    have hc := World.ownsRow.cells h0 (g := g) rfl i (.int k s) (by rw [List.getElem?_map, hs]; rfl)
    rw [add_none] at hc
    exact hc
theorem ownI_nil (k : IntKind) (E : TypeId) (w : World) (B : Nat) : OwnI k E B (.slice none 0 0) [] w := World.ownsRow_nil _ _ _ _
theorem ownI_snoc {k : IntKind} {E : TypeId} {B : Nat} {v : Value} {xs : List Int} {x : Int} {w : World} (h : w.ownsRow B E 1 v (xs.length + 1) (xs.map (Value.int k) ++ [Value.int k x])) : Hid (OwnI k E B v (xs ++ [x]) w) := by
  show World.ownsRow _ _ _ _ _ _ _
  rw [List.length_append, List.map_append]
  exact h
theorem own_ne {w : World} {B bt : Nat} {e : TypeId} {size : Nat} {v : Value} {n : Nat} {xs : List Value} (h : w.ownsRow B e size v n xs) (hb : bt < B) : some bt ≠ v.ownBlock := by
  intro hk
  have := (World.ownsRow.lt h bt hk.symm).1
  omega

end Go.Proofs.YtfjplhgajoehfaaGreatDoor

set_option linter.unusedVariables false
set_option linter.unusedSimpArgs false
namespace Go.Proofs.YtfjplhgajoehfaaGreatDoor
open Go.RowKit

def asInts (l : List Nat) : List Int := l.map fun n : Nat => (n : Int)
theorem asInts_snoc (l : List Nat) (c : Nat) : asInts (l ++ [c]) = asInts l ++ [(c : Int)] := by simp [asInts]
theorem asInts_len (l : List Nat) : (asInts l).length = l.length := by simp [asInts]
theorem info32 : (Tryz.prog.info? 21).map (fun i => (i.zero, i.size, i.bytes)) = some (some (.int .i32 0), 1, 4) := by kernel_rfl
theorem info64 : (Tryz.prog.info? 3).map (fun i => (i.zero, i.size, i.bytes)) = some (some (.int .i64 0), 1, 8) := by kernel_rfl
/-- rows of unlike elements lie apart -/
theorem own_apart {w : World} {B1 B2 : Nat} {E1 E2 : TypeId} {s1 s2 : Nat} {v u : Value} {n m : Nat} {xs ys : List Value} (h1 : w.ownsRow B1 E1 s1 v n xs) (h2 : w.ownsRow B2 E2 s2 u m ys) (hE : E1 ≠ E2) : v.ownBlock = none ∨ v.ownBlock ≠ u.ownBlock := by
  rcases h1.2 with ⟨rfl, _⟩ | ⟨g, cap, cur, rfl, _, hg, _⟩
  · exact .inl rfl
  · rcases h2.2 with ⟨rfl, _⟩ | ⟨g2, cap2, cur2, rfl, _, hg2, _⟩
    · exact .inr (by simp [Value.ownBlock])
    · refine .inr fun e => hE ?_
      simp [Value.ownBlock] at e
      rw [e, hg2] at hg
      injection hg with hg
      injection hg with _ hg _
      exact hg.symm
theorem drop_text (s : ByteArray) (a : Nat) : (s.extract a s.size).data.toList = s.data.toList.drop a := by
  rw [ByteArray.data_extract, Array.toList_extract, Lib.size_eq]
  simp [List.take_of_length_le]

def walkAt (s : List UInt8) : Int := if Ut.clean s then -1 else (Ut.stop s : Int)
theorem ret_walk {a b : Value} {x y : Int} (h : x = y) : Ending.returned (.tuple #[a, b, .int .i64 x]) = .returned (.tuple #[a, b, .int .i64 y]) := by rw [h]
def WalkPost (s : List UInt8) (w : World) (e : Ending) (w' : World) : Prop :=
  ∃ v1 v2, e = .returned (.tuple #[v1, v2, .int .i64 (walkAt s)]) ∧ OwnI .i32 21 w.heap.size v1 (asInts (Ut.dec s).1) w' ∧ OwnI .i64 3 w.heap.size v2 (asInts (Ut.places 0 (Ut.dec s).1)) w' ∧ Below w.heap.size w w'
/-- what is read so far -/
structure Got (s : List UInt8) (l : List Nat) : Prop where
  lets : ∀ c ∈ l, Ut.letterN c = true
  text : s = Ut.encs l ++ s.drop (Ut.encs l).length
theorem got_nil (s : List UInt8) : Got s [] := ⟨fun c h => by simp at h, rfl⟩
theorem Got.few {s : List UInt8} {l : List Nat} (h : Got s l) : l.length ≤ s.length ∧ (Ut.encs l).length ≤ s.length := by
  have h1 := congrArg List.length h.text
  rw [List.length_append] at h1
  have := (Ut.encs_len l).1
  omega
theorem Got.next {s : List UInt8} {l : List Nat} (h : Got s l) {c n : Nat} (hf : Ut.first (s.drop (Ut.encs l).length) = some (c, n)) : Got s (l ++ [c]) ∧ (Ut.encs (l ++ [c])).length = (Ut.encs l).length + n ∧ 1 ≤ n ∧ n ≤ 4 ∧ Ut.places 0 (l ++ [c]) = Ut.places 0 l ++ [(Ut.encs l).length] ∧ c ≤ 1114111 ∧ l.length < s.length := by
  obtain ⟨a1, a2, a3, a4, a5, a6⟩ := Ut.first_some hf
  have hl : (Ut.encs (l ++ [c])).length = (Ut.encs l).length + n := by rw [Ut.encs_snoc, List.length_append, a3]
  refine ⟨⟨?_, ?_⟩, hl, a4, a5, ?_, Ut.letterN_le a1, ?_⟩
  · intro d hd
    rcases List.mem_append.1 hd with hd | hd
    · exact h.lets d hd
    · rw [List.mem_singleton.1 hd]; exact a1
  · rw [hl, Ut.encs_snoc, List.append_assoc, ← List.drop_drop, ← a2]
    exact h.text
  · rw [Ut.places_append]
    simp [Ut.places]
  · have h1 := h.few
    rw [List.length_drop] at a6
    have := (Ut.encs_len l).1
    omega
theorem Got.stops {s : List UInt8} {l : List Nat} (h : Got s l) (hf : Ut.first (s.drop (Ut.encs l).length) = none) : Ut.dec s = (l, s.drop (Ut.encs l).length) := Ut.dec_of h.text h.lets hf
theorem walk_stop {s : List UInt8} {l : List Nat} (h : Got s l) (hf : Ut.first (s.drop (Ut.encs l).length) = none) (hlt : (Ut.encs l).length < s.length) : (Ut.dec s).1 = l ∧ walkAt s = ((Ut.encs l).length : Int) := by
  have e := h.stops hf
  refine ⟨by rw [e], ?_⟩
  have hc : Ut.clean s = false := by
    unfold Ut.clean
    rw [e]
    cases hd : s.drop (Ut.encs l).length with
    | nil =>
      have := congrArg List.length hd
      rw [List.length_drop, List.length_nil] at this
      omega
    | cons => rfl
  unfold walkAt Ut.stop
  rw [hc, e]; rfl
theorem walk_end {s : List UInt8} {l : List Nat} (h : Got s l) (hlt : s.length ≤ (Ut.encs l).length) : (Ut.dec s).1 = l ∧ walkAt s = -1 := by
  have hd : s.drop (Ut.encs l).length = [] := List.drop_eq_nil_of_le hlt
  have e := h.stops (by rw [hd]; exact Ut.first_nil)
  rw [hd] at e
  refine ⟨by rw [e], ?_⟩
  have hc : Ut.clean s = true := by unfold Ut.clean; rw [e]; rfl
  unfold walkAt
  rw [hc]; rfl


/-- the letters that are told: none, where there is a fault -/
def decL (l : List UInt8) : List Int := if Ut.clean l then asInts (Ut.dec l).1 else []
def decC (l : List UInt8) : Int := if Ut.clean l then 0 else 40
def decA (l : List UInt8) : Int := if Ut.clean l then 0 else (Ut.stop l : Int)
def flt (c a : Int) : Value := .agg #[.int .i64 c, .int .i64 a]
/-- what Decode answers -/
def DecPost (l : List UInt8) (w : World) (e : Ending) (w' : World) : Prop :=
  ∃ v, e = .returned (.tuple #[v, flt (decC l) (decA l)]) ∧ OwnI .i32 21 w.heap.size v (decL l) w' ∧ Below w.heap.size w w'
theorem dec_yes {l : List UInt8} (h : Ut.clean l = true) : decL l = asInts (Ut.dec l).1 ∧ decC l = 0 ∧ decA l = 0 ∧ walkAt l = -1 := by
  unfold decL decC decA walkAt
  rw [h]; exact ⟨rfl, rfl, rfl, rfl⟩
theorem dec_no {l : List UInt8} (h : Ut.clean l = false) : decL l = [] ∧ decC l = 40 ∧ decA l = (Ut.stop l : Int) ∧ walkAt l = (Ut.stop l : Int) := by
  unfold decL decC decA walkAt
  rw [h]; exact ⟨rfl, rfl, rfl, rfl⟩
theorem ret_dec {v : Value} {c a c' a' : Int} (hc : c = c') (ha : a = a') : Ending.returned (.tuple #[v, .agg #[.int .i64 c, .int .i64 a]]) = .returned (.tuple #[v, flt c' a']) := by rw [hc, ha]; rfl
theorem bcell {W w1 : World} (hb : Below W.heap.size W w1) : (∀ b o, b < W.heap.size → w1.cell? ⟨b, o, none⟩ = W.cell? ⟨b, o, none⟩) ∧ (∀ b o, b < W.heap.size → w1.frozen? ⟨b, o, none⟩ = W.frozen? ⟨b, o, none⟩) :=
  ⟨fun b o h => hb.cell (p := ⟨b, o, none⟩) h, fun b o h => hb.frozen (p := ⟨b, o, none⟩) h⟩
/-- a fault's place, as it has been laid -/
structure FltAt (w : World) (p : Nat) (c a : Int) : Prop where
  c0 : w.cell? ⟨p, 0, none⟩ = some (.int .i64 c)
  c1 : w.cell? ⟨p, 1, none⟩ = some (.int .i64 a)
  f0 : w.frozen? ⟨p, 0, none⟩ = false
  f1 : w.frozen? ⟨p, 1, none⟩ = false
theorem FltAt.mono {w w' : World} {p : Nat} {c a : Int} (h : FltAt w p c a) (hb : Below w.heap.size w w') : FltAt w' p c a := by
  have hp : p < w.heap.size := block_lt_of_cell h.c0
  obtain ⟨h1, h2⟩ := bcell hb
  exact ⟨by rw [h1 _ _ hp]; exact h.c0, by rw [h1 _ _ hp]; exact h.c1, by rw [h2 _ _ hp]; exact h.f0, by rw [h2 _ _ hp]; exact h.f1⟩
theorem own_two {E : TypeId} {w : World} {v x y : Value} {xs : List Int} {p : Nat} (h : OwnI .i32 E (p + 1) v xs w) : OwnI .i32 E p v xs ((w.setCell ⟨p, 0, none⟩ x).setCell ⟨p, 1, none⟩ y) :=
  ((h.set (Nat.lt_succ_self p)).set (Nat.lt_succ_self p)).base (Nat.le_succ p)

/-- where letters begin: nowhere, where there is a fault -/
def stL (l : List UInt8) : List Int := if Ut.clean l then asInts (Ut.places 0 (Ut.dec l).1) else []
def StPost (l : List UInt8) (w : World) (e : Ending) (w' : World) : Prop :=
  ∃ v, e = .returned (.tuple #[v, .bool (Ut.clean l)]) ∧ OwnI .i64 3 w.heap.size v (stL l) w' ∧ Below w.heap.size w w'
end Go.Proofs.YtfjplhgajoehfaaGreatDoor
