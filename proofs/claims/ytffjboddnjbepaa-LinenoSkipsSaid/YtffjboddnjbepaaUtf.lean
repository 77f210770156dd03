/-
  The plain mathematics of package utf: letters, their bytes, which letters bytes are, and where they are none first; no program is mentioned here.
-/
import Derived.Lib.Strings
set_option linter.unusedVariables false
set_option linter.unusedSimpArgs false
namespace Go.Proofs.Ytffjboddnjbepaa.Ut

/-! ### letters and their bytes -/
def letterN (n : Nat) : Bool := decide (n ≤ 1114111 ∧ (n < 55296 ∨ 57343 < n))
theorem letterN_le {n : Nat} (h : letterN n = true) : n ≤ 1114111 := (of_decide_eq_true h).1
/-- a number is a letter -/
def letter (c : Int) : Bool := decide (0 ≤ c ∧ c ≤ 1114111 ∧ (c < 55296 ∨ 57343 < c))
theorem letter_nat (n : Nat) : letter (n : Int) = letterN n := by
  unfold letter letterN
  rw [Bool.eq_iff_iff, decide_eq_true_iff, decide_eq_true_iff]
  omega
theorem letter_pos {c : Int} (h : letter c = true) : 0 ≤ c ∧ c ≤ 1114111 := by
  have := of_decide_eq_true h
  omega
def b8 (n : Nat) : UInt8 := UInt8.ofNat n
theorem b8_nat {n : Nat} (h : n < 256) : (b8 n).toNat = n := by
  unfold b8
  rw [UInt8.toNat_ofNat']; omega
/-- a letter's bytes -/
def enc (n : Nat) : List UInt8 :=
  if n < 128 then [b8 n]
  else if n < 2048 then [b8 (192 + n / 64), b8 (128 + n % 64)]
  else if n < 65536 then [b8 (224 + n / 4096), b8 (128 + n / 64 % 64), b8 (128 + n % 64)]
  else [b8 (240 + n / 262144), b8 (128 + n / 4096 % 64), b8 (128 + n / 64 % 64), b8 (128 + n % 64)]
def encs (l : List Nat) : List UInt8 := l.flatMap enc
theorem encs_nil : encs [] = [] := rfl
theorem encs_cons (c : Nat) (l : List Nat) : encs (c :: l) = enc c ++ encs l := rfl
theorem encs_append (l m : List Nat) : encs (l ++ m) = encs l ++ encs m := by simp [encs]
theorem encs_snoc (l : List Nat) (c : Nat) : encs (l ++ [c]) = encs l ++ enc c := by simp [encs]
theorem enc_len (n : Nat) : 1 ≤ (enc n).length ∧ (enc n).length ≤ 4 := by
  unfold enc
  split
  · simp
  · split
    · simp
    · split <;> simp
theorem encs_len (l : List Nat) : l.length ≤ (encs l).length ∧ (encs l).length ≤ 4 * l.length := by
  induction l with
  | nil => exact ⟨Nat.le_refl _, Nat.le_refl _⟩
  | cons c r ih =>
    have := enc_len c
    rw [encs_cons, List.length_append, List.length_cons]
    omega
/-- how many bytes a letter has whose first byte is b -/
def lenOf (b : UInt8) : Nat := if b.toNat < 128 then 1 else if b.toNat < 224 then 2 else if b.toNat < 240 then 3 else 4
theorem enc_head {n : Nat} (h : letterN n = true) : ∃ b r, enc n = b :: r ∧ (enc n).length = lenOf b := by
  have hn := letterN_le h
  unfold enc
  split
  · refine ⟨_, _, rfl, ?_⟩
    unfold lenOf
    rw [b8_nat (by omega), if_pos (by omega)]
    rfl
  · split
    · refine ⟨_, _, rfl, ?_⟩
      unfold lenOf
      rw [b8_nat (by omega), if_neg (by omega), if_pos (by omega)]
      rfl
    · split
      · refine ⟨_, _, rfl, ?_⟩
        unfold lenOf
        rw [b8_nat (by omega), if_neg (by omega), if_neg (by omega), if_pos (by omega)]
        rfl
      · refine ⟨_, _, rfl, ?_⟩
        unfold lenOf
        rw [b8_nat (by omega), if_neg (by omega), if_neg (by omega), if_neg (by omega)]
        rfl

/-! ### the letter that bytes begin with -/
def at8 (s : List UInt8) (i : Nat) : Nat := (s.getD i 0).toNat
def val (s : List UInt8) : Nat → Nat
  | 0 => 0
  | 1 => at8 s 0
  | 2 => 64 * (at8 s 0 % 32) + at8 s 1 % 64
  | 3 => 64 * (64 * (at8 s 0 % 16) + at8 s 1 % 64) + at8 s 2 % 64
  | _ => 64 * (64 * (64 * (at8 s 0 % 8) + at8 s 1 % 64) + at8 s 2 % 64) + at8 s 3 % 64
def hit (s : List UInt8) (n : Nat) : Bool := decide (n ≤ s.length) && (letterN (val s n) && enc (val s n) == s.take n)
def first (s : List UInt8) : Option (Nat × Nat) :=
  if hit s 1 then some (val s 1, 1) else if hit s 2 then some (val s 2, 2) else if hit s 3 then some (val s 3, 3) else if hit s 4 then some (val s 4, 4) else none
theorem hit_parts {s : List UInt8} {n : Nat} (h : hit s n = true) : n ≤ s.length ∧ letterN (val s n) = true ∧ enc (val s n) = s.take n ∧ (enc (val s n)).length = n := by
  unfold hit at h
  simp only [Bool.and_eq_true, decide_eq_true_eq, beq_iff_eq] at h
  refine ⟨h.1, h.2.1, h.2.2, ?_⟩
  rw [h.2.2, List.length_take]; omega
theorem first_some {s : List UInt8} {c n : Nat} (h : first s = some (c, n)) : letterN c = true ∧ s = enc c ++ s.drop n ∧ (enc c).length = n ∧ 1 ≤ n ∧ n ≤ 4 ∧ n ≤ s.length := by
  have key : ∀ m, 1 ≤ m → m ≤ 4 → hit s m = true → some (val s m, m) = some (c, n) → letterN c = true ∧ s = enc c ++ s.drop n ∧ (enc c).length = n ∧ 1 ≤ n ∧ n ≤ 4 ∧ n ≤ s.length := by
    intro m h1 h4 hm e
    injection e with e
    injection e with e1 e2
    obtain ⟨a1, a2, a3, a4⟩ := hit_parts hm
    subst e1 e2
    exact ⟨a2, by rw [a3, List.take_append_drop], a4, h1, h4, a1⟩
  unfold first at h
  split at h
  · exact key 1 (by omega) (by omega) (by assumption) h
  · split at h
    · exact key 2 (by omega) (by omega) (by assumption) h
    · split at h
      · exact key 3 (by omega) (by omega) (by assumption) h
      · split at h
        · exact key 4 (by omega) (by omega) (by assumption) h
        · cases h
/-- bytes that begin as a letter's do are no letter of another length -/
theorem hit_len {c : Nat} {r : List UInt8} {n : Nat} (hc : letterN c = true) (hn : 1 ≤ n) (h : hit (enc c ++ r) n = true) : n = (enc c).length := by
  obtain ⟨a1, a2, a3, a4⟩ := hit_parts h
  obtain ⟨b, x, e1, e2⟩ := enc_head hc
  obtain ⟨b', x', e1', e2'⟩ := enc_head a2
  have hb : b' = b := by
    have h1 : (enc (val (enc c ++ r) n)).head? = some b' := by rw [e1']; rfl
    rw [a3, e1] at h1
    cases n with
    | zero => omega
    | succ n =>
      simp at h1
      exact h1.symm
  rw [e2, ← hb, ← e2', a4]
theorem val_enc (c : Nat) (r : List UInt8) (hc : letterN c = true) : val (enc c ++ r) (enc c).length = c := by
  have hn := letterN_le hc
  unfold enc
  split
  · show at8 _ 0 = c
    unfold at8
    show (b8 c).toNat = c
    rw [b8_nat (by omega)]
  · split
    · show 64 * (at8 _ 0 % 32) + at8 _ 1 % 64 = c
      unfold at8
      show 64 * ((b8 (192 + c / 64)).toNat % 32) + (b8 (128 + c % 64)).toNat % 64 = c
      rw [b8_nat (by omega), b8_nat (by omega)]
      omega
    · split
      · show 64 * (64 * (at8 _ 0 % 16) + at8 _ 1 % 64) + at8 _ 2 % 64 = c
        unfold at8
        show 64 * (64 * ((b8 (224 + c / 4096)).toNat % 16) + (b8 (128 + c / 64 % 64)).toNat % 64) + (b8 (128 + c % 64)).toNat % 64 = c
        rw [b8_nat (by omega), b8_nat (by omega), b8_nat (by omega)]
        omega
      · show 64 * (64 * (64 * (at8 _ 0 % 8) + at8 _ 1 % 64) + at8 _ 2 % 64) + at8 _ 3 % 64 = c
        unfold at8
        show 64 * (64 * (64 * ((b8 (240 + c / 262144)).toNat % 8) + (b8 (128 + c / 4096 % 64)).toNat % 64) + (b8 (128 + c / 64 % 64)).toNat % 64) + (b8 (128 + c % 64)).toNat % 64 = c
        rw [b8_nat (by omega), b8_nat (by omega), b8_nat (by omega), b8_nat (by omega)]
        omega
theorem hit_enc (c : Nat) (r : List UInt8) (hc : letterN c = true) : hit (enc c ++ r) (enc c).length = true := by
  unfold hit
  rw [val_enc c r hc, hc, List.take_left, decide_eq_true (by rw [List.length_append]; omega)]
  simp
theorem first_enc (c : Nat) (r : List UInt8) (hc : letterN c = true) : first (enc c ++ r) = some (c, (enc c).length) := by
  have hl := enc_len c
  have hv := val_enc c r hc
  have hh := hit_enc c r hc
  have no : ∀ n, 1 ≤ n → n ≠ (enc c).length → hit (enc c ++ r) n = false := by
    intro n h1 h2
    cases h : hit (enc c ++ r) n with
    | false => rfl
    | true => exact absurd (hit_len hc h1 h) h2
  generalize (enc c).length = L at *
  unfold first
  rcases Nat.lt_or_ge L 2 with h | h
  · obtain rfl : L = 1 := by omega
    rw [hh, if_pos rfl, hv]
  · rw [no 1 (by omega) (by omega), if_neg (by decide)]
    rcases Nat.lt_or_ge L 3 with h | h
    · obtain rfl : L = 2 := by omega
      rw [hh, if_pos rfl, hv]
    · rw [no 2 (by omega) (by omega), if_neg (by decide)]
      rcases Nat.lt_or_ge L 4 with h | h
      · obtain rfl : L = 3 := by omega
        rw [hh, if_pos rfl, hv]
      · rw [no 3 (by omega) (by omega), if_neg (by decide)]
        obtain rfl : L = 4 := by omega
        rw [hh, if_pos rfl, hv]
theorem first_nil : first [] = none := by decide
/-- what bytes begin with is told by four of them -/
theorem first_more (s t : List UInt8) (h : 4 ≤ s.length) : first (s ++ t) = first s := by
  have ha : ∀ i, i < 4 → at8 (s ++ t) i = at8 s i := by
    intro i hi
    unfold at8
    rw [List.getD_eq_getElem?_getD, List.getD_eq_getElem?_getD, List.getElem?_append_left (by omega)]
  have hv : ∀ n, 1 ≤ n → n ≤ 4 → val (s ++ t) n = val s n := by
    intro n h1 h4
    have c : n = 1 ∨ n = 2 ∨ n = 3 ∨ n = 4 := by omega
    rcases c with rfl | rfl | rfl | rfl
    · show at8 _ 0 = at8 _ 0
      rw [ha 0 (by omega)]
    · show 64 * (at8 _ 0 % 32) + at8 _ 1 % 64 = 64 * (at8 _ 0 % 32) + at8 _ 1 % 64
      rw [ha 0 (by omega), ha 1 (by omega)]
    · show 64 * (64 * (at8 _ 0 % 16) + at8 _ 1 % 64) + at8 _ 2 % 64 = 64 * (64 * (at8 _ 0 % 16) + at8 _ 1 % 64) + at8 _ 2 % 64
      rw [ha 0 (by omega), ha 1 (by omega), ha 2 (by omega)]
    · show 64 * (64 * (64 * (at8 _ 0 % 8) + at8 _ 1 % 64) + at8 _ 2 % 64) + at8 _ 3 % 64 = 64 * (64 * (64 * (at8 _ 0 % 8) + at8 _ 1 % 64) + at8 _ 2 % 64) + at8 _ 3 % 64
      rw [ha 0 (by omega), ha 1 (by omega), ha 2 (by omega), ha 3 (by omega)]
  have hh : ∀ n, 1 ≤ n → n ≤ 4 → hit (s ++ t) n = hit s n := by
    intro n h1 h4
    unfold hit
    rw [hv n h1 h4, List.take_append_of_le_length (by omega), decide_eq_true (show n ≤ (s ++ t).length by rw [List.length_append]; omega), decide_eq_true (show n ≤ s.length by omega)]
  unfold first
  rw [hh 1 (by omega) (by omega), hh 2 (by omega) (by omega), hh 3 (by omega) (by omega), hh 4 (by omega) (by omega), hv 1 (by omega) (by omega), hv 2 (by omega) (by omega), hv 3 (by omega) (by omega), hv 4 (by omega) (by omega)]

/-! ### the letters of bytes, and what is left at the first place at which there is none -/
def decF : Nat → List UInt8 → List Nat × List UInt8
  | 0, s => ([], s)
  | f + 1, s =>
    match first s with
    | none => ([], s)
    | some (c, n) => (c :: (decF f (s.drop n)).1, (decF f (s.drop n)).2)
def dec (s : List UInt8) : List Nat × List UInt8 := decF s.length s
theorem decF_is : ∀ (f : Nat) (s : List UInt8), s.length ≤ f → s = encs (decF f s).1 ++ (decF f s).2 ∧ (∀ c ∈ (decF f s).1, letterN c = true) ∧ first (decF f s).2 = none
  | 0, s, h => by
    obtain rfl : s = [] := List.eq_nil_of_length_eq_zero (by omega)
    exact ⟨rfl, (fun c hc => by cases hc), first_nil⟩
  | f + 1, s, h => by
    cases hf : first s with
    | none =>
      have e : decF (f + 1) s = ([], s) := by
        unfold decF
        rw [hf]
      rw [e]
      exact ⟨rfl, (fun c hc => by cases hc), hf⟩
    | some x =>
      obtain ⟨c, n⟩ := x
      obtain ⟨a1, a2, a3, a4, a5, a6⟩ := first_some hf
      have e : decF (f + 1) s = (c :: (decF f (s.drop n)).1, (decF f (s.drop n)).2) := by
        conv => lhs; unfold decF
        rw [hf]
      obtain ⟨i1, i2, i3⟩ := decF_is f (s.drop n) (by rw [List.length_drop]; omega)
      rw [e]
      refine ⟨?_, ?_, i3⟩
      · show s = encs (c :: (decF f (s.drop n)).1) ++ (decF f (s.drop n)).2
        rw [encs_cons, List.append_assoc, ← i1]
        exact a2
      · intro d hd
        rcases List.mem_cons.1 hd with rfl | hd
        · exact a1
        · exact i2 d hd
theorem dec_is (s : List UInt8) : s = encs (dec s).1 ++ (dec s).2 ∧ (∀ c ∈ (dec s).1, letterN c = true) ∧ first (dec s).2 = none := decF_is _ s (Nat.le_refl _)
/-- there is just one way to read bytes as letters, up to where there is none -/
theorem read_one : ∀ (l m : List Nat) (t u : List UInt8), (∀ c ∈ l, letterN c = true) → (∀ c ∈ m, letterN c = true) → first t = none → first u = none → encs l ++ t = encs m ++ u → l = m ∧ t = u
  | [], [], t, u, _, _, _, _, h => ⟨rfl, h⟩
  | [], c :: m, t, u, _, hm, ht, _, h => by
    exfalso
    have h1 := first_enc c (encs m ++ u) (hm c (List.mem_cons_self ..))
    have h : t = encs (c :: m) ++ u := h
    rw [encs_cons, List.append_assoc] at h
    rw [← h, ht] at h1
    cases h1
  | c :: l, [], t, u, hl, _, _, hu, h => by
    exfalso
    have h1 := first_enc c (encs l ++ t) (hl c (List.mem_cons_self ..))
    have h : encs (c :: l) ++ t = u := h
    rw [encs_cons, List.append_assoc] at h
    rw [h, hu] at h1
    cases h1
  | c :: l, d :: m, t, u, hl, hm, ht, hu, h => by
    rw [encs_cons, encs_cons, List.append_assoc, List.append_assoc] at h
    have h1 := first_enc c (encs l ++ t) (hl c (List.mem_cons_self ..))
    have h2 := first_enc d (encs m ++ u) (hm d (List.mem_cons_self ..))
    rw [h, h2] at h1
    injection h1 with h1
    injection h1 with h1 _
    subst h1
    have h3 := List.append_cancel_left h
    have ih := read_one l m t u (fun c hc => hl c (List.mem_cons_of_mem _ hc)) (fun c hc => hm c (List.mem_cons_of_mem _ hc)) ht hu h3
    exact ⟨by rw [ih.1], ih.2⟩
theorem dec_of {s : List UInt8} {l : List Nat} {t : List UInt8} (h : s = encs l ++ t) (hl : ∀ c ∈ l, letterN c = true) (ht : first t = none) : dec s = (l, t) := by
  obtain ⟨h1, h2, h3⟩ := dec_is s
  obtain ⟨e1, e2⟩ := read_one (dec s).1 l (dec s).2 t h2 hl h3 ht (by rw [← h1]; exact h)
  exact Prod.ext e1 e2
theorem dec_encs {l : List Nat} (hl : ∀ c ∈ l, letterN c = true) : dec (encs l) = (l, []) := dec_of (by simp) hl first_nil
theorem dec_len (s : List UInt8) : (dec s).1.length ≤ s.length ∧ (encs (dec s).1).length ≤ s.length := by
  have h := (dec_is s).1
  have h1 := congrArg List.length h
  rw [List.length_append] at h1
  have h2 := encs_len (dec s).1
  omega
/-- do bytes consist of letters? -/
def clean (s : List UInt8) : Bool := (dec s).2.isEmpty
/-- where there is no letter first -/
def stop (s : List UInt8) : Nat := (encs (dec s).1).length
theorem clean_iff {s : List UInt8} : clean s = true ↔ s = encs (dec s).1 := by
  have h := (dec_is s).1
  unfold clean
  rw [List.isEmpty_iff]
  constructor
  · intro e
    rw [e, List.append_nil] at h
    exact h
  · intro e
    have h1 := congrArg List.length h
    have h2 := congrArg List.length e
    rw [List.length_append] at h1
    exact List.eq_nil_of_length_eq_zero (by omega)
theorem stop_lt {s : List UInt8} (h : clean s = false) : stop s < s.length := by
  have h1 := congrArg List.length (dec_is s).1
  rw [List.length_append] at h1
  unfold stop
  have : (dec s).2.length ≠ 0 := by
    intro e
    have : clean s = true := by unfold clean; rw [List.eq_nil_of_length_eq_zero e]; rfl
    rw [this] at h; cases h
  omega
theorem stop_clean {s : List UInt8} (h : clean s = true) : stop s = s.length := by
  have h1 := clean_iff.1 h
  unfold stop
  rw [← h1]
/-- the places at which letters begin, the first of them at place p -/
def places (p : Nat) : List Nat → List Nat
  | [] => []
  | c :: r => p :: places (p + (enc c).length) r
theorem places_append (l m : List Nat) : ∀ p, places p (l ++ m) = places p l ++ places (p + (encs l).length) m := by
  induction l with
  | nil => intro p; rfl
  | cons c r ih =>
    intro p
    show p :: places (p + (enc c).length) (r ++ m) = p :: (places (p + (enc c).length) r ++ places (p + (encs (c :: r)).length) m)
    rw [ih, encs_cons, List.length_append, Nat.add_assoc]
theorem places_length (l : List Nat) : ∀ p, (places p l).length = l.length := by
  induction l with
  | nil => intro p; rfl
  | cons c r ih => intro p; show (places _ r).length + 1 = r.length + 1; rw [ih]
theorem places_at (l : List Nat) : ∀ (p i : Nat), i < l.length → (places p l)[i]? = some (p + (encs (l.take i)).length) := by
  induction l with
  | nil => intro p i h; exact absurd h (Nat.not_lt_zero _)
  | cons c r ih =>
    intro p i h
    cases i with
    | zero => show some p = _; simp [encs]
    | succ i =>
      show (places (p + (enc c).length) r)[i]? = _
      rw [ih _ i (by simpa using h), List.take_succ_cons, encs_cons, List.length_append, Nat.add_assoc]
theorem places_shift (l : List Nat) : ∀ p q, places (p + q) l = (places q l).map (p + ·) := by
  induction l with
  | nil => intro p q; rfl
  | cons c r ih =>
    intro p q
    show (p + q) :: places (p + q + (enc c).length) r = (p + q) :: (places (q + (enc c).length) r).map (p + ·)
    rw [Nat.add_assoc, ih]

/-! ### what the statements ask -/
/-- the bytes up to the fault are letters -/
theorem up_to_fault (s : List UInt8) : dec (s.take (stop s)) = ((dec s).1, []) := by
  obtain ⟨h1, h2, _⟩ := dec_is s
  have e : s.take (stop s) = encs (dec s).1 := by
    have h := List.take_left (l₁ := encs (dec s).1) (l₂ := (dec s).2)
    rw [← h1] at h
    exact h
  rw [e]
  exact dec_encs h2
/-- a fault stays where it is, whatever stands four bytes and more behind it -/
theorem fault_stays (s t : List UInt8) (h : 4 ≤ s.length - stop s) : (dec (s ++ t)).1 = (dec s).1 ∧ clean (s ++ t) = false := by
  obtain ⟨h1, h2, h3⟩ := dec_is s
  have hl := congrArg List.length h1
  rw [List.length_append] at hl
  have h4 : 4 ≤ (dec s).2.length := by unfold stop at h; omega
  have e := dec_of (s := s ++ t) (l := (dec s).1) (t := (dec s).2 ++ t) (by rw [← List.append_assoc, ← h1]) h2 (by rw [first_more _ _ h4]; exact h3)
  refine ⟨by rw [e], ?_⟩
  unfold clean
  rw [e]
  cases hd : (dec s).2 with
  | nil => rw [hd] at h4; exact absurd h4 (by decide)
  | cons => rfl
/-- of two texts, one behind the other -/
theorem dec_parts {s : List UInt8} (h : clean s = true) (t : List UInt8) : dec (s ++ t) = ((dec s).1 ++ (dec t).1, (dec t).2) := by
  obtain ⟨_, h2, _⟩ := dec_is s
  obtain ⟨t1, t2, t3⟩ := dec_is t
  refine dec_of ?_ ?_ t3
  · rw [encs_append, List.append_assoc, ← t1, ← clean_iff.1 h]
  · intro c hc
    rcases List.mem_append.1 hc with hc | hc
    · exact h2 c hc
    · exact t2 c hc
end Go.Proofs.Ytffjboddnjbepaa.Ut
