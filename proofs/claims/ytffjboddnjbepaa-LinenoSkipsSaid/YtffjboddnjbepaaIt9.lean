/-
  The plain mathematics of packages glue and item: glue that may be, its sums, items that may be, boxes, the items of words and lines; no program is mentioned here.
-/
import Derived.Test.YtffjboddnjbepaaFit9
set_option linter.unusedVariables false
set_option linter.unusedSimpArgs false
namespace Go.Proofs.Ytffjboddnjbepaa.It

structure Gl where
  w : Int
  st : Int
  sk : Int
  o : Int
  deriving DecidableEq
structure Itm where
  k : Int
  g : Gl
  p : Int
  f : Bool
  n : Int
  q : Int
  deriving DecidableEq
structure Pt where
  s : ByteArray
  w : Int
  h : Int
  d : Int

/-! ### glue -/
def amt (n : Int) : Bool := decide (0 ≤ n) && Sc.fits n
def size (n : Int) : Int := if n < 0 then -n else n
def glOk (g : Gl) : Bool := decide (0 ≤ g.o ∧ g.o ≤ 3) && Sc.fits g.w && amt g.st && amt g.sk
def sumZ : List Gl → Int
  | [] => 0
  | g :: r => size g.w + sumZ r
def sumT : List Gl → Int
  | [] => 0
  | g :: r => g.st + sumT r
def sumK : List Gl → Int
  | [] => 0
  | g :: r => g.sk + sumK r
def sumW : List Gl → Int
  | [] => 0
  | g :: r => g.w + sumW r
/-- the stretch of one order -/
def sumO (i : Int) : List Gl → Int
  | [] => 0
  | g :: r => (if g.o = i then g.st else 0) + sumO i r
def sumsOk (l : List Gl) : Bool := Sc.fits (sumZ l) && Sc.fits (sumT l) && Sc.fits (sumK l)
def glMay (l : List Gl) : Bool := decide (l.length ≤ 2000) && l.all glOk && sumsOk l

theorem sumZ_app (a b : List Gl) : sumZ (a ++ b) = sumZ a + sumZ b := by induction a with
  | nil => simp [sumZ]
  | cons g r ih => simp only [List.cons_append, sumZ, ih]; omega
theorem sumT_app (a b : List Gl) : sumT (a ++ b) = sumT a + sumT b := by induction a with
  | nil => simp [sumT]
  | cons g r ih => simp only [List.cons_append, sumT, ih]; omega
theorem sumK_app (a b : List Gl) : sumK (a ++ b) = sumK a + sumK b := by induction a with
  | nil => simp [sumK]
  | cons g r ih => simp only [List.cons_append, sumK, ih]; omega
theorem sumW_app (a b : List Gl) : sumW (a ++ b) = sumW a + sumW b := by induction a with
  | nil => simp [sumW]
  | cons g r ih => simp only [List.cons_append, sumW, ih]; omega
theorem sumO_app (i : Int) (a b : List Gl) : sumO i (a ++ b) = sumO i a + sumO i b := by induction a with
  | nil => simp [sumO]
  | cons g r ih => simp only [List.cons_append, sumO, ih]; omega
theorem take_snoc {α : Type} {l : List α} {k : Nat} {x : α} (h : l[k]? = some x) : l.take (k + 1) = l.take k ++ [x] := by
  rw [List.take_add_one, h]; rfl
theorem amt_yes {n : Int} (h : amt n = true) : 0 ≤ n ∧ n ≤ 1073741823 := by
  unfold amt at h
  rw [Bool.and_eq_true] at h
  exact ⟨of_decide_eq_true h.1, (Sc.fits_yes h.2).2⟩
theorem amt_of {n : Int} (h0 : 0 ≤ n) (h1 : n ≤ 1073741823) : amt n = true := by
  unfold amt
  rw [decide_eq_true h0, Sc.fits_of (by omega) h1]; rfl
theorem size_nonneg (n : Int) : 0 ≤ size n := by unfold size; split <;> omega
theorem glOk_yes {g : Gl} (h : glOk g = true) : (0 ≤ g.o ∧ g.o ≤ 3) ∧ (-1073741823 ≤ g.w ∧ g.w ≤ 1073741823) ∧ (0 ≤ g.st ∧ g.st ≤ 1073741823) ∧ (0 ≤ g.sk ∧ g.sk ≤ 1073741823) := by
  unfold glOk at h
  simp only [Bool.and_eq_true] at h
  obtain ⟨⟨⟨h1, h2⟩, h3⟩, h4⟩ := h
  exact ⟨of_decide_eq_true h1, Sc.fits_yes h2, amt_yes h3, amt_yes h4⟩
theorem size_le {n : Int} (h : -1073741823 ≤ n ∧ n ≤ 1073741823) : size n ≤ 1073741823 := by unfold size; split <;> omega
/-- sums of glue that is right, one by one -/
theorem sums_bound : ∀ l : List Gl, l.all glOk = true → (0 ≤ sumZ l ∧ sumZ l ≤ 1073741823 * (l.length : Int)) ∧ (0 ≤ sumT l ∧ sumT l ≤ 1073741823 * (l.length : Int)) ∧ (0 ≤ sumK l ∧ sumK l ≤ 1073741823 * (l.length : Int)) ∧ (-sumZ l ≤ sumW l ∧ sumW l ≤ sumZ l) ∧ ∀ i, 0 ≤ sumO i l ∧ sumO i l ≤ sumT l
  | [], _ => by simp [sumZ, sumT, sumK, sumW, sumO]
  | g :: r, h => by
    rw [List.all_cons, Bool.and_eq_true] at h
    obtain ⟨⟨a1, a2⟩, ⟨b1, b2⟩, ⟨c1, c2⟩, ⟨d1, d2⟩, e⟩ := sums_bound r h.2
    obtain ⟨go, gw, gt, gk⟩ := glOk_yes h.1
    have z0 := size_nonneg g.w
    have z1 := size_le gw
    have z2 : -size g.w ≤ g.w ∧ g.w ≤ size g.w := by unfold size; split <;> omega
    simp only [sumZ, sumT, sumK, sumW, List.length_cons]
    refine ⟨by omega, by omega, by omega, by omega, fun i => ?_⟩
    have := e i
    simp only [sumO, sumT]
    split <;> omega
theorem glMay_yes {l : List Gl} (h : glMay l = true) : l.length ≤ 2000 ∧ l.all glOk = true ∧ sumsOk l = true := by
  unfold glMay at h
  simp only [Bool.and_eq_true] at h
  exact ⟨of_decide_eq_true h.1.1, h.1.2, h.2⟩
theorem sumsOk_yes {l : List Gl} (h : sumsOk l = true) : sumZ l ≤ 1073741823 ∧ sumT l ≤ 1073741823 ∧ sumK l ≤ 1073741823 := by
  unfold sumsOk at h
  simp only [Bool.and_eq_true] at h
  exact ⟨(Sc.fits_yes h.1.1).2, (Sc.fits_yes h.1.2).2, (Sc.fits_yes h.2).2⟩
theorem sumsOk_of {l : List Gl} (hl : l.all glOk = true) (h : sumZ l ≤ 1073741823 ∧ sumT l ≤ 1073741823 ∧ sumK l ≤ 1073741823) : sumsOk l = true := by
  obtain ⟨⟨a1, a2⟩, ⟨b1, b2⟩, ⟨c1, c2⟩, _⟩ := sums_bound l hl
  unfold sumsOk
  rw [Sc.fits_of (by omega) (by omega), Sc.fits_of (by omega) (by omega), Sc.fits_of (by omega) (by omega)]; rfl
/-- what may be, may be in part -/
theorem glMay_left {a b : List Gl} (h : glMay (a ++ b) = true) : glMay a = true ∧ glMay b = true := by
  obtain ⟨h1, h2, h3⟩ := glMay_yes h
  rw [List.all_append, Bool.and_eq_true] at h2
  have s := sumsOk_yes h3
  rw [sumZ_app, sumT_app, sumK_app] at s
  rw [List.length_append] at h1
  obtain ⟨⟨a1, a2⟩, ⟨b1, b2⟩, ⟨c1, c2⟩, _⟩ := sums_bound a h2.1
  obtain ⟨⟨d1, d2⟩, ⟨e1, e2⟩, ⟨f1, f2⟩, _⟩ := sums_bound b h2.2
  constructor
  · unfold glMay
    rw [decide_eq_true (by omega), h2.1, sumsOk_of h2.1 (by omega)]; rfl
  · unfold glMay
    rw [decide_eq_true (by omega), h2.2, sumsOk_of h2.2 (by omega)]; rfl
theorem glMay_take {l : List Gl} (h : glMay l = true) (k : Nat) : glMay (l.take k) = true := by
  rw [← List.take_append_drop k l] at h
  exact (glMay_left h).1
theorem glMay_stop {l : List Gl} {k : Nat} (h : glMay (l.take k) = false) : glMay l = false := by
  cases e : glMay l with
  | false => rfl
  | true => rw [glMay_take e k] at h; exact h
/-- one more: what is asked of it -/
theorem glMay_next {l : List Gl} {k : Nat} {g : Gl} (hk : l[k]? = some g) (hl : l.length ≤ 2000) (hm : glMay (l.take k) = true) : glMay (l.take (k + 1)) = (glOk g && Sc.fits (sumZ (l.take k) + size g.w) && Sc.fits (sumT (l.take k) + g.st) && Sc.fits (sumK (l.take k) + g.sk)) := by
  obtain ⟨h1, h2, h3⟩ := glMay_yes hm
  rw [take_snoc hk]
  unfold glMay sumsOk
  rw [List.all_append, h2, sumZ_app, sumT_app, sumK_app, decide_eq_true (by have := (List.getElem?_eq_some_iff.1 hk).1; simp; omega)]
  simp only [List.all_cons, List.all_nil, sumZ, sumT, sumK, Int.add_zero, Bool.true_and, Bool.and_true, Bool.and_assoc]
theorem glMay_nil : glMay [] = true := by decide
theorem glMay_one (g : Gl) : glMay [g] = glOk g := by
  cases h : glOk g with
  | false =>
    unfold glMay
    rw [List.all_cons, h]
    simp
  | true =>
    have hl : [g].all glOk = true := by rw [List.all_cons, h]; rfl
    obtain ⟨go, gw, gt, gk⟩ := glOk_yes h
    have := size_le gw
    unfold glMay
    rw [hl, sumsOk_of hl (by simp only [sumZ, sumT, sumK]; omega)]
    simp

/-! ### items -/
def plainG (g : Gl) : Bool := decide (g.st = 0) && decide (g.sk = 0) && decide (g.o = 0)
def boxG (g : Gl) : Bool := amt g.w && plainG g
def penOk (n : Int) : Bool := decide (-10000 ≤ n) && decide (n ≤ 10000)
/-- may an item by itself be? -/
def right (x : Itm) : Bool :=
  if x.k = 0 then boxG x.g && decide (x.p = 0) && !x.f && decide (0 ≤ x.n) && decide (0 ≤ x.q)
  else if x.n ≠ 0 ∨ x.q ≠ 0 then false
  else if x.k = 1 then glOk x.g && decide (x.g.sk ≤ x.g.w) && decide (x.p = 0) && !x.f
  else decide (x.k = 2) && boxG x.g && penOk x.p
def gls (l : List Itm) : List Gl := l.map (·.g)
def may (l : List Itm) : Bool := decide (l.length ≤ 2000) && l.all right && glMay (gls l)
def boxes (l : List Itm) : List Itm := l.filter fun x => decide (x.k = 0)
theorem plain_eq (g : Gl) : plainG g = decide (g = ⟨g.w, 0, 0, 0⟩) := by
  obtain ⟨a, b, c, d⟩ := g
  unfold plainG
  rw [Bool.eq_iff_iff]
  simp [and_assoc]
theorem may_yes {l : List Itm} (h : may l = true) : l.length ≤ 2000 ∧ l.all right = true ∧ glMay (gls l) = true := by
  unfold may at h
  simp only [Bool.and_eq_true] at h
  exact ⟨of_decide_eq_true h.1.1, h.1.2, h.2⟩
theorem may_parts {a b : List Itm} (h : may (a ++ b) = true) : may a = true ∧ may b = true := by
  obtain ⟨h1, h2, h3⟩ := may_yes h
  rw [List.all_append, Bool.and_eq_true] at h2
  unfold gls at h3
  rw [List.map_append] at h3
  obtain ⟨h4, h5⟩ := glMay_left h3
  rw [List.length_append] at h1
  unfold may gls
  rw [h2.1, h2.2, h4, h5, decide_eq_true (by omega), decide_eq_true (by omega)]
  exact ⟨rfl, rfl⟩
theorem may_long {l : List Itm} (h : 2000 < l.length) : may l = false := by
  unfold may
  rw [decide_eq_false (by omega)]; rfl
theorem boxes_app (a b : List Itm) : boxes (a ++ b) = boxes a ++ boxes b := List.filter_append ..

/-! ### what is built -/
def pen (hy : Int) : Itm := ⟨2, ⟨hy, 0, 0, 0⟩, 50, true, 0, 0⟩
def box (w n i : Int) : Itm := ⟨0, ⟨w, 0, 0, 0⟩, 0, false, n, i⟩
def spc (g : Gl) : Itm := ⟨1, g, 0, false, 0, 0⟩
def endI : List Itm := [⟨2, ⟨0, 0, 0, 0⟩, 10000, false, 0, 0⟩, ⟨1, ⟨0, 65536, 0, 1⟩, 0, false, 0, 0⟩, ⟨2, ⟨0, 0, 0, 0⟩, -10000, false, 0, 0⟩]
def wordI (hy n : Int) (i : Nat) : List Pt → List Itm
  | [] => []
  | p :: r => (if 0 < i then [pen hy] else []) ++ box p.w n i :: wordI hy n (i + 1) r
def wordsI (sp : Gl) (hy n : Int) (i : Nat) : List (List Pt) → List Itm
  | [] => []
  | w :: r => (if 0 < i then [spc sp] else []) ++ (wordI hy n 0 w ++ wordsI sp hy (n + 1) (i + 1) r)
def versI (sp : Gl) (hy n : Int) : List (List (List Pt)) → List Itm
  | [] => []
  | l :: r => wordsI sp hy n 0 l ++ (endI ++ versI sp hy (n + l.length) r)
theorem drop_at {α : Type} {l : List α} {k : Nat} {x : α} (h : l[k]? = some x) : l.drop k = x :: l.drop (k + 1) := by
  obtain ⟨hk, e⟩ := List.getElem?_eq_some_iff.1 h
  rw [List.drop_eq_getElem_cons hk, e]
theorem drop_end {α : Type} {l : List α} {k : Nat} (h : l.length ≤ k) : l.drop k = [] := List.drop_of_length_le h
theorem word_at {hy n : Int} {l : List Pt} {k : Nat} {p : Pt} (h : l[k]? = some p) : wordI hy n k (l.drop k) = (if 0 < k then [pen hy] else []) ++ box p.w n k :: wordI hy n (k + 1) (l.drop (k + 1)) := by
  rw [drop_at h]; rfl
theorem words_at {sp : Gl} {hy n : Int} {l : List (List Pt)} {k : Nat} {p : List Pt} (h : l[k]? = some p) : wordsI sp hy n k (l.drop k) = (if 0 < k then [spc sp] else []) ++ (wordI hy n 0 p ++ wordsI sp hy (n + 1) (k + 1) (l.drop (k + 1))) := by
  rw [drop_at h]; rfl
theorem vers_at {sp : Gl} {hy n : Int} {l : List (List (List Pt))} {k : Nat} {p : List (List Pt)} (h : l[k]? = some p) : versI sp hy n (l.drop k) = wordsI sp hy n 0 p ++ (endI ++ versI sp hy (n + p.length) (l.drop (k + 1))) := by
  rw [drop_at h]; rfl
def cnt (l : List (List (List Pt))) : Nat := (l.map List.length).sum
theorem vers_app (sp : Gl) (hy : Int) : ∀ (a b : List (List (List Pt))) (n : Int), versI sp hy n (a ++ b) = versI sp hy n a ++ versI sp hy (n + cnt a) b
  | [], b, n => by simp [versI, cnt]
  | l :: r, b, n => by
    have e : n + (l.length : Int) + (cnt r : Int) = n + ((cnt (l :: r) : Nat) : Int) := by
      simp only [cnt, List.map_cons, List.sum_cons]; omega
    rw [List.cons_append, versI, vers_app sp hy r b, versI, e]
    simp only [List.append_assoc]
theorem wordI_len (hy n : Int) : ∀ (l : List Pt) (i : Nat), l.length ≤ (wordI hy n i l).length ∧ (wordI hy n i l).length ≤ 2 * l.length
  | [], i => by simp [wordI]
  | p :: r, i => by
    have := wordI_len hy n r (i + 1)
    simp only [wordI, List.length_append, List.length_cons]
    split <;> simp <;> omega
end Go.Proofs.Ytffjboddnjbepaa.It
