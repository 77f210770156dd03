/-
  The plain mathematics of package demerit: where items may be broken, where a line begins, its glues, how it is set, what it costs; no program is mentioned here.
-/
import Derived.Test.YthcilpijiindeaaIt9
set_option linter.unusedVariables false
set_option linter.unusedSimpArgs false
namespace Go.Proofs.Ythcilpijiindeaa.It

def forced (x : Itm) : Bool := decide (x.k = 2) && decide (x.p = -10000)
def startsB (x : Itm) : Bool := decide (x.k = 0) || forced x
def gluey (x : Itm) : Bool := decide (x.k = 0) || decide (x.k = 1)
/-- may item i be a break -/
def legalN (l : List Itm) (i : Nat) : Bool :=
  match l[i]? with
  | none => false
  | some x => if x.k = 2 then decide (x.p < 10000) else decide (x.k = 1) && decide (0 < i) && decide ((l[i - 1]?).map (·.k) = some 0)
def legal (l : List Itm) (b : Int) : Bool := decide (0 ≤ b) && legalN l b.toNat
/-- where a line begins that stands behind the first s items -/
def st (l : List Itm) (s : Nat) : Nat := s + (l.drop s).findIdx startsB
def tailG (l : List Itm) (b : Nat) : List Gl :=
  match l[b]? with
  | none => []
  | some x => if x.k = 2 then [⟨x.g.w, 0, 0, 0⟩] else []
def gluesN (l : List Itm) (s b : Nat) : List Gl := (((l.take b).drop (st (l.take b) s)).filter gluey).map (·.g) ++ tailG l b
def lineN (l : List Itm) (s b : Nat) : Bool := decide (st (l.take (b + 1)) s ≤ b) && !((l.take b).drop s).any forced
def isLine (l : List Itm) (a b : Int) : Bool := (decide (a = -1) || legal l a) && legal l b && decide (a < b) && lineN l (a + 1).toNat b.toNat

/-! ### a setting -/
structure Stg where
  sg : Int
  o : Int
  e : Int
  bad : Int
def ratio (t s : Int) : Int := if t ≤ 7230584 then 297 * t / s else if 1663497 ≤ s then t / (s / 297) else t
def cub (r : Int) : Int := (r * r * r + 131072) / 262144
def bdn (t s : Int) : Int := if t = 0 then 0 else if s = 0 then 10000 else if 1290 < ratio t s then 10000 else cub (ratio t s)
def strE (e o0 o1 o2 o3 : Int) : Stg :=
  if o3 ≠ 0 then ⟨1, 3, e, 0⟩ else if o2 ≠ 0 then ⟨1, 2, e, 0⟩ else if o1 ≠ 0 then ⟨1, 1, e, 0⟩
  else if o0 ≠ 0 then ⟨1, 0, e, bdn e o0⟩ else ⟨0, 0, e, 10000⟩
def shrE (e k : Int) : Stg := ⟨-1, 0, e, if -e ≤ k then bdn (-e) k else 1000000⟩
def setE (l : List Gl) (e : Int) : Stg :=
  if 0 < e then strE e (sumO 0 l) (sumO 1 l) (sumO 2 l) (sumO 3 l) else if e < 0 then shrE e (sumK l) else ⟨0, 0, 0, 0⟩
def setOf (l : List Gl) (t : Int) : Option Stg := if glMay l = true ∧ Sc.fits t = true ∧ Sc.fits (t - sumW l) = true then some (setE l (t - sumW l)) else none

/-! ### what a line costs -/
def wr (x : Int) : Int := IntKind.i64.wrap x
def sqW (n : Int) : Int := wr (n * n)
def brk (x : Itm) : Int := if x.k ≠ 2 ∨ x.p = -10000 then 0 else if x.p < 0 then wr (-(sqW x.p)) else sqW x.p
def cls (s : Stg) : Int := if s.bad ≤ 12 then 2 else if s.sg < 0 then 3 else if s.bad < 100 then 1 else 0
def flagN (l : List Itm) (i : Nat) : Bool :=
  match l[i]? with
  | none => false
  | some x => x.f
def brkN (l : List Itm) (i : Nat) : Int :=
  match l[i]? with
  | none => 0
  | some x => brk x
def dem (l : List Itm) (a b : Int) (s : Stg) : Int :=
  if a ≠ -1 ∧ flagN l a.toNat = true ∧ flagN l b.toNat = true then wr (wr (sqW (s.bad + 10) + brkN l b.toNat) + 10000) else wr (sqW (s.bad + 10) + brkN l b.toNat)
def lineOf (l : List Itm) (a b w : Int) : Option Stg := if isLine l a b = true then setOf (gluesN l (a + 1).toNat b.toNat) w else none
def costOf (l : List Itm) (a b w tol : Int) : Option (Int × Int) :=
  match lineOf l a b w with
  | none => none
  | some s => if tol < s.bad ∨ 10000 < s.bad then none else some (dem l a b s, cls s)
def unlike (p q : Int) : Bool := decide (p > q + 1 ∨ p + 1 < q)
def stepT (acc d : Int) (u : Bool) : Int := if u then wr (wr (acc + d) + 10000) else wr (acc + d)
/-- breaks, one behind the other: the last break, its line's class, the sum -/
def goS (l : List Itm) (w tol : Int) : Int → Int → Int → List Int → Option (Int × Int × Int)
  | a, q, acc, [] => some (a, q, acc)
  | a, q, acc, b :: r => match costOf l a b w tol with
    | none => none
    | some (d, c) => goS l w tol b c (stepT acc d (unlike c q)) r
def totOk (l : List Itm) (bs : List Int) : Bool := decide (bs.getLast? = some ((l.length : Int) - 1))
def total (l : List Itm) (bs : List Int) (w tol : Int) : Option Int := if totOk l bs = true then (goS l w tol (-1) 2 0 bs).map (·.2.2) else none

/-! ### numbers that wrap -/
theorem wr_is (x : Int) : wr x = RowKit.wrap64 x := IntWalk.i64_left x
theorem wr_in {x : Int} (h0 : -9223372036854775808 ≤ x) (h1 : x ≤ 9223372036854775807) : wr x = x := by rw [wr_is]; exact IntWalk.wrap64_in x ⟨h0, h1⟩
theorem wr_wr (x : Int) : wr (wr x) = wr x := by simp only [wr_is, RowKit.wrap64]; omega
theorem wr_bound (x : Int) : -9223372036854775808 ≤ wr x ∧ wr x ≤ 9223372036854775807 := by rw [wr_is, RowKit.wrap64]; omega
theorem wr_sub (x y : Int) : wr (x - wr y) = wr (x + wr (-(wr y))) := by simp only [wr_is, RowKit.wrap64]; omega
theorem wr_add3 (x y z : Int) : wr (x + wr (y + z)) = wr (wr (x + y) + z) := by simp only [wr_is, RowKit.wrap64]; omega
theorem wr_add0 (x y : Int) : wr (x + wr (y + 0)) = wr (x + y) := by simp only [wr_is, RowKit.wrap64]; omega

/-! ### badness -/
theorem cub_bound {r : Int} (h0 : 0 ≤ r) (h1 : r ≤ 1290) : 0 ≤ r * r * r ∧ r * r * r ≤ 2146689000 := by
  have a : 0 ≤ r * r := Int.mul_nonneg h0 h0
  have b : r * r ≤ 1290 * 1290 := Int.mul_le_mul h1 h1 h0 (by omega)
  have c : 0 ≤ r * r * r := Int.mul_nonneg a h0
  have d : r * r * r ≤ 1290 * 1290 * 1290 := Int.mul_le_mul b h1 h0 (by omega)
  omega
theorem sq_bound {r : Int} (h0 : 0 ≤ r) (h1 : r ≤ 1290) : 0 ≤ r * r ∧ r * r ≤ 1664100 := by
  have a : 0 ≤ r * r := Int.mul_nonneg h0 h0
  have b : r * r ≤ 1290 * 1290 := Int.mul_le_mul h1 h1 h0 (by omega)
  omega
theorem ratio_nonneg {t s : Int} (ht : 0 ≤ t) (hs : 0 ≤ s) : 0 ≤ ratio t s := by
  unfold ratio
  split
  · exact Int.ediv_nonneg (by omega) hs
  · split
    · exact Int.ediv_nonneg ht (Int.ediv_nonneg hs (by omega))
    · exact ht
theorem bdn_bound {t s : Int} (ht : 0 ≤ t) (hs : 0 ≤ s) : 0 ≤ bdn t s ∧ bdn t s ≤ 10000 := by
  unfold bdn
  split
  · omega
  · split
    · omega
    · split
      · omega
      · have h := cub_bound (ratio_nonneg ht hs) (by omega)
        unfold cub
        omega
theorem sumO_nonneg {l : List Gl} (h : glMay l = true) (i : Int) : 0 ≤ sumO i l ∧ sumO i l ≤ 1073741823 := by
  obtain ⟨h1, h2, h3⟩ := glMay_yes h
  have a := sumsOk_yes h3
  have b := (sums_bound l h2).2.2.2.2 i
  omega
theorem sumK_nonneg {l : List Gl} (h : glMay l = true) : 0 ≤ sumK l ∧ sumK l ≤ 1073741823 := by
  obtain ⟨h1, h2, h3⟩ := glMay_yes h
  have a := sumsOk_yes h3
  have b := (sums_bound l h2).2.2.1
  omega
theorem sumW_fits {l : List Gl} (h : glMay l = true) : Sc.fits (sumW l) = true := by
  obtain ⟨h1, h2, h3⟩ := glMay_yes h
  have a := sumsOk_yes h3
  have b := sums_bound l h2
  exact Sc.fits_of (by omega) (by omega)
theorem setE_bound {l : List Gl} (h : glMay l = true) (e : Int) : 0 ≤ (setE l e).bad ∧ (setE l e).bad ≤ 1000000 := by
  have hk := sumK_nonneg h
  have ho := sumO_nonneg h 0
  unfold setE strE shrE
  repeat' split
  all_goals simp only []
  all_goals first | omega | (have := bdn_bound (t := e) (s := sumO 0 l) (by omega) (by omega); omega) | (have := bdn_bound (t := -e) (s := sumK l) (by omega) (by omega); omega)
theorem setOf_some {l : List Gl} {t : Int} {s : Stg} (h : setOf l t = some s) : glMay l = true ∧ Sc.fits t = true ∧ Sc.fits (t - sumW l) = true ∧ s = setE l (t - sumW l) := by
  unfold setOf at h
  split at h
  · rename_i hc
    exact ⟨hc.1, hc.2.1, hc.2.2, (Option.some.inj h).symm⟩
  · cases h
theorem setOf_bound {l : List Gl} {t : Int} {s : Stg} (h : setOf l t = some s) : 0 ≤ s.bad ∧ s.bad ≤ 1000000 := by
  obtain ⟨h1, _, _, rfl⟩ := setOf_some h
  exact setE_bound h1 _
theorem setE_sg (l : List Gl) (e : Int) : (setE l e).sg = -1 ∨ (setE l e).sg = 0 ∨ (setE l e).sg = 1 := by
  unfold setE strE shrE
  repeat' split
  all_goals simp
theorem setOf_sg {l : List Gl} {t : Int} {s : Stg} (h : setOf l t = some s) : s.sg = -1 ∨ s.sg = 0 ∨ s.sg = 1 := by
  obtain ⟨_, _, _, rfl⟩ := setOf_some h
  exact setE_sg _ _

/-! ### items up to a break are all that a line's cost hangs on -/
theorem legalN_take (l : List Itm) {i n : Nat} (h : i < n) : legalN (l.take n) i = legalN l i := by
  unfold legalN
  rw [List.getElem?_take_of_lt h]
  cases l[i]? with
  | none => rfl
  | some x =>
    simp only []
    rw [List.getElem?_take_of_lt (by omega)]
theorem legal_take (l : List Itm) {i : Int} {n : Nat} (h : i < n) : legal (l.take n) i = legal l i := by
  unfold legal
  by_cases h0 : 0 ≤ i
  · rw [legalN_take l (by omega)]
  · rw [decide_eq_false h0, Bool.false_and, Bool.false_and]
theorem flagN_take (l : List Itm) {i n : Nat} (h : i < n) : flagN (l.take n) i = flagN l i := by
  unfold flagN
  rw [List.getElem?_take_of_lt h]
theorem brkN_take (l : List Itm) {i n : Nat} (h : i < n) : brkN (l.take n) i = brkN l i := by
  unfold brkN
  rw [List.getElem?_take_of_lt h]
theorem tailG_take (l : List Itm) {i n : Nat} (h : i < n) : tailG (l.take n) i = tailG l i := by
  unfold tailG
  rw [List.getElem?_take_of_lt h]
theorem take_take_of {l : List Itm} {b n : Nat} (h : b ≤ n) : (l.take n).take b = l.take b := by rw [List.take_take, Nat.min_eq_left h]
theorem gluesN_take (l : List Itm) {b n s : Nat} (h : b < n) : gluesN (l.take n) s b = gluesN l s b := by
  unfold gluesN
  rw [take_take_of (by omega), tailG_take l h]
theorem lineN_take (l : List Itm) {b n s : Nat} (h : b < n) : lineN (l.take n) s b = lineN l s b := by
  unfold lineN
  rw [take_take_of (by omega), take_take_of (by omega)]
theorem lineOf_take (l : List Itm) (a : Int) {b : Int} (w : Int) {n : Nat} (h0 : 0 ≤ b) (h : b < n) : lineOf (l.take n) a b w = lineOf l a b w := by
  unfold lineOf isLine
  by_cases hab : a < b
  · rw [legal_take l h, legal_take l (i := a) (by omega), lineN_take l (by omega), gluesN_take l (by omega)]
  · rw [decide_eq_false hab]
    simp
theorem isLine_lt {l : List Itm} {a b : Int} (h : isLine l a b = true) : -1 ≤ a ∧ a < b ∧ 0 ≤ b ∧ b < l.length ∧ legal l b = true ∧ (a ≠ -1 → legal l a = true) ∧ lineN l (a + 1).toNat b.toNat = true := by
  unfold isLine at h
  simp only [Bool.and_eq_true, Bool.or_eq_true, decide_eq_true_eq] at h
  obtain ⟨⟨⟨h1, h2⟩, h3⟩, h4⟩ := h
  have hb := h2
  unfold legal at hb
  rw [Bool.and_eq_true, decide_eq_true_eq] at hb
  obtain ⟨hb0, hb1⟩ := hb
  have hb2 : b.toNat < l.length := by
    unfold legalN at hb1
    cases e : l[b.toNat]? with
    | none => rw [e] at hb1; cases hb1
    | some x => exact (List.getElem?_eq_some_iff.1 e).1
  refine ⟨?_, h3, hb0, by omega, h2, fun hn => ?_, h4⟩
  · rcases h1 with h1 | h1
    · omega
    · unfold legal at h1
      rw [Bool.and_eq_true, decide_eq_true_eq] at h1
      omega
  · rcases h1 with h1 | h1
    · exact absurd h1 hn
    · exact h1
theorem lineOf_some {l : List Itm} {a b w : Int} {s : Stg} (h : lineOf l a b w = some s) : isLine l a b = true ∧ setOf (gluesN l (a + 1).toNat b.toNat) w = some s := by
  unfold lineOf at h
  split at h
  · rename_i hc; exact ⟨hc, h⟩
  · cases h
theorem dem_take (l : List Itm) {a b : Int} (s : Stg) {n : Nat} (h0 : 0 ≤ b) (h : b < n) (hab : a < b) (ha : -1 ≤ a) : dem (l.take n) a b s = dem l a b s := by
  unfold dem
  rw [flagN_take l (i := b.toNat) (by omega), brkN_take l (i := b.toNat) (by omega)]
  by_cases h1 : a = -1
  · subst h1
    simp
  · rw [flagN_take l (i := a.toNat) (by omega)]
theorem costOf_take (l : List Itm) (a : Int) {b : Int} (w tol : Int) {n : Nat} (h0 : 0 ≤ b) (h : b < n) : costOf (l.take n) a b w tol = costOf l a b w tol := by
  unfold costOf
  rw [lineOf_take l a w h0 h]
  cases e : lineOf l a b w with
  | none => rfl
  | some s =>
    obtain ⟨h1, _⟩ := lineOf_some e
    obtain ⟨ha, hab, _⟩ := isLine_lt h1
    simp only []
    rw [dem_take l s h0 h hab ha]
theorem costOf_some {l : List Itm} {a b w tol d c : Int} (h : costOf l a b w tol = some (d, c)) : ∃ s, lineOf l a b w = some s ∧ s.bad ≤ tol ∧ s.bad ≤ 10000 ∧ d = dem l a b s ∧ c = cls s := by
  unfold costOf at h
  cases e : lineOf l a b w with
  | none => rw [e] at h; cases h
  | some s =>
    rw [e] at h
    simp only [] at h
    split at h
    · cases h
    · have := Option.some.inj h
      injection this with h1 h2
      exact ⟨s, rfl, by omega, by omega, h1.symm, h2.symm⟩
theorem costOf_lt {l : List Itm} {a b w tol d c : Int} (h : costOf l a b w tol = some (d, c)) : -1 ≤ a ∧ a < b ∧ 0 ≤ b ∧ b < l.length := by
  obtain ⟨s, h1, _⟩ := costOf_some h
  obtain ⟨h2, _⟩ := lineOf_some h1
  obtain ⟨h3, h4, h5, h6, _⟩ := isLine_lt h2
  exact ⟨h3, h4, h5, h6⟩
theorem cls_bound (s : Stg) : 0 ≤ cls s ∧ cls s ≤ 3 := by
  unfold cls
  repeat' split
  all_goals omega
/-- a higher tolerance changes nothing of what a line costs -/
theorem costOf_more {l : List Itm} {a b w tol d c : Int} (h : costOf l a b w tol = some (d, c)) : costOf l a b w 10000 = some (d, c) ∧ 0 ≤ c ∧ c ≤ 3 := by
  obtain ⟨s, h1, h2, h3, rfl, rfl⟩ := costOf_some h
  refine ⟨?_, (cls_bound s).1, (cls_bound s).2⟩
  unfold costOf
  rw [h1]
  simp only []
  rw [if_neg (by omega)]
/-- other items behind the break change nothing -/
theorem costOf_other (l m : List Itm) (a : Int) {b : Int} (w tol : Int) (h0 : 0 ≤ b) (h : b < l.length) : costOf (l.take (b.toNat + 1) ++ m) a b w tol = costOf l a b w tol := by
  have e1 := costOf_take (l.take (b.toNat + 1) ++ m) a w tol (n := b.toNat + 1) h0 (by omega)
  have e2 := costOf_take l a w tol (n := b.toNat + 1) h0 (by omega)
  rw [← e1, ← e2, List.take_append_of_le_length (by rw [List.length_take]; omega), List.take_take, Nat.min_self]

/-! ### all breaks -/
theorem goS_app (l : List Itm) (w tol : Int) : ∀ (bs cs : List Int) (a q acc : Int), goS l w tol a q acc (bs ++ cs) = (goS l w tol a q acc bs).bind fun x => goS l w tol x.1 x.2.1 x.2.2 cs
  | [], cs, a, q, acc => rfl
  | b :: r, cs, a, q, acc => by
    simp only [List.cons_append, goS]
    cases costOf l a b w tol with
    | none => rfl
    | some x =>
      obtain ⟨d, c⟩ := x
      simp only []
      exact goS_app l w tol r cs _ _ _
theorem goS_last (l : List Itm) (w tol : Int) : ∀ (bs : List Int) (a q acc : Int) (x : Int × Int × Int), goS l w tol a q acc bs = some x → x.1 = bs.getLast?.getD a ∧ a ≤ x.1 ∧ (bs ≠ [] → 0 ≤ x.1 ∧ x.1 < l.length) ∧ ∀ n : Nat, x.1 < n → goS (l.take n) w tol a q acc bs = some x
  | [], a, q, acc, x, h => by
    simp only [goS, Option.some.injEq] at h
    subst h
    exact ⟨rfl, Int.le_refl _, fun h => absurd rfl h, fun n _ => rfl⟩
  | b :: r, a, q, acc, x, h => by
    simp only [goS] at h
    cases e : costOf l a b w tol with
    | none => rw [e] at h; cases h
    | some y =>
      obtain ⟨d, c⟩ := y
      rw [e] at h
      simp only [] at h
      obtain ⟨h1, h2, h3, h4⟩ := goS_last l w tol r _ _ _ x h
      obtain ⟨k1, k2, k3, k4⟩ := costOf_lt e
      refine ⟨?_, by omega, fun _ => ?_, fun n hn => ?_⟩
      · rw [h1, List.getLast?_cons]; rfl
      · by_cases hr : r = []
        · subst hr
          simp at h1
          omega
        · exact h3 hr
      · simp only [goS]
        rw [costOf_take l a w tol k3 (by omega), e]
        exact h4 n hn
theorem total_some {l : List Itm} {bs : List Int} {w tol t : Int} (h : total l bs w tol = some t) : bs.getLast? = some ((l.length : Int) - 1) ∧ ∃ x, goS l w tol (-1) 2 0 bs = some x ∧ t = x.2.2 := by
  unfold total at h
  split at h
  · rename_i hc
    refine ⟨of_decide_eq_true hc, ?_⟩
    cases e : goS l w tol (-1) 2 0 bs with
    | none => rw [e] at h; cases h
    | some x =>
      rw [e] at h
      exact ⟨x, rfl, (Option.some.inj h).symm⟩
  · cases h
/-- what breaks cost: what all but the last cost, and the last line -/
theorem total_parts {l : List Itm} {cs : List Int} {m b w tol t : Int} (h : total l (cs ++ [m, b]) w tol = some t) :
    0 ≤ m ∧ m < l.length ∧ ∃ u d c q, total (l.take (m.toNat + 1)) (cs ++ [m]) w tol = some u ∧ costOf l m b w tol = some (d, c) ∧ t = stepT u d q := by
  obtain ⟨_, x, hx, rfl⟩ := total_some h
  rw [show cs ++ [m, b] = (cs ++ [m]) ++ [b] by simp, goS_app] at hx
  cases e : goS l w tol (-1) 2 0 (cs ++ [m]) with
  | none => rw [e] at hx; cases hx
  | some y =>
    rw [e] at hx
    simp only [Option.bind_some, goS] at hx
    obtain ⟨h1, h2, h3, h4⟩ := goS_last l w tol (cs ++ [m]) _ _ _ y e
    simp at h1
    have hm := h3 (by simp)
    rw [h1] at hm
    cases e2 : costOf l y.1 b w tol with
    | none => rw [e2] at hx; cases hx
    | some z =>
      obtain ⟨d, c⟩ := z
      rw [e2] at hx
      simp only [Option.some.injEq] at hx
      subst hx
      rw [h1] at e2
      refine ⟨hm.1, hm.2, y.2.2, d, c, unlike c y.2.1, ?_, e2, rfl⟩
      unfold total totOk
      rw [if_pos, h4 (m.toNat + 1) (by omega)]
      · rfl
      · simp only [List.getLast?_append, List.getLast?_singleton, Option.some_or, List.length_take, decide_eq_true_eq, Option.some.injEq]
        omega
theorem stepT_two (u d : Int) (q : Bool) : stepT u d q = wr (u + d) ∨ stepT u d q = wr (wr (u + d) + 10000) := by
  cases q
  · exact .inl rfl
  · exact .inr rfl
end Go.Proofs.Ythcilpijiindeaa.It
