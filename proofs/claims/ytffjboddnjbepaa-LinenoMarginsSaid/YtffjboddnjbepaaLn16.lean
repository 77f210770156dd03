/-
  The plain mathematics of package lineno: units, numbers, margins; no program is mentioned here.
-/
import Derived.Test.YtffjboddnjbepaaIt9
set_option linter.unusedVariables false
set_option linter.unusedSimpArgs false
namespace Go.Proofs.Ytffjboddnjbepaa.Ln
open Go

structure Rw where
  pg : Int
  ch : Int
  pa : Int
  st : Int
  sb : Bool
  sk : Bool
  lk : Bool
abbrev wr (x : Int) : Int := IntKind.i64.wrap x
theorem wr_in {x : Int} (h0 : -9223372036854775808 ≤ x) (h1 : x ≤ 9223372036854775807) : wr x = x := by rw [show wr x = RowKit.wrap64 x from IntWalk.i64_left x]; exact IntWalk.wrap64_in x ⟨h0, h1⟩
def unit (u : Int) (r : Rw) : Int × Int × Int := if u = 0 then (r.pg, 0, 0) else if u = 1 then (r.ch, 0, 0) else if u = 2 then (r.ch, r.pa, 1) else (0, 0, 0)
def top1 (x : Int) : Int := if x < 1 then 1 else x
def next (a : Int × Int) (r : Rw) : Int × Int := if 0 < r.st then (r.st, 0) else if r.lk = true then (top1 a.1, a.2) else if r.sb = true then (top1 a.1, wr (a.2 + 1)) else (wr (a.1 + 1), 0)
def rst (u : Int) (p : Option Rw) (r : Rw) (a : Int × Int) : Int × Int := match p with
  | none => a
  | some q => if unit u r = unit u q then a else (0, 0)
def goN (u : Int) : Option Rw → Int × Int → List Rw → List (Int × Int)
  | _, _, [] => []
  | p, a, r :: l => if r.sk = true then (0, 0) :: goN u (some r) (rst u p r a) l else next (rst u p r a) r :: goN u (some r) (next (rst u p r a) r) l
def number (u : Int) (l : List Rw) : List (Int × Int) := goN u none (0, 0) l

theorem goN_len (u : Int) : ∀ (l : List Rw) (p : Option Rw) (a : Int × Int), (goN u p a l).length = l.length
  | [], _, _ => rfl
  | r :: l, p, a => by
    unfold goN
    split <;> simp only [List.length_cons, goN_len u l]
theorem goN_take (u : Int) : ∀ (m : Nat) (l : List Rw) (p : Option Rw) (a : Int × Int), goN u p a (l.take m) = (goN u p a l).take m
  | 0, l, p, a => by simp [goN]
  | m + 1, [], p, a => by simp [goN]
  | m + 1, r :: l, p, a => by
    rw [List.take_succ_cons]
    unfold goN
    split <;> rw [List.take_succ_cons, goN_take u m]
def prev {α : Type} (l : List α) (k : Nat) : Option α := (l.take k).getLast?
theorem prev_zero {α : Type} (l : List α) : prev l 0 = none := by simp [prev]
theorem prev_succ {α : Type} {l : List α} {k : Nat} {r : α} (h : l[k]? = some r) : prev l (k + 1) = some r := by
  unfold prev
  rw [List.take_add_one, h]
  simp
theorem goN_drop (u : Int) (l : List Rw) : ∀ k : Nat, k ≤ l.length → ∃ a, (number u l).drop k = goN u (prev l k) a (l.drop k)
  | 0, _ => ⟨(0, 0), by rw [prev_zero]; rfl⟩
  | k + 1, hk => by
    obtain ⟨a, ha⟩ := goN_drop u l k (by omega)
    obtain ⟨r, hr⟩ : ∃ r, l[k]? = some r := ⟨_, List.getElem?_eq_getElem (by omega)⟩
    have hd : l.drop k = r :: l.drop (k + 1) := by
      obtain ⟨hlt, e⟩ := List.getElem?_eq_some_iff.1 hr
      rw [List.drop_eq_getElem_cons hlt, e]
    rw [prev_succ hr, ← List.drop_drop, ha, hd]
    by_cases hs : r.sk = true
    · refine ⟨rst u (prev l k) r a, ?_⟩
      conv => lhs; unfold goN
      rw [if_pos hs, List.drop_succ_cons, List.drop_zero]
    · refine ⟨next (rst u (prev l k) r a) r, ?_⟩
      conv => lhs; unfold goN
      rw [if_neg hs, List.drop_succ_cons, List.drop_zero]
/-- a unit's numbers hang on its rows alone -/
theorem number_cut (u : Int) (l : List Rw) (k i : Nat) (hk : k ≤ i) (hi : i ≤ l.length) (h : k = 0 ∨ ∃ p r, 0 < k ∧ l[k - 1]? = some p ∧ l[k]? = some r ∧ unit u r ≠ unit u p) :
    number u ((l.take i).drop k) = ((number u l).take i).drop k := by
  rw [List.drop_take, List.drop_take]
  unfold number
  rw [goN_take]
  congr 1
  rcases h with rfl | ⟨p, r, h0, hp, hr, hne⟩
  · rfl
  · obtain ⟨a, ha⟩ := goN_drop u l k (by omega)
    unfold number at ha
    rw [ha]
    have hd : l.drop k = r :: l.drop (k + 1) := by
      obtain ⟨hlt, e⟩ := List.getElem?_eq_some_iff.1 hr
      rw [List.drop_eq_getElem_cons hlt, e]
    have hpv : prev l k = some p := by
      have := prev_succ hp
      rwa [show k - 1 + 1 = k by omega] at this
    rw [hpv, hd]
    unfold goN
    have e1 : rst u (some p) r a = (0, 0) := by unfold rst; simp only []; rw [if_neg hne]
    have e2 : rst u none r (0, 0) = (0, 0) := rfl
    rw [e1, e2]
def plainRw (r : Rw) : Bool := !r.sk && !r.sb && !r.lk && decide (r.st < 1)
/-- a plain row behind one of its unit that is not left out -/
theorem number_next (u : Int) (l : List Rw) (i : Nat) (p r : Rw) (hp : l[i]? = some p) (hr : l[i + 1]? = some r) (hu : unit u r = unit u p) (h1 : plainRw r = true) (h2 : p.sk = false) :
    ∃ a, (number u l)[i]? = some a ∧ (number u l)[i + 1]? = some (wr (a.1 + 1), 0) := by
  obtain ⟨hlt, _⟩ := List.getElem?_eq_some_iff.1 hp
  obtain ⟨a, ha⟩ := goN_drop u l i (by omega)
  have hd : l.drop i = p :: r :: l.drop (i + 2) := by
    obtain ⟨hlt, e⟩ := List.getElem?_eq_some_iff.1 hp
    obtain ⟨hlt', e'⟩ := List.getElem?_eq_some_iff.1 hr
    rw [List.drop_eq_getElem_cons hlt, e, List.drop_eq_getElem_cons hlt', e']
  simp only [plainRw, Bool.and_eq_true, Bool.not_eq_true', decide_eq_true_eq] at h1
  obtain ⟨⟨⟨a1, a2⟩, a3⟩, a4⟩ := h1
  rw [hd] at ha
  unfold goN at ha
  rw [if_neg (by rw [h2]; decide)] at ha
  unfold goN at ha
  rw [if_neg (by rw [a1]; decide)] at ha
  refine ⟨next (rst u (prev l i) p a) p, ?_, ?_⟩
  · have := congrArg (fun x => x[0]?) ha
    simpa using this
  · have := congrArg (fun x => x[1]?) ha
    simp only [List.getElem?_drop, List.getElem?_cons_succ, List.getElem?_cons_zero] at this
    rw [this]
    have e1 : ∀ b, rst u (some p) r b = b := fun b => by unfold rst; simp only []; rw [if_pos hu]
    have e2 : ∀ b, next b r = (wr (b.1 + 1), 0) := fun b => by
      unfold next
      rw [if_neg (by omega), if_neg (by rw [a3]; decide), if_neg (by rw [a2]; decide)]
    rw [e1, e2]
/-- one step of the numbers, as a loop makes it -/
theorem step_skip (u : Int) {l : List Rw} {k : Nat} {r : Rw} (hr : l[k]? = some r) {os : List (Int × Int)} {a : Int × Int} {N : List (Int × Int)} (h : os ++ goN u (prev l k) a (l.drop k) = N) (hs : r.sk = true) :
    (os ++ [(0, 0)]) ++ goN u (prev l (k + 1)) (rst u (prev l k) r a) (l.drop (k + 1)) = N := by
  have hd : l.drop k = r :: l.drop (k + 1) := by
    obtain ⟨hlt, e⟩ := List.getElem?_eq_some_iff.1 hr
    rw [List.drop_eq_getElem_cons hlt, e]
  rw [hd] at h
  unfold goN at h
  rw [if_pos hs] at h
  rw [prev_succ hr, ← h, List.append_assoc]
  rfl
theorem step_take (u : Int) {l : List Rw} {k : Nat} {r : Rw} (hr : l[k]? = some r) {os : List (Int × Int)} {a : Int × Int} {N : List (Int × Int)} (h : os ++ goN u (prev l k) a (l.drop k) = N) (hs : r.sk = false) :
    (os ++ [next (rst u (prev l k) r a) r]) ++ goN u (prev l (k + 1)) (next (rst u (prev l k) r a) r) (l.drop (k + 1)) = N := by
  have hd : l.drop k = r :: l.drop (k + 1) := by
    obtain ⟨hlt, e⟩ := List.getElem?_eq_some_iff.1 hr
    rw [List.drop_eq_getElem_cons hlt, e]
  rw [hd] at h
  unfold goN at h
  rw [if_neg (by rw [hs]; decide)] at h
  rw [prev_succ hr, ← h, List.append_assoc]
  rfl

/-! ### counts -/
theorem top1_bound {x m : Int} (h0 : 0 ≤ x) (h1 : x ≤ 9999 + m) (hm : 0 ≤ m) : 1 ≤ top1 x ∧ top1 x ≤ 9999 + (m + 1) := by unfold top1; split <;> omega
theorem rst_bound (u : Int) (p : Option Rw) (r : Rw) {a : Int × Int} {m : Int} (hm : 0 ≤ m) (h : 0 ≤ a.1 ∧ a.1 ≤ 9999 + m ∧ 0 ≤ a.2 ∧ a.2 ≤ m) : 0 ≤ (rst u p r a).1 ∧ (rst u p r a).1 ≤ 9999 + m ∧ 0 ≤ (rst u p r a).2 ∧ (rst u p r a).2 ≤ m := by
  cases p with
  | none => exact h
  | some q =>
    unfold rst
    simp only []
    split
    · exact h
    · simp only []; omega
theorem next_bound {a : Int × Int} {r : Rw} {m : Int} (hm : 0 ≤ m) (hM : m ≤ 100000) (h : 0 ≤ a.1 ∧ a.1 ≤ 9999 + m ∧ 0 ≤ a.2 ∧ a.2 ≤ m) (hr : r.st ≤ 9999) : 1 ≤ (next a r).1 ∧ (next a r).1 ≤ 9999 + (m + 1) ∧ 0 ≤ (next a r).2 ∧ (next a r).2 ≤ m + 1 := by
  obtain ⟨h0, h1, h2, h3⟩ := h
  have ht := top1_bound h0 h1 hm
  unfold next
  split
  · simp only []; omega
  · split
    · simp only []; omega
    · split
      · simp only []
        rw [wr_in (by omega) (by omega)]
        omega
      · simp only []
        rw [wr_in (by omega) (by omega)]
        omega
theorem goN_bound (u : Int) : ∀ (l : List Rw) (p : Option Rw) (a : Int × Int) (m : Nat), m + l.length ≤ 100000 → 0 ≤ a.1 ∧ a.1 ≤ 9999 + (m : Int) ∧ 0 ≤ a.2 ∧ a.2 ≤ (m : Int) → ∀ (i : Nat) (r : Rw), l[i]? = some r → (∀ j q, j ≤ i → l[j]? = some q → q.st ≤ 9999) →
    ∃ x, (goN u p a l)[i]? = some x ∧ 0 ≤ x.1 ∧ 0 ≤ x.2 ∧ r.sk = decide (x.1 = 0)
  | [], _, _, _, _, _, i, r, hr, _ => by simp at hr
  | y :: l, p, a, m, hm, ha, i, r, hr, hq => by
    have hb := rst_bound u p y (m := m) (by omega) ha
    have hy := hq 0 y (by omega) rfl
    simp only [List.length_cons] at hm
    have hn := next_bound (r := y) (m := m) (by omega) (by omega) hb hy
    cases i with
    | zero =>
      simp at hr
      subst hr
      unfold goN
      cases hs : y.sk with
      | true => exact ⟨(0, 0), by rw [if_pos rfl]; rfl, by simp⟩
      | false =>
        refine ⟨next (rst u p y a) y, by rw [if_neg (by decide)]; rfl, by omega, by omega, ?_⟩
        rw [eq_comm, decide_eq_false_iff_not]
        omega
    | succ i =>
      simp at hr
      have hq' : ∀ j q, j ≤ i → l[j]? = some q → q.st ≤ 9999 := fun j q hj h => hq (j + 1) q (by omega) (by simpa using h)
      unfold goN
      cases hs : y.sk with
      | true =>
        rw [if_pos rfl, List.getElem?_cons_succ]
        exact goN_bound u l _ _ (m + 1) (by omega) (by push_cast; omega) i r hr hq'
      | false =>
        rw [if_neg (by decide), List.getElem?_cons_succ]
        exact goN_bound u l _ _ (m + 1) (by omega) (by push_cast; omega) i r hr hq'
theorem number_bound (u : Int) (l : List Rw) (hl : l.length ≤ 100000) (i : Nat) (r : Rw) (hr : l[i]? = some r) (hq : ∀ j q, j ≤ i → l[j]? = some q → q.st ≤ 9999) :
    ∃ x, (number u l)[i]? = some x ∧ 0 ≤ x.1 ∧ 0 ≤ x.2 ∧ r.sk = decide (x.1 = 0) := goN_bound u l none (0, 0) 0 (by omega) (by simp) i r hr hq
def bare (r : Rw) : Rw := ⟨r.pg, r.ch, r.pa, 0, false, false, false⟩
theorem unit_bare (u : Int) (r : Rw) : unit u (bare r) = unit u r := by unfold unit bare; rfl
/-- one row of those that are plain -/
theorem step_bare (u : Int) {l : List Rw} {k : Nat} {r : Rw} (hr : l[k]? = some r) {os : List (Int × Int)} {n : Int} {N : List (Int × Int)} (h : os ++ goN u ((prev l k).map bare) (n, 0) ((l.drop k).map bare) = N) (hn : 0 ≤ n ∧ n ≤ 100000)
    (n' : Int) (hn' : n' = if (∃ q, prev l k = some q ∧ unit u r ≠ unit u q) then 1 else n + 1) :
    (os ++ [(n', 0)]) ++ goN u ((prev l (k + 1)).map bare) (n', 0) ((l.drop (k + 1)).map bare) = N := by
  have hd : l.drop k = r :: l.drop (k + 1) := by
    obtain ⟨hlt, e⟩ := List.getElem?_eq_some_iff.1 hr
    rw [List.drop_eq_getElem_cons hlt, e]
  rw [hd, List.map_cons] at h
  unfold goN at h
  rw [if_neg (by unfold bare; simp)] at h
  have e : next (rst u ((prev l k).map bare) (bare r) (n, 0)) (bare r) = (n', 0) := by
    have e0 : ∀ a, next a (bare r) = (wr (a.1 + 1), 0) := fun a => by
      unfold next bare
      simp
    rw [e0]
    cases hp : prev l k with
    | none =>
      rw [hp] at hn'
      rw [if_neg (by rintro ⟨q, h1, _⟩; cases h1)] at hn'
      simp only [Option.map_none, rst]
      rw [wr_in (by omega) (by omega), hn']
    | some q =>
      rw [hp] at hn'
      simp only [Option.map_some, rst, unit_bare]
      by_cases hq : unit u r = unit u q
      · rw [if_neg (by rintro ⟨q', h1, h2⟩; cases h1; exact h2 hq)] at hn'
        rw [if_pos hq]
        simp only []
        rw [wr_in (by omega) (by omega), hn']
      · rw [if_pos ⟨q, rfl, hq⟩] at hn'
        rw [if_neg hq]
        simp only []
        rw [wr_in (by omega) (by omega), hn']
        rfl
  rw [e] at h
  rw [prev_succ hr, ← h, List.append_assoc]
  rfl

/-! ### rows that are left out -/
def pick : List Rw → List (Int × Int) → List (Int × Int)
  | r :: l, x :: xs => if r.sk = true then pick l xs else x :: pick l xs
  | _, _ => []
def kept (l : List Rw) : List Rw := l.filter fun r => !r.sk
theorem kept_snoc (l : List Rw) (r : Rw) : kept (l ++ [r]) = kept l ++ (if r.sk = true then [] else [r]) := by
  unfold kept
  rw [List.filter_append]
  cases hs : r.sk <;> simp [hs]
theorem pick_snoc : ∀ (l : List Rw) (xs : List (Int × Int)) (r : Rw) (x : Int × Int), l.length = xs.length → pick (l ++ [r]) (xs ++ [x]) = pick l xs ++ (if r.sk = true then [] else [x])
  | [], [], r, x, _ => by
    cases hs : r.sk <;> simp [pick, hs]
  | y :: l, z :: xs, r, x, h => by
    simp only [List.cons_append, pick]
    rw [pick_snoc l xs r x (by simpa using h)]
    split <;> simp
  | [], _ :: _, _, _, h => by simp at h
  | _ :: _, [], _, _, h => by simp at h
theorem goN_kept (u : Int) (c : Int × Int × Int) : ∀ (l : List Rw) (p q : Option Rw) (a : Int × Int), (∀ r ∈ l, unit u r = c) → (∀ x, p = some x → unit u x = c) → (∀ x, q = some x → unit u x = c) → goN u q a (kept l) = pick l (goN u p a l)
  | [], p, q, a, _, _, _ => by simp [kept, goN, pick]
  | r :: l, p, q, a, hl, hp, hq => by
    have hr := hl r List.mem_cons_self
    have hl' : ∀ x ∈ l, unit u x = c := fun x hx => hl x (List.mem_cons_of_mem _ hx)
    have e : ∀ s : Option Rw, (∀ x, s = some x → unit u x = c) → rst u s r a = a := fun s hs => by
      cases s with
      | none => rfl
      | some x => unfold rst; simp only []; rw [if_pos (by rw [hr, hs x rfl])]
    cases hs : r.sk with
    | true =>
      have h1 : kept (r :: l) = kept l := by unfold kept; rw [List.filter_cons_of_neg (by rw [hs]; decide)]
      rw [h1]
      conv => rhs; unfold goN
      rw [if_pos hs, e p hp]
      conv => rhs; unfold pick
      rw [if_pos hs]
      exact goN_kept u c l (some r) q a hl' (fun x hx => by cases hx; exact hr) hq
    | false =>
      have h1 : kept (r :: l) = r :: kept l := by unfold kept; rw [List.filter_cons_of_pos (by rw [hs]; rfl)]
      rw [h1]
      unfold goN
      rw [if_neg (by rw [hs]; decide), if_neg (by rw [hs]; decide), e p hp, e q hq]
      conv => rhs; unfold pick
      rw [if_neg (by rw [hs]; decide)]
      congr 1
      exact goN_kept u c l (some r) (some r) _ hl' (fun x hx => by cases hx; exact hr) (fun x hx => by cases hx; exact hr)
theorem number_kept (u : Int) (l : List Rw) (c : Int × Int × Int) (h : ∀ r ∈ l, unit u r = c) : number u (kept l) = pick l (number u l) := goN_kept u c l none none (0, 0) h (fun x hx => by cases hx) (fun x hx => by cases hx)

/-! ### margins -/
def cnt (x : Int × Int) (first step : Int) : Bool := decide (0 < x.1) && decide (first ≤ x.1) && decide (x.2 = 0) && decide ((wr (x.1 - first)).tmod step = 0)
def goM (first step : Int) : Option (Int × Int) → List (Int × Int) → List Bool
  | _, [] => []
  | p, x :: l => (decide (p ≠ some x) && cnt x first step) :: goM first step (some x) l
def margin (l : List (Int × Int)) (first step : Int) : List Bool := if step < 1 then List.replicate l.length false else goM first step none l
theorem goM_len (first step : Int) : ∀ (l : List (Int × Int)) (p : Option (Int × Int)), (goM first step p l).length = l.length
  | [], _ => rfl
  | x :: l, p => by simp only [goM, List.length_cons, goM_len first step l]
theorem margin_len (l : List (Int × Int)) (first step : Int) : (margin l first step).length = l.length := by unfold margin; split <;> simp [goM_len]
theorem goM_get (first step : Int) : ∀ (l : List (Int × Int)) (p : Option (Int × Int)) (i : Nat) (x : Int × Int), l[i]? = some x → (goM first step p l)[i]? = some (decide ((if i = 0 then p else l[i - 1]?) ≠ some x) && cnt x first step)
  | [], _, _, _, h => by simp at h
  | y :: l, p, 0, x, h => by
    simp at h
    subst h
    simp [goM]
  | y :: l, p, i + 1, x, h => by
    simp at h
    rw [goM, List.getElem?_cons_succ, goM_get first step l (some y) i x h]
    congr 1
    congr 1
    cases i with
    | zero => simp
    | succ j => simp
/-- of numbers 1, 2, 3 and so on: the one that is due -/
theorem due_is {first step due x : Int} (hs : 0 < step) (hf : 0 < first) (j : Int) (hd : due = first + j * step) (h0 : first ≤ due) (h1 : x ≤ due) (h2 : due = first ∨ due < x + step) (hx : 0 < x) : (first ≤ x ∧ (x - first) % step = 0) ↔ x = due := by
  constructor
  · rintro ⟨a, b⟩
    rcases h2 with h2 | h2
    · omega
    · have hx' : x - first = step * ((x - first) / step) := by have := Int.mul_ediv_add_emod (x - first) step; omega
      generalize (x - first) / step = q at hx'
      have h3 : due - x = (j - q) * step := by
        rw [Int.sub_mul, Int.mul_comm q step]
        omega
      rcases Int.lt_trichotomy (j - q) 0 with h | h | h
      · have : (j - q) * step ≤ (-1) * step := Int.mul_le_mul_of_nonneg_right (by omega) (by omega)
        omega
      · rw [h] at h3; omega
      · have : 1 * step ≤ (j - q) * step := Int.mul_le_mul_of_nonneg_right (by omega) (by omega)
        omega
  · rintro rfl
    refine ⟨h0, ?_⟩
    rw [hd, show first + j * step - first = j * step by omega]
    exact Int.mul_emod_left _ _
def ones : Nat → List (Int × Int)
  | 0 => []
  | n + 1 => ones n ++ [((n : Int) + 1, 0)]
theorem ones_len : ∀ n, (ones n).length = n
  | 0 => rfl
  | n + 1 => by simp [ones, ones_len n]
theorem ones_get : ∀ (n i : Nat), i < n → (ones n)[i]? = some ((i : Int) + 1, 0)
  | n + 1, i, h => by
    unfold ones
    by_cases e : i < n
    · rw [List.getElem?_append_left (by rw [ones_len]; exact e)]
      exact ones_get n i e
    · obtain rfl : i = n := by omega
      rw [List.getElem?_append_right (by rw [ones_len]; omega), ones_len, Nat.sub_self]
      rfl
theorem margin_ones {n i : Nat} {first step : Int} (hi : i < n) (hn : n ≤ 100000) (hf : 0 < first ∧ first ≤ 100000) (hs : 0 < step ∧ step ≤ 100000) : (margin (ones n) first step)[i]? = some (decide (first ≤ (i : Int) + 1 ∧ ((i : Int) + 1 - first) % step = 0)) := by
  unfold margin
  rw [if_neg (by omega), goM_get first step _ none i _ (ones_get n i hi)]
  congr 1
  have e1 : (decide ((if i = 0 then (none : Option (Int × Int)) else (ones n)[i - 1]?) ≠ some ((i : Int) + 1, 0))) = true := by
    rw [decide_eq_true_iff]
    by_cases h : i = 0
    · rw [if_pos h]; simp
    · rw [if_neg h, ones_get n (i - 1) (by omega)]
      intro e
      injection e with e
      injection e with e _
      omega
  rw [e1, Bool.true_and]
  unfold cnt
  simp only []
  rw [wr_in (by omega) (by omega), Bool.eq_iff_iff]
  simp only [Bool.and_eq_true, decide_eq_true_eq, decide_true, and_true]
  constructor
  · rintro ⟨⟨_, b⟩, c⟩
    refine ⟨b, ?_⟩
    rw [Int.tmod_eq_emod_of_nonneg (by omega)] at c
    exact c
  · rintro ⟨b, c⟩
    refine ⟨⟨by omega, b⟩, ?_⟩
    rw [Int.tmod_eq_emod_of_nonneg (by omega)]
    exact c
end Go.Proofs.Ytffjboddnjbepaa.Ln
