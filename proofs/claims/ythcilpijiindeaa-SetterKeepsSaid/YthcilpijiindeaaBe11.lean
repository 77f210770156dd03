/-
  The plain mathematics of package breaker: the best way from each break to the end, and that no other breaks are better; no program is mentioned here.
-/
import Derived.Test.YthcilpijiindeaaDe10
set_option linter.unusedVariables false
set_option linter.unusedSimpArgs false
namespace Go.Proofs.Ythcilpijiindeaa.It

/-- a way to the end: its demerits, its first line's class, its breaks -/
abbrev Way := Option (Int × Int × List Int)
def apartZ (c q : Int) : Int := if unlike c q then 10000 else 0
/-- the old one, if the new one is not better -/
def pick (old x : Way) : Way :=
  match x with
  | none => old
  | some y => match old with
    | none => some y
    | some o => if y.1 < o.1 then some y else some o
def candW (l : List Itm) (w tol : Int) (f : Nat → Int → Way) (k : Nat) (q : Int) (b : Nat) : Way :=
  match costOf l ((k : Int) - 1) (b : Int) w tol with
  | none => none
  | some (d, c) => (f (b + 1) c).map fun x => (d + apartZ c q + x.1, c, (b : Int) :: x.2.2)
/-- the best of the first m candidates behind k -/
def accW (g : Nat → Way) (k : Nat) : Nat → Way
  | 0 => none
  | m + 1 => pick (accW g k m) (g (k + m))
def wayF (l : List Itm) (w tol : Int) : Nat → Nat → Int → Way
  | 0, _, _ => none
  | m + 1, k, q => if k = l.length then some (0, 0, []) else accW (candW l w tol (wayF l w tol m) k q) k (l.length - k)
/-- the best way from behind the first k items, behind a line of class q -/
def way (l : List Itm) (w tol : Int) (k : Nat) (q : Int) : Way := wayF l w tol (l.length + 1) k q
/-- what breaks cost that go on from a to the end -/
def run (l : List Itm) (w tol : Int) : Int → Int → List Int → Option Int
  | a, _, [] => if a = (l.length : Int) - 1 then some 0 else none
  | a, q, b :: r => match costOf l a b w tol with
    | none => none
    | some (d, c) => (run l w tol b c r).map fun y => d + apartZ c q + y
/-- does the one list stand ahead of the other one? -/
def aheadL : List Int → List Int → Bool
  | x :: r, y :: s => if x = y then aheadL r s else decide (x < y)
  | _, _ => false

theorem accW_congr {g h : Nat → Way} {k : Nat} : ∀ {m : Nat}, (∀ i, i < m → g (k + i) = h (k + i)) → accW g k m = accW h k m
  | 0, _ => rfl
  | m + 1, e => by
    simp only [accW]
    rw [accW_congr fun i hi => e i (by omega), e m (by omega)]
theorem wayF_irr (l : List Itm) (w tol : Int) : ∀ (m m' k : Nat) (q : Int), l.length < k + m → l.length < k + m' → wayF l w tol m k q = wayF l w tol m' k q
  | 0, 0, _, _, _, _ => rfl
  | 0, m' + 1, k, q, h, _ => by
    simp only [wayF]
    rw [if_neg (by omega), show l.length - k = 0 by omega]
    rfl
  | m + 1, 0, k, q, _, h => by
    simp only [wayF]
    rw [if_neg (by omega), show l.length - k = 0 by omega]
    rfl
  | m + 1, m' + 1, k, q, h, h' => by
    simp only [wayF]
    split
    · rfl
    · refine accW_congr fun i hi => ?_
      unfold candW
      cases costOf l ((k : Int) - 1) ((k + i : Nat) : Int) w tol with
      | none => rfl
      | some x =>
        obtain ⟨d, c⟩ := x
        simp only []
        rw [wayF_irr l w tol m m' (k + i + 1) c (by omega) (by omega)]
theorem way_end (l : List Itm) (w tol q : Int) : way l w tol l.length q = some (0, 0, []) := by
  unfold way wayF
  rw [if_pos rfl]
theorem way_eq (l : List Itm) (w tol : Int) {k : Nat} (q : Int) (h : k ≠ l.length) : way l w tol k q = accW (candW l w tol (way l w tol) k q) k (l.length - k) := by
  unfold way
  rw [wayF, if_neg h]
  refine accW_congr fun i hi => ?_
  unfold candW
  cases costOf l ((k : Int) - 1) ((k + i : Nat) : Int) w tol with
  | none => rfl
  | some x =>
    obtain ⟨d, c⟩ := x
    simp only []
    rw [wayF_irr l w tol l.length (l.length + 1) (k + i + 1) c (by omega) (by omega)]
/-- the best of some candidates, and the first of the best -/
theorem accW_spec (g : Nat → Way) (k : Nat) : ∀ m : Nat, (accW g k m = none → ∀ i, i < m → g (k + i) = none) ∧ ∀ o, accW g k m = some o → ∃ j, j < m ∧ g (k + j) = some o ∧ ∀ i y, i < m → g (k + i) = some y → o.1 ≤ y.1 ∧ (i < j → o.1 < y.1)
  | 0 => ⟨fun _ i hi => by omega, fun o h => by cases h⟩
  | m + 1 => by
    obtain ⟨h1, h2⟩ := accW_spec g k m
    simp only [accW]
    cases e : g (k + m) with
    | none =>
      unfold pick
      refine ⟨fun h i hi => ?_, fun o h => ?_⟩
      · by_cases him : i = m
        · rw [him]; exact e
        · exact h1 h i (by omega)
      · obtain ⟨j, hj, hg, ha⟩ := h2 o h
        refine ⟨j, by omega, hg, fun i y hi hy => ?_⟩
        by_cases him : i = m
        · rw [him, e] at hy; cases hy
        · exact ha i y (by omega) hy
    | some y0 =>
      cases e2 : accW g k m with
      | none =>
        refine ⟨fun h => (by cases h), fun o h => ?_⟩
        have ho : y0 = o := Option.some.inj h
        subst ho
        refine ⟨m, by omega, e, fun i y hi hy => ?_⟩
        by_cases him : i = m
        · rw [him, e] at hy
          cases hy
          exact ⟨by omega, fun h => by omega⟩
        · rw [h1 e2 i (by omega)] at hy; cases hy
      | some o0 =>
        obtain ⟨j, hj, hg, ha⟩ := h2 o0 e2
        simp only [pick]
        split
        · rename_i hlt
          refine ⟨fun h => (by cases h), fun o h => ?_⟩
          have ho : y0 = o := Option.some.inj h
          subst ho
          refine ⟨m, by omega, e, fun i y hi hy => ?_⟩
          by_cases him : i = m
          · rw [him, e] at hy
            cases hy
            exact ⟨by omega, fun h => by omega⟩
          · have := ha i y (by omega) hy
            exact ⟨by omega, fun _ => by omega⟩
        · rename_i hlt
          refine ⟨fun h => (by cases h), fun o h => ?_⟩
          have ho : o0 = o := Option.some.inj h
          subst ho
          refine ⟨j, by omega, hg, fun i y hi hy => ?_⟩
          by_cases him : i = m
          · rw [him, e] at hy
            cases hy
            exact ⟨by omega, fun h => by omega⟩
          · exact ha i y (by omega) hy
theorem candW_some {l : List Itm} {w tol : Int} {f : Nat → Int → Way} {k : Nat} {q : Int} {b : Nat} {x : Int × Int × List Int} (h : candW l w tol f k q b = some x) : ∃ d c y, costOf l ((k : Int) - 1) (b : Int) w tol = some (d, c) ∧ f (b + 1) c = some y ∧ x = (d + apartZ c q + y.1, c, (b : Int) :: y.2.2) := by
  unfold candW at h
  cases e : costOf l ((k : Int) - 1) (b : Int) w tol with
  | none => rw [e] at h; cases h
  | some dc =>
    obtain ⟨d, c⟩ := dc
    rw [e] at h
    simp only [] at h
    cases e2 : f (b + 1) c with
    | none => rw [e2] at h; cases h
    | some y =>
      rw [e2] at h
      exact ⟨d, c, y, rfl, e2, (Option.some.inj h).symm⟩
/-- how a way goes on -/
theorem way_next {l : List Itm} {w tol : Int} {k : Nat} {q : Int} {x : Int × Int × List Int} (hk : k < l.length) (h : way l w tol k q = some x) :
    ∃ b d y, k ≤ b ∧ b < l.length ∧ costOf l ((k : Int) - 1) (b : Int) w tol = some (d, x.2.1) ∧ way l w tol (b + 1) x.2.1 = some y ∧ x.1 = d + apartZ x.2.1 q + y.1 ∧ x.2.2 = (b : Int) :: y.2.2 := by
  rw [way_eq l w tol q (by omega)] at h
  obtain ⟨j, hj, hg, _⟩ := (accW_spec _ k _).2 _ h
  obtain ⟨d, c, y, h1, h2, rfl⟩ := candW_some hg
  exact ⟨k + j, d, y, by omega, by omega, h1, h2, rfl, rfl⟩
/-- the best way is a way, and none is better, nor as good with an earlier first unlike break -/
theorem way_best (l : List Itm) (w tol : Int) : ∀ (m k : Nat) (q : Int), k + m = l.length →
    (way l w tol k q = none → ∀ cs, run l w tol ((k : Int) - 1) q cs = none) ∧ ∀ x, way l w tol k q = some x → run l w tol ((k : Int) - 1) q x.2.2 = some x.1 ∧ ∀ cs y, run l w tol ((k : Int) - 1) q cs = some y → x.1 ≤ y ∧ (x.1 = y → aheadL cs x.2.2 = false) := by
  intro m
  induction m using Nat.strongRecOn with
  | _ m ih =>
  intro k q hk
  by_cases hkn : k = l.length
  · subst hkn
    rw [way_end]
    refine ⟨fun h => (by cases h), fun x hx => ?_⟩
    have hx := Option.some.inj hx
    subst hx
    refine ⟨by simp [run], fun cs y hy => ?_⟩
    cases cs with
    | nil => simp [run] at hy; subst hy; exact ⟨Int.le_refl _, fun _ => rfl⟩
    | cons b r =>
      simp only [run] at hy
      cases e : costOf l ((l.length : Int) - 1) b w tol with
      | none => rw [e] at hy; cases hy
      | some dc =>
        obtain ⟨d, c⟩ := dc
        have := costOf_lt e
        omega
  · rw [way_eq l w tol q hkn]
    have hsp := accW_spec (candW l w tol (way l w tol) k q) k (l.length - k)
    have key : ∀ cs y, run l w tol ((k : Int) - 1) q cs = some y → ∃ i x, i < l.length - k ∧ candW l w tol (way l w tol) k q (k + i) = some x ∧ x.1 ≤ y ∧ ∃ r, cs = ((k + i : Nat) : Int) :: r ∧ (x.1 = y → ∀ s, x.2.2 = ((k + i : Nat) : Int) :: s → aheadL r s = false) := by
      intro cs y hy
      cases cs with
      | nil =>
        simp only [run] at hy
        rw [if_neg (by omega)] at hy
        cases hy
      | cons b r =>
        simp only [run] at hy
        cases e : costOf l ((k : Int) - 1) b w tol with
        | none => rw [e] at hy; cases hy
        | some dc =>
          obtain ⟨d, c⟩ := dc
          rw [e] at hy
          simp only [] at hy
          obtain ⟨h1, h2, h3, h4⟩ := costOf_lt e
          obtain ⟨i, rfl⟩ : ∃ i : Nat, b = ((k + i : Nat) : Int) := ⟨(b - k).toNat, by omega⟩
          cases e2 : run l w tol ((k + i : Nat) : Int) c r with
          | none => rw [e2] at hy; cases hy
          | some y' =>
            rw [e2] at hy
            have hy := Option.some.inj hy
            replace hy : d + apartZ c q + y' = y := hy
            have hih := ih (l.length - (k + i + 1)) (by omega) (k + i + 1) c (by omega)
            rw [show ((k + i + 1 : Nat) : Int) - 1 = ((k + i : Nat) : Int) by omega] at hih
            cases e3 : way l w tol (k + i + 1) c with
            | none => rw [hih.1 e3 r] at e2; cases e2
            | some z =>
              have hz := (hih.2 z e3).2 r y' e2
              refine ⟨i, (d + apartZ c q + z.1, c, ((k + i : Nat) : Int) :: z.2.2), by omega, ?_, ?_, r, rfl, fun hxy s hs => ?_⟩
              · unfold candW
                rw [e]
                simp only []
                rw [e3]
                rfl
              · simp only []
                omega
              · simp only [] at hxy hs
                injection hs with _ hs
                rw [← hs]
                exact hz.2 (by omega)
    refine ⟨fun h cs => ?_, fun x hx => ?_⟩
    · cases e : run l w tol ((k : Int) - 1) q cs with
      | none => rfl
      | some y =>
        obtain ⟨i, x, hi, hx, _⟩ := key cs y e
        rw [hsp.1 h i hi] at hx
        cases hx
    · obtain ⟨j, hj, hg, ha⟩ := hsp.2 x hx
      obtain ⟨d, c, y, h1, h2, rfl⟩ := candW_some hg
      refine ⟨?_, fun cs z hz => ?_⟩
      · simp only [run]
        rw [h1]
        simp only []
        have hih := (ih (l.length - (k + j + 1)) (by omega) (k + j + 1) c (by omega)).2 y h2
        rw [show ((k + j + 1 : Nat) : Int) - 1 = ((k + j : Nat) : Int) by omega] at hih
        rw [hih.1]
        rfl
      · obtain ⟨i, x, hi, hxc, hle, r, rfl, hr⟩ := key cs z hz
        obtain ⟨ha1, ha2⟩ := ha i x hi hxc
        refine ⟨by omega, fun heq => ?_⟩
        simp only [aheadL]
        by_cases hij : i = j
        · subst hij
          rw [if_pos rfl]
          rw [hg] at hxc
          have hxe := Option.some.inj hxc
          subst hxe
          exact hr heq _ rfl
        · rw [if_neg (by omega)]
          have : ¬ i < j := fun h => by have := ha2 h; omega
          exact decide_eq_false (by omega)
end Go.Proofs.Ythcilpijiindeaa.It
