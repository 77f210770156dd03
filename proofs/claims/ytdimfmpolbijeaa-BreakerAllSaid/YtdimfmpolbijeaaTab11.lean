/-
  The plans, row by row, as plain mathematics; what a line's beginning, a forced break and a line too wide mean for them.
-/
import Derived.Test.YtdimfmpolbijeaaTry11
set_option linter.unusedVariables false
set_option linter.unusedSimpArgs false
namespace Go.Proofs.Ytdimfmpolbijeaa
open Go.RowKit

/-- all ways behind the first s items, a row of ways behind s items, none ahead -/
def tabR (l : List It.Itm) (t tol : Int) (s : Nat) (row : Nat → It.Way) : Nat → Nat → It.Pln := fun k q => if s < k then It.plOf (It.way l t tol k q) else if k = s then It.plOf (row q) else ⟨0, 0, 0, false⟩
/-- the row of the first m candidates -/
def rowM (l : List It.Itm) (t tol : Int) (s m : Nat) : Nat → It.Way := fun q => It.accW (It.candW l t tol (It.way l t tol) s q) s m
theorem ParW.congr {v : Value} {n : Nat} {t tol : Int} {w0 : World} {ip bp : Nat} {F G : Nat → Nat → It.Pln} {w : World} (h : ParW v n t tol w0 ip bp F w) (e : ∀ k q, k ≤ n → q < 4 → F k q = G k q) : ParW v n t tol w0 ip bp G w := by
  obtain ⟨h1, ⟨cs, h2, h3, h4⟩, h5, h6⟩ := h
  exact ⟨h1, ⟨cs, h2, h3, fun k q hk hq j u hu => h4 k q hk hq j u (by rw [e k q hk hq]; exact hu)⟩, h5, h6⟩
theorem rowM_zero (l : List It.Itm) (t tol : Int) (s : Nat) : rowM l t tol s 0 = fun _ => none := rfl
theorem cand_none {l : List It.Itm} {t tol : Int} {f : Nat → Int → It.Way} {s b : Nat} {q : Int} (h : It.costOf l ((s : Int) - 1) (b : Int) t tol = none) : It.candW l t tol f s q b = none := by unfold It.candW; rw [h]
/-- one candidate more that is none -/
theorem rowM_none {l : List It.Itm} {t tol : Int} {s m : Nat} (h : It.costOf l ((s : Int) - 1) ((s + m : Nat) : Int) t tol = none) : rowM l t tol s (m + 1) = rowM l t tol s m := by
  funext q
  unfold rowM
  simp only [It.accW]
  rw [cand_none h]
  rfl
/-- all later candidates are none -/
theorem rowM_rest {l : List It.Itm} {t tol : Int} {s m : Nat} (hs : s < l.length) (hm : s + m ≤ l.length) (h : ∀ b, s + m ≤ b → It.costOf l ((s : Int) - 1) (b : Int) t tol = none) : rowM l t tol s m = fun q : Nat => It.way l t tol s q := by
  funext q
  rw [It.way_eq l t tol q (by omega)]
  have := It.accW_rest (g := It.candW l t tol (It.way l t tol) s q) (k := s) (m := m) (n := l.length - s - m) (fun i h1 h2 => cand_none (h (s + i) (by omega)))
  rw [show m + (l.length - s - m) = l.length - s by omega] at this
  exact this.symm
theorem rowM_start {l : List It.Itm} {t tol : Int} {s m : Nat} (h : ∀ b, s ≤ b → b < s + m → It.costOf l ((s : Int) - 1) (b : Int) t tol = none) : rowM l t tol s m = fun _ => none := by
  funext q
  exact It.accW_none fun i hi => cand_none (h (s + i) (by omega) (by omega))
/-- a line more, in the table -/
theorem tryF_tab {l : List It.Itm} {t tol : Int} {a : Int} {s m : Nat} (hs : a + 1 = (s : Int)) (hm : It.may l = true) : ∀ k q, k ≤ l.length → q < 4 → tryF l t tol a s (s + m) (tabR l t tol s (rowM l t tol s m)) k q = tabR l t tol s (rowM l t tol s (m + 1)) k q := by
  intro k q hk hq
  have ea : a = (s : Int) - 1 := by omega
  have er : rowM l t tol s (m + 1) q = It.pick (rowM l t tol s m q) (It.candW l t tol (It.way l t tol) s q (s + m)) := rfl
  unfold tryF
  rw [ea]
  cases hc : It.costOf l ((s : Int) - 1) ((s + m : Nat) : Int) t tol with
  | none =>
    simp only []
    rw [rowM_none hc]
  | some dc =>
    obtain ⟨d, c⟩ := dc
    simp only []
    obtain ⟨_, hc0, hc3⟩ := It.cost_range hm hc
    obtain ⟨cn, rfl⟩ : ∃ cn : Nat, c = (cn : Int) := ⟨c.toNat, by omega⟩
    rw [Int.toNat_natCast]
    have eF : tabR l t tol s (rowM l t tol s m) (s + m + 1) cn = It.plOf (It.way l t tol (s + m + 1) cn) := by unfold tabR; rw [if_pos (by omega)]
    rw [eF]
    cases hw : It.way l t tol (s + m + 1) (cn : Int) with
    | none =>
      have hn : ∀ q : Nat, It.candW l t tol (It.way l t tol) s q (s + m) = none := fun q => by
        unfold It.candW
        rw [hc]
        simp only []
        rw [hw]; rfl
      rw [if_neg (show ¬ (It.plOf none).ok = true by simp [It.plOf])]
      unfold tabR
      rw [er, hn]
      rfl
    | some y =>
      rw [if_pos (show (It.plOf (some y)).ok = true from rfl)]
      have hcand : It.candW l t tol (It.way l t tol) s q (s + m) = some (d + It.apartZ cn q + y.1, (cn : Int), ((s + m : Nat) : Int) :: y.2.2) := by
        unfold It.candW
        rw [hc]
        simp only []
        rw [hw]; rfl
      unfold stepF tabR
      by_cases hks : k = s
      · subst hks
        rw [if_pos ⟨rfl, hq⟩, if_neg (Nat.lt_irrefl _), if_pos rfl, if_neg (Nat.lt_irrefl _), if_pos rfl, er, hcand, It.plOf_pick]
        have : (⟨d + (It.plOf (some y)).d + It.apartZ cn q, ((k + m : Nat) : Int), (cn : Int), true⟩ : It.Pln) = It.plOf (some (d + It.apartZ cn q + y.1, (cn : Int), ((k + m : Nat) : Int) :: y.2.2)) := by
          simp only [It.plOf, List.headD_cons]
          rw [show d + y.1 + It.apartZ cn q = d + It.apartZ cn q + y.1 by omega]
        exact congrArg (fun z => if It.better (It.plOf (rowM l t tol k m q)) z = true then z else It.plOf (rowM l t tol k m q)) this
      · rw [if_neg (fun h => hks h.1)]
        by_cases hsk : s < k
        · rw [if_pos hsk, if_pos hsk]
        · rw [if_neg hsk, if_neg hks, if_neg hsk, if_neg hks]
theorem tab_range {l : List It.Itm} {t tol : Int} {s : Nat} {row : Nat → It.Way} (hm : It.may l = true) {b : Nat} (hb : b < l.length) (hs : s ≤ b) : ∀ q, q < 4 → -700000000000 ≤ (tabR l t tol s row (b + 1) q).d ∧ (tabR l t tol s row (b + 1) q).d ≤ 700000000000 := by
  intro q hq
  have hl := (It.may_yes hm).1
  unfold tabR
  rw [if_pos (by omega)]
  cases h : It.way l t tol (b + 1) (q : Int) with
  | none => simp only [It.plOf]; omega
  | some x =>
    have := It.way_range hm t tol (l.length - (b + 1)) (b + 1) q x (by omega) h
    simp only [It.plOf]
    omega

/-! ### sums of a line's items -/
theorem sumG_next {l : List It.Itm} (hm : It.may l = true) {i b : Nat} {x : It.Itm} (hx : l[b]? = some x) (hi : i ≤ b) : It.addS (It.sumG (It.glB l i b)) x = It.sumG (It.glB l i (b + 1)) := by
  have hr : It.right x = true := List.all_eq_true.1 (It.may_yes hm).2.1 x (List.mem_of_getElem? hx)
  have hk : x.k = 0 ∨ x.k = 1 ∨ x.k = 2 := by
    unfold It.right at hr
    by_cases h0 : x.k = 0
    · exact .inl h0
    · rw [if_neg h0] at hr
      split at hr
      · cases hr
      · by_cases h1 : x.k = 1
        · exact .inr (.inl h1)
        · rw [if_neg h1] at hr
          simp only [Bool.and_eq_true, decide_eq_true_eq] at hr
          exact .inr (.inr hr.1.1)
  rw [It.glB_next hx hi]
  unfold It.addS
  by_cases h2 : x.k = 2
  · have e : (if It.gluey x = true then [x.g] else []) = [] := if_neg (by unfold It.gluey; simp [h2])
    rw [if_pos h2, e, List.append_nil]
  · have e : (if It.gluey x = true then [x.g] else []) = [x.g] := if_pos (by unfold It.gluey; simp; omega)
    rw [if_neg h2, e]
    unfold It.sumG
    rw [It.sumW_app, It.sumK_app, It.sumO_app, It.sumO_app, It.sumO_app, It.sumO_app]
    simp only [It.sumW, It.sumK, It.sumO, Int.add_zero]
    congr 1
    · split <;> simp
    · split <;> simp
    · split <;> simp
    · split <;> simp
theorem glB_small {l : List It.Itm} (hm : It.may l = true) {i b : Nat} (hb : b ≤ l.length) : It.smallS (It.sumG (It.glB l i b)) ∧ (-1073741823 ≤ It.sumW (It.glB l i b) ∧ It.sumW (It.glB l i b) ≤ 1073741823) ∧ (0 ≤ It.sumK (It.glB l i b) ∧ It.sumK (It.glB l i b) ≤ 1073741823) := by
  obtain ⟨hA, _, _⟩ := It.glB_may hm (i := i) hb
  obtain ⟨a1, a2, a3⟩ := It.glMay_yes hA
  obtain ⟨⟨z0, _⟩, ⟨t0, _⟩, ⟨k0, _⟩, ⟨w0, w1⟩, ho⟩ := It.sums_bound _ a2
  have hs := It.sumsOk_yes a3
  have o0 := ho 0
  have o1 := ho 1
  have o2 := ho 2
  have o3 := ho 3
  refine ⟨?_, ⟨by omega, by omega⟩, k0, hs.2.2⟩
  unfold It.smallS It.sumG
  simp only []
  omega
theorem noforced_start (l : List It.Itm) (s : Nat) : ((l.take (It.st l s)).drop s).any It.forced = false := by
  rw [List.any_eq_false]
  intro x hx hf
  obtain ⟨j, hj⟩ := List.mem_iff_getElem?.1 hx
  rw [List.getElem?_drop] at hj
  have hlt : s + j < It.st l s := by
    have := (List.getElem?_eq_some_iff.1 hj).1
    rw [List.length_take] at this
    omega
  rw [List.getElem?_take_of_lt hlt] at hj
  have hfi : j < (l.drop s).findIdx It.startsB := by unfold It.st at hlt; omega
  have hjd : (l.drop s)[j]? = some x := by rw [List.getElem?_drop]; exact hj
  have hjl := (List.getElem?_eq_some_iff.1 hjd).1
  have := List.not_of_lt_findIdx hfi
  rw [(List.getElem?_eq_some_iff.1 hjd).2] at this
  unfold It.startsB at this
  rw [hf] at this
  simp at this
theorem noforced_next {l : List It.Itm} {s b : Nat} {x : It.Itm} (hx : l[b]? = some x) (hsb : s ≤ b) (h : ((l.take b).drop s).any It.forced = false) (hf : It.forced x = false) : ((l.take (b + 1)).drop s).any It.forced = false := by
  have hb : b < l.length := (List.getElem?_eq_some_iff.1 hx).1
  rw [It.take_snoc hx, List.drop_append_of_le_length (by rw [List.length_take]; omega), List.any_append, h]
  simp [hf]
end Go.Proofs.Ytdimfmpolbijeaa
