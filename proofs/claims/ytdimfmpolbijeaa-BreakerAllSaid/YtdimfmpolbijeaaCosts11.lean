/-
  What a line costs, by its short line; which lines may not be; how great demerits are; what breaks cost together; no program is mentioned here.
-/
import Derived.Test.YtdimfmpolbijeaaShort11
set_option linter.unusedVariables false
set_option linter.unusedSimpArgs false
namespace Go.Proofs.Ytdimfmpolbijeaa.It

theorem gluesN_at (l : List Itm) {s b : Nat} (hs : s ≤ b) (hst : st l s ≤ b) : gluesN l s b = glB l (st l s) b ++ tailG l b := by
  unfold gluesN glB
  rw [st_take l hs, Nat.min_eq_right hst]
theorem lineN_at (l : List Itm) {s b : Nat} (hs : s ≤ b) (hst : st l s ≤ b) (hf : ((l.take b).drop s).any forced = false) : lineN l s b = true := by
  unfold lineN
  rw [st_take l (by omega), decide_eq_true (by omega), hf]; rfl
theorem legal_of {l : List Itm} {b : Nat} {x : Itm} (hx : l[b]? = some x) (h : legal l (b : Int) = true) : (x.k = 2 ∧ x.p < 10000) ∨ x.k = 1 := by
  unfold legal legalN at h
  rw [Bool.and_eq_true] at h
  have h := h.2
  rw [Int.toNat_natCast, hx] at h
  simp only [] at h
  split at h
  · exact .inl ⟨by assumption, of_decide_eq_true h⟩
  · simp only [Bool.and_eq_true, decide_eq_true_eq] at h
    exact .inr h.1.1
theorem tailG_of {l m : List Itm} {b c : Nat} (h : l[b]? = m[c]?) : tailG l b = tailG m c := by unfold tailG; rw [h]
theorem brkN_of {l m : List Itm} {b c : Nat} (h : l[b]? = m[c]?) : brkN l b = brkN m c := by unfold brkN; rw [h]
theorem flagN_of {l m : List Itm} {b c : Nat} (h : l[b]? = m[c]?) : flagN l b = flagN m c := by unfold flagN; rw [h]

/-- the first line, by its short one -/
theorem short_first {l : List Itm} (h : may l = true) {b : Nat} {x : Itm} (hx : l[b]? = some x) (hb : legal l (b : Int) = true) (hst : st l 0 ≤ b) (hf : ((l.take b).drop 0).any forced = false) (w tol : Int) :
    costOf (boxesOf (sumG (glB l (st l 0) b)) ++ [x]) (-1) 5 w tol = costOf l (-1) (b : Int) w tol := by
  have hbl : b < l.length := (List.getElem?_eq_some_iff.1 hx).1
  have hl := legal_of hx hb
  have e1 : lineOf l (-1) (b : Int) w = setOf (glB l (st l 0) b ++ tailG l b) w := by
    unfold lineOf
    rw [if_pos]
    · rw [show ((-1 : Int) + 1).toNat = 0 from rfl, Int.toNat_natCast, gluesN_at l (Nat.zero_le _) hst]
    · unfold isLine
      rw [hb, show ((-1 : Int) + 1).toNat = 0 from rfl, Int.toNat_natCast, lineN_at l (Nat.zero_le _) hst hf, decide_eq_true (show (-1 : Int) < (b : Int) by omega)]
      rfl
  have hs := short_set h (i := st l 0) (b := b) (by omega) w
  generalize sumG (glB l (st l 0) b) = σ at hs ⊢
  have e2 : lineOf (boxesOf σ ++ [x]) (-1) 5 w = setOf (glB l (st l 0) b ++ tailG l b) w := by
    unfold lineOf
    rw [if_pos]
    · rw [← hs]
      congr 1
      rw [show ((-1 : Int) + 1).toNat = 0 from rfl, show (5 : Int).toNat = 5 from rfl, gluesN_at (boxesOf σ ++ [x]) (s := 0) (b := 5) (by omega) (by simp [boxesOf, st, startsB, boxW, List.findIdx_cons])]
      congr 1
      exact tailG_of (by rw [hx]; rfl)
    · unfold isLine
      have k1 : legal (boxesOf σ ++ [x]) 5 = true := by
        unfold legal legalN
        rw [show (5 : Int).toNat = 5 from rfl, show (boxesOf σ ++ [x])[5]? = some x from rfl]
        simp only []
        rcases hl with ⟨h1, h2⟩ | h1
        · rw [if_pos h1, decide_eq_true h2]; rfl
        · rw [if_neg (by omega), h1]
          simp [boxesOf, boxS]
      rw [k1, show ((-1 : Int) + 1).toNat = 0 from rfl, show (5 : Int).toNat = 5 from rfl]
      rw [lineN_at _ (by omega) (by simp [boxesOf, st, startsB, boxW, List.findIdx_cons]) (by simp [boxesOf, boxW, boxS, forced])]
      rfl
  unfold costOf
  rw [e1, e2]
  cases setOf (glB l (st l 0) b ++ tailG l b) w with
  | none => rfl
  | some S =>
    simp only []
    have : dem (boxesOf σ ++ [x]) (-1) 5 S = dem l (-1) (b : Int) S := by
      unfold dem
      rw [if_neg (by simp), if_neg (by simp), show (5 : Int).toNat = 5 from rfl, Int.toNat_natCast, brkN_of (l := boxesOf σ ++ [x]) (m := l) (b := 5) (c := b) (by rw [hx]; rfl)]
    rw [this]
/-- a later line, by its short one -/
theorem short_mid {l : List Itm} (h : may l = true) {i b : Nat} {x y : Itm} (hy : l[i]? = some y) (ha : legal l (i : Int) = true) (hx : l[b]? = some x) (hb : legal l (b : Int) = true) (hib : i < b) (hst : st l (i + 1) ≤ b) (hf : ((l.take b).drop (i + 1)).any forced = false) (w tol : Int) :
    costOf ([itE, y] ++ (boxesOf (sumG (glB l (st l (i + 1)) b)) ++ [x])) 1 7 w tol = costOf l (i : Int) (b : Int) w tol := by
  have hbl : b < l.length := (List.getElem?_eq_some_iff.1 hx).1
  have hl := legal_of hx hb
  have hly := legal_of hy ha
  have e1 : lineOf l (i : Int) (b : Int) w = setOf (glB l (st l (i + 1)) b ++ tailG l b) w := by
    unfold lineOf
    rw [if_pos]
    · rw [show ((i : Int) + 1).toNat = i + 1 by omega, Int.toNat_natCast, gluesN_at l (by omega) hst]
    · unfold isLine
      rw [hb, ha, show ((i : Int) + 1).toNat = i + 1 by omega, Int.toNat_natCast, lineN_at l (by omega) hst hf, decide_eq_true (show (i : Int) < (b : Int) by omega)]
      simp
  have hs := short_set h (i := st l (i + 1)) (b := b) (by omega) w
  generalize sumG (glB l (st l (i + 1)) b) = σ at hs ⊢
  have e0 : st ([itE, y] ++ (boxesOf σ ++ [x])) 2 = 2 := by simp [boxesOf, st, startsB, boxW, List.findIdx_cons]
  have e2 : lineOf ([itE, y] ++ (boxesOf σ ++ [x])) 1 7 w = setOf (glB l (st l (i + 1)) b ++ tailG l b) w := by
    unfold lineOf
    rw [if_pos]
    · rw [← hs]
      congr 1
      rw [show ((1 : Int) + 1).toNat = 2 from rfl, show (7 : Int).toNat = 7 from rfl, gluesN_at ([itE, y] ++ (boxesOf σ ++ [x])) (s := 2) (b := 7) (by omega) (by rw [e0]; omega)]
      rw [e0]
      congr 1
      exact tailG_of (by rw [hx]; rfl)
    · unfold isLine
      have k1 : legal ([itE, y] ++ (boxesOf σ ++ [x])) 7 = true := by
        unfold legal legalN
        rw [show (7 : Int).toNat = 7 from rfl, show ([itE, y] ++ (boxesOf σ ++ [x]))[7]? = some x from rfl]
        simp only []
        rcases hl with ⟨h1, h2⟩ | h1
        · rw [if_pos h1, decide_eq_true h2]; rfl
        · rw [if_neg (by omega), h1]
          simp [boxesOf, boxS]
      have k2 : legal ([itE, y] ++ (boxesOf σ ++ [x])) 1 = true := by
        unfold legal legalN
        rw [show (1 : Int).toNat = 1 from rfl, show ([itE, y] ++ (boxesOf σ ++ [x]))[1]? = some y from rfl]
        simp only []
        rcases hly with ⟨h1, h2⟩ | h1
        · rw [if_pos h1, decide_eq_true h2]; rfl
        · rw [if_neg (by omega), h1]
          simp [itE]
      rw [k1, k2, show ((1 : Int) + 1).toNat = 2 from rfl, show (7 : Int).toNat = 7 from rfl]
      rw [lineN_at _ (by omega) (by rw [e0]; omega) (by simp [boxesOf, boxW, boxS, forced])]
      rfl
  unfold costOf
  rw [e1, e2]
  cases setOf (glB l (st l (i + 1)) b ++ tailG l b) w with
  | none => rfl
  | some S =>
    simp only []
    have : dem ([itE, y] ++ (boxesOf σ ++ [x])) 1 7 S = dem l (i : Int) (b : Int) S := by
      unfold dem
      rw [show (7 : Int).toNat = 7 from rfl, show (1 : Int).toNat = 1 from rfl, Int.toNat_natCast, Int.toNat_natCast, brkN_of (l := [itE, y] ++ (boxesOf σ ++ [x])) (m := l) (b := 7) (c := b) (by rw [hx]; rfl), flagN_of (l := [itE, y] ++ (boxesOf σ ++ [x])) (m := l) (b := 7) (c := b) (by rw [hx]; rfl), flagN_of (l := [itE, y] ++ (boxesOf σ ++ [x])) (m := l) (b := 1) (c := i) (by rw [hy]; rfl)]
      have : (i : Int) ≠ -1 := by omega
      simp [this]
    rw [this]

/-! ### where no line may be -/
theorem cost_notline {l : List Itm} {a b : Int} (h : isLine l a b = false) (w tol : Int) : costOf l a b w tol = none := by
  unfold costOf lineOf
  rw [h]; rfl
theorem cost_illegal {l : List Itm} {b : Int} (h : legal l b = false) (a w tol : Int) : costOf l a b w tol = none :=
  cost_notline (by unfold isLine; rw [h]; simp) w tol
theorem cost_illegalA {l : List Itm} {a : Int} (h : legal l a = false) (h1 : a ≠ -1) (b w tol : Int) : costOf l a b w tol = none :=
  cost_notline (by unfold isLine; rw [h, decide_eq_false h1]; rfl) w tol
theorem cost_early {l : List Itm} {a : Int} {s b : Nat} (hs : a + 1 = (s : Int)) (hb : b < st l s) (w tol : Int) : costOf l a (b : Int) w tol = none := by
  refine cost_notline ?_ w tol
  unfold isLine
  rw [hs, Int.toNat_natCast, Int.toNat_natCast]
  by_cases hsb : s ≤ b
  · have : lineN l s b = false := by
      unfold lineN
      rw [st_take l (by omega), decide_eq_false (by omega)]; rfl
    rw [this, Bool.and_false]
  · rw [decide_eq_false (show ¬ a < (b : Int) by omega), Bool.and_false, Bool.false_and]
theorem cost_forced {l : List Itm} {a : Int} {s b j : Nat} {x : Itm} (hs : a + 1 = (s : Int)) (hj : l[j]? = some x) (hf : forced x = true) (h1 : s ≤ j) (h2 : j < b) (w tol : Int) : costOf l a (b : Int) w tol = none := by
  refine cost_notline ?_ w tol
  unfold isLine
  rw [hs, Int.toNat_natCast, Int.toNat_natCast]
  have : lineN l s b = false := by
    have : ((l.take b).drop s).any forced = true := by
      rw [List.any_eq_true]
      refine ⟨x, ?_, hf⟩
      have : ((l.take b).drop s)[j - s]? = some x := by
        rw [List.getElem?_drop, List.getElem?_take_of_lt (by omega), show s + (j - s) = j by omega, hj]
      exact List.mem_of_getElem? this
    unfold lineN
    rw [this]; simp
  rw [this, Bool.and_false]
theorem right_gluey {x : Itm} (h : right x = true) (hg : gluey x = true) : x.g.sk ≤ x.g.w := by
  unfold gluey at hg
  rw [Bool.or_eq_true, decide_eq_true_eq, decide_eq_true_eq] at hg
  unfold right at h
  rcases hg with h0 | h1
  · rw [if_pos h0] at h
    simp only [boxG, plainG, Bool.and_eq_true, decide_eq_true_eq] at h
    have := (amt_yes h.1.1.1.1.1).1
    have := h.1.1.1.1.2.1.2
    omega
  · rw [if_neg (by omega)] at h
    split at h
    · cases h
    · first | rw [if_pos h1] at h | skip
      simp only [Bool.and_eq_true, decide_eq_true_eq] at h
      exact h.1.1.2
theorem glB_wide {l : List Itm} (h : may l = true) {i m : Nat} (hi : i ≤ m) : ∀ n : Nat, m + n ≤ l.length → sumW (glB l i m) - sumK (glB l i m) ≤ sumW (glB l i (m + n)) - sumK (glB l i (m + n))
  | 0, _ => Int.le_refl _
  | n + 1, hn => by
    have ih := glB_wide h hi n (by omega)
    obtain ⟨x, hx⟩ : ∃ x, l[m + n]? = some x := ⟨_, List.getElem?_eq_getElem (by omega)⟩
    have hr : right x = true := List.all_eq_true.1 (may_yes h).2.1 x (List.mem_of_getElem? hx)
    rw [← Nat.add_assoc, glB_next hx (by omega), sumW_app, sumK_app]
    split
    · have := right_gluey hr (by assumption)
      simp only [sumW, sumK]
      omega
    · simp only [sumW, sumK]
      omega
/-- a line that is too wide however much it is shrunk, and all that go on from there -/
theorem cost_wide {l : List Itm} (h : may l = true) {a : Int} {s m b : Nat} (hs : a + 1 = (s : Int)) (hsm : s ≤ m) (hst : st l s ≤ m) (hmb : m ≤ b) (w tol : Int) (hw : w < sumW (glB l (st l s) m) - sumK (glB l (st l s) m)) : costOf l a (b : Int) w tol = none := by
  rcases Nat.lt_or_ge b l.length with hbl | hbl
  · have hg := glB_wide h hst (b - m) (by omega)
    rw [show m + (b - m) = b by omega] at hg
    obtain ⟨_, h2, h3⟩ := glB_may h (i := st l s) (b := b) (by omega)
    unfold costOf
    cases e : lineOf l a (b : Int) w with
    | none => rfl
    | some S =>
      simp only []
      obtain ⟨e1, e2⟩ := lineOf_some e
      rw [hs, Int.toNat_natCast, Int.toNat_natCast, gluesN_at l (by omega) (by omega)] at e2
      obtain ⟨_, _, _, rfl⟩ := setOf_some e2
      have ht : 0 ≤ sumW (tailG l b) ∧ sumK (tailG l b) = 0 := by
        obtain ⟨x, hx⟩ : ∃ x, l[b]? = some x := ⟨_, List.getElem?_eq_getElem hbl⟩
        have hr : right x = true := List.all_eq_true.1 (may_yes h).2.1 x (List.mem_of_getElem? hx)
        unfold tailG
        rw [hx]
        simp only []
        split
        · rename_i h2
          simp only [sumW, sumK]
          unfold right at hr
          rw [if_neg (by omega)] at hr
          split at hr
          · cases hr
          · rw [if_neg (by omega)] at hr
            simp only [boxG, Bool.and_eq_true] at hr
            have := (amt_yes hr.1.2.1).1
            omega
        · simp [sumW, sumK]
      have hk := (sumK_nonneg h2).1
      rw [sumK_app] at hk
      have hS : (setE (glB l (st l s) b ++ tailG l b) (w - sumW (glB l (st l s) b ++ tailG l b))).bad = 1000000 := by
        rw [sumW_app]
        unfold setE shrE
        rw [if_neg (show ¬ 0 < w - (sumW (glB l (st l s) b) + sumW (tailG l b)) by omega), if_pos (show w - (sumW (glB l (st l s) b) + sumW (tailG l b)) < 0 by omega)]
        simp only []
        rw [sumK_app, if_neg (show ¬ -(w - (sumW (glB l (st l s) b) + sumW (tailG l b))) ≤ sumK (glB l (st l s) b) + sumK (tailG l b) by omega)]
      rw [if_pos]
      right
      rw [hS]
      omega
  · exact cost_illegal (by unfold legal legalN; rw [Int.toNat_natCast, List.getElem?_eq_none hbl]; simp) a w tol

theorem accW_none {g : Nat → Way} {k : Nat} : ∀ {m : Nat}, (∀ i, i < m → g (k + i) = none) → accW g k m = none
  | 0, _ => rfl
  | m + 1, h => by
    simp only [accW]
    rw [accW_none fun i hi => h i (by omega), h m (by omega)]
    rfl
theorem accW_rest {g : Nat → Way} {k m : Nat} : ∀ {n : Nat}, (∀ i, m ≤ i → i < m + n → g (k + i) = none) → accW g k (m + n) = accW g k m
  | 0, _ => rfl
  | n + 1, h => by
    show pick (accW g k (m + n)) (g (k + (m + n))) = _
    rw [accW_rest fun i h1 h2 => h i h1 (by omega), h (m + n) (by omega) (by omega)]
    rfl

/-! ### how great demerits are -/
theorem sq_range {x : Int} (h0 : -10010 ≤ x) (h1 : x ≤ 10010) : 0 ≤ x * x ∧ x * x ≤ 100200100 := by
  have a : 0 ≤ x * x := by
    rcases Int.le_total 0 x with h | h
    · exact Int.mul_nonneg h h
    · have := Int.mul_nonneg (show 0 ≤ -x by omega) (show 0 ≤ -x by omega)
      rw [Int.neg_mul_neg] at this
      exact this
  refine ⟨a, ?_⟩
  rcases Int.le_total 0 x with h | h
  · have := Int.mul_le_mul h1 h1 h (by omega)
    omega
  · have := Int.mul_le_mul (show -x ≤ 10010 by omega) (show -x ≤ 10010 by omega) (show 0 ≤ -x by omega) (by omega)
    rw [Int.neg_mul_neg] at this
    omega
theorem right_pen {x : Itm} (h : right x = true) (h2 : x.k = 2) : -10000 ≤ x.p ∧ x.p ≤ 10000 := by
  unfold right at h
  rw [if_neg (by omega)] at h
  split at h
  · cases h
  · rw [if_neg (by omega)] at h
    simp only [penOk, Bool.and_eq_true, decide_eq_true_eq] at h
    exact h.2
theorem brk_range {x : Itm} (h : right x = true) : -100000000 ≤ brk x ∧ brk x ≤ 100000000 := by
  unfold brk
  split
  · omega
  · rename_i hn
    have h2 : x.k = 2 := Decidable.byContradiction fun h => hn (.inl h)
    obtain ⟨p0, p1⟩ := right_pen h h2
    have hq : sqW x.p = x.p * x.p ∧ 0 ≤ x.p * x.p ∧ x.p * x.p ≤ 100000000 := by
      have a := (sq_range (x := x.p) (by omega) (by omega)).1
      have b : x.p * x.p ≤ 100000000 := by
        rcases Int.le_total 0 x.p with h | h
        · have := Int.mul_le_mul p1 p1 h (by omega)
          omega
        · have := Int.mul_le_mul (show -x.p ≤ 10000 by omega) (show -x.p ≤ 10000 by omega) (show 0 ≤ -x.p by omega) (by omega)
          rw [Int.neg_mul_neg] at this
          omega
      exact ⟨by unfold sqW; exact wr_in (by omega) (by omega), a, b⟩
    rw [hq.1]
    split
    · rw [wr_in (by omega) (by omega)]; omega
    · omega
theorem cost_range {l : List Itm} (h : may l = true) {a b w tol d c : Int} (hc : costOf l a b w tol = some (d, c)) : (-100000000 ≤ d ∧ d ≤ 200220000) ∧ 0 ≤ c ∧ c ≤ 3 := by
  obtain ⟨S, h1, h2, h3, rfl, rfl⟩ := costOf_some hc
  refine ⟨?_, cls_bound S⟩
  obtain ⟨k1, k2⟩ := lineOf_some h1
  obtain ⟨_, _, b0, bl, _⟩ := isLine_lt k1
  have hb := setOf_bound k2
  have hq : sqW (S.bad + 10) = (S.bad + 10) * (S.bad + 10) ∧ 0 ≤ (S.bad + 10) * (S.bad + 10) ∧ (S.bad + 10) * (S.bad + 10) ≤ 100200100 := by
    obtain ⟨a, b⟩ := sq_range (x := S.bad + 10) (by omega) (by omega)
    exact ⟨by unfold sqW; exact wr_in (by omega) (by omega), a, b⟩
  obtain ⟨x, hx⟩ : ∃ x, l[b.toNat]? = some x := ⟨_, List.getElem?_eq_getElem (by omega)⟩
  have hr : right x = true := List.all_eq_true.1 (may_yes h).2.1 x (List.mem_of_getElem? hx)
  have hk := brk_range hr
  have e : brkN l b.toNat = brk x := by unfold brkN; rw [hx]
  unfold dem
  rw [hq.1, e]
  split
  · rw [wr_in (x := _ + brk x) (by omega) (by omega), wr_in (by omega) (by omega)]; omega
  · rw [wr_in (by omega) (by omega)]; omega
theorem apartZ_range (c q : Int) : 0 ≤ apartZ c q ∧ apartZ c q ≤ 10000 := by unfold apartZ; split <;> omega
theorem way_range {l : List Itm} (h : may l = true) (w tol : Int) : ∀ (m k : Nat) (q : Int) (x : Int × Int × List Int), k + m = l.length → way l w tol k q = some x → -300000000 * (m : Int) ≤ x.1 ∧ x.1 ≤ 300000000 * (m : Int) := by
  intro m
  induction m using Nat.strongRecOn with
  | _ m ih =>
  intro k q x hk hx
  by_cases hkn : k = l.length
  · subst hkn
    rw [way_end] at hx
    have := Option.some.inj hx
    subst this
    omega
  · obtain ⟨b, d, y, h1, h2, h3, h4, h5, _⟩ := way_next (by omega) hx
    have hr := (cost_range h h3).1
    have ha := apartZ_range x.2.1 q
    have hi := ih (l.length - (b + 1)) (by omega) (b + 1) _ y (by omega) h4
    omega
theorem stepT_is {acc d : Int} {c q : Int} (h0 : -700000000000 ≤ acc ∧ acc ≤ 700000000000) (h1 : -100000000 ≤ d ∧ d ≤ 200220000) : stepT acc d (unlike c q) = acc + d + apartZ c q := by
  unfold stepT apartZ
  split
  · rw [wr_in (x := acc + d) (by omega) (by omega), wr_in (by omega) (by omega)]
  · rw [wr_in (by omega) (by omega)]; omega
theorem go_run {l : List Itm} (h : may l = true) (w tol : Int) : ∀ (bs : List Int) (a q acc : Int), -1 ≤ a → a < l.length → -300000000 * (a + 1) ≤ acc → acc ≤ 300000000 * (a + 1) →
    (goS l w tol a q acc bs = none → run l w tol a q bs = none) ∧ ∀ x, goS l w tol a q acc bs = some x → run l w tol a q bs = if x.1 = (l.length : Int) - 1 then some (x.2.2 - acc) else none
  | [], a, q, acc, _, _, _, _ => by
    refine ⟨fun e => (by simp [goS] at e), fun x e => ?_⟩
    simp only [goS, Option.some.injEq] at e
    subst e
    simp [run]
  | b :: r, a, q, acc, ha, hal, h0, h1 => by
    have hlen := (may_yes h).1
    simp only [goS, run]
    cases e : costOf l a b w tol with
    | none => exact ⟨fun _ => rfl, fun x e => by cases e⟩
    | some dc =>
      obtain ⟨d, c⟩ := dc
      simp only []
      obtain ⟨_, k1, k2, k3⟩ := costOf_lt e
      have hr := (cost_range h e).1
      have hz := apartZ_range c q
      rw [stepT_is (by omega) hr]
      obtain ⟨i1, i2⟩ := go_run h w tol r b c (acc + d + apartZ c q) (by omega) k3 (by omega) (by omega)
      refine ⟨fun hn => (by rw [i1 hn]; rfl), fun x hx => ?_⟩
      rw [i2 x hx]
      split
      · simp only [Option.map_some]
        congr 1
        omega
      · rfl
/-- what breaks cost together -/
theorem total_run {l : List Itm} (h : may l = true) (hn : 0 < l.length) (w tol : Int) (bs : List Int) : total l bs w tol = run l w tol (-1) 2 bs := by
  obtain ⟨h1, h2⟩ := go_run h w tol bs (-1) 2 0 (by omega) (by omega) (by omega) (by omega)
  unfold total totOk
  cases e : goS l w tol (-1) 2 0 bs with
  | none =>
    rw [h1 e]
    split <;> rfl
  | some x =>
    rw [h2 x e]
    have hl := (goS_last l w tol bs _ _ _ x e).1
    cases bs with
    | nil =>
      simp at hl
      rw [if_neg (by simp), if_neg (by omega)]
    | cons b r =>
      have hg : (b :: r).getLast? = some x.1 := by
        cases hgl : (b :: r).getLast? with
        | none => simp at hgl
        | some z => rw [hgl] at hl; simp at hl; rw [hl]
      rw [hg]
      by_cases hx : x.1 = (l.length : Int) - 1
      · rw [if_pos (by rw [hx]; simp), if_pos hx]
        simp
      · rw [if_neg (by simp [hx]), if_neg hx]
end Go.Proofs.Ytdimfmpolbijeaa.It
