/-
  The plain mathematics of package setter: where everything stands in a line, lines one behind the other; no program is mentioned here.
-/
import Derived.Test.YthcilpijiindeaaWd12
set_option linter.unusedVariables false
set_option linter.unusedSimpArgs false
namespace Go.Proofs.Ythcilpijiindeaa.It

structure Plc where
  n : Int
  q : Int
  x : Int
  w : Int
  deriving DecidableEq
structure Lin where
  fr : Int
  en : Int
  bs : List Plc
  hy : Bool
  x : Int
  bad : Int
  deriving DecidableEq
/-- one item more: how many widths are used, the boxes, where the next item stands -/
def stp (ws : List Int) (s : Nat × List Plc × Int) (i : Itm) : Nat × List Plc × Int :=
  if gluey i = true then (s.1 + 1, (if i.k = 0 then s.2.1 ++ [⟨i.n, i.q, s.2.2, i.g.w⟩] else s.2.1), wr (s.2.2 + ws.getD s.1 0)) else s
def lay (ws : List Int) (l : List Itm) : Nat × List Plc × Int := l.foldl (stp ws) (0, [], 0)
/-- the items of the line from a to b -/
def lits (l : List Itm) (a b : Int) : List Itm := (l.take b.toNat).drop (st l (a + 1).toNat)
def lws (l : List Itm) (a b : Int) (s : Stg) : List Int := widF s (amtOf (gluesN l (a + 1).toNat b.toNat) s) (wsum s (gluesN l (a + 1).toNat b.toNat)) 0 (gluesN l (a + 1).toNat b.toNat)
def linS (l : List Itm) (a b : Int) (s : Stg) : Lin :=
  ⟨st l (a + 1).toNat, b, (lay (lws l a b s) (lits l a b)).2.1, flagN l b.toNat, (lay (lws l a b s) (lits l a b)).2.2, s.bad⟩
def linV (l : List Itm) (a b t : Int) : Option Lin := (lineOf l a b t).map (linS l a b)
/-- lines, one behind the other: k breaks are done, ls their lines, a the last of them -/
def goL (l : List Itm) (t : Int) : Int → Nat → List Lin → List Int → List Lin × Int × Int
  | a, k, ls, [] => if k = 0 ∨ a ≠ (l.length : Int) - 1 then ([], 120, k) else (ls, 0, 0)
  | a, k, ls, b :: r => match linV l a b t with
    | none => ([], 120, k)
    | some x => goL l t b (k + 1) (ls ++ [x]) r
def setR (l : List Itm) (bs : List Int) (t : Int) : List Lin × Int × Int := if may l = false then ([], 90, 0) else goL l t (-1) 0 [] bs
/-- lines that are those of breaks -/
def Chn (l : List Itm) (t : Int) : Int → List Int → List Lin → Prop
  | _, [], [] => True
  | a, b :: r, x :: s => linV l a b t = some x ∧ Chn l t b r s
  | _, _, _ => False

theorem lay_snoc (ws : List Int) {l : List Itm} {k : Nat} {x : Itm} (h : l[k]? = some x) : lay ws (l.take (k + 1)) = stp ws (lay ws (l.take k)) x := by
  unfold lay
  rw [take_snoc h, List.foldl_append]
  rfl
theorem lay_zero (ws : List Int) (l : List Itm) : lay ws (l.take 0) = (0, [], 0) := rfl
/-- lines hang on the items up to their break alone -/
theorem st_of_take {l : List Itm} {n s : Nat} (h : st (l.take n) s < n) (hs : s ≤ n) : st l s = st (l.take n) s := by
  rcases Nat.lt_or_ge n l.length with hn | hn
  · unfold st at h ⊢
    congr 1
    rw [List.drop_take] at h ⊢
    have e : (List.take (n - s) (l.drop s)).findIdx startsB < n - s := by omega
    have hlen : (List.take (n - s) (l.drop s)).length = n - s := by rw [List.length_take, List.length_drop]; omega
    conv => lhs; rw [← List.take_append_drop (n - s) (l.drop s)]
    rw [List.findIdx_append, if_pos (by rw [hlen]; exact e)]
  · rw [List.take_of_length_le hn]
theorem st_of_more {l : List Itm} {n s : Nat} (h : st l s < n) (hs : s ≤ n) : st (l.take n) s = st l s := by
  rcases Nat.lt_or_ge n l.length with hn | hn
  · unfold st at h ⊢
    congr 1
    rw [List.drop_take]
    have hlen : (List.take (n - s) (l.drop s)).length = n - s := by rw [List.length_take, List.length_drop]; omega
    have h2 : (l.drop s).findIdx startsB < n - s := by omega
    rw [← List.take_append_drop (n - s) (l.drop s), List.findIdx_append] at h2
    conv => rhs; rw [← List.take_append_drop (n - s) (l.drop s)]
    rw [List.findIdx_append]
    split
    · rfl
    · rename_i hc
      rw [if_neg hc] at h2
      omega
  · rw [List.take_of_length_le hn]
/-- what is known of a line -/
theorem isLine_st {l : List Itm} {a b : Int} (h : isLine l a b = true) : (a + 1).toNat ≤ st l (a + 1).toNat ∧ st l (a + 1).toNat ≤ b.toNat ∧ st (l.take b.toNat) (a + 1).toNat = st l (a + 1).toNat := by
  obtain ⟨h1, h2, h3, h4, h5, h6, h7⟩ := isLine_lt h
  unfold lineN at h7
  rw [Bool.and_eq_true, decide_eq_true_eq] at h7
  obtain ⟨h8, h9⟩ := h7
  have e := st_of_take (l := l) (n := b.toNat + 1) (s := (a + 1).toNat) (by omega) (by omega)
  refine ⟨by unfold st; omega, by rw [e]; exact h8, ?_⟩
  rcases Nat.lt_or_ge (st l (a + 1).toNat) b.toNat with hlt | hge
  · exact st_of_more hlt (by omega)
  · -- the line begins at its break: nothing stands ahead of it
    have he : st l (a + 1).toNat = b.toNat := by rw [← e] at h8; omega
    have hz : ((l.take b.toNat).drop (a + 1).toNat).findIdx startsB = ((l.take b.toNat).drop (a + 1).toNat).length := by
      rw [List.drop_take]
      have hlen : (List.take (b.toNat - (a + 1).toNat) (l.drop (a + 1).toNat)).length = b.toNat - (a + 1).toNat := by rw [List.length_take, List.length_drop]; omega
      have h2 : (l.drop (a + 1).toNat).findIdx startsB = b.toNat - (a + 1).toNat := by unfold st at he; omega
      rw [← List.take_append_drop (b.toNat - (a + 1).toNat) (l.drop (a + 1).toNat), List.findIdx_append] at h2
      split at h2
      · rename_i hc; omega
      · rename_i hc
        have := List.findIdx_le_length (p := startsB) (xs := List.take (b.toNat - (a + 1).toNat) (l.drop (a + 1).toNat))
        omega
    unfold st at he ⊢
    rw [hz, List.length_drop, List.length_take]
    omega
theorem linV_some {l : List Itm} {a b t : Int} {x : Lin} (h : linV l a b t = some x) : ∃ s, isLine l a b = true ∧ setOf (gluesN l (a + 1).toNat b.toNat) t = some s ∧ x = linS l a b s := by
  unfold linV at h
  cases e : lineOf l a b t with
  | none => rw [e] at h; cases h
  | some s =>
    rw [e] at h
    obtain ⟨h1, h2⟩ := lineOf_some e
    exact ⟨s, h1, h2, (Option.some.inj h).symm⟩
/-- lines hang on the items up to their break alone -/
theorem linV_take (l : List Itm) {a b : Int} (t : Int) {n : Nat} (h0 : 0 ≤ b) (h : b < n) : linV (l.take n) a b t = linV l a b t := by
  unfold linV
  rw [lineOf_take l a t h0 h]
  cases e : lineOf l a b t with
  | none => rfl
  | some s =>
    simp only [Option.map_some, Option.some.injEq]
    obtain ⟨h1, _⟩ := lineOf_some e
    obtain ⟨g1, g2, _⟩ := isLine_st h1
    obtain ⟨i1, i2, i3, _⟩ := isLine_lt h1
    have hs : st (l.take n) (a + 1).toNat = st l (a + 1).toNat := st_of_more (by omega) (by omega)
    unfold linS lws lits
    rw [hs, gluesN_take l (by omega), flagN_take l (by omega), take_take_of (by omega)]
theorem goL_some (l : List Itm) (t : Int) : ∀ (bs : List Int) (a : Int) (k : Nat) (ls m : List Lin), goL l t a k ls bs = (m, 0, 0) → (∃ s, m = ls ++ s ∧ Chn l t a bs s) ∧ (bs.getLast?.getD a = (l.length : Int) - 1) ∧ 0 < k + bs.length
  | [], a, k, ls, m, h => by
    unfold goL at h
    split at h
    · simp at h
    · rename_i hc
      have e : ls = m := (Prod.mk.inj h).1
      exact ⟨⟨[], by rw [List.append_nil, e], trivial⟩, by simp; omega, by simp; omega⟩
  | b :: r, a, k, ls, m, h => by
    unfold goL at h
    cases e : linV l a b t with
    | none => rw [e] at h; simp at h
    | some x =>
      rw [e] at h
      obtain ⟨⟨s, h1, h2⟩, h3, h4⟩ := goL_some l t r b (k + 1) (ls ++ [x]) m h
      refine ⟨⟨x :: s, by rw [h1, List.append_assoc]; rfl, e, h2⟩, ?_, by rw [List.length_cons]; omega⟩
      rw [← h3]
      cases r with
      | nil => rfl
      | cons c q => simp [List.getLast?_cons]
theorem goL_code (l : List Itm) (t : Int) : ∀ (bs : List Int) (a : Int) (k : Nat) (ls : List Lin), (goL l t a k ls bs).2.1 = 0 → (goL l t a k ls bs).2.2 = 0
  | [], a, k, ls, h => by
    unfold goL at h ⊢
    split
    · rename_i hc; rw [if_pos hc] at h; simp at h
    · rfl
  | b :: r, a, k, ls, h => by
    unfold goL at h ⊢
    cases e : linV l a b t with
    | none => rw [e] at h; simp at h
    | some x =>
      rw [e] at h
      exact goL_code l t r b (k + 1) _ h
theorem goL_of (l : List Itm) (t : Int) : ∀ (bs : List Int) (s : List Lin) (a : Int) (k : Nat) (ls : List Lin), Chn l t a bs s → bs.getLast?.getD a = (l.length : Int) - 1 → 0 < k + bs.length → goL l t a k ls bs = (ls ++ s, 0, 0)
  | [], [], a, k, ls, _, h2, h3 => by
    unfold goL
    rw [if_neg (by simp at h2 h3; omega), List.append_nil]
  | b :: r, x :: s, a, k, ls, ⟨e, hc⟩, h2, h3 => by
    unfold goL
    rw [e]
    simp only []
    rw [goL_of l t r s b (k + 1) (ls ++ [x]) hc (by
      rw [← h2]
      cases r with
      | nil => rfl
      | cons c q => simp [List.getLast?_cons]) (by omega), List.append_assoc]
    rfl
theorem setR_some {l : List Itm} {bs : List Int} {t : Int} {m : List Lin} {at' : Int} (h : setR l bs t = (m, 0, at')) : may l = true ∧ at' = 0 ∧ Chn l t (-1) bs m ∧ bs.getLast? = some ((l.length : Int) - 1) ∧ 0 < bs.length := by
  unfold setR at h
  split at h
  · simp at h
  · rename_i hm
    have hat : at' = 0 := by
      have := goL_code l t bs (-1) 0 [] (by rw [h])
      rw [h] at this
      exact this
    subst hat
    obtain ⟨⟨s, h1, h2⟩, h3, h4⟩ := goL_some l t bs (-1) 0 [] m h
    rw [List.nil_append] at h1
    subst h1
    refine ⟨by simpa using hm, rfl, h2, ?_, by omega⟩
    cases e : bs.getLast? with
    | none => rw [List.getLast?_eq_none_iff] at e; rw [e] at h4; simp at h4
    | some y => rw [e] at h3; simp at h3; rw [h3]
theorem setR_of {l : List Itm} {bs : List Int} {t : Int} {m : List Lin} (hm : may l = true) (hc : Chn l t (-1) bs m) (hl : bs.getLast? = some ((l.length : Int) - 1)) : setR l bs t = (m, 0, 0) := by
  unfold setR
  rw [if_neg (by rw [hm]; decide), goL_of l t bs m (-1) 0 [] hc (by rw [hl]; rfl) (by cases bs with | nil => simp at hl | cons _ _ => simp)]
  rfl
theorem Chn.len {l : List Itm} {t : Int} : ∀ {bs : List Int} {s : List Lin} {a : Int}, Chn l t a bs s → s.length = bs.length
  | [], [], _, _ => rfl
  | b :: r, x :: s, _, ⟨_, h⟩ => by simp only [List.length_cons, Chn.len h]
/-- the last break ahead of the one at k -/
def prev (a : Int) (bs : List Int) (k : Nat) : Int := if k = 0 then a else bs.getD (k - 1) 0
theorem Chn.at {l : List Itm} {t : Int} : ∀ {bs : List Int} {s : List Lin} {a : Int}, Chn l t a bs s → ∀ {k : Nat} {x : Lin}, s[k]? = some x → ∃ b, bs[k]? = some b ∧ linV l (prev a bs k) b t = some x
  | [], [], _, _, k, x, h => by simp at h
  | b :: r, y :: s, a, ⟨h1, _⟩, 0, x, h => by
    simp at h
    subst h
    exact ⟨b, rfl, h1⟩
  | b :: r, y :: s, a, ⟨_, h2⟩, k + 1, x, h => by
    simp at h
    obtain ⟨c, h3, h4⟩ := Chn.at h2 h
    refine ⟨c, by simpa using h3, ?_⟩
    rw [← h4]
    congr 1
    unfold prev
    cases k with
    | zero => rfl
    | succ k => simp
theorem Chn.take {l : List Itm} {t : Int} : ∀ {bs : List Int} {s : List Lin} {a : Int}, Chn l t a bs s → ∀ (k n : Nat), (∀ b ∈ bs.take k, 0 ≤ b ∧ b < n) → Chn (l.take n) t a (bs.take k) (s.take k)
  | [], [], _, _, k, n, _ => by simp [Chn]
  | b :: r, y :: s, a, ⟨h1, h2⟩, 0, n, _ => trivial
  | b :: r, y :: s, a, ⟨h1, h2⟩, k + 1, n, h => by
    refine ⟨?_, Chn.take h2 k n (fun c hc => h c (List.mem_cons_of_mem _ hc))⟩
    obtain ⟨g1, g2⟩ := h b List.mem_cons_self
    rw [linV_take l t g1 g2]
    exact h1
theorem Chn.rises {l : List Itm} {t : Int} : ∀ {bs : List Int} {s : List Lin} {a : Int}, Chn l t a bs s → -1 ≤ a ∧ (∀ b ∈ bs, a < b ∧ 0 ≤ b ∧ b < l.length) ∧ bs.Pairwise (· < ·) ∨ bs = []
  | [], [], _, _ => .inr rfl
  | b :: r, y :: s, a, ⟨h1, h2⟩ => by
    obtain ⟨_, g1, _, _⟩ := linV_some h1
    obtain ⟨i1, i2, i3, i4, _⟩ := isLine_lt g1
    left
    rcases Chn.rises h2 with ⟨_, j2, j3⟩ | rfl
    · refine ⟨i1, fun c hc => ?_, List.pairwise_cons.2 ⟨fun c hc => (j2 c hc).1, j3⟩⟩
      rcases List.mem_cons.1 hc with rfl | hc
      · exact ⟨i2, i3, i4⟩
      · have := j2 c hc
        omega
    · refine ⟨i1, fun c hc => ?_, by simp⟩
      rcases List.mem_cons.1 hc with rfl | hc
      · exact ⟨i2, i3, i4⟩
      · cases hc
end Go.Proofs.Ythcilpijiindeaa.It
