/-
  The plain mathematics of ways through a paragraph, and what tells them in memory (elder texts, merged).
-/
import Derived.Test.YthcilpijiindeaaBe11
import Derived.Test.YthcilpijiindeaaLineAll10
import Derived.Test.YthcilpijiindeaaMays9
import Derived.Test.YthcilpijiindeaaNums11
set_option linter.unusedVariables false
set_option linter.unusedSimpArgs false
namespace Go.Proofs.Ythcilpijiindeaa.It

def itE : Itm := ⟨0, ⟨0, 0, 0, 0⟩, 0, false, 0, 0⟩
def boxW (W K : Int) : Itm := ⟨0, ⟨W, 0, K, 0⟩, 0, false, 0, 0⟩
def boxS (o s : Int) : Itm := ⟨0, ⟨0, s, 0, o⟩, 0, false, 0, 0⟩
/-- sums of glue -/
structure Sm where
  w : Int
  k : Int
  o0 : Int
  o1 : Int
  o2 : Int
  o3 : Int
def sumG (l : List Gl) : Sm := ⟨sumW l, sumK l, sumO 0 l, sumO 1 l, sumO 2 l, sumO 3 l⟩
def boxesOf (s : Sm) : List Itm := [boxW s.w s.k, boxS 0 s.o0, boxS 1 s.o1, boxS 2 s.o2, boxS 3 s.o3]
/-- the glues of a line from item i up to b -/
def glB (l : List Itm) (i b : Nat) : List Gl := (((l.take b).drop i).filter gluey).map (·.g)

theorem setOf_sums {g h : List Gl} (t : Int) (hg : glMay g = true) (hh : glMay h = true) (hw : sumW g = sumW h) (hk : sumK g = sumK h) (h0 : sumO 0 g = sumO 0 h) (h1 : sumO 1 g = sumO 1 h) (h2 : sumO 2 g = sumO 2 h) (h3 : sumO 3 g = sumO 3 h) : setOf g t = setOf h t := by
  unfold setOf setE
  rw [hg, hh, hw, hk, h0, h1, h2, h3]
theorem st_take (l : List Itm) {s n : Nat} (hs : s ≤ n) : st (l.take n) s = min n (st l s) := by
  unfold st
  rw [List.drop_take, List.findIdx_take]
  omega
theorem sumO_all : ∀ {l : List Gl}, l.all glOk = true → sumO 0 l + sumO 1 l + sumO 2 l + sumO 3 l = sumT l
  | [], _ => rfl
  | g :: r, h => by
    rw [List.all_cons, Bool.and_eq_true] at h
    have ih := sumO_all h.2
    obtain ⟨go, _⟩ := glOk_yes h.1
    simp only [sumO, sumT]
    obtain h | h | h | h : g.o = 0 ∨ g.o = 1 ∨ g.o = 2 ∨ g.o = 3 := by omega
    all_goals rw [h]; simp; omega
theorem sums_filter (p : Itm → Bool) : ∀ {m : List Itm}, (gls m).all glOk = true → ((m.filter p).map (·.g)).all glOk = true ∧ sumZ ((m.filter p).map (·.g)) ≤ sumZ (gls m) ∧ sumT ((m.filter p).map (·.g)) ≤ sumT (gls m) ∧ sumK ((m.filter p).map (·.g)) ≤ sumK (gls m) ∧ ((m.filter p).map (·.g)).length ≤ (gls m).length
  | [], _ => ⟨rfl, Int.le_refl _, Int.le_refl _, Int.le_refl _, Nat.le_refl _⟩
  | x :: r, h => by
    have hh : glOk x.g = true ∧ (gls r).all glOk = true := by
      unfold gls at h ⊢
      rw [List.map_cons, List.all_cons, Bool.and_eq_true] at h
      exact h
    obtain ⟨i1, i2, i3, i4, i5⟩ := sums_filter p hh.2
    obtain ⟨go, gw, gt, gk⟩ := glOk_yes hh.1
    have hz := size_nonneg x.g.w
    have e : gls (x :: r) = x.g :: gls r := rfl
    rw [e, List.filter_cons]
    split
    · simp only [List.map_cons, List.all_cons, sumZ, sumT, sumK, List.length_cons]
      rw [hh.1, i1]
      exact ⟨rfl, by omega, by omega, by omega, by omega⟩
    · simp only [sumZ, sumT, sumK, List.length_cons]
      exact ⟨i1, by omega, by omega, by omega, by omega⟩
theorem glB_next {l : List Itm} {i b : Nat} {x : Itm} (hx : l[b]? = some x) (hi : i ≤ b) : glB l i (b + 1) = glB l i b ++ if gluey x = true then [x.g] else [] := by
  unfold glB
  have hb : b < l.length := (List.getElem?_eq_some_iff.1 hx).1
  rw [take_snoc hx, List.drop_append_of_le_length (by rw [List.length_take]; omega), List.filter_append, List.map_append]
  cases e : gluey x with
  | true => simp [e]
  | false => simp [e]
theorem glB_start (l : List Itm) (i : Nat) : glB l i i = [] := by
  unfold glB
  rw [List.drop_take, Nat.sub_self, List.take_zero]
  rfl
/-- the glues of a line of items that may be, with what is wide at its end -/
theorem glB_may {l : List Itm} (h : may l = true) {i b : Nat} (hb : b ≤ l.length) : glMay (glB l i b) = true ∧ glMay (glB l i b ++ tailG l b) = true ∧ (tailG l b).all glOk = true := by
  obtain ⟨h1, h2, h3⟩ := may_yes h
  have hd : glMay (gls ((l.take b).drop i)) = true := by
    have := glMay_take h3 b
    rw [show (gls l).take b = gls (l.take b) by unfold gls; rw [List.map_take]] at this
    rw [← List.take_append_drop i (l.take b)] at this
    unfold gls at this
    rw [List.map_append] at this
    exact (glMay_left this).2
  obtain ⟨d1, d2, d3⟩ := glMay_yes hd
  obtain ⟨f1, f2, f3, f4, f5⟩ := sums_filter gluey d2
  have ds := sumsOk_yes d3
  have hA : glMay (glB l i b) = true := by
    show glMay ((((l.take b).drop i).filter gluey).map (·.g)) = true
    unfold glMay
    rw [f1, sumsOk_of f1 (by omega), decide_eq_true (by omega)]; rfl
  rcases Nat.lt_or_ge b l.length with hlt | hge
  · obtain ⟨x, hx⟩ : ∃ x, l[b]? = some x := ⟨_, List.getElem?_eq_getElem hlt⟩
    have hd2 : glMay (gls ((l.take b).drop i) ++ [x.g]) = true := by
      have := glMay_take h3 (b + 1)
      rw [show (gls l).take (b + 1) = gls (l.take (b + 1)) by unfold gls; rw [List.map_take], take_snoc hx] at this
      by_cases hib : i ≤ b
      · rw [← List.take_append_drop i (l.take b)] at this
        unfold gls at this ⊢
        rw [List.map_append, List.map_append, List.append_assoc] at this
        exact (glMay_left this).2
      · unfold gls at this ⊢
        rw [List.drop_eq_nil_of_le (by rw [List.length_take]; omega), List.map_nil, List.nil_append]
        rw [List.map_append] at this
        exact (glMay_left this).2
    obtain ⟨e1, e2, e3⟩ := glMay_yes hd2
    rw [List.all_append, List.all_cons, List.all_nil, Bool.and_true, Bool.and_eq_true] at e2
    have es := sumsOk_yes e3
    rw [sumZ_app, sumT_app, sumK_app] at es
    simp only [sumZ, sumT, sumK] at es
    obtain ⟨go, gw, gt, gk⟩ := glOk_yes e2.2
    have hT : (tailG l b).all glOk = true := by
      unfold tailG
      rw [hx]
      simp only []
      split
      · simp only [List.all_cons, List.all_nil, Bool.and_true]
        unfold glOk
        simp only [Sc.fits_of gw.1 gw.2, amt_of (Int.le_refl 0) (by omega)]
        rfl
      · rfl
    have hTs : sumZ (tailG l b) ≤ size x.g.w ∧ sumT (tailG l b) = 0 ∧ sumK (tailG l b) = 0 ∧ (tailG l b).length ≤ 1 := by
      have := size_nonneg x.g.w
      unfold tailG
      rw [hx]
      simp only []
      split
      · simp [sumZ, sumT, sumK]
      · simp [sumZ, sumT, sumK]
        omega
    refine ⟨hA, ?_, hT⟩
    rw [List.length_append] at e1
    have hall : (glB l i b ++ tailG l b).all glOk = true := by
      rw [List.all_append, hT, Bool.and_true]
      exact f1
    unfold glMay
    rw [hall, sumsOk_of hall, decide_eq_true]
    · rfl
    · rw [List.length_append]
      simp at e1
      have : (glB l i b).length ≤ (gls ((l.take b).drop i)).length := f5
      have h9 : (gls ((l.take b).drop i)).length = min b l.length - i := by unfold gls; simp
      omega
    · rw [sumZ_app, sumT_app, sumK_app]
      have g2 : sumZ (glB l i b) ≤ sumZ (gls ((l.take b).drop i)) := f2
      have g3 : sumT (glB l i b) ≤ sumT (gls ((l.take b).drop i)) := f3
      have g4 : sumK (glB l i b) ≤ sumK (gls ((l.take b).drop i)) := f4
      omega
  · have e : tailG l b = [] := by
      unfold tailG
      rw [List.getElem?_eq_none hge]
    rw [e, List.append_nil]
    exact ⟨hA, hA, rfl⟩
theorem boxesOf_glues (s : Sm) (p : List Itm) : ((boxesOf s ++ p).filter gluey).map (·.g) = [⟨s.w, 0, s.k, 0⟩, ⟨0, s.o0, 0, 0⟩, ⟨0, s.o1, 0, 1⟩, ⟨0, s.o2, 0, 2⟩, ⟨0, s.o3, 0, 3⟩] ++ (p.filter gluey).map (·.g) := by
  rw [List.filter_append, List.map_append]
  rfl
/-- a line that may be: its items begin at its start, none is forced; its short line -/
theorem short_set {l : List Itm} (h : may l = true) {i b : Nat} (hb : b ≤ l.length) (w : Int) : setOf ([⟨(sumG (glB l i b)).w, 0, (sumG (glB l i b)).k, 0⟩, ⟨0, (sumG (glB l i b)).o0, 0, 0⟩, ⟨0, (sumG (glB l i b)).o1, 0, 1⟩, ⟨0, (sumG (glB l i b)).o2, 0, 2⟩, ⟨0, (sumG (glB l i b)).o3, 0, 3⟩] ++ tailG l b) w = setOf (glB l i b ++ tailG l b) w := by
  obtain ⟨hA, hAT, hT⟩ := glB_may h (i := i) hb
  obtain ⟨a1, a2, a3⟩ := glMay_yes hA
  obtain ⟨b1, b2, b3⟩ := glMay_yes hAT
  have ha := sums_bound _ a2
  have hs := sumsOk_yes a3
  have hso := sumO_all a2
  have hbs := sumsOk_yes b3
  rw [sumZ_app, sumT_app, sumK_app] at hbs
  have hTl : (tailG l b).length ≤ 1 := by
    unfold tailG
    split
    · simp
    · split <;> simp
  unfold sumG
  simp only []
  generalize glB l i b = A at *
  generalize tailG l b = T at *
  obtain ⟨⟨z0, _⟩, ⟨t0, _⟩, ⟨k0, _⟩, ⟨w0, w1⟩, ho⟩ := ha
  have o0 := ho 0
  have o1 := ho 1
  have o2 := ho 2
  have o3 := ho 3
  generalize hW : sumW A = W at *
  generalize hK : sumK A = K at *
  generalize hO0 : sumO 0 A = O0 at *
  generalize hO1 : sumO 1 A = O1 at *
  generalize hO2 : sumO 2 A = O2 at *
  generalize hO3 : sumO 3 A = O3 at *
  have hall : ([⟨W, 0, K, 0⟩, ⟨0, O0, 0, 0⟩, ⟨0, O1, 0, 1⟩, ⟨0, O2, 0, 2⟩, ⟨0, O3, 0, 3⟩] ++ T : List Gl).all glOk = true := by
    rw [List.all_append, hT, Bool.and_true]
    simp only [List.all_cons, List.all_nil, Bool.and_true, glOk]
    rw [Sc.fits_of (n := W) (by omega) (by omega), Sc.fits_of (n := 0) (by omega) (by omega), amt_of (n := 0) (by omega) (by omega), amt_of (n := K) (by omega) (by omega), amt_of (n := O0) (by omega) (by omega), amt_of (n := O1) (by omega) (by omega), amt_of (n := O2) (by omega) (by omega), amt_of (n := O3) (by omega) (by omega)]
    simp
  have hmay : glMay ([⟨W, 0, K, 0⟩, ⟨0, O0, 0, 0⟩, ⟨0, O1, 0, 1⟩, ⟨0, O2, 0, 2⟩, ⟨0, O3, 0, 3⟩] ++ T : List Gl) = true := by
    unfold glMay
    rw [hall, sumsOk_of hall, decide_eq_true]
    · rfl
    · simp
      omega
    · rw [sumZ_app, sumT_app, sumK_app]
      simp only [sumZ, sumT, sumK]
      have : size W ≤ sumZ A := by unfold size; split <;> omega
      have : size 0 = 0 := rfl
      omega
  refine setOf_sums w hmay hAT ?_ ?_ ?_ ?_ ?_ ?_
  · rw [sumW_app, sumW_app]; simp [sumW]; omega
  · rw [sumK_app, sumK_app]; simp [sumK]; omega
  · rw [sumO_app, sumO_app]; simp [sumO]; omega
  · rw [sumO_app, sumO_app]; simp [sumO]; omega
  · rw [sumO_app, sumO_app]; simp [sumO]; omega
  · rw [sumO_app, sumO_app]; simp [sumO]; omega
end Go.Proofs.Ythcilpijiindeaa.It
namespace Go.Proofs.Ythcilpijiindeaa.It

theorem gluesN_at (l : List Itm) {s b : Nat} (hs : s ≤ b) (hst : st l s ≤ b) : gluesN l s b = glB l (st l s) b ++ tailG l b := by
  unfold gluesN glB
  rw [st_take l hs, Nat.min_eq_right hst]
theorem lineN_at (l : List Itm) {s b : Nat} (hs : s ≤ b) (hst : st l s ≤ b) (hf : ((l.take b).drop s).any forced = false) : lineN l s b = true := by
  unfold lineN
  rw [st_take l (by omega), decide_eq_true (by omega), hf]; rfl
theorem legal_of {l : List Itm} {b : Nat} {x : Itm} (hx : l[b]? = some x) (h : legal l (b : Int) = true) : (x.k = 2 ∧ x.p < 10000) ∨ x.k = 1 := by
  unfold legal legalN at h
  rw [Bool.and_eq_true] at h
  have h := h.2
  rw [Int.toNat_natCast, hx] at h
  simp only [] at h
  split at h
  · exact .inl ⟨by assumption, of_decide_eq_true h⟩
  · simp only [Bool.and_eq_true, decide_eq_true_eq] at h
    exact .inr h.1.1
theorem tailG_of {l m : List Itm} {b c : Nat} (h : l[b]? = m[c]?) : tailG l b = tailG m c := by unfold tailG; rw [h]
theorem brkN_of {l m : List Itm} {b c : Nat} (h : l[b]? = m[c]?) : brkN l b = brkN m c := by unfold brkN; rw [h]
theorem flagN_of {l m : List Itm} {b c : Nat} (h : l[b]? = m[c]?) : flagN l b = flagN m c := by unfold flagN; rw [h]

/-- the first line, by its short one -/
theorem short_first {l : List Itm} (h : may l = true) {b : Nat} {x : Itm} (hx : l[b]? = some x) (hb : legal l (b : Int) = true) (hst : st l 0 ≤ b) (hf : ((l.take b).drop 0).any forced = false) (w tol : Int) :
    costOf (boxesOf (sumG (glB l (st l 0) b)) ++ [x]) (-1) 5 w tol = costOf l (-1) (b : Int) w tol := by
  have hbl : b < l.length := (List.getElem?_eq_some_iff.1 hx).1
  have hl := legal_of hx hb
  have e1 : lineOf l (-1) (b : Int) w = setOf (glB l (st l 0) b ++ tailG l b) w := by
    unfold lineOf
    rw [if_pos]
    · rw [show ((-1 : Int) + 1).toNat = 0 from rfl, Int.toNat_natCast, gluesN_at l (Nat.zero_le _) hst]
    · unfold isLine
      rw [hb, show ((-1 : Int) + 1).toNat = 0 from rfl, Int.toNat_natCast, lineN_at l (Nat.zero_le _) hst hf, decide_eq_true (show (-1 : Int) < (b : Int) by omega)]
      rfl
  have hs := short_set h (i := st l 0) (b := b) (by omega) w
  generalize sumG (glB l (st l 0) b) = σ at hs ⊢
  have e2 : lineOf (boxesOf σ ++ [x]) (-1) 5 w = setOf (glB l (st l 0) b ++ tailG l b) w := by
    unfold lineOf
    rw [if_pos]
    · rw [← hs]
      congr 1
      rw [show ((-1 : Int) + 1).toNat = 0 from rfl, show (5 : Int).toNat = 5 from rfl, gluesN_at (boxesOf σ ++ [x]) (s := 0) (b := 5) (by omega) (by simp [boxesOf, st, startsB, boxW, List.findIdx_cons])]
      congr 1
      exact tailG_of (by rw [hx]; rfl)
    · unfold isLine
      have k1 : legal (boxesOf σ ++ [x]) 5 = true := by
        unfold legal legalN
        rw [show (5 : Int).toNat = 5 from rfl, show (boxesOf σ ++ [x])[5]? = some x from rfl]
        simp only []
        rcases hl with ⟨h1, h2⟩ | h1
        · rw [if_pos h1, decide_eq_true h2]; rfl
        · rw [if_neg (by omega), h1]
          simp [boxesOf, boxS]
      rw [k1, show ((-1 : Int) + 1).toNat = 0 from rfl, show (5 : Int).toNat = 5 from rfl]
      rw [lineN_at _ (by omega) (by simp [boxesOf, st, startsB, boxW, List.findIdx_cons]) (by simp [boxesOf, boxW, boxS, forced])]
      rfl
  unfold costOf
  rw [e1, e2]
  cases setOf (glB l (st l 0) b ++ tailG l b) w with
  | none => rfl
  | some S =>
    simp only []
    have : dem (boxesOf σ ++ [x]) (-1) 5 S = dem l (-1) (b : Int) S := by
      unfold dem
      rw [if_neg (by simp), if_neg (by simp), show (5 : Int).toNat = 5 from rfl, Int.toNat_natCast, brkN_of (l := boxesOf σ ++ [x]) (m := l) (b := 5) (c := b) (by rw [hx]; rfl)]
    rw [this]
/-- a later line, by its short one -/
theorem short_mid {l : List Itm} (h : may l = true) {i b : Nat} {x y : Itm} (hy : l[i]? = some y) (ha : legal l (i : Int) = true) (hx : l[b]? = some x) (hb : legal l (b : Int) = true) (hib : i < b) (hst : st l (i + 1) ≤ b) (hf : ((l.take b).drop (i + 1)).any forced = false) (w tol : Int) :
    costOf ([itE, y] ++ (boxesOf (sumG (glB l (st l (i + 1)) b)) ++ [x])) 1 7 w tol = costOf l (i : Int) (b : Int) w tol := by
  have hbl : b < l.length := (List.getElem?_eq_some_iff.1 hx).1
  have hl := legal_of hx hb
  have hly := legal_of hy ha
  have e1 : lineOf l (i : Int) (b : Int) w = setOf (glB l (st l (i + 1)) b ++ tailG l b) w := by
    unfold lineOf
    rw [if_pos]
    · rw [show ((i : Int) + 1).toNat = i + 1 by omega, Int.toNat_natCast, gluesN_at l (by omega) hst]
    · unfold isLine
      rw [hb, ha, show ((i : Int) + 1).toNat = i + 1 by omega, Int.toNat_natCast, lineN_at l (by omega) hst hf, decide_eq_true (show (i : Int) < (b : Int) by omega)]
      simp
  have hs := short_set h (i := st l (i + 1)) (b := b) (by omega) w
  generalize sumG (glB l (st l (i + 1)) b) = σ at hs ⊢
  have e0 : st ([itE, y] ++ (boxesOf σ ++ [x])) 2 = 2 := by simp [boxesOf, st, startsB, boxW, List.findIdx_cons]
  have e2 : lineOf ([itE, y] ++ (boxesOf σ ++ [x])) 1 7 w = setOf (glB l (st l (i + 1)) b ++ tailG l b) w := by
    unfold lineOf
    rw [if_pos]
    · rw [← hs]
      congr 1
      rw [show ((1 : Int) + 1).toNat = 2 from rfl, show (7 : Int).toNat = 7 from rfl, gluesN_at ([itE, y] ++ (boxesOf σ ++ [x])) (s := 2) (b := 7) (by omega) (by rw [e0]; omega)]
      rw [e0]
      congr 1
      exact tailG_of (by rw [hx]; rfl)
    · unfold isLine
      have k1 : legal ([itE, y] ++ (boxesOf σ ++ [x])) 7 = true := by
        unfold legal legalN
        rw [show (7 : Int).toNat = 7 from rfl, show ([itE, y] ++ (boxesOf σ ++ [x]))[7]? = some x from rfl]
        simp only []
        rcases hl with ⟨h1, h2⟩ | h1
        · rw [if_pos h1, decide_eq_true h2]; rfl
        · rw [if_neg (by omega), h1]
          simp [boxesOf, boxS]
      have k2 : legal ([itE, y] ++ (boxesOf σ ++ [x])) 1 = true := by
        unfold legal legalN
        rw [show (1 : Int).toNat = 1 from rfl, show ([itE, y] ++ (boxesOf σ ++ [x]))[1]? = some y from rfl]
        simp only []
        rcases hly with ⟨h1, h2⟩ | h1
        · rw [if_pos h1, decide_eq_true h2]; rfl
        · rw [if_neg (by omega), h1]
          simp [itE]
      rw [k1, k2, show ((1 : Int) + 1).toNat = 2 from rfl, show (7 : Int).toNat = 7 from rfl]
      rw [lineN_at _ (by omega) (by rw [e0]; omega) (by simp [boxesOf, boxW, boxS, forced])]
      rfl
  unfold costOf
  rw [e1, e2]
  cases setOf (glB l (st l (i + 1)) b ++ tailG l b) w with
  | none => rfl
  | some S =>
    simp only []
    have : dem ([itE, y] ++ (boxesOf σ ++ [x])) 1 7 S = dem l (i : Int) (b : Int) S := by
      unfold dem
      rw [show (7 : Int).toNat = 7 from rfl, show (1 : Int).toNat = 1 from rfl, Int.toNat_natCast, Int.toNat_natCast, brkN_of (l := [itE, y] ++ (boxesOf σ ++ [x])) (m := l) (b := 7) (c := b) (by rw [hx]; rfl), flagN_of (l := [itE, y] ++ (boxesOf σ ++ [x])) (m := l) (b := 7) (c := b) (by rw [hx]; rfl), flagN_of (l := [itE, y] ++ (boxesOf σ ++ [x])) (m := l) (b := 1) (c := i) (by rw [hy]; rfl)]
      have : (i : Int) ≠ -1 := by omega
      simp [this]
    rw [this]

/-! ### where no line may be -/
theorem cost_notline {l : List Itm} {a b : Int} (h : isLine l a b = false) (w tol : Int) : costOf l a b w tol = none := by
  unfold costOf lineOf
  rw [h]; rfl
theorem cost_illegal {l : List Itm} {b : Int} (h : legal l b = false) (a w tol : Int) : costOf l a b w tol = none :=
  cost_notline (by unfold isLine; rw [h]; simp) w tol
theorem cost_illegalA {l : List Itm} {a : Int} (h : legal l a = false) (h1 : a ≠ -1) (b w tol : Int) : costOf l a b w tol = none :=
  cost_notline (by unfold isLine; rw [h, decide_eq_false h1]; rfl) w tol
theorem cost_early {l : List Itm} {a : Int} {s b : Nat} (hs : a + 1 = (s : Int)) (hb : b < st l s) (w tol : Int) : costOf l a (b : Int) w tol = none := by
  refine cost_notline ?_ w tol
  unfold isLine
  rw [hs, Int.toNat_natCast, Int.toNat_natCast]
  by_cases hsb : s ≤ b
  · have : lineN l s b = false := by
      unfold lineN
      rw [st_take l (by omega), decide_eq_false (by omega)]; rfl
    rw [this, Bool.and_false]
  · rw [decide_eq_false (show ¬ a < (b : Int) by omega), Bool.and_false, Bool.false_and]
theorem cost_forced {l : List Itm} {a : Int} {s b j : Nat} {x : Itm} (hs : a + 1 = (s : Int)) (hj : l[j]? = some x) (hf : forced x = true) (h1 : s ≤ j) (h2 : j < b) (w tol : Int) : costOf l a (b : Int) w tol = none := by
  refine cost_notline ?_ w tol
  unfold isLine
  rw [hs, Int.toNat_natCast, Int.toNat_natCast]
  have : lineN l s b = false := by
    have : ((l.take b).drop s).any forced = true := by
      rw [List.any_eq_true]
      refine ⟨x, ?_, hf⟩
      have : ((l.take b).drop s)[j - s]? = some x := by
        rw [List.getElem?_drop, List.getElem?_take_of_lt (by omega), show s + (j - s) = j by omega, hj]
      exact List.mem_of_getElem? this
    unfold lineN
    rw [this]; simp
  rw [this, Bool.and_false]
theorem right_gluey {x : Itm} (h : right x = true) (hg : gluey x = true) : x.g.sk ≤ x.g.w := by
  unfold gluey at hg
  rw [Bool.or_eq_true, decide_eq_true_eq, decide_eq_true_eq] at hg
  unfold right at h
  rcases hg with h0 | h1
  · rw [if_pos h0] at h
    simp only [boxG, plainG, Bool.and_eq_true, decide_eq_true_eq] at h
    have := (amt_yes h.1.1.1.1.1).1
    have := h.1.1.1.1.2.1.2
    omega
  · rw [if_neg (by omega)] at h
    split at h
    · cases h
    · first | rw [if_pos h1] at h | skip
      simp only [Bool.and_eq_true, decide_eq_true_eq] at h
      exact h.1.1.2
theorem glB_wide {l : List Itm} (h : may l = true) {i m : Nat} (hi : i ≤ m) : ∀ n : Nat, m + n ≤ l.length → sumW (glB l i m) - sumK (glB l i m) ≤ sumW (glB l i (m + n)) - sumK (glB l i (m + n))
  | 0, _ => Int.le_refl _
  | n + 1, hn => by
    have ih := glB_wide h hi n (by omega)
    obtain ⟨x, hx⟩ : ∃ x, l[m + n]? = some x := ⟨_, List.getElem?_eq_getElem (by omega)⟩
    have hr : right x = true := List.all_eq_true.1 (may_yes h).2.1 x (List.mem_of_getElem? hx)
    rw [← Nat.add_assoc, glB_next hx (by omega), sumW_app, sumK_app]
    split
    · have := right_gluey hr (by assumption)
      simp only [sumW, sumK]
      omega
    · simp only [sumW, sumK]
      omega
/-- a line that is too wide however much it is shrunk, and all that go on from there -/
theorem cost_wide {l : List Itm} (h : may l = true) {a : Int} {s m b : Nat} (hs : a + 1 = (s : Int)) (hsm : s ≤ m) (hst : st l s ≤ m) (hmb : m ≤ b) (w tol : Int) (hw : w < sumW (glB l (st l s) m) - sumK (glB l (st l s) m)) : costOf l a (b : Int) w tol = none := by
  rcases Nat.lt_or_ge b l.length with hbl | hbl
  · have hg := glB_wide h hst (b - m) (by omega)
    rw [show m + (b - m) = b by omega] at hg
    obtain ⟨_, h2, h3⟩ := glB_may h (i := st l s) (b := b) (by omega)
    unfold costOf
    cases e : lineOf l a (b : Int) w with
    | none => rfl
    | some S =>
      simp only []
      obtain ⟨e1, e2⟩ := lineOf_some e
      rw [hs, Int.toNat_natCast, Int.toNat_natCast, gluesN_at l (by omega) (by omega)] at e2
      obtain ⟨_, _, _, rfl⟩ := setOf_some e2
      have ht : 0 ≤ sumW (tailG l b) ∧ sumK (tailG l b) = 0 := by
        obtain ⟨x, hx⟩ : ∃ x, l[b]? = some x := ⟨_, List.getElem?_eq_getElem hbl⟩
        have hr : right x = true := List.all_eq_true.1 (may_yes h).2.1 x (List.mem_of_getElem? hx)
        unfold tailG
        rw [hx]
        simp only []
        split
        · rename_i h2
          simp only [sumW, sumK]
          unfold right at hr
          rw [if_neg (by omega)] at hr
          split at hr
          · cases hr
          · rw [if_neg (by omega)] at hr
            simp only [boxG, Bool.and_eq_true] at hr
            have := (amt_yes hr.1.2.1).1
            omega
        · simp [sumW, sumK]
      have hk := (sumK_nonneg h2).1
      rw [sumK_app] at hk
      have hS : (setE (glB l (st l s) b ++ tailG l b) (w - sumW (glB l (st l s) b ++ tailG l b))).bad = 1000000 := by
        rw [sumW_app]
        unfold setE shrE
        rw [if_neg (show ¬ 0 < w - (sumW (glB l (st l s) b) + sumW (tailG l b)) by omega), if_pos (show w - (sumW (glB l (st l s) b) + sumW (tailG l b)) < 0 by omega)]
        simp only []
        rw [sumK_app, if_neg (show ¬ -(w - (sumW (glB l (st l s) b) + sumW (tailG l b))) ≤ sumK (glB l (st l s) b) + sumK (tailG l b) by omega)]
      rw [if_pos]
      right
      rw [hS]
      omega
  · exact cost_illegal (by unfold legal legalN; rw [Int.toNat_natCast, List.getElem?_eq_none hbl]; simp) a w tol

theorem accW_none {g : Nat → Way} {k : Nat} : ∀ {m : Nat}, (∀ i, i < m → g (k + i) = none) → accW g k m = none
  | 0, _ => rfl
  | m + 1, h => by
    simp only [accW]
    rw [accW_none fun i hi => h i (by omega), h m (by omega)]
    rfl
theorem accW_rest {g : Nat → Way} {k m : Nat} : ∀ {n : Nat}, (∀ i, m ≤ i → i < m + n → g (k + i) = none) → accW g k (m + n) = accW g k m
  | 0, _ => rfl
  | n + 1, h => by
    show pick (accW g k (m + n)) (g (k + (m + n))) = _
    rw [accW_rest fun i h1 h2 => h i h1 (by omega), h (m + n) (by omega) (by omega)]
    rfl

/-! ### how great demerits are -/
theorem sq_range {x : Int} (h0 : -10010 ≤ x) (h1 : x ≤ 10010) : 0 ≤ x * x ∧ x * x ≤ 100200100 := by
  have a : 0 ≤ x * x := by
    rcases Int.le_total 0 x with h | h
    · exact Int.mul_nonneg h h
    · have := Int.mul_nonneg (show 0 ≤ -x by omega) (show 0 ≤ -x by omega)
      rw [Int.neg_mul_neg] at this
      exact this
  refine ⟨a, ?_⟩
  rcases Int.le_total 0 x with h | h
  · have := Int.mul_le_mul h1 h1 h (by omega)
    omega
  · have := Int.mul_le_mul (show -x ≤ 10010 by omega) (show -x ≤ 10010 by omega) (show 0 ≤ -x by omega) (by omega)
    rw [Int.neg_mul_neg] at this
    omega
theorem right_pen {x : Itm} (h : right x = true) (h2 : x.k = 2) : -10000 ≤ x.p ∧ x.p ≤ 10000 := by
  unfold right at h
  rw [if_neg (by omega)] at h
  split at h
  · cases h
  · rw [if_neg (by omega)] at h
    simp only [penOk, Bool.and_eq_true, decide_eq_true_eq] at h
    exact h.2
theorem brk_range {x : Itm} (h : right x = true) : -100000000 ≤ brk x ∧ brk x ≤ 100000000 := by
  unfold brk
  split
  · omega
  · rename_i hn
    have h2 : x.k = 2 := Decidable.byContradiction fun h => hn (.inl h)
    obtain ⟨p0, p1⟩ := right_pen h h2
    have hq : sqW x.p = x.p * x.p ∧ 0 ≤ x.p * x.p ∧ x.p * x.p ≤ 100000000 := by
      have a := (sq_range (x := x.p) (by omega) (by omega)).1
      have b : x.p * x.p ≤ 100000000 := by
        rcases Int.le_total 0 x.p with h | h
        · have := Int.mul_le_mul p1 p1 h (by omega)
          omega
        · have := Int.mul_le_mul (show -x.p ≤ 10000 by omega) (show -x.p ≤ 10000 by omega) (show 0 ≤ -x.p by omega) (by omega)
          rw [Int.neg_mul_neg] at this
          omega
      exact ⟨by unfold sqW; exact wr_in (by omega) (by omega), a, b⟩
    rw [hq.1]
    split
    · rw [wr_in (by omega) (by omega)]; omega
    · omega
theorem cost_range {l : List Itm} (h : may l = true) {a b w tol d c : Int} (hc : costOf l a b w tol = some (d, c)) : (-100000000 ≤ d ∧ d ≤ 200220000) ∧ 0 ≤ c ∧ c ≤ 3 := by
  obtain ⟨S, h1, h2, h3, rfl, rfl⟩ := costOf_some hc
  refine ⟨?_, cls_bound S⟩
  obtain ⟨k1, k2⟩ := lineOf_some h1
  obtain ⟨_, _, b0, bl, _⟩ := isLine_lt k1
  have hb := setOf_bound k2
  have hq : sqW (S.bad + 10) = (S.bad + 10) * (S.bad + 10) ∧ 0 ≤ (S.bad + 10) * (S.bad + 10) ∧ (S.bad + 10) * (S.bad + 10) ≤ 100200100 := by
    obtain ⟨a, b⟩ := sq_range (x := S.bad + 10) (by omega) (by omega)
    exact ⟨by unfold sqW; exact wr_in (by omega) (by omega), a, b⟩
  obtain ⟨x, hx⟩ : ∃ x, l[b.toNat]? = some x := ⟨_, List.getElem?_eq_getElem (by omega)⟩
  have hr : right x = true := List.all_eq_true.1 (may_yes h).2.1 x (List.mem_of_getElem? hx)
  have hk := brk_range hr
  have e : brkN l b.toNat = brk x := by unfold brkN; rw [hx]
  unfold dem
  rw [hq.1, e]
  split
  · rw [wr_in (x := _ + brk x) (by omega) (by omega), wr_in (by omega) (by omega)]; omega
  · rw [wr_in (by omega) (by omega)]; omega
theorem apartZ_range (c q : Int) : 0 ≤ apartZ c q ∧ apartZ c q ≤ 10000 := by unfold apartZ; split <;> omega
theorem way_range {l : List Itm} (h : may l = true) (w tol : Int) : ∀ (m k : Nat) (q : Int) (x : Int × Int × List Int), k + m = l.length → way l w tol k q = some x → -300000000 * (m : Int) ≤ x.1 ∧ x.1 ≤ 300000000 * (m : Int) := by
  intro m
  induction m using Nat.strongRecOn with
  | _ m ih =>
  intro k q x hk hx
  by_cases hkn : k = l.length
  · subst hkn
    rw [way_end] at hx
    have := Option.some.inj hx
    subst this
    omega
  · obtain ⟨b, d, y, h1, h2, h3, h4, h5, _⟩ := way_next (by omega) hx
    have hr := (cost_range h h3).1
    have ha := apartZ_range x.2.1 q
    have hi := ih (l.length - (b + 1)) (by omega) (b + 1) _ y (by omega) h4
    omega
theorem stepT_is {acc d : Int} {c q : Int} (h0 : -700000000000 ≤ acc ∧ acc ≤ 700000000000) (h1 : -100000000 ≤ d ∧ d ≤ 200220000) : stepT acc d (unlike c q) = acc + d + apartZ c q := by
  unfold stepT apartZ
  split
  · rw [wr_in (x := acc + d) (by omega) (by omega), wr_in (by omega) (by omega)]
  · rw [wr_in (by omega) (by omega)]; omega
theorem go_run {l : List Itm} (h : may l = true) (w tol : Int) : ∀ (bs : List Int) (a q acc : Int), -1 ≤ a → a < l.length → -300000000 * (a + 1) ≤ acc → acc ≤ 300000000 * (a + 1) →
    (goS l w tol a q acc bs = none → run l w tol a q bs = none) ∧ ∀ x, goS l w tol a q acc bs = some x → run l w tol a q bs = if x.1 = (l.length : Int) - 1 then some (x.2.2 - acc) else none
  | [], a, q, acc, _, _, _, _ => by
    refine ⟨fun e => (by simp [goS] at e), fun x e => ?_⟩
    simp only [goS, Option.some.injEq] at e
    subst e
    simp [run]
  | b :: r, a, q, acc, ha, hal, h0, h1 => by
    have hlen := (may_yes h).1
    simp only [goS, run]
    cases e : costOf l a b w tol with
    | none => exact ⟨fun _ => rfl, fun x e => by cases e⟩
    | some dc =>
      obtain ⟨d, c⟩ := dc
      simp only []
      obtain ⟨_, k1, k2, k3⟩ := costOf_lt e
      have hr := (cost_range h e).1
      have hz := apartZ_range c q
      rw [stepT_is (by omega) hr]
      obtain ⟨i1, i2⟩ := go_run h w tol r b c (acc + d + apartZ c q) (by omega) k3 (by omega) (by omega)
      refine ⟨fun hn => (by rw [i1 hn]; rfl), fun x hx => ?_⟩
      rw [i2 x hx]
      split
      · simp only [Option.map_some]
        congr 1
        omega
      · rfl
/-- what breaks cost together -/
theorem total_run {l : List Itm} (h : may l = true) (hn : 0 < l.length) (w tol : Int) (bs : List Int) : total l bs w tol = run l w tol (-1) 2 bs := by
  obtain ⟨h1, h2⟩ := go_run h w tol bs (-1) 2 0 (by omega) (by omega) (by omega) (by omega)
  unfold total totOk
  cases e : goS l w tol (-1) 2 0 bs with
  | none =>
    rw [h1 e]
    split <;> rfl
  | some x =>
    rw [h2 x e]
    have hl := (goS_last l w tol bs _ _ _ x e).1
    cases bs with
    | nil =>
      simp at hl
      rw [if_neg (by simp), if_neg (by omega)]
    | cons b r =>
      have hg : (b :: r).getLast? = some x.1 := by
        cases hgl : (b :: r).getLast? with
        | none => simp at hgl
        | some z => rw [hgl] at hl; simp at hl; rw [hl]
      rw [hg]
      by_cases hx : x.1 = (l.length : Int) - 1
      · rw [if_pos (by rw [hx]; simp), if_pos hx]
        simp
      · rw [if_neg (by simp [hx]), if_neg hx]
end Go.Proofs.Ythcilpijiindeaa.It
namespace Go.Proofs.Ythcilpijiindeaa
open Go.RowKit

theorem brk_no {x : It.Itm} (h : x.k ≠ 2) : It.brk x = 0 := by unfold It.brk; rw [if_pos (.inl h)]
theorem brk_forced {x : It.Itm} (h : It.forced x = true) : It.brk x = 0 := by
  unfold It.forced at h
  rw [Bool.and_eq_true, decide_eq_true_eq, decide_eq_true_eq] at h
  unfold It.brk; rw [if_pos (.inr h.2)]
theorem brk_pen {x : It.Itm} (h2 : x.k = 2) (h : It.forced x = false) : It.brk x = if x.p < 0 then It.wr (-(It.sqW x.p)) else It.sqW x.p := by
  unfold It.forced at h
  rw [decide_eq_true h2, Bool.true_and, decide_eq_false_iff_not] at h
  unfold It.brk
  rw [if_neg]
  rintro (h' | h')
  · exact h' h2
  · exact h h'
set_option maxHeartbeats 2000000 in
set_option maxRecDepth 100000 in
theorem refApart_any (p q : Int) (hp : 0 ≤ p ∧ p ≤ 3) (hq : 0 ≤ q ∧ q ≤ 3) (w : World) : Calls Try.prog 41 #[.int .i64 p, .int .i64 q] w (Is (.int .i64 (if It.unlike p q then 10000 else 0)) w) := by
  obtain ⟨p0, p1⟩ := hp
  obtain ⟨q0, q1⟩ := hq
  obtain ⟨r, hr⟩ : ∃ r : Int, r = (if It.unlike p q then 10000 else 0) := ⟨_, rfl⟩
  have HR := Lib.hid hr
  rw [← hr]
  clear hr
  by_cases h1 : q + 1 < p
  · have HE : Hid (r = 10000) := Lib.hid (by rw [HR.out]; unfold It.unlike; rw [decide_eq_true (.inl h1)]; rfl)
    go_enter Try.func41, Try.ntmps41
    go_wp2
    go_ret
    rw [HE.out]
    exact ⟨rfl, rfl⟩
  · by_cases h2 : p + 1 < q
    · have HE : Hid (r = 10000) := Lib.hid (by rw [HR.out]; unfold It.unlike; rw [decide_eq_true (.inr h2)]; rfl)
      go_enter Try.func41, Try.ntmps41
      go_wp2
      go_ret
      rw [HE.out]
      exact ⟨rfl, rfl⟩
    · have HE : Hid (r = 0) := Lib.hid (by rw [HR.out]; unfold It.unlike; rw [decide_eq_false (by omega)]; rfl)
      go_enter Try.func41, Try.ntmps41
      go_wp2
      go_ret
      rw [HE.out]
      exact ⟨rfl, rfl⟩
end Go.Proofs.Ythcilpijiindeaa
namespace Go.Proofs.Ythcilpijiindeaa
open Go.RowKit

def costV : Option (Int × Int) → Value
  | none => .tuple #[.int .i64 0, .int .i64 0, .bool false]
  | some (d, c) => .tuple #[.int .i64 d, .int .i64 c, .bool true]
theorem cost_no {l : List It.Itm} {a b t tol : Int} (h : It.lineOf l a b t = none) : It.costOf l a b t tol = none := by unfold It.costOf; rw [h]
theorem cost_bad {l : List It.Itm} {a b t tol : Int} {S : It.Stg} (h : It.lineOf l a b t = some S) (hb : tol < S.bad ∨ 10000 < S.bad) : It.costOf l a b t tol = none := by
  unfold It.costOf; rw [h]; simp only []; rw [if_pos hb]
theorem cost_ok {l : List It.Itm} {a b t tol : Int} {S : It.Stg} (h : It.lineOf l a b t = some S) (hb : ¬ (tol < S.bad ∨ 10000 < S.bad)) : It.costOf l a b t tol = some (It.dem l a b S, It.cls S) := by
  unfold It.costOf; rw [h]; simp only []; rw [if_neg hb]
theorem brkN_at {l : List It.Itm} {k : Nat} {x : It.Itm} (h : l[k]? = some x) : It.brkN l k = It.brk x := by unfold It.brkN; rw [h]
theorem flagN_at {l : List It.Itm} {k : Nat} {x : It.Itm} (h : l[k]? = some x) : It.flagN l k = x.f := by unfold It.flagN; rw [h]
theorem dem_start {l : List It.Itm} {b : Int} {k : Nat} {x : It.Itm} (S : It.Stg) (hk : b = (k : Int)) (h : l[k]? = some x) : It.dem l (-1) b S = It.wr (It.sqW (S.bad + 10) + It.brk x) := by
  unfold It.dem
  rw [if_neg (by simp), hk, Int.toNat_natCast, brkN_at h]
theorem dem_mid {l : List It.Itm} {a b : Int} {i k : Nat} {x y : It.Itm} (S : It.Stg) (ha : a = (i : Int)) (hk : b = (k : Int)) (hy : l[i]? = some y) (h : l[k]? = some x) : It.dem l a b S = if y.f && x.f then It.wr (It.wr (It.sqW (S.bad + 10) + It.brk x) + 10000) else It.wr (It.sqW (S.bad + 10) + It.brk x) := by
  unfold It.dem
  rw [hk, ha, Int.toNat_natCast, Int.toNat_natCast, brkN_at h, flagN_at h, flagN_at hy]
  have : ((i : Int) ≠ -1) := by omega
  cases y.f <;> cases x.f <;> simp [this]
theorem below_drew10 (w : World) : Below w.heap.size w w.drew := ⟨rfl, rfl, rfl, Nat.le_refl _, fun _ _ => rfl⟩

end Go.Proofs.Ythcilpijiindeaa
namespace Go.Proofs.Ythcilpijiindeaa
open Go.RowKit

namespace It
structure Pln where
  d : Int
  n : Int
  c : Int
  ok : Bool
def plOf : Way → Pln
  | none => ⟨0, 0, 0, false⟩
  | some x => ⟨x.1, x.2.2.headD 0, x.2.1, true⟩
def better (old x : Pln) : Bool := !old.ok || decide (x.d < old.d)
theorem plOf_pick (old : Way) (y : Int × Int × List Int) : plOf (pick old (some y)) = if better (plOf old) (plOf (some y)) then plOf (some y) else plOf old := by
  cases old with
  | none => rfl
  | some o =>
    simp only [pick, better, plOf]
    by_cases h : y.1 < o.1
    · simp [h]
    · simp [h]
end It

def plC (p : It.Pln) : List Value := [.int .i64 p.d, .int .i64 p.n, .int .i64 p.c, .bool p.ok]
def plV (p : It.Pln) : Value := .agg #[.int .i64 p.d, .int .i64 p.n, .int .i64 p.c, .bool p.ok]
def putPl (w : World) (b o : Nat) (p : It.Pln) : World := (((w.setCell ⟨b, o, none⟩ (.int .i64 p.d)).setCell ⟨b, o + 1, none⟩ (.int .i64 p.n)).setCell ⟨b, o + 2, none⟩ (.int .i64 p.c)).setCell ⟨b, o + 3, none⟩ (.bool p.ok)
/-! ### sums of a line's items -/
def smC (s : It.Sm) : Array Value := #[.int .i64 s.w, .int .i64 s.k, .int .i64 s.o0, .int .i64 s.o1, .int .i64 s.o2, .int .i64 s.o3]
namespace It
/-- one item more: penalties are wide at a line's end alone -/
def addS (s : Sm) (x : Itm) : Sm := if x.k = 2 then s else
  ⟨s.w + x.g.w, s.k + x.g.sk, if x.g.o = 0 then s.o0 + x.g.st else s.o0, if x.g.o = 1 then s.o1 + x.g.st else s.o1, if x.g.o = 2 then s.o2 + x.g.st else s.o2, if x.g.o = 3 then s.o3 + x.g.st else s.o3⟩
def smallS (s : Sm) : Prop := (-2000000000000 ≤ s.w ∧ s.w ≤ 2000000000000) ∧ (-2000000000000 ≤ s.k ∧ s.k ≤ 2000000000000) ∧ (-2000000000000 ≤ s.o0 ∧ s.o0 ≤ 2000000000000) ∧ (-2000000000000 ≤ s.o1 ∧ s.o1 ≤ 2000000000000) ∧ (-2000000000000 ≤ s.o2 ∧ s.o2 ≤ 2000000000000) ∧ (-2000000000000 ≤ s.o3 ∧ s.o3 ≤ 2000000000000)
end It
def SumPost (b : Nat) (s : It.Sm) (w : World) (e : Ending) (w' : World) : Prop := e = .returned (.tuple #[]) ∧ w'.heap[b]? = some (.cells (smC s) 87 (0, 0)) ∧ w.grownBy w' (some b)
theorem grown_alloc {w w' : World} {r : Option Nat} (h : w.grownBy w' r) (o : Obj) : w.grownBy (w'.alloc o) r := by
  have hb := below_alloc w' o
  exact ⟨hb.os.trans h.os, hb.tape.trans h.tape, hb.output.trans h.output, Nat.le_trans h.size hb.size, fun j hj hne => (hb.block j (Nat.lt_of_lt_of_le hj h.size)).trans (h.block j hj hne)⟩
theorem grown_set {w w' : World} {b i : Nat} (h : w.grownBy w' (some b)) (y : Value) : w.grownBy (w'.setCell ⟨b, i, none⟩ y) (some b) := by
  have hb : Below 0 w' (w'.setCell ⟨b, i, none⟩ y) := (Below.refl 0 w').setCell (p := ⟨b, i, none⟩) (Nat.zero_le _) y
  exact ⟨hb.os.trans h.os, hb.tape.trans h.tape, hb.output.trans h.output, Nat.le_trans h.size hb.size, fun j hj hne => (Below.heap_setCell w' ⟨b, i, none⟩ y j (fun e => hne (by rw [e]))).trans (h.block j hj hne)⟩
theorem grown_below {w w' : World} (h : Below w.heap.size w w') (r : Option Nat) : w.grownBy w' r := ⟨h.os, h.tape, h.output, h.size, fun j hj _ => h.block j hj⟩
theorem grown_drew {w w' : World} {r : Option Nat} (h : w.grownBy w' r) : w.grownBy w'.drew r := ⟨h.os, h.tape, h.output, h.size, h.block⟩

end Go.Proofs.Ythcilpijiindeaa
namespace Go.Proofs.Ythcilpijiindeaa
open Go.RowKit

/-- blocks that hold no items, but one, stand as they stood -/
def Kept (ip : Nat) (w w' : World) : Prop := ∀ (j : Nat) (cs : Array Value) (T : TypeId) (fr : Nat × Nat), j ≠ ip → T ≠ 40 → w.heap[j]? = some (.cells cs T fr) → w'.heap[j]? = some (.cells cs T fr)
theorem Kept.refl (ip : Nat) (w : World) : Kept ip w w := fun _ _ _ _ _ _ h => h
theorem Kept.trans {ip : Nat} {a b c : World} (h : Kept ip a b) (k : Kept ip b c) : Kept ip a c := fun j cs T fr h1 h2 h3 => k j cs T fr h1 h2 (h j cs T fr h1 h2 h3)
theorem Kept.below {ip : Nat} {a b : World} (h : Below a.heap.size a b) : Kept ip a b := fun j cs T fr _ _ h3 => obj_kept h h3
theorem Kept.grown {ip : Nat} {a b : World} {B : Nat} {u : Value} {l : List It.Itm} (hu : OwnR 40 itC 9 B u l a) (h : a.grownBy b u.ownBlock) : Kept ip a b := fun j cs T fr _ h2 h3 => obj_far h3 h (own_off9 hu h3 h2)
theorem Kept.set (ip i : Nat) (y : Value) (w : World) : Kept ip w (w.setCell ⟨ip, i, none⟩ y) := fun j cs T fr h1 _ h3 => obj_set h3 h1

theorem own_set11 {u : Value} {l : List It.Itm} {B ip i : Nat} {y : Value} {cs : Array Value} {T : TypeId} {fr : Nat × Nat} {w : World} (h : OwnR 40 itC 9 B u l w) (hi : w.heap[ip]? = some (.cells cs T fr)) (hT : T ≠ 40) : OwnR 40 itC 9 B u l (w.setCell ⟨ip, i, none⟩ y) := by
  have hne := own_off9 h hi hT
  refine World.ownsRow.kept h (row := some ip) ?_ (.inr fun e => hne e.symm)
  have hb : Below 0 w (w.setCell ⟨ip, i, none⟩ y) := (Below.refl 0 w).setCell (p := ⟨ip, i, none⟩) (Nat.zero_le _) y
  exact ⟨hb.os, hb.tape, hb.output, hb.size, fun j hj hne => Below.heap_setCell w ⟨ip, i, none⟩ y j (fun e => hne (by rw [e]))⟩
/-- of an owned slice, what is ahead of its first item -/
theorem own_head0 {u : Value} {l : List It.Itm} {B : Nat} {w : World} (h : OwnR 40 itC 9 B u l w) : ∃ v, (∀ wx, (Instr.slice 22 u none (some (.int .i64 0)) none).run Try.prog wx = .ok v wx) ∧ (∀ wx, (Instr.sliceAt 22 u none (some (.int .i64 0)) none).run Try.prog wx = .ok v wx) ∧ OwnR 40 itC 9 B v [] w := by
  have hx : ∀ (a : Option Addr) (n k cap : Nat) (h : k ≤ cap) (wx : World), (Instr.sliceAt 22 (.slice a n cap) none (some (.int .i64 (k : Int))) none).run Try.prog wx = .ok (.slice a k cap) wx := fun a n k cap h wx => by rw [run_sliceAt_slice (h := by rw [elemIt]; exact Try.underlying22)]; exact run_head9 a n k cap h wx
  rcases h.2 with ⟨rfl, hn⟩ | ⟨g, cap, cu, rfl, hB, hg, hnc, hcm, hsz, htk⟩
  · exact ⟨.slice none 0 0, fun wx => run_head9 none 0 0 0 (Nat.le_refl _) wx, fun wx => hx none 0 0 0 (Nat.le_refl _) wx, ownR_nil _ _ _ _ _⟩
  · refine ⟨.slice (some ⟨g, 0, none⟩) 0 cap, fun wx => run_head9 _ _ 0 cap (Nat.zero_le _) wx, fun wx => hx _ _ 0 cap (Nat.zero_le _) wx, ?_⟩
    exact ⟨rfl, .inr ⟨g, cap, cu, rfl, hB, hg, Nat.zero_le _, hcm, hsz, by simp⟩⟩

/-! ### the plans -/
def updF (F : Nat → Nat → It.Pln) (k q : Nat) (x : It.Pln) : Nat → Nat → It.Pln := fun i j => if i = k ∧ j = q then x else F i j
theorem putPl_grown (w : World) (b o : Nat) (x : It.Pln) : w.grownBy (putPl w b o x) (some b) := grown_set (grown_set (grown_set (grown_set (World.grownBy.refl w _) _) _) _) _
theorem putPl_heap (w : World) (b o : Nat) (x : It.Pln) (j : Nat) (hne : j ≠ b) : (putPl w b o x).heap[j]? = w.heap[j]? := by
  unfold putPl
  rw [Below.heap_setCell _ ⟨b, o + 3, none⟩ _ j hne, Below.heap_setCell _ ⟨b, o + 2, none⟩ _ j hne, Below.heap_setCell _ ⟨b, o + 1, none⟩ _ j hne, Below.heap_setCell _ ⟨b, o, none⟩ _ j hne]
end Go.Proofs.Ythcilpijiindeaa
namespace Go.Proofs.Ythcilpijiindeaa
open Go.RowKit

theorem costV_is (o : Option (Int × Int)) : ∃ d c q, costV o = .tuple #[.int .i64 d, .int .i64 c, .bool q] := by
  cases o with
  | none => exact ⟨0, 0, false, rfl⟩
  | some x => exact ⟨x.1, x.2, true, rfl⟩
theorem u4_11 : Try.prog.underlying 85 = some (.array 4 2) := by kernel_rfl
theorem i64_11 : (Try.prog.info? 2).map (fun i => (i.zero, i.size, i.bytes)) = some (some (.int .i64 0), 1, 8) := by kernel_rfl
theorem idx11_0 (a b c d : Int) (w : World) : (Instr.index 85 (.agg #[.int .i64 a, .int .i64 b, .int .i64 c, .int .i64 d]) (.int .i64 0)).run Try.prog w = .ok (.int .i64 a) w := by
  obtain ⟨i, h1, h2, h3, h4⟩ := info_parts i64_11
  simp [Instr.index, run_underlying u4_11, asIntOf, go_sem, sizeOf, typeInfo, h1, h2, h3, h4, Result.andThen]
theorem idx11_1 (a b c d : Int) (w : World) : (Instr.index 85 (.agg #[.int .i64 a, .int .i64 b, .int .i64 c, .int .i64 d]) (.int .i64 1)).run Try.prog w = .ok (.int .i64 b) w := by
  obtain ⟨i, h1, h2, h3, h4⟩ := info_parts i64_11
  simp [Instr.index, run_underlying u4_11, asIntOf, go_sem, sizeOf, typeInfo, h1, h2, h3, h4, Result.andThen]
theorem idx11_2 (a b c d : Int) (w : World) : (Instr.index 85 (.agg #[.int .i64 a, .int .i64 b, .int .i64 c, .int .i64 d]) (.int .i64 2)).run Try.prog w = .ok (.int .i64 c) w := by
  obtain ⟨i, h1, h2, h3, h4⟩ := info_parts i64_11
  simp [Instr.index, run_underlying u4_11, asIntOf, go_sem, sizeOf, typeInfo, h1, h2, h3, h4, Result.andThen]
theorem idx11_3 (a b c d : Int) (w : World) : (Instr.index 85 (.agg #[.int .i64 a, .int .i64 b, .int .i64 c, .int .i64 d]) (.int .i64 3)).run Try.prog w = .ok (.int .i64 d) w := by
  obtain ⟨i, h1, h2, h3, h4⟩ := info_parts i64_11
  simp [Instr.index, run_underlying u4_11, asIntOf, go_sem, sizeOf, typeInfo, h1, h2, h3, h4, Result.andThen]
def strB (s : It.Sm) : List It.Itm := [It.boxS 0 s.o0, It.boxS 1 s.o1, It.boxS 2 s.o2, It.boxS 3 s.o3]

end Go.Proofs.Ythcilpijiindeaa
namespace Go.Proofs.Ythcilpijiindeaa
open Go.RowKit


end Go.Proofs.Ythcilpijiindeaa
namespace Go.Proofs.Ythcilpijiindeaa
open Go.RowKit

/-- blocks that hold no items, but two, stand as they stood -/
def Kept2 (ip bp : Nat) (w w' : World) : Prop := ∀ (j : Nat) (cs : Array Value) (T : TypeId) (fr : Nat × Nat), j ≠ ip → j ≠ bp → T ≠ 40 → w.heap[j]? = some (.cells cs T fr) → w'.heap[j]? = some (.cells cs T fr)
theorem Kept2.trans {ip bp : Nat} {a b c : World} (h : Kept2 ip bp a b) (k : Kept2 ip bp b c) : Kept2 ip bp a c := fun j cs T fr h1 h2 h3 h4 => k j cs T fr h1 h2 h3 (h j cs T fr h1 h2 h3 h4)
theorem Kept2.below {ip bp : Nat} {a b : World} (h : Below a.heap.size a b) : Kept2 ip bp a b := fun j cs T fr _ _ _ h3 => obj_kept h h3
theorem Kept.two {ip bp : Nat} {a b : World} (h : Kept ip a b) : Kept2 ip bp a b := fun j cs T fr h1 _ h3 h4 => h j cs T fr h1 h3 h4
theorem Kept2.grown {ip bp : Nat} {a b : World} (h : a.grownBy b (some bp)) : Kept2 ip bp a b := fun j cs T fr _ h2 _ h4 => obj_far h4 h (fun e => h2 (Option.some.inj e))

/-- the first q plans of a row, bettered -/
def stepF (F : Nat → Nat → It.Pln) (s n : Nat) (x : Nat → It.Pln) : Nat → Nat → It.Pln := fun k q => if k = s ∧ q < n then (if It.better (F s q) (x q) then x q else F s q) else F k q
theorem stepF_zero (F : Nat → Nat → It.Pln) (s : Nat) (x : Nat → It.Pln) : stepF F s 0 x = F := by
  funext k q
  unfold stepF
  rw [if_neg (by omega)]
theorem stepF_next (F : Nat → Nat → It.Pln) (s n : Nat) (x : Nat → It.Pln) : stepF F s (n + 1) x = if It.better (stepF F s n x s n) (x n) then updF (stepF F s n x) s n (x n) else stepF F s n x := by
  have e : stepF F s n x s n = F s n := by unfold stepF; rw [if_neg (by omega)]
  rw [e]
  cases hb : It.better (F s n) (x n) with
  | true =>
    rw [if_pos rfl]
    funext k q
    unfold updF stepF
    by_cases h1 : k = s ∧ q = n
    · obtain ⟨rfl, rfl⟩ := h1
      rw [if_pos (by omega), if_pos hb, if_pos ⟨rfl, rfl⟩]
    · rw [if_neg h1]
      by_cases h2 : k = s ∧ q < n
      · rw [if_pos (by omega), if_pos h2]
      · rw [if_neg (by omega), if_neg h2]
  | false =>
    rw [if_neg (by simp)]
    funext k q
    unfold stepF
    by_cases h1 : k = s ∧ q = n
    · obtain ⟨rfl, rfl⟩ := h1
      rw [if_pos (by omega), if_neg (by rw [hb]; simp), if_neg (by omega)]
    · by_cases h2 : k = s ∧ q < n
      · rw [if_pos (by omega), if_pos h2]
      · rw [if_neg (by omega), if_neg h2]

/-- a line that may be asked for -/
structure LineOk (l : List It.Itm) (a : Int) (s b : Nat) : Prop where
  may : It.may l = true
  hs : a + 1 = (s : Int)
  ha : a = -1 ∨ It.legal l a = true
  hb : b < l.length
  lb : It.legal l (b : Int) = true
  sb : s ≤ b
  st : It.st l s ≤ b
  hf : ((l.take b).drop s).any It.forced = false

/-- the plans, a line more -/
def tryF (l : List It.Itm) (t tol : Int) (a : Int) (s b : Nat) (F : Nat → Nat → It.Pln) : Nat → Nat → It.Pln :=
  match It.costOf l a (b : Int) t tol with
  | none => F
  | some (d, c) => if (F (b + 1) c.toNat).ok then stepF F s 4 (fun q => ⟨d + (F (b + 1) c.toNat).d + It.apartZ c q, b, c, true⟩) else F

end Go.Proofs.Ythcilpijiindeaa
namespace Go.Proofs.Ythcilpijiindeaa
open Go.RowKit

/-- all ways behind the first s items, a row of ways behind s items, none ahead -/
def tabR (l : List It.Itm) (t tol : Int) (s : Nat) (row : Nat → It.Way) : Nat → Nat → It.Pln := fun k q => if s < k then It.plOf (It.way l t tol k q) else if k = s then It.plOf (row q) else ⟨0, 0, 0, false⟩
/-- the row of the first m candidates -/
def rowM (l : List It.Itm) (t tol : Int) (s m : Nat) : Nat → It.Way := fun q => It.accW (It.candW l t tol (It.way l t tol) s q) s m
theorem rowM_zero (l : List It.Itm) (t tol : Int) (s : Nat) : rowM l t tol s 0 = fun _ => none := rfl
theorem cand_none {l : List It.Itm} {t tol : Int} {f : Nat → Int → It.Way} {s b : Nat} {q : Int} (h : It.costOf l ((s : Int) - 1) (b : Int) t tol = none) : It.candW l t tol f s q b = none := by unfold It.candW; rw [h]
/-- one candidate more that is none -/
theorem rowM_none {l : List It.Itm} {t tol : Int} {s m : Nat} (h : It.costOf l ((s : Int) - 1) ((s + m : Nat) : Int) t tol = none) : rowM l t tol s (m + 1) = rowM l t tol s m := by
  funext q
  unfold rowM
  simp only [It.accW]
  rw [cand_none h]
  rfl
/-- all later candidates are none -/
theorem rowM_rest {l : List It.Itm} {t tol : Int} {s m : Nat} (hs : s < l.length) (hm : s + m ≤ l.length) (h : ∀ b, s + m ≤ b → It.costOf l ((s : Int) - 1) (b : Int) t tol = none) : rowM l t tol s m = fun q : Nat => It.way l t tol s q := by
  funext q
  rw [It.way_eq l t tol q (by omega)]
  have := It.accW_rest (g := It.candW l t tol (It.way l t tol) s q) (k := s) (m := m) (n := l.length - s - m) (fun i h1 h2 => cand_none (h (s + i) (by omega)))
  rw [show m + (l.length - s - m) = l.length - s by omega] at this
  exact this.symm
theorem rowM_start {l : List It.Itm} {t tol : Int} {s m : Nat} (h : ∀ b, s ≤ b → b < s + m → It.costOf l ((s : Int) - 1) (b : Int) t tol = none) : rowM l t tol s m = fun _ => none := by
  funext q
  exact It.accW_none fun i hi => cand_none (h (s + i) (by omega) (by omega))
/-- a line more, in the table -/
theorem tryF_tab {l : List It.Itm} {t tol : Int} {a : Int} {s m : Nat} (hs : a + 1 = (s : Int)) (hm : It.may l = true) : ∀ k q, k ≤ l.length → q < 4 → tryF l t tol a s (s + m) (tabR l t tol s (rowM l t tol s m)) k q = tabR l t tol s (rowM l t tol s (m + 1)) k q := by
  intro k q hk hq
  have ea : a = (s : Int) - 1 := by omega
  have er : rowM l t tol s (m + 1) q = It.pick (rowM l t tol s m q) (It.candW l t tol (It.way l t tol) s q (s + m)) := rfl
  unfold tryF
  rw [ea]
  cases hc : It.costOf l ((s : Int) - 1) ((s + m : Nat) : Int) t tol with
  | none =>
    simp only []
    rw [rowM_none hc]
  | some dc =>
    obtain ⟨d, c⟩ := dc
    simp only []
    obtain ⟨_, hc0, hc3⟩ := It.cost_range hm hc
    obtain ⟨cn, rfl⟩ : ∃ cn : Nat, c = (cn : Int) := ⟨c.toNat, by omega⟩
    rw [Int.toNat_natCast]
    have eF : tabR l t tol s (rowM l t tol s m) (s + m + 1) cn = It.plOf (It.way l t tol (s + m + 1) cn) := by unfold tabR; rw [if_pos (by omega)]
    rw [eF]
    cases hw : It.way l t tol (s + m + 1) (cn : Int) with
    | none =>
      have hn : ∀ q : Nat, It.candW l t tol (It.way l t tol) s q (s + m) = none := fun q => by
        unfold It.candW
        rw [hc]
        simp only []
        rw [hw]; rfl
      rw [if_neg (show ¬ (It.plOf none).ok = true by simp [It.plOf])]
      unfold tabR
      rw [er, hn]
      rfl
    | some y =>
      rw [if_pos (show (It.plOf (some y)).ok = true from rfl)]
      have hcand : It.candW l t tol (It.way l t tol) s q (s + m) = some (d + It.apartZ cn q + y.1, (cn : Int), ((s + m : Nat) : Int) :: y.2.2) := by
        unfold It.candW
        rw [hc]
        simp only []
        rw [hw]; rfl
      unfold stepF tabR
      by_cases hks : k = s
      · subst hks
        rw [if_pos ⟨rfl, hq⟩, if_neg (Nat.lt_irrefl _), if_pos rfl, if_neg (Nat.lt_irrefl _), if_pos rfl, er, hcand, It.plOf_pick]
        have : (⟨d + (It.plOf (some y)).d + It.apartZ cn q, ((k + m : Nat) : Int), (cn : Int), true⟩ : It.Pln) = It.plOf (some (d + It.apartZ cn q + y.1, (cn : Int), ((k + m : Nat) : Int) :: y.2.2)) := by
          simp only [It.plOf, List.headD_cons]
          rw [show d + y.1 + It.apartZ cn q = d + It.apartZ cn q + y.1 by omega]
        exact congrArg (fun z => if It.better (It.plOf (rowM l t tol k m q)) z = true then z else It.plOf (rowM l t tol k m q)) this
      · rw [if_neg (fun h => hks h.1)]
        by_cases hsk : s < k
        · rw [if_pos hsk, if_pos hsk]
        · rw [if_neg hsk, if_neg hks, if_neg hsk, if_neg hks]
theorem tab_range {l : List It.Itm} {t tol : Int} {s : Nat} {row : Nat → It.Way} (hm : It.may l = true) {b : Nat} (hb : b < l.length) (hs : s ≤ b) : ∀ q, q < 4 → -700000000000 ≤ (tabR l t tol s row (b + 1) q).d ∧ (tabR l t tol s row (b + 1) q).d ≤ 700000000000 := by
  intro q hq
  have hl := (It.may_yes hm).1
  unfold tabR
  rw [if_pos (by omega)]
  cases h : It.way l t tol (b + 1) (q : Int) with
  | none => simp only [It.plOf]; omega
  | some x =>
    have := It.way_range hm t tol (l.length - (b + 1)) (b + 1) q x (by omega) h
    simp only [It.plOf]
    omega

/-! ### sums of a line's items -/
theorem sumG_next {l : List It.Itm} (hm : It.may l = true) {i b : Nat} {x : It.Itm} (hx : l[b]? = some x) (hi : i ≤ b) : It.addS (It.sumG (It.glB l i b)) x = It.sumG (It.glB l i (b + 1)) := by
  have hr : It.right x = true := List.all_eq_true.1 (It.may_yes hm).2.1 x (List.mem_of_getElem? hx)
  have hk : x.k = 0 ∨ x.k = 1 ∨ x.k = 2 := by
    unfold It.right at hr
    by_cases h0 : x.k = 0
    · exact .inl h0
    · rw [if_neg h0] at hr
      split at hr
      · cases hr
      · by_cases h1 : x.k = 1
        · exact .inr (.inl h1)
        · rw [if_neg h1] at hr
          simp only [Bool.and_eq_true, decide_eq_true_eq] at hr
          exact .inr (.inr hr.1.1)
  rw [It.glB_next hx hi]
  unfold It.addS
  by_cases h2 : x.k = 2
  · have e : (if It.gluey x = true then [x.g] else []) = [] := if_neg (by unfold It.gluey; simp [h2])
    rw [if_pos h2, e, List.append_nil]
  · have e : (if It.gluey x = true then [x.g] else []) = [x.g] := if_pos (by unfold It.gluey; simp; omega)
    rw [if_neg h2, e]
    unfold It.sumG
    rw [It.sumW_app, It.sumK_app, It.sumO_app, It.sumO_app, It.sumO_app, It.sumO_app]
    simp only [It.sumW, It.sumK, It.sumO, Int.add_zero]
    congr 1
    · split <;> simp
    · split <;> simp
    · split <;> simp
    · split <;> simp
theorem glB_small {l : List It.Itm} (hm : It.may l = true) {i b : Nat} (hb : b ≤ l.length) : It.smallS (It.sumG (It.glB l i b)) ∧ (-1073741823 ≤ It.sumW (It.glB l i b) ∧ It.sumW (It.glB l i b) ≤ 1073741823) ∧ (0 ≤ It.sumK (It.glB l i b) ∧ It.sumK (It.glB l i b) ≤ 1073741823) := by
  obtain ⟨hA, _, _⟩ := It.glB_may hm (i := i) hb
  obtain ⟨a1, a2, a3⟩ := It.glMay_yes hA
  obtain ⟨⟨z0, _⟩, ⟨t0, _⟩, ⟨k0, _⟩, ⟨w0, w1⟩, ho⟩ := It.sums_bound _ a2
  have hs := It.sumsOk_yes a3
  have o0 := ho 0
  have o1 := ho 1
  have o2 := ho 2
  have o3 := ho 3
  refine ⟨?_, ⟨by omega, by omega⟩, k0, hs.2.2⟩
  unfold It.smallS It.sumG
  simp only []
  omega
theorem noforced_start (l : List It.Itm) (s : Nat) : ((l.take (It.st l s)).drop s).any It.forced = false := by
  rw [List.any_eq_false]
  intro x hx hf
  obtain ⟨j, hj⟩ := List.mem_iff_getElem?.1 hx
  rw [List.getElem?_drop] at hj
  have hlt : s + j < It.st l s := by
    have := (List.getElem?_eq_some_iff.1 hj).1
    rw [List.length_take] at this
    omega
  rw [List.getElem?_take_of_lt hlt] at hj
  have hfi : j < (l.drop s).findIdx It.startsB := by unfold It.st at hlt; omega
  have hjd : (l.drop s)[j]? = some x := by rw [List.getElem?_drop]; exact hj
  have hjl := (List.getElem?_eq_some_iff.1 hjd).1
  have := List.not_of_lt_findIdx hfi
  rw [(List.getElem?_eq_some_iff.1 hjd).2] at this
  unfold It.startsB at this
  rw [hf] at this
  simp at this
theorem noforced_next {l : List It.Itm} {s b : Nat} {x : It.Itm} (hx : l[b]? = some x) (hsb : s ≤ b) (h : ((l.take b).drop s).any It.forced = false) (hf : It.forced x = false) : ((l.take (b + 1)).drop s).any It.forced = false := by
  have hb : b < l.length := (List.getElem?_eq_some_iff.1 hx).1
  rw [It.take_snoc hx, List.drop_append_of_le_length (by rw [List.length_take]; omega), List.any_append, h]
  simp [hf]
end Go.Proofs.Ythcilpijiindeaa
namespace Go.Proofs.Ythcilpijiindeaa
open Go.RowKit

/-- what Total answers -/
def tolV : Option Int → Value
  | none => .tuple #[.int .i64 0, .bool false]
  | some t => .tuple #[.int .i64 t, .bool true]
theorem goS_next {l : List It.Itm} {t tol : Int} {bs : List Int} {j : Nat} {b a q acc : Int} (hb : bs[j]? = some b) (h : It.goS l t tol (-1) 2 0 (bs.take j) = some (a, q, acc)) : It.goS l t tol (-1) 2 0 (bs.take (j + 1)) = match It.costOf l a b t tol with
    | none => none
    | some (d, c) => some (b, c, It.stepT acc d (It.unlike c q)) := by
  rw [It.take_snoc hb, It.goS_app, h]
  simp only [Option.bind_some, It.goS]
  cases It.costOf l a b t tol with
  | none => rfl
  | some y => rfl
theorem goS_stop {l : List It.Itm} {t tol : Int} {bs : List Int} {j : Nat} (h : It.goS l t tol (-1) 2 0 (bs.take j) = none) : It.goS l t tol (-1) 2 0 bs = none := by
  rw [← List.take_append_drop j bs, It.goS_app, h]; rfl
theorem total_bad {l : List It.Itm} {t tol : Int} {bs : List Int} (h : It.totOk l bs = false) : It.total l bs t tol = none := by unfold It.total; rw [h]; rfl
theorem total_ok {l : List It.Itm} {t tol : Int} {bs : List Int} (h : It.totOk l bs = true) : It.total l bs t tol = (It.goS l t tol (-1) 2 0 bs).map (·.2.2) := by unfold It.total; rw [if_pos h]
theorem totOk_nil (l : List It.Itm) : It.totOk l [] = false := by simp [It.totOk]
theorem totOk_at {l : List It.Itm} {bs : List Int} {m : Nat} {x : Int} (hm : bs.length = m + 1) (hx : bs[m]? = some x) : It.totOk l bs = decide (x = (l.length : Int) - 1) := by
  unfold It.totOk
  rw [List.getLast?_eq_getElem?, hm, Nat.add_sub_cancel, hx]
  simp
theorem cost_cls {l : List It.Itm} {a b t tol d c : Int} (h : It.costOf l a b t tol = some (d, c)) : 0 ≤ c ∧ c ≤ 3 := (It.costOf_more h).2

end Go.Proofs.Ythcilpijiindeaa
namespace Go.Proofs.Ythcilpijiindeaa
open Go.RowKit

/-- a row that is built whole is the call's own -/
theorem own_new {α : Type} {f : α → List Value} {k : Nat} (hf : ∀ x, (f x).length = k) (w : World) (l : List α) (T : TypeId) (hl : l.length ≤ 100000) (cs : Array Value) (hcs : cs.toList = l.flatMap f) : OwnR T f k w.heap.size (.slice (some ⟨w.heap.size, 0, none⟩) l.length l.length) l (w.alloc (.cells cs T)) := by
  have hsz : cs.size = l.length * k := by rw [← Array.length_toList, hcs, flat_len hf]
  refine ⟨flat_len hf l, .inr ⟨w.heap.size, l.length, cs, rfl, Nat.le_refl _, heap_alloc_new w _, Nat.le_refl _, by unfold maxLen; omega, hsz, ?_⟩⟩
  rw [hcs, List.take_of_length_le (by rw [flat_len hf]; exact Nat.le_refl _)]
def boxF : It.Itm := ⟨0, ⟨10, 0, 0, 0⟩, 0, false, 0, 0⟩
def oneL : List It.Itm := [boxF] ++ It.endI
theorem oneL_len : oneL.length = 4 := rfl

theorem fx1 : It.costOf oneL (-1) 3 10 200 = some (100, 2) := by decide +kernel
theorem fx2 : It.costOf oneL (-1) 3 70000 200 = some (100, 2) := by decide +kernel
theorem fx3 : It.costOf oneL (-1) 3 9 10000 = none := by decide +kernel
theorem fx4 : It.total oneL [3] 10 0 = some 100 := by decide +kernel
theorem fx5 : It.legal oneL 3 = true := by decide +kernel
theorem fx6 : It.legal oneL 1 = false := by decide +kernel
theorem fx7 : It.st oneL 0 = 0 := by decide +kernel
theorem fx8 : (It.gluesN oneL 0 3).length = 3 := by decide +kernel

end Go.Proofs.Ythcilpijiindeaa
namespace Go.Proofs.Ythcilpijiindeaa
open Go.RowKit

/-- where the walk along the plans stands -/
structure OnWay (l : List It.Itm) (t tol : Int) (bs : List Int) (k q : Nat) (z : Int) (c b : Nat) (r acc : List Int) : Prop where
  hw : It.way l t tol k q = some (z, (c : Int), (b : Int) :: r)
  hk : k ≤ b
  hb : b < l.length
  hc : c < 4
  ha : acc ++ r = bs
  hl : acc.length ≤ b + 1
theorem OnWay.start {l : List It.Itm} (hm : It.may l = true) {t tol : Int} {x : Int × Int × List Int} (hl : 0 < l.length) (h : It.way l t tol 0 2 = some x) : ∃ z c b r, x = (z, ((c : Nat) : Int), ((b : Nat) : Int) :: r) ∧ OnWay l t tol x.2.2 0 2 z c b r [(b : Int)] := by
  obtain ⟨b, d, y, h1, h2, h3, h4, h5, h6⟩ := It.way_next hl h
  obtain ⟨_, c0, c3⟩ := It.cost_range hm h3
  obtain ⟨z, c, bs⟩ := x
  simp only [] at h6 c0 c3
  subst h6
  obtain ⟨cn, rfl⟩ : ∃ cn : Nat, c = (cn : Int) := ⟨c.toNat, by omega⟩
  exact ⟨z, cn, b, y.2.2, rfl, h, h1, h2, by omega, rfl, by simp⟩
theorem OnWay.next {l : List It.Itm} (hm : It.may l = true) {t tol : Int} {bs : List Int} {k q : Nat} {z : Int} {c b : Nat} {r acc : List Int} (h : OnWay l t tol bs k q z c b r acc) :
    (b = l.length - 1 → r = []) ∧ (b < l.length - 1 → ∃ z' c' b' r', It.plOf (It.way l t tol (b + 1) c) = ⟨z', ((b' : Nat) : Int), ((c' : Nat) : Int), true⟩ ∧ b < b' ∧ OnWay l t tol bs (b + 1) c z' c' b' r' (acc ++ [(b' : Int)])) := by
  obtain ⟨hw, hk, hb, hc, ha, hl⟩ := h
  obtain ⟨b2, d, y, h1, h2, h3, h4, h5, h6⟩ := It.way_next (by omega) hw
  simp only [] at h3 h4 h6
  injection h6 with h6 h7
  obtain rfl : b = b2 := by omega
  refine ⟨fun e => ?_, fun e => ?_⟩
  · subst e
    rw [show l.length - 1 + 1 = l.length by omega, It.way_end] at h4
    have := Option.some.inj h4
    rw [h7, ← this]
  · obtain ⟨b', d', y', g1, g2, g3, g4, g5, g6⟩ := It.way_next (by omega) h4
    obtain ⟨_, c0, c3⟩ := It.cost_range hm g3
    obtain ⟨z', c', bs'⟩ := y
    simp only [] at g6 c0 c3 h7
    subst g6
    obtain ⟨cn, rfl⟩ : ∃ cn : Nat, c' = (cn : Int) := ⟨c'.toNat, by omega⟩
    refine ⟨z', cn, b', y'.2.2, by rw [h4]; rfl, by omega, h4, by omega, g2, by omega, ?_, ?_⟩
    · rw [List.append_assoc, ← ha, h7]; rfl
    · rw [List.length_append]; simp; omega

theorem own_le11 {B B' : Nat} {v : Value} {l : List Int} {w : World} (h : OwnN B v l w) (hB : B' ≤ B) : OwnN B' v l w := by
  obtain ⟨h1, h2⟩ := h
  refine ⟨h1, ?_⟩
  rcases h2 with h2 | ⟨g, cp, cu, a1, a2, a3⟩
  · exact .inl h2
  · exact .inr ⟨g, cp, cu, a1, Nat.le_trans hB a2, a3⟩

end Go.Proofs.Ythcilpijiindeaa
namespace Go.Proofs.Ythcilpijiindeaa
open Go.RowKit

namespace It
theorem way_len {l : List Itm} {t tol : Int} {k : Nat} {q : Int} {x : Int × Int × List Int} (hk : k ≤ l.length) (h : way l t tol k q = some x) : x.2.2.length ≤ l.length - k := by
  have key : ∀ (m k : Nat) (q : Int) (x : Int × Int × List Int), k + m = l.length → way l t tol k q = some x → x.2.2.length ≤ m := by
    intro m
    induction m using Nat.strongRecOn with
    | _ m ih =>
    intro k q x hkm hx
    by_cases hkn : k = l.length
    · subst hkn
      rw [way_end] at hx
      have := Option.some.inj hx
      subst this
      simp
    · obtain ⟨b, d, y, h1, h2, h3, h4, h5, h6⟩ := way_next (by omega) hx
      have := ih (l.length - (b + 1)) (by omega) (b + 1) _ y (by omega) h4
      rw [h6, List.length_cons]
      omega
  exact key (l.length - k) k q x (by omega) h
end It
def zeroWy : Array Value := #[.bool false, .int .i64 0, .slice none 0 0, .bool false, .int .i64 0, .slice none 0 0, .bool false, .int .i64 0, .slice none 0 0, .bool false, .int .i64 0, .slice none 0 0]
theorem infoWy11 : (Try.prog.info? 81).map (fun i => (i.zero, i.size, i.bytes)) = some (some (.agg zeroWy), 12, 160) := by kernel_rfl

/-- ways, as they lie in their block -/
def WaysAt (B bw n : Nat) (R : Nat → Nat → It.Way) (w : World) : Prop := ∃ cs : Array Value, w.heap[bw]? = some (.cells cs 81 (0, 0)) ∧ cs.size = (n + 1) * 12 ∧ ∀ k q, k ≤ n → q < 4 → ∃ v, cs[k * 12 + q * 3]? = some (.bool (R k q).isSome) ∧ cs[k * 12 + q * 3 + 1]? = some (.int .i64 (bz (R k q))) ∧ cs[k * 12 + q * 3 + 2]? = some v ∧ OwnN B v (bl (R k q)) w
theorem WaysAt.below {B bw n : Nat} {R : Nat → Nat → It.Way} {w w' : World} (h : WaysAt B bw n R w) (hb : Below w.heap.size w w') : WaysAt B bw n R w' := by
  obtain ⟨cs, h1, h2, h3⟩ := h
  refine ⟨cs, obj_kept hb h1, h2, fun k q hk hq => ?_⟩
  obtain ⟨v, a, b, c, d⟩ := h3 k q hk hq
  exact ⟨v, a, b, c, d.mono hb⟩
theorem WaysAt.congr {B bw n : Nat} {R S : Nat → Nat → It.Way} {w : World} (h : WaysAt B bw n R w) (e : ∀ k q, k ≤ n → q < 4 → R k q = S k q) : WaysAt B bw n S w := by
  obtain ⟨cs, h1, h2, h3⟩ := h
  exact ⟨cs, h1, h2, fun k q hk hq => by rw [← e k q hk hq]; exact h3 k q hk hq⟩
/-- an owned list's form -/
theorem own_slice {B : Nat} {v : Value} {l : List Int} {w : World} (h : OwnN B v l w) : ∃ a n c, v = .slice a n c := by
  rcases h.2 with ⟨rfl, _⟩ | ⟨g, cp, cu, rfl, _⟩
  · exact ⟨_, _, _, rfl⟩
  · exact ⟨_, _, _, rfl⟩
theorem WaysAt.rec {B bw n : Nat} {R : Nat → Nat → It.Way} {w : World} (h : WaysAt B bw n R w) {k q : Nat} (hk : k ≤ n) (hq : q < 4) : ∃ a m c, w.cell? ⟨bw, k * 12 + q * 3, none⟩ = some (.bool (R k q).isSome) ∧ w.cell? ⟨bw, k * 12 + q * 3 + 1, none⟩ = some (.int .i64 (bz (R k q))) ∧ w.cell? ⟨bw, k * 12 + q * 3 + 2, none⟩ = some (.slice a m c) ∧ OwnN B (.slice a m c) (bl (R k q)) w := by
  obtain ⟨cs, h1, h2, h3⟩ := h
  obtain ⟨v, a1, a2, a3, a4⟩ := h3 k q hk hq
  obtain ⟨a, m, c, rfl⟩ := own_slice a4
  exact ⟨a, m, c, by rw [Lib.cell_of_heap h1]; exact a1, by rw [Lib.cell_of_heap h1]; exact a2, by rw [Lib.cell_of_heap h1]; exact a3, a4⟩
theorem WaysAt.fz {B bw n : Nat} {R : Nat → Nat → It.Way} {w : World} (h : WaysAt B bw n R w) (j : Nat) : w.frozen? ⟨bw, j, none⟩ = false := by
  obtain ⟨cs, h1, _⟩ := h
  exact Lib.frozen_of_heap h1 j
theorem WaysAt.off {B bw n : Nat} {R : Nat → Nat → It.Way} {w : World} (h : WaysAt B bw n R w) {X : Nat} {cs : Array Value} {T : TypeId} {fr : Nat × Nat} (hX : w.heap[X]? = some (.cells cs T fr)) (hT : T ≠ 81) : X ≠ bw := fun e => by
  obtain ⟨ps, h1, _⟩ := h
  subst e
  rw [hX] at h1
  injection h1 with h1
  injection h1 with _ h1
  exact hT h1
theorem WaysAt.offN {B bw n : Nat} {R : Nat → Nat → It.Way} {w : World} (h : WaysAt B bw n R w) {u : Value} {l : List Int} {B' : Nat} (hu : OwnN B' u l w) : some bw ≠ u.ownBlock := by
  obtain ⟨ps, h1, _⟩ := h
  exact own_off9 hu h1 (by decide)
theorem apart_is (c q : Int) : (if It.unlike c q then (10000 : Int) else 0) = It.apartZ c q := rfl
def updW (R : Nat → Nat → It.Way) (k q : Nat) (r : It.Way) : Nat → Nat → It.Way := fun i j => if i = k ∧ j = q then r else R i j
theorem own_setN {u : Value} {l : List Int} {B b i : Nat} {y : Value} {cs : Array Value} {T : TypeId} {fr : Nat × Nat} {w : World} (h : OwnN B u l w) (hi : w.heap[b]? = some (.cells cs T fr)) (hT : T ≠ 3) : OwnN B u l (w.setCell ⟨b, i, none⟩ y) := by
  have hne := own_off9 h hi hT
  refine World.ownsRow.kept h (row := some b) ?_ (.inr fun e => hne e.symm)
  exact grown_set (World.grownBy.refl w _) y
theorem WaysAt.put {B bw n : Nat} {R : Nat → Nat → It.Way} {w : World} (h : WaysAt B bw n R w) {k q : Nat} (hk : k ≤ n) (hq : q < 4) (x : Int × Int × List Int) {v : Value} (hv : OwnN B v x.2.2 w) :
    WaysAt B bw n (updW R k q (some x)) (((w.setCell ⟨bw, k * 12 + q * 3, none⟩ (.bool true)).setCell ⟨bw, k * 12 + q * 3 + 1, none⟩ (.int .i64 x.1)).setCell ⟨bw, k * 12 + q * 3 + 2, none⟩ v) := by
  obtain ⟨cs, h1, h2, h3⟩ := h
  have g1 := heap_setCell_same w bw (k * 12 + q * 3) cs _ (.bool true) h1
  have g2 := heap_setCell_same _ bw (k * 12 + q * 3 + 1) _ _ (.int .i64 x.1) g1
  have g3 := heap_setCell_same _ bw (k * 12 + q * 3 + 2) _ _ v g2
  have hkeep : ∀ {u : Value} {m : List Int}, OwnN B u m w → OwnN B u m (((w.setCell ⟨bw, k * 12 + q * 3, none⟩ (.bool true)).setCell ⟨bw, k * 12 + q * 3 + 1, none⟩ (.int .i64 x.1)).setCell ⟨bw, k * 12 + q * 3 + 2, none⟩ v) := fun hu =>
    own_setN (own_setN (own_setN hu h1 (by decide)) g1 (by decide)) g2 (by decide)
  have hin : k * 12 + q * 3 + 2 < cs.size := by rw [h2]; omega
  refine ⟨_, g3, by simp [h2], fun i j hi hj => ?_⟩
  unfold updW
  by_cases he : i = k ∧ j = q
  · obtain ⟨rfl, rfl⟩ := he
    rw [if_pos ⟨rfl, rfl⟩]
    refine ⟨v, ?_, ?_, ?_, hkeep hv⟩
    · simp [Array.getElem?_setIfInBounds]; omega
    · simp [Array.getElem?_setIfInBounds, bz]; omega
    · simp [Array.getElem?_setIfInBounds]; omega
  · rw [if_neg he]
    obtain ⟨u, a1, a2, a3, a4⟩ := h3 i j hi hj
    refine ⟨u, ?_, ?_, ?_, hkeep a4⟩
    · rw [Array.getElem?_setIfInBounds, if_neg (by omega), Array.getElem?_setIfInBounds, if_neg (by omega), Array.getElem?_setIfInBounds, if_neg (by omega)]; exact a1
    · rw [Array.getElem?_setIfInBounds, if_neg (by omega), Array.getElem?_setIfInBounds, if_neg (by omega), Array.getElem?_setIfInBounds, if_neg (by omega)]; exact a2
    · rw [Array.getElem?_setIfInBounds, if_neg (by omega), Array.getElem?_setIfInBounds, if_neg (by omega), Array.getElem?_setIfInBounds, if_neg (by omega)]; exact a3
theorem WaysAt.made {w w' : World} {base n : Nat} (h : w'.ownsRow base 81 12 (.slice (some ⟨w.heap.size, 0, none⟩) (n + 1) (n + 1)) (n + 1) (madeCells zeroWy ((n + 1) * 12)).toList) : WaysAt base w.heap.size n (fun _ _ => none) w' := by
  rcases h.2 with ⟨hv, _⟩ | ⟨g, cap, cu, hv, _, hg, hnc, _, hsz, htk⟩
  · cases hv
  · injection hv with h1 h2 h3
    injection h1 with h1
    injection h1 with h1
    subst h1
    subst h3
    have hcu : cu = madeCells zeroWy ((n + 1) * 12) := by
      rw [List.take_of_length_le (by rw [Array.length_toList, hsz]; exact Nat.le_refl _)] at htk
      exact Array.toList_inj.1 htk
    refine ⟨cu, hg, hsz, fun k q hk hq => ?_⟩
    have key : ∀ j, j < 3 → cu[k * 12 + q * 3 + j]? = some (zeroWy[q * 3 + j]!) := fun j hj => by
      have hi : k * 12 + q * 3 + j < (n + 1) * 12 := by omega
      rw [hcu]
      unfold madeCells
      rw [Array.getElem?_map, Array.getElem?_range, if_pos hi]
      simp only [Option.map_some]
      have hm : (k * 12 + q * 3 + j) % zeroWy.size = q * 3 + j := by
        show (k * 12 + q * 3 + j) % 12 = q * 3 + j
        omega
      rw [hm]
    refine ⟨.slice none 0 0, (key 0 (by omega)).trans ?_, (key 1 (by omega)).trans ?_, (key 2 (by omega)).trans ?_, ownR_nil _ _ _ _ _⟩
    all_goals (obtain rfl | rfl | rfl | rfl : q = 0 ∨ q = 1 ∨ q = 2 ∨ q = 3 := by omega)
    all_goals rfl

/-! ### the rows -/
def refR (l : List It.Itm) (t tol : Int) (s : Nat) (row : Nat → It.Way) : Nat → Nat → It.Way := fun k q => if k = l.length then none else if s < k then It.way l t tol k q else if k = s then row q else none
def refM (l : List It.Itm) (t tol : Int) (m : Nat) : Nat → Nat → It.Way := fun k q => if k = l.length then none else if m ≤ k then It.way l t tol k q else none
theorem refM_row (l : List It.Itm) (t tol : Int) (s : Nat) : refM l t tol (s + 1) = refR l t tol s (fun _ => none) := by
  funext k q
  unfold refM refR
  by_cases h : k = l.length
  · rw [if_pos h, if_pos h]
  · rw [if_neg h, if_neg h]
    by_cases h2 : s < k
    · rw [if_pos (by omega), if_pos h2]
    · rw [if_neg (by omega), if_neg h2]
      split <;> rfl
theorem refM_done (l : List It.Itm) (t tol : Int) (s : Nat) : refR l t tol s (fun q : Nat => It.way l t tol s q) = refM l t tol s := by
  funext k q
  unfold refM refR
  by_cases h : k = l.length
  · rw [if_pos h, if_pos h]
  · simp only [if_neg h]
    by_cases h2 : s < k
    · simp only [if_pos h2, if_pos (show s ≤ k by omega)]
    · simp only [if_neg h2]
      by_cases h3 : k = s
      · subst h3
        rw [if_pos rfl, if_pos (Nat.le_refl _)]
      · simp only [if_neg h3, if_neg (show ¬ s ≤ k by omega)]
theorem refM_last (l : List It.Itm) (t tol : Int) (row : Nat → It.Way) : refR l t tol l.length row = refM l t tol l.length := by
  funext k q
  unfold refM refR
  by_cases h : k = l.length
  · rw [if_pos h, if_pos h]
  · simp only [if_neg h]
    by_cases h2 : l.length < k
    · simp only [if_pos h2, if_pos (show l.length ≤ k by omega)]
    · simp only [if_neg h2, if_neg (show ¬ l.length ≤ k by omega)]
theorem refM_skip {l : List It.Itm} {t tol : Int} {s : Nat} (h : It.legal l ((s : Int) - 1) = false) (h0 : (s : Int) - 1 ≠ -1) : refM l t tol (s + 1) = refM l t tol s := by
  by_cases hs : s = l.length
  · subst hs
    rw [refM_row, refM_last]
  · rw [refM_row, ← refM_done]
    congr 1
    funext q
    rw [It.way_eq l t tol q hs]
    exact (It.accW_none fun i hi => cand_none (It.cost_illegalA h h0 _ t tol)).symm
theorem refM_start (l : List It.Itm) (t tol : Int) : ∀ k q, k ≤ l.length → q < 4 → (none : It.Way) = refM l t tol (l.length + 1) k q := by
  intro k q hk _
  unfold refM
  by_cases h : k = l.length
  · rw [if_pos h]
  · rw [if_neg h, if_neg (by omega)]
/-- the first q ways of a row, bettered -/
def stepW (R : Nat → Nat → It.Way) (s n : Nat) (X : Nat → It.Way) : Nat → Nat → It.Way := fun k q => if k = s ∧ q < n then It.pick (R s q) (X q) else R k q
theorem stepW_zero (R : Nat → Nat → It.Way) (s : Nat) (X : Nat → It.Way) : stepW R s 0 X = R := by
  funext k q
  unfold stepW
  rw [if_neg (by omega)]
theorem stepW_at (R : Nat → Nat → It.Way) (s n : Nat) (X : Nat → It.Way) : stepW R s n X s n = R s n := by unfold stepW; rw [if_neg (by omega)]
theorem stepW_next (R : Nat → Nat → It.Way) (s n : Nat) (X : Nat → It.Way) : stepW R s (n + 1) X = updW (stepW R s n X) s n (It.pick (R s n) (X n)) := by
  funext k q
  unfold updW stepW
  by_cases h1 : k = s ∧ q = n
  · obtain ⟨rfl, rfl⟩ := h1
    rw [if_pos (by omega), if_pos ⟨rfl, rfl⟩]
  · rw [if_neg h1]
    by_cases h2 : k = s ∧ q < n
    · rw [if_pos (by omega), if_pos h2]
    · rw [if_neg (by omega), if_neg h2]
theorem updW_same (R : Nat → Nat → It.Way) (k q : Nat) : updW R k q (R k q) = R := by
  funext i j
  unfold updW
  split
  · rename_i h; rw [h.1, h.2]
  · rfl
/-- a line more, in the rows -/
theorem stepW_row {l : List It.Itm} {t tol : Int} {s m : Nat} (hs : s < l.length) : ∀ k q, k ≤ l.length → q < 4 → stepW (refR l t tol s (rowM l t tol s m)) s 4 (fun q : Nat => It.candW l t tol (It.way l t tol) s q (s + m)) k q = refR l t tol s (rowM l t tol s (m + 1)) k q := by
  intro k q hk hq
  unfold stepW
  by_cases h : k = s
  · subst h
    rw [if_pos ⟨rfl, hq⟩]
    unfold refR
    rw [if_neg (by omega), if_neg (Nat.lt_irrefl _), if_pos rfl, if_neg (by omega), if_neg (Nat.lt_irrefl _), if_pos rfl]
    rfl
  · rw [if_neg (fun e => h e.1)]
    unfold refR
    by_cases h1 : k = l.length
    · rw [if_pos h1, if_pos h1]
    · rw [if_neg h1, if_neg h1]
      by_cases h2 : s < k
      · rw [if_pos h2, if_pos h2]
      · rw [if_neg h2, if_neg h2, if_neg h, if_neg h]
end Go.Proofs.Ythcilpijiindeaa
