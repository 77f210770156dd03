/-
  A line's cost hangs on sums alone: a short line with the same sums costs the same; where no line may be; no program is mentioned here.
-/
import Derived.Test.YtdimfmpolbijeaaBe11
set_option linter.unusedVariables false
set_option linter.unusedSimpArgs false
namespace Go.Proofs.Ytdimfmpolbijeaa.It

def itE : Itm := ⟨0, ⟨0, 0, 0, 0⟩, 0, false, 0, 0⟩
def boxW (W K : Int) : Itm := ⟨0, ⟨W, 0, K, 0⟩, 0, false, 0, 0⟩
def boxS (o s : Int) : Itm := ⟨0, ⟨0, s, 0, o⟩, 0, false, 0, 0⟩
/-- sums of glue -/
structure Sm where
  w : Int
  k : Int
  o0 : Int
  o1 : Int
  o2 : Int
  o3 : Int
def sumG (l : List Gl) : Sm := ⟨sumW l, sumK l, sumO 0 l, sumO 1 l, sumO 2 l, sumO 3 l⟩
def boxesOf (s : Sm) : List Itm := [boxW s.w s.k, boxS 0 s.o0, boxS 1 s.o1, boxS 2 s.o2, boxS 3 s.o3]
/-- the glues of a line from item i up to b -/
def glB (l : List Itm) (i b : Nat) : List Gl := (((l.take b).drop i).filter gluey).map (·.g)

theorem setOf_sums {g h : List Gl} (t : Int) (hg : glMay g = true) (hh : glMay h = true) (hw : sumW g = sumW h) (hk : sumK g = sumK h) (h0 : sumO 0 g = sumO 0 h) (h1 : sumO 1 g = sumO 1 h) (h2 : sumO 2 g = sumO 2 h) (h3 : sumO 3 g = sumO 3 h) : setOf g t = setOf h t := by
  unfold setOf setE
  rw [hg, hh, hw, hk, h0, h1, h2, h3]
theorem st_take (l : List Itm) {s n : Nat} (hs : s ≤ n) : st (l.take n) s = min n (st l s) := by
  unfold st
  rw [List.drop_take, List.findIdx_take]
  omega
theorem sumO_all : ∀ {l : List Gl}, l.all glOk = true → sumO 0 l + sumO 1 l + sumO 2 l + sumO 3 l = sumT l
  | [], _ => rfl
  | g :: r, h => by
    rw [List.all_cons, Bool.and_eq_true] at h
    have ih := sumO_all h.2
    obtain ⟨go, _⟩ := glOk_yes h.1
    simp only [sumO, sumT]
    obtain h | h | h | h : g.o = 0 ∨ g.o = 1 ∨ g.o = 2 ∨ g.o = 3 := by omega
    all_goals rw [h]; simp; omega
theorem sums_filter (p : Itm → Bool) : ∀ {m : List Itm}, (gls m).all glOk = true → ((m.filter p).map (·.g)).all glOk = true ∧ sumZ ((m.filter p).map (·.g)) ≤ sumZ (gls m) ∧ sumT ((m.filter p).map (·.g)) ≤ sumT (gls m) ∧ sumK ((m.filter p).map (·.g)) ≤ sumK (gls m) ∧ ((m.filter p).map (·.g)).length ≤ (gls m).length
  | [], _ => ⟨rfl, Int.le_refl _, Int.le_refl _, Int.le_refl _, Nat.le_refl _⟩
  | x :: r, h => by
    have hh : glOk x.g = true ∧ (gls r).all glOk = true := by
      unfold gls at h ⊢
      rw [List.map_cons, List.all_cons, Bool.and_eq_true] at h
      exact h
    obtain ⟨i1, i2, i3, i4, i5⟩ := sums_filter p hh.2
    obtain ⟨go, gw, gt, gk⟩ := glOk_yes hh.1
    have hz := size_nonneg x.g.w
    have e : gls (x :: r) = x.g :: gls r := rfl
    rw [e, List.filter_cons]
    split
    · simp only [List.map_cons, List.all_cons, sumZ, sumT, sumK, List.length_cons]
      rw [hh.1, i1]
      exact ⟨rfl, by omega, by omega, by omega, by omega⟩
    · simp only [sumZ, sumT, sumK, List.length_cons]
      exact ⟨i1, by omega, by omega, by omega, by omega⟩
theorem glB_next {l : List Itm} {i b : Nat} {x : Itm} (hx : l[b]? = some x) (hi : i ≤ b) : glB l i (b + 1) = glB l i b ++ if gluey x = true then [x.g] else [] := by
  unfold glB
  have hb : b < l.length := (List.getElem?_eq_some_iff.1 hx).1
  rw [take_snoc hx, List.drop_append_of_le_length (by rw [List.length_take]; omega), List.filter_append, List.map_append]
  cases e : gluey x with
  | true => simp [e]
  | false => simp [e]
theorem glB_start (l : List Itm) (i : Nat) : glB l i i = [] := by
  unfold glB
  rw [List.drop_take, Nat.sub_self, List.take_zero]
  rfl
/-- the glues of a line of items that may be, with what is wide at its end -/
theorem glB_may {l : List Itm} (h : may l = true) {i b : Nat} (hb : b ≤ l.length) : glMay (glB l i b) = true ∧ glMay (glB l i b ++ tailG l b) = true ∧ (tailG l b).all glOk = true := by
  obtain ⟨h1, h2, h3⟩ := may_yes h
  have hd : glMay (gls ((l.take b).drop i)) = true := by
    have := glMay_take h3 b
    rw [show (gls l).take b = gls (l.take b) by unfold gls; rw [List.map_take]] at this
    rw [← List.take_append_drop i (l.take b)] at this
    unfold gls at this
    rw [List.map_append] at this
    exact (glMay_left this).2
  obtain ⟨d1, d2, d3⟩ := glMay_yes hd
  obtain ⟨f1, f2, f3, f4, f5⟩ := sums_filter gluey d2
  have ds := sumsOk_yes d3
  have hA : glMay (glB l i b) = true := by
    show glMay ((((l.take b).drop i).filter gluey).map (·.g)) = true
    unfold glMay
    rw [f1, sumsOk_of f1 (by omega), decide_eq_true (by omega)]; rfl
  rcases Nat.lt_or_ge b l.length with hlt | hge
  · obtain ⟨x, hx⟩ : ∃ x, l[b]? = some x := ⟨_, List.getElem?_eq_getElem hlt⟩
    have hd2 : glMay (gls ((l.take b).drop i) ++ [x.g]) = true := by
      have := glMay_take h3 (b + 1)
      rw [show (gls l).take (b + 1) = gls (l.take (b + 1)) by unfold gls; rw [List.map_take], take_snoc hx] at this
      by_cases hib : i ≤ b
      · rw [← List.take_append_drop i (l.take b)] at this
        unfold gls at this ⊢
        rw [List.map_append, List.map_append, List.append_assoc] at this
        exact (glMay_left this).2
      · unfold gls at this ⊢
        rw [List.drop_eq_nil_of_le (by rw [List.length_take]; omega), List.map_nil, List.nil_append]
        rw [List.map_append] at this
        exact (glMay_left this).2
    obtain ⟨e1, e2, e3⟩ := glMay_yes hd2
    rw [List.all_append, List.all_cons, List.all_nil, Bool.and_true, Bool.and_eq_true] at e2
    have es := sumsOk_yes e3
    rw [sumZ_app, sumT_app, sumK_app] at es
    simp only [sumZ, sumT, sumK] at es
    obtain ⟨go, gw, gt, gk⟩ := glOk_yes e2.2
    have hT : (tailG l b).all glOk = true := by
      unfold tailG
      rw [hx]
      simp only []
      split
      · simp only [List.all_cons, List.all_nil, Bool.and_true]
        unfold glOk
        simp only [Sc.fits_of gw.1 gw.2, amt_of (Int.le_refl 0) (by omega)]
        rfl
      · rfl
    have hTs : sumZ (tailG l b) ≤ size x.g.w ∧ sumT (tailG l b) = 0 ∧ sumK (tailG l b) = 0 ∧ (tailG l b).length ≤ 1 := by
      have := size_nonneg x.g.w
      unfold tailG
      rw [hx]
      simp only []
      split
      · simp [sumZ, sumT, sumK]
      · simp [sumZ, sumT, sumK]
        omega
    refine ⟨hA, ?_, hT⟩
    rw [List.length_append] at e1
    have hall : (glB l i b ++ tailG l b).all glOk = true := by
      rw [List.all_append, hT, Bool.and_true]
      exact f1
    unfold glMay
    rw [hall, sumsOk_of hall, decide_eq_true]
    · rfl
    · rw [List.length_append]
      simp at e1
      have : (glB l i b).length ≤ (gls ((l.take b).drop i)).length := f5
      have h9 : (gls ((l.take b).drop i)).length = min b l.length - i := by unfold gls; simp
      omega
    · rw [sumZ_app, sumT_app, sumK_app]
      have g2 : sumZ (glB l i b) ≤ sumZ (gls ((l.take b).drop i)) := f2
      have g3 : sumT (glB l i b) ≤ sumT (gls ((l.take b).drop i)) := f3
      have g4 : sumK (glB l i b) ≤ sumK (gls ((l.take b).drop i)) := f4
      omega
  · have e : tailG l b = [] := by
      unfold tailG
      rw [List.getElem?_eq_none hge]
    rw [e, List.append_nil]
    exact ⟨hA, hA, rfl⟩
theorem boxesOf_glues (s : Sm) (p : List Itm) : ((boxesOf s ++ p).filter gluey).map (·.g) = [⟨s.w, 0, s.k, 0⟩, ⟨0, s.o0, 0, 0⟩, ⟨0, s.o1, 0, 1⟩, ⟨0, s.o2, 0, 2⟩, ⟨0, s.o3, 0, 3⟩] ++ (p.filter gluey).map (·.g) := by
  rw [List.filter_append, List.map_append]
  rfl
/-- a line that may be: its items begin at its start, none is forced; its short line -/
theorem short_set {l : List Itm} (h : may l = true) {i b : Nat} (hb : b ≤ l.length) (w : Int) : setOf ([⟨(sumG (glB l i b)).w, 0, (sumG (glB l i b)).k, 0⟩, ⟨0, (sumG (glB l i b)).o0, 0, 0⟩, ⟨0, (sumG (glB l i b)).o1, 0, 1⟩, ⟨0, (sumG (glB l i b)).o2, 0, 2⟩, ⟨0, (sumG (glB l i b)).o3, 0, 3⟩] ++ tailG l b) w = setOf (glB l i b ++ tailG l b) w := by
  obtain ⟨hA, hAT, hT⟩ := glB_may h (i := i) hb
  obtain ⟨a1, a2, a3⟩ := glMay_yes hA
  obtain ⟨b1, b2, b3⟩ := glMay_yes hAT
  have ha := sums_bound _ a2
  have hs := sumsOk_yes a3
  have hso := sumO_all a2
  have hbs := sumsOk_yes b3
  rw [sumZ_app, sumT_app, sumK_app] at hbs
  have hTl : (tailG l b).length ≤ 1 := by
    unfold tailG
    split
    · simp
    · split <;> simp
  unfold sumG
  simp only []
  generalize glB l i b = A at *
  generalize tailG l b = T at *
  obtain ⟨⟨z0, _⟩, ⟨t0, _⟩, ⟨k0, _⟩, ⟨w0, w1⟩, ho⟩ := ha
  have o0 := ho 0
  have o1 := ho 1
  have o2 := ho 2
  have o3 := ho 3
  generalize hW : sumW A = W at *
  generalize hK : sumK A = K at *
  generalize hO0 : sumO 0 A = O0 at *
  generalize hO1 : sumO 1 A = O1 at *
  generalize hO2 : sumO 2 A = O2 at *
  generalize hO3 : sumO 3 A = O3 at *
  have hall : ([⟨W, 0, K, 0⟩, ⟨0, O0, 0, 0⟩, ⟨0, O1, 0, 1⟩, ⟨0, O2, 0, 2⟩, ⟨0, O3, 0, 3⟩] ++ T : List Gl).all glOk = true := by
    rw [List.all_append, hT, Bool.and_true]
    simp only [List.all_cons, List.all_nil, Bool.and_true, glOk]
    rw [Sc.fits_of (n := W) (by omega) (by omega), Sc.fits_of (n := 0) (by omega) (by omega), amt_of (n := 0) (by omega) (by omega), amt_of (n := K) (by omega) (by omega), amt_of (n := O0) (by omega) (by omega), amt_of (n := O1) (by omega) (by omega), amt_of (n := O2) (by omega) (by omega), amt_of (n := O3) (by omega) (by omega)]
    simp
  have hmay : glMay ([⟨W, 0, K, 0⟩, ⟨0, O0, 0, 0⟩, ⟨0, O1, 0, 1⟩, ⟨0, O2, 0, 2⟩, ⟨0, O3, 0, 3⟩] ++ T : List Gl) = true := by
    unfold glMay
    rw [hall, sumsOk_of hall, decide_eq_true]
    · rfl
    · simp
      omega
    · rw [sumZ_app, sumT_app, sumK_app]
      simp only [sumZ, sumT, sumK]
      have : size W ≤ sumZ A := by unfold size; split <;> omega
      have : size 0 = 0 := rfl
      omega
  refine setOf_sums w hmay hAT ?_ ?_ ?_ ?_ ?_ ?_
  · rw [sumW_app, sumW_app]; simp [sumW]; omega
  · rw [sumK_app, sumK_app]; simp [sumK]; omega
  · rw [sumO_app, sumO_app]; simp [sumO]; omega
  · rw [sumO_app, sumO_app]; simp [sumO]; omega
  · rw [sumO_app, sumO_app]; simp [sumO]; omega
  · rw [sumO_app, sumO_app]; simp [sumO]; omega
end Go.Proofs.Ytdimfmpolbijeaa.It
