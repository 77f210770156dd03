/-
  The plain mathematics of package setter: each box stands once, none lies on another one, lines are as wide as they must be; no program is mentioned here.
-/
import Derived.Test.YthcilpijiindeaaSe12
import Derived.Test.YthcilpijiindeaaWidths12
set_option linter.unusedVariables false
set_option linter.unusedSimpArgs false
namespace Go.Proofs.Ythcilpijiindeaa.It

/-- what a box is, as an item and as it stands -/
def keyI (i : Itm) : Int × Int × Int := (i.n, i.q, i.g.w)
def keyP (p : Plc) : Int × Int × Int := (p.n, p.q, p.w)
theorem lay_keys (ws : List Int) : ∀ (l : List Itm) (s : Nat × List Plc × Int), (l.foldl (stp ws) s).2.1.map keyP = s.2.1.map keyP ++ (boxes l).map keyI
  | [], s => by simp [boxes]
  | i :: r, s => by
    rw [List.foldl_cons, lay_keys ws r (stp ws s i)]
    have hs : (stp ws s i).2.1 = if i.k = 0 then s.2.1 ++ [⟨i.n, i.q, s.2.2, i.g.w⟩] else s.2.1 := by
      unfold stp
      by_cases hg : gluey i = true
      · rw [if_pos hg]
      · rw [if_neg hg]
        have h0 : ¬ i.k = 0 := by
          intro h0
          apply hg
          unfold gluey
          rw [decide_eq_true h0]; rfl
        rw [if_neg h0]
    have hb : boxes (i :: r) = if i.k = 0 then i :: boxes r else boxes r := by
      unfold boxes
      rw [List.filter_cons]
      by_cases h0 : i.k = 0
      · rw [if_pos h0, if_pos (by simp [h0])]
      · rw [if_neg h0, if_neg (by simp [h0])]
    rw [hs, hb]
    by_cases h0 : i.k = 0
    · rw [if_pos h0, if_pos h0]
      simp [keyI, keyP]
    · rw [if_neg h0, if_neg h0]
theorem linS_keys (l : List Itm) (a b : Int) (s : Stg) : (linS l a b s).bs.map keyP = (boxes (lits l a b)).map keyI := by
  unfold linS lay
  simp only []
  rw [lay_keys]
  rfl
theorem boxes_none {l : List Itm} (h : ∀ x ∈ l, x.k ≠ 0) : boxes l = [] := by
  unfold boxes
  rw [List.filter_eq_nil_iff]
  intro x hx
  simp [h x hx]
theorem findIdx_below {P : Itm → Bool} : ∀ {l : List Itm} {n : Nat}, n ≤ l.findIdx P → ∀ x ∈ l.take n, P x = false
  | [], n, _, x, hx => by simp at hx
  | y :: r, 0, _, x, hx => by simp at hx
  | y :: r, n + 1, h, x, hx => by
    rw [List.findIdx_cons] at h
    cases hy : P y with
    | true => rw [hy] at h; simp at h
    | false =>
      rw [hy] at h
      simp at h
      rw [List.take_succ_cons, List.mem_cons] at hx
      rcases hx with rfl | hx
      · exact hy
      · exact findIdx_below h x hx
theorem legal_box {l : List Itm} {b : Int} (h : legal l b = true) : ∃ x, l[b.toNat]? = some x ∧ x.k ≠ 0 ∧ (x.k = 2 ∨ x.k = 1) := by
  unfold legal legalN at h
  rw [Bool.and_eq_true] at h
  obtain ⟨_, h⟩ := h
  cases e : l[b.toNat]? with
  | none => rw [e] at h; cases h
  | some x =>
    refine ⟨x, rfl, ?_⟩
    rw [e] at h
    simp only [] at h
    by_cases h2 : x.k = 2
    · exact ⟨by omega, .inl h2⟩
    · rw [if_neg h2] at h
      simp only [Bool.and_eq_true, decide_eq_true_eq] at h
      exact ⟨by omega, .inr h.1.1⟩
theorem drop_mid {α : Type} (l : List α) {s e : Nat} (h : s ≤ e) : l.drop s = (l.drop s).take (e - s) ++ l.drop e := by
  conv => lhs; rw [← List.take_append_drop (e - s) (l.drop s)]
  rw [List.drop_drop, show s + (e - s) = e by omega]
/-- boxes behind a break are those of its line and those behind the next break -/
theorem boxes_line {l : List Itm} {a b : Int} (h : isLine l a b = true) : boxes (l.drop (a + 1).toNat) = boxes (lits l a b) ++ boxes (l.drop (b.toNat + 1)) := by
  obtain ⟨i1, i2, i3, i4, i5, _⟩ := isLine_lt h
  obtain ⟨g1, g2, _⟩ := isLine_st h
  obtain ⟨x, hx, hk, _⟩ := legal_box i5
  have e1 : l.drop (a + 1).toNat = (l.drop (a + 1).toNat).take (st l (a + 1).toNat - (a + 1).toNat) ++ l.drop (st l (a + 1).toNat) := drop_mid l g1
  have e2 : l.drop (st l (a + 1).toNat) = lits l a b ++ x :: l.drop (b.toNat + 1) := by
    unfold lits
    generalize st l (a + 1).toNat = z at g2
    conv => lhs; rw [← List.take_append_drop b.toNat l]
    rw [List.drop_append_of_le_length (by rw [List.length_take]; omega), drop_at hx]
  have h0 : boxes ((l.drop (a + 1).toNat).take (st l (a + 1).toNat - (a + 1).toNat)) = [] := by
    apply boxes_none
    intro y hy
    have := findIdx_below (P := startsB) (by unfold st; omega) y hy
    unfold startsB at this
    intro e0
    rw [decide_eq_true e0] at this
    cases this
  have hx' : boxes (x :: l.drop (b.toNat + 1)) = boxes (l.drop (b.toNat + 1)) := by
    unfold boxes
    rw [List.filter_cons, if_neg (by simp [hk])]
  rw [e1, boxes_app, h0, List.nil_append, e2, boxes_app, hx']
theorem Chn.keys {l : List Itm} {t : Int} : ∀ {bs : List Int} {s : List Lin} {a : Int}, Chn l t a bs s → -1 ≤ a → (s.flatMap (·.bs)).map keyP ++ (boxes (l.drop ((bs.getLast?.getD a) + 1).toNat)).map keyI = (boxes (l.drop (a + 1).toNat)).map keyI
  | [], [], a, _, _ => by simp
  | b :: r, y :: s, a, ⟨h1, h2⟩, ha => by
    obtain ⟨q, g1, _, rfl⟩ := linV_some h1
    obtain ⟨i1, i2, i3, i4, _⟩ := isLine_lt g1
    have ih := Chn.keys h2 (by omega)
    have hl : (b :: r).getLast?.getD a = r.getLast?.getD b := by
      cases r with
      | nil => rfl
      | cons c q => simp [List.getLast?_cons]
    rw [hl, List.flatMap_cons, List.map_append, List.append_assoc, ih, linS_keys, boxes_line g1, List.map_append, show (b + 1).toNat = b.toNat + 1 by omega]
/-- all boxes stand, once, in order -/
theorem keys_all {l : List Itm} {bs : List Int} {t : Int} {m : List Lin} {z : Int} (h : setR l bs t = (m, 0, z)) : (m.flatMap (·.bs)).map keyP = (boxes l).map keyI := by
  obtain ⟨_, _, hc, hl, _⟩ := setR_some h
  have := hc.keys (Int.le_refl _)
  rw [hl] at this
  simpa [boxes] using this

/-! ### boxes do not lie on one another -/
/-- from e on -/
def apart : Int → List Plc → Int → Prop
  | e, [], x => e ≤ x
  | e, p :: r, x => e ≤ p.x ∧ apart (p.x + p.w) r x
theorem apart_more : ∀ {bs : List Plc} {e x y : Int}, apart e bs x → x ≤ y → apart e bs y
  | [], e, x, y, h, hy => by simp only [apart] at h ⊢; omega
  | p :: r, e, x, y, h, hy => ⟨h.1, apart_more h.2 hy⟩
theorem apart_snoc : ∀ {bs : List Plc} {e x : Int} (n q w : Int), apart e bs x → apart e (bs ++ [⟨n, q, x, w⟩]) (x + w)
  | [], e, x, n, q, w, h => ⟨h, Int.le_refl _⟩
  | p :: r, e, x, n, q, w, h => ⟨h.1, apart_snoc n q w h.2⟩
/-- each box begins where the ones ahead of it end, or behind -/
def endAt (bs : List Plc) (k : Nat) : Int := match (bs.take k).getLast? with
  | none => 0
  | some p => p.x + p.w
theorem apart_at : ∀ {bs : List Plc} {e x : Int}, apart e bs x → ∀ {k : Nat} {p : Plc}, bs[k]? = some p → (match (bs.take k).getLast? with | none => e | some y => y.x + y.w) ≤ p.x
  | y :: r, e, x, h, 0, p, hp => by
    simp at hp
    subst hp
    simpa using h.1
  | y :: r, e, x, h, k + 1, p, hp => by
    simp at hp
    have := apart_at h.2 hp
    rw [List.take_succ_cons, List.getLast?_cons]
    simp only []
    cases e' : (r.take k).getLast? with
    | none => rw [e'] at this; simpa using this
    | some z => rw [e'] at this; simpa using this
theorem apart_end : ∀ {bs : List Plc} {e x : Int}, apart e bs x → (match bs.getLast? with | none => e | some y => y.x + y.w) ≤ x
  | [], e, x, h => h
  | y :: r, e, x, h => by
    have := apart_end h.2
    rw [List.getLast?_cons]
    simp only []
    cases e' : r.getLast? with
    | none => rw [e'] at this; simpa using this
    | some z => rw [e'] at this; simpa using this
theorem right_box {i : Itm} (h : right i = true) (h0 : i.k = 0) : 0 ≤ i.g.w ∧ i.g.w ≤ 1073741823 ∧ i.g.st = 0 ∧ i.g.sk = 0 ∧ i.g.o = 0 := by
  unfold right at h
  rw [if_pos h0] at h
  simp only [Bool.and_eq_true] at h
  obtain ⟨⟨⟨⟨h1, _⟩, _⟩, _⟩, _⟩ := h
  unfold boxG plainG at h1
  simp only [Bool.and_eq_true, decide_eq_true_eq] at h1
  obtain ⟨ha, ⟨hb, hc⟩, hd⟩ := h1
  have := amt_yes ha
  exact ⟨this.1, this.2, hb, hc, hd⟩
theorem right_pen12 {i : Itm} (h : right i = true) (h0 : i.k = 2) : 0 ≤ i.g.w ∧ i.g.w ≤ 1073741823 ∧ i.g.st = 0 ∧ i.g.sk = 0 ∧ i.g.o = 0 := by
  unfold right at h
  rw [if_neg (by omega)] at h
  split at h
  · cases h
  · rw [if_neg (by omega)] at h
    simp only [Bool.and_eq_true] at h
    obtain ⟨⟨_, h1⟩, _⟩ := h
    unfold boxG plainG at h1
    simp only [Bool.and_eq_true, decide_eq_true_eq] at h1
    obtain ⟨ha, ⟨hb, hc⟩, hd⟩ := h1
    have := amt_yes ha
    exact ⟨this.1, this.2, hb, hc, hd⟩
theorem right_glue {i : Itm} (h : right i = true) (h0 : i.k = 1) : i.g.sk ≤ i.g.w := by
  unfold right at h
  rw [if_neg (by omega)] at h
  split at h
  · cases h
  · simp only [Bool.and_eq_true, decide_eq_true_eq] at h
    exact h.1.1.2
theorem wgt_plain {s : Stg} {g : Gl} (h1 : g.st = 0) (h2 : g.sk = 0) : wgt s g = 0 := by
  unfold wgt
  rw [h1, h2]
  split
  · rfl
  · split <;> rfl
/-- the line as it is set, item by item -/
theorem lay_ok (s : Stg) (T A : Int) (ws : List Int) (tl : List Gl) : ∀ (l : List Itm) (m : Nat) (bs : List Plc) (x c : Int), l.all right = true → ws.drop m = widF s T A c ((l.filter gluey).map (·.g) ++ tl) → (∀ y ∈ ws, 0 ≤ y) → 0 ≤ x → x + sumI (ws.drop m) ≤ 9223372036854775807 → apart 0 bs x →
    apart 0 (l.foldl (stp ws) (m, bs, x)).2.1 (l.foldl (stp ws) (m, bs, x)).2.2 ∧ ∃ c', (l.foldl (stp ws) (m, bs, x)).2.2 + sumI (widF s T A c' tl) = x + sumI (ws.drop m)
  | [], m, bs, x, c, _, hd, _, _, _, ha => by
    simp at hd
    exact ⟨ha, c, by rw [hd]; rfl⟩
  | i :: r, m, bs, x, c, hr, hd, h0, hx, hb, ha => by
    rw [List.all_cons, Bool.and_eq_true] at hr
    rw [List.foldl_cons]
    cases hg : gluey i with
    | false =>
      have e : stp ws (m, bs, x) i = (m, bs, x) := by unfold stp; rw [if_neg (by rw [hg]; decide)]
      rw [e]
      rw [List.filter_cons, if_neg (by rw [hg]; decide)] at hd
      exact lay_ok s T A ws tl r m bs x c hr.2 hd h0 hx hb ha
    | true =>
      rw [List.filter_cons, if_pos hg, List.map_cons, List.cons_append] at hd
      simp only [widF] at hd
      generalize hW : i.g.w + s.sg * (prt T A (c + wgt s i.g) - prt T A c) = W at hd
      have hm : m < ws.length := by
        rcases Nat.lt_or_ge m ws.length with h | h
        · exact h
        · rw [List.drop_of_length_le h] at hd; cases hd
      have hd2 := hd
      rw [List.drop_eq_getElem_cons hm] at hd2
      injection hd2 with e1 e2
      have hget : ws.getD m 0 = W := by rw [List.getD_eq_getElem?_getD, List.getElem?_eq_getElem hm, e1]; rfl
      have hW0 : 0 ≤ W := h0 W (by rw [← e1]; exact List.getElem_mem hm)
      have hs : sumI (ws.drop m) = W + sumI (ws.drop (m + 1)) := by rw [hd, ← e2]; rfl
      have hn : 0 ≤ sumI (ws.drop (m + 1)) := sumI_nonneg (fun y hy => h0 y (List.mem_of_mem_drop hy))
      have hwr : wr (x + W) = x + W := wr_in (by omega) (by omega)
      have e : stp ws (m, bs, x) i = (m + 1, (if i.k = 0 then bs ++ [⟨i.n, i.q, x, i.g.w⟩] else bs), x + W) := by
        unfold stp
        rw [if_pos hg]
        simp only []
        rw [hget, hwr]
      rw [e, hs]
      have hbx : i.k = 0 → W = i.g.w := by
        intro hk
        obtain ⟨_, _, h1, h2, _⟩ := right_box hr.1 hk
        rw [← hW, wgt_plain h1 h2, Int.add_zero]
        simp
      have hap : apart 0 (if i.k = 0 then bs ++ [⟨i.n, i.q, x, i.g.w⟩] else bs) (x + W) := by
        by_cases hk : i.k = 0
        · rw [if_pos hk, hbx hk]; exact apart_snoc _ _ _ ha
        · rw [if_neg hk]; exact apart_more ha (by omega)
      obtain ⟨g1, c', g2⟩ := lay_ok s T A ws tl r (m + 1) _ (x + W) _ hr.2 e2 h0 (by omega) (by omega) hap
      exact ⟨g1, c', by rw [g2]; omega⟩
theorem all_mem {l : List Itm} (h : l.all right = true) : ∀ i ∈ l, right i = true := fun i hi => List.all_eq_true.1 h i hi
theorem lits_right {l : List Itm} {a b : Int} (h : l.all right = true) : (lits l a b).all right = true := by
  unfold lits
  rw [List.all_eq_true] at h ⊢
  intro x hx
  exact h x (List.mem_of_mem_take (List.mem_of_mem_drop hx))
/-- what a line's last width is -/
theorem tail_sum {l : List Itm} {b : Int} (h : l.all right = true) (hb : legal l b = true) (s : Stg) (T A c : Int) : ∃ y, l[b.toNat]? = some y ∧ sumI (widF s T A c (tailG l b.toNat)) = if y.k = 2 then y.g.w else 0 := by
  obtain ⟨y, hy, hk, h2⟩ := legal_box hb
  refine ⟨y, hy, ?_⟩
  unfold tailG
  rw [hy]
  simp only []
  by_cases hp : y.k = 2
  · rw [if_pos hp, if_pos hp]
    simp only [widF, sumI]
    rw [wgt_plain rfl rfl, Int.add_zero]
    simp
  · rw [if_neg hp, if_neg hp]
    rfl
theorem tail_mem {l : List Itm} {b : Nat} (h : l.all right = true) : ∀ g ∈ tailG l b, g.sk ≤ g.w := by
  intro g hg
  unfold tailG at hg
  cases e : l[b]? with
  | none => rw [e] at hg; simp at hg
  | some y =>
    rw [e] at hg
    simp only [] at hg
    split at hg
    · rename_i h2
      simp at hg
      subst hg
      exact (right_pen12 (List.all_eq_true.1 h y (List.mem_of_getElem? e)) h2).1
    · cases hg
/-- a line that is set: its boxes lie beside one another, and with its hyphen it is as wide as its widths together -/
theorem line_ok {l : List Itm} {a b t : Int} {x : Lin} (hm : may l = true) (h : linV l a b t = some x) : apart 0 x.bs x.x ∧ x.en = b ∧ x.fr ≤ b ∧ a < x.fr ∧ 0 ≤ b ∧ b < l.length ∧ 0 ≤ x.bad ∧ x.x ≤ 3000000000 ∧ ∃ y, l[b.toNat]? = some y ∧ (x.bad < 10000 → x.x + (if y.k = 2 then y.g.w else 0) = t) ∧ (x.bad ≤ 10000 → x.x + (if y.k = 2 then y.g.w else 0) ≤ t) := by
  obtain ⟨s, h1, h2, rfl⟩ := linV_some h
  obtain ⟨i1, i2, i3, i4, i5, _⟩ := isLine_lt h1
  obtain ⟨g1, g2, g3⟩ := isLine_st h1
  obtain ⟨_, hr, _⟩ := may_yes hm
  obtain ⟨hgm, _⟩ := setOf_some h2
  obtain ⟨f1, f2⟩ := widths_fill h2
  have hsum := widths_sum h2
  obtain ⟨am0, am1⟩ := amt_bound h2
  obtain ⟨ws0, ws1⟩ := wsum_bound (s := s) hgm
  have hsg := setOf_sg h2
  have hlit : lits l a b = (l.take b.toNat).drop (st (l.take b.toNat) (a + 1).toNat) := by unfold lits; rw [g3]
  have hmem : ∀ g ∈ gluesN l (a + 1).toNat b.toNat, g.sk ≤ g.w := by
    intro g hg
    unfold gluesN at hg
    rw [List.mem_append] at hg
    rcases hg with hg | hg
    · obtain ⟨i, hi, rfl⟩ := List.mem_map.1 hg
      obtain ⟨hi1, hi2⟩ := List.mem_filter.1 hi
      have hri := List.all_eq_true.1 hr i (List.mem_of_mem_take (List.mem_of_mem_drop hi1))
      unfold gluey at hi2
      rw [Bool.or_eq_true, decide_eq_true_eq, decide_eq_true_eq] at hi2
      rcases hi2 with hk | hk
      · obtain ⟨q0, _, _, q1, _⟩ := right_box hri hk
        omega
      · exact right_glue hri hk
    · exact tail_mem hr g hg
  have hta : s.sg = -1 → amtOf (gluesN l (a + 1).toNat b.toNat) s ≤ wsum s (gluesN l (a + 1).toNat b.toNat) := by
    intro e
    rw [wsum_shrink (by omega)]
    unfold amtOf
    rw [if_neg (by omega)]
    omega
  have hnn := widF_nonneg hsg am0 ws0 hta (gluesN l (a + 1).toNat b.toNat) 0 (glMay_yes hgm).2.1 hmem
  obtain ⟨_, _, hz3⟩ := glMay_yes hgm
  have hzz := sumsOk_yes hz3
  have hwb := (sums_bound _ (glMay_yes hgm).2.1).2.2.2.1
  have hz : sumI (lws l a b s) ≤ 3000000000 := by
    unfold lws
    rw [hsum]
    split
    · omega
    · rcases hsg with e | e | e <;> rw [e] <;> omega
  obtain ⟨a1, c', a2⟩ := lay_ok s (amtOf (gluesN l (a + 1).toNat b.toNat) s) (wsum s (gluesN l (a + 1).toNat b.toNat)) (lws l a b s) (tailG l b.toNat) (lits l a b) 0 [] 0 0 (lits_right hr) (by
    rw [List.drop_zero, hlit]
    rfl) hnn (Int.le_refl _) (by rw [List.drop_zero]; omega) (Int.le_refl _)
  rw [List.drop_zero, Int.zero_add] at a2
  obtain ⟨y, hy, ht⟩ := tail_sum hr i5 s (amtOf (gluesN l (a + 1).toNat b.toNat) s) (wsum s (gluesN l (a + 1).toNat b.toNat)) c'
  rw [ht] at a2
  have hw0 : 0 ≤ (if y.k = 2 then y.g.w else 0) := by
    split
    · rename_i h2
      exact (right_pen12 (List.all_eq_true.1 hr y (List.mem_of_getElem? hy)) h2).1
    · omega
  have hx : (linS l a b s).x + (if y.k = 2 then y.g.w else 0) = sumI (lws l a b s) := a2
  obtain ⟨b0, _⟩ := setOf_bound h2
  refine ⟨a1, rfl, ?_, ?_, i3, i4, b0, by omega, y, hy, ?_, ?_⟩
  · show ((st l (a + 1).toNat : Nat) : Int) ≤ b
    omega
  · show a < ((st l (a + 1).toNat : Nat) : Int)
    omega
  · intro hb
    rw [hx]
    exact f1 hb
  · intro hb
    rw [hx]
    exact f2 hb
/-- breaks whose lines may be have lines -/
theorem goS_chn {l : List Itm} {t tol : Int} : ∀ (bs : List Int) (a q acc : Int) (z : Int × Int × Int), goS l t tol a q acc bs = some z → ∃ s, Chn l t a bs s ∧ ∀ x ∈ s, x.bad ≤ 10000
  | [], a, q, acc, z, h => ⟨[], trivial, fun x hx => by simp at hx⟩
  | b :: r, a, q, acc, z, h => by
    unfold goS at h
    cases e : costOf l a b t tol with
    | none => rw [e] at h; cases h
    | some dc =>
      obtain ⟨d, c⟩ := dc
      rw [e] at h
      obtain ⟨s, h1, h2⟩ := goS_chn r b c _ z h
      obtain ⟨g, hg, _, hb, _⟩ := costOf_some e
      refine ⟨linS l a b g :: s, ⟨by unfold linV; rw [hg]; rfl, h1⟩, fun x hx => ?_⟩
      rcases List.mem_cons.1 hx with rfl | hx
      · exact hb
      · exact h2 x hx
/-- the first lines are those of the items up to their last break -/
theorem first_ok {l : List Itm} {bs : List Int} {t : Int} {m : List Lin} {z : Int} (h : setR l bs t = (m, 0, z)) {k : Nat} (h0 : 0 < k) (hk : k ≤ bs.length) : ∃ b : Nat, bs[k - 1]? = some (b : Int) ∧ b < l.length ∧ setR (l.take (b + 1)) (bs.take k) t = (m.take k, 0, 0) := by
  obtain ⟨hm, _, hc, hl, hp⟩ := setR_some h
  obtain ⟨_, hr, hpw⟩ : -1 ≤ (-1 : Int) ∧ (∀ b ∈ bs, -1 < b ∧ 0 ≤ b ∧ b < l.length) ∧ bs.Pairwise (· < ·) := by
    rcases hc.rises with h | h
    · exact h
    · rw [h] at hp; simp at hp
  obtain ⟨b, hb⟩ : ∃ b, bs[k - 1]? = some b := ⟨_, List.getElem?_eq_getElem (by omega)⟩
  obtain ⟨_, b0, b1⟩ := hr b (List.mem_of_getElem? hb)
  refine ⟨b.toNat, by rw [hb, Int.toNat_of_nonneg b0], by omega, ?_⟩
  have hlast : (bs.take k).getLast? = some b := by
    rw [List.getLast?_eq_getElem?, List.length_take, show min k bs.length - 1 = k - 1 by omega, List.getElem?_take_of_lt (by omega), hb]
  have hle : ∀ c ∈ bs.take k, 0 ≤ c ∧ c < ((b.toNat + 1 : Nat) : Int) := by
    intro c hcm
    have hc0 := (hr c (List.mem_of_mem_take hcm)).2.1
    refine ⟨hc0, ?_⟩
    obtain ⟨i, hi, rfl⟩ := List.getElem_of_mem hcm
    rw [List.length_take] at hi
    rw [List.getElem_take]
    obtain ⟨hkk, hbb⟩ := List.getElem?_eq_some_iff.1 hb
    by_cases he : i = k - 1
    · subst he
      rw [hbb]
      omega
    · have := List.pairwise_iff_getElem.1 hpw i (k - 1) (by omega) (by omega) (by omega)
      rw [hbb] at this
      omega
  have hm' : may (l.take (b.toNat + 1)) = true := by
    rw [← List.take_append_drop (b.toNat + 1) l] at hm
    exact (may_parts hm).1
  refine setR_of hm' (hc.take k (b.toNat + 1) hle) ?_
  rw [hlast, List.length_take]
  congr 1
  omega
end Go.Proofs.Ythcilpijiindeaa.It
