/-
  The plain mathematics of package lexer, second part: a source that is read is a row of pieces, each as it must be, and each followed by what may stand there; and such a row is read as just these.
-/
import Derived.Test.YtimpadooknclkaaLx
set_option linter.unusedVariables false
set_option linter.unusedSimpArgs false
namespace Go.Proofs.Ytimpadooknclkaa.Lx

inductive Kd where
  | blank
  | remark
  | opn
  | cls
  | cmd (t : List UInt8)
  | wrd (t : List UInt8)
abbrev Pc := List UInt8 × Kd
def fit : Kd → List UInt8 → Prop
  | .blank, b => ∃ c, b = [c] ∧ Lx.blank c = true
  | .remark, b => ∃ r, b = 37 :: r ∧ ∀ c ∈ r, not10 c = true
  | .opn, b => b = [123]
  | .cls, b => b = [125]
  | .cmd t, b => b = 92 :: t ∧ t ≠ [] ∧ ∀ c ∈ t, alpha c = true
  | .wrd t, b => b ≠ [] ∧ Wd b t
/-- what may stand behind a piece -/
def fol : Kd → Pc → Prop
  | .remark, q => q = ([10], .blank)
  | .cmd _, q => ∀ c r, q.1 = c :: r → alpha c = false
  | .wrd _, q => ∀ t, q.2 ≠ .wrd t
  | _, _ => True
def Good (ps : List Pc) : Prop := (∀ x ∈ ps, fit x.2 x.1) ∧ ∀ a x y b, ps = a ++ x :: y :: b → fol x.2 y
def flat (ps : List Pc) : List UInt8 := ps.flatMap (·.1)
def tokOf (p : Nat) : Kd → List Tok
  | .blank => []
  | .remark => []
  | .opn => [⟨2, [], p⟩]
  | .cls => [⟨3, [], p⟩]
  | .cmd t => [⟨1, t, p⟩]
  | .wrd t => [⟨0, t, p⟩]
def toks (p : Nat) : List Pc → List Tok
  | [] => []
  | x :: r => tokOf p x.2 ++ toks (p + x.1.length) r
theorem flat_cons (x : Pc) (r : List Pc) : flat (x :: r) = x.1 ++ flat r := rfl
theorem flat_append (a b : List Pc) : flat (a ++ b) = flat a ++ flat b := by simp [flat]
theorem toks_append : ∀ (a b : List Pc) (p : Nat), toks p (a ++ b) = toks p a ++ toks (p + (flat a).length) b
  | [], b, p => rfl
  | x :: r, b, p => by
    rw [List.cons_append, toks, toks, toks_append r b, flat_cons, List.length_append, List.append_assoc, Nat.add_assoc]

theorem good_nil : Good [] := ⟨fun x h => by simp at h, fun a x y b h => by simp at h⟩
theorem good_one {x : Pc} (h : fit x.2 x.1) : Good [x] := ⟨fun y hy => by simp at hy; subst hy; exact h, fun a x y b h => by
  have := congrArg List.length h
  simp at this
  omega⟩
theorem Good.left {ps qs : List Pc} (h : Good (ps ++ qs)) : Good ps :=
  ⟨fun x hx => h.1 x (List.mem_append_left _ hx), fun a x y b e => h.2 a x y (b ++ qs) (by rw [e]; simp)⟩
theorem Good.right {ps qs : List Pc} (h : Good (ps ++ qs)) : Good qs :=
  ⟨fun x hx => h.1 x (List.mem_append_right _ hx), fun a x y b e => h.2 (ps ++ a) x y b (by rw [e]; simp)⟩
theorem Good.append {ps qs : List Pc} (h1 : Good ps) (h2 : Good qs) (hj : ∀ a x y b, ps = a ++ [x] → qs = y :: b → fol x.2 y) : Good (ps ++ qs) := by
  refine ⟨fun x hx => (List.mem_append.1 hx).elim (h1.1 x) (h2.1 x), fun a x y b e => ?_⟩
  rcases List.append_eq_append_iff.1 e with ⟨c, e1, e2⟩ | ⟨c, e1, e2⟩
  · exact h2.2 c x y b e2
  · match c, e1, e2 with
    | [], e1, e2 => exact h2.2 [] x y b e2.symm
    | [z], e1, e2 =>
      simp only [List.cons_append, List.nil_append, List.cons.injEq] at e2
      obtain ⟨rfl, e2⟩ := e2
      exact hj a x y b e1 e2.symm
    | z :: z' :: c, e1, e2 =>
      simp only [List.cons_append, List.cons.injEq] at e2
      obtain ⟨rfl, rfl, e2⟩ := e2
      exact h1.2 a x y c e1
theorem good_cons {x : Pc} {ps : List Pc} (hx : fit x.2 x.1) (h : Good ps) (hj : ∀ y b, ps = y :: b → fol x.2 y) : Good (x :: ps) :=
  Good.append (ps := [x]) (good_one hx) h (fun a x' y b e1 e2 => by
    have e : a = [] ∧ x = x' := by
      cases a with
      | nil => simp at e1; exact ⟨rfl, e1⟩
      | cons z a => simp at e1
    rw [← e.2]
    exact hj y b e2)
theorem Good.tail {x : Pc} {ps : List Pc} (h : Good (x :: ps)) : Good ps := Good.right (ps := [x]) h
theorem fit_ne {x : Pc} (h : fit x.2 x.1) : x.1 ≠ [] := by
  obtain ⟨b, k⟩ := x
  cases k with
  | blank => obtain ⟨c, e, _⟩ := h; simp only [] at e ⊢; rw [e]; simp
  | remark => obtain ⟨c, e, _⟩ := h; simp only [] at e ⊢; rw [e]; simp
  | opn => simp only [fit] at h ⊢; rw [h]; simp
  | cls => simp only [fit] at h ⊢; rw [h]; simp
  | cmd t => have e := h.1; simp only [] at e ⊢; rw [e]; simp
  | wrd t => exact h.1

/-! ### a good row is read as it is -/
theorem word_ends {c : UInt8} (h : ends c = true) (hb : bsl c = false) (r : List UInt8) : (word (c :: r)).2 = 0 := by
  cases r with
  | nil => rw [word_one, if_pos h]
  | cons d r => rw [word_two, hb, h]; rfl
theorem word_cmd {d : UInt8} (h : escd d = false) (r : List UInt8) : (word (92 :: d :: r)).2 = 0 := by
  rw [word_two, h]; rfl
theorem head_of {x : Pc} {ps : List Pc} (hx : fit x.2 x.1) (hk : ∀ t, x.2 ≠ .wrd t) : (word (flat (x :: ps))).2 = 0 := by
  obtain ⟨b, k⟩ := x
  rw [flat_cons]
  cases k with
  | blank =>
    obtain ⟨c, e, hc⟩ := hx
    simp only [] at e
    subst e
    have := of_decide_eq_true hc
    exact word_ends (by unfold ends; rw [hc]; simp) (by unfold bsl; exact decide_eq_false (by omega)) _
  | remark =>
    obtain ⟨c, e, _⟩ := hx
    simp only [] at e
    subst e
    exact word_ends (by decide) (by decide) _
  | opn => simp only [fit] at hx; subst hx; exact word_ends (by decide) (by decide) _
  | cls => simp only [fit] at hx; subst hx; exact word_ends (by decide) (by decide) _
  | cmd t =>
    obtain ⟨e, h1, h2⟩ := hx
    simp only [] at e
    subst e
    cases t with
    | nil => exact absurd rfl h1
    | cons d t => exact word_cmd (alpha_not (h2 d (List.mem_cons_self ..))).2.2.1 _
  | wrd t => exact absurd rfl (hk t)
def stepOf (x : Pc) : Step := match x.2 with
  | .blank => .gap x.1.length
  | .remark => .gap x.1.length
  | .opn => .tok 2 [] x.1.length
  | .cls => .tok 3 [] x.1.length
  | .cmd t => .tok 1 t x.1.length
  | .wrd t => .tok 0 t x.1.length
theorem takeWhile_stop (p : UInt8 → Bool) (a b : List UInt8) (ha : ∀ c ∈ a, p c = true) (hb : b.takeWhile p = []) : (a ++ b).takeWhile p = a := by
  rw [List.takeWhile_append_of_pos ha, hb, List.append_nil]
theorem good_step {x : Pc} {ps : List Pc} (h : Good (x :: ps)) : step (flat (x :: ps)) = stepOf x := by
  have hx := h.1 x (List.mem_cons_self ..)
  have hf : ∀ y b, ps = y :: b → fol x.2 y := fun y b e => h.2 [] x y b (by rw [e]; rfl)
  have hps := h.tail
  obtain ⟨b, k⟩ := x
  cases k with
  | blank =>
    obtain ⟨c, e, hc⟩ := hx
    simp only [] at e
    subst e
    show step (c :: flat ps) = _
    rw [step_cons, if_pos hc]; rfl
  | remark =>
    obtain ⟨r, e, hr⟩ := hx
    simp only [] at e
    subst e
    show step (37 :: (r ++ flat ps)) = _
    rw [step_cons, if_neg (by decide), if_pos (by decide), takeWhile_stop _ _ _ hr]
    · simp [stepOf, Nat.add_comm]
    · cases ps with
      | nil => rfl
      | cons y b =>
        have := hf y b rfl
        simp only [fol] at this
        rw [this]; rfl
  | opn => simp only [fit] at hx; subst hx; rfl
  | cls => simp only [fit] at hx; subst hx; rfl
  | cmd t =>
    obtain ⟨e, h1, h2⟩ := hx
    simp only [] at e
    subst e
    show step (92 :: (t ++ flat ps)) = _
    have hc : isCmd 92 (t ++ flat ps) = true := by
      cases t with
      | nil => exact absurd rfl h1
      | cons d t => unfold isCmd; rw [List.cons_append]; simp only []; rw [h2 d (List.mem_cons_self ..)]; rfl
    rw [step_cons, if_neg (by decide), if_neg (by decide), if_neg (by decide), if_neg (by decide), if_pos hc, takeWhile_stop _ _ _ h2]
    · simp [stepOf, Nat.add_comm]
    · cases ps with
      | nil => rfl
      | cons y b =>
        have hy := hf y b rfl
        simp only [fol] at hy
        have hne := fit_ne (hps.1 y (List.mem_cons_self ..))
        rw [flat_cons]
        cases hb : y.1 with
        | nil => exact absurd hb hne
        | cons c r => rw [List.cons_append, List.takeWhile_cons, hy c r hb]; rfl
  | wrd t =>
    obtain ⟨hb, hw⟩ := hx
    simp only [] at hb hw
    have hz : (word (flat ps)).2 = 0 := by
      cases ps with
      | nil => rfl
      | cons y r => exact head_of (hps.1 y (List.mem_cons_self ..)) (hf y r rfl)
    have hwd := wd_word hw hz (word_none hz)
    cases b with
    | nil => exact absurd rfl hb
    | cons c b =>
      show step (c :: (b ++ flat ps)) = _
      rw [List.cons_append] at hwd
      have hend : blank c = false ∧ c.toNat ≠ 37 ∧ c.toNat ≠ 123 ∧ c.toNat ≠ 125 ∧ isCmd c (b ++ flat ps) = false := by
        cases hw with
        | esc hd hw =>
          rename_i d b t
          refine ⟨by decide, by decide, by decide, by decide, ?_⟩
          unfold isCmd
          rw [List.cons_append]
          simp only []
          cases ha : alpha d with
          | false => rfl
          | true => rw [(alpha_not ha).2.2.1] at hd; cases hd
        | plain hc hw =>
          unfold ends at hc
          rw [Bool.or_eq_false_iff] at hc
          have := of_decide_eq_false hc.1
          refine ⟨hc.2, by omega, by omega, by omega, ?_⟩
          unfold isCmd
          rw [bsl_special hc.1]; rfl
      rw [step_cons, if_neg (by rw [hend.1]; simp), if_neg hend.2.1, if_neg hend.2.2.1, if_neg hend.2.2.2.1, if_neg (by rw [hend.2.2.2.2]; simp), hwd]
      rw [if_neg (by simp)]; rfl
theorem flat_drop (x : Pc) (ps : List Pc) : (flat (x :: ps)).drop x.1.length = flat ps := by rw [flat_cons, List.drop_left]
theorem lex_good : ∀ (ps : List Pc) (p : Nat), Good ps → lex p (flat ps) = (toks p ps, none)
  | [], p, _ => rfl
  | x :: ps, p, h => by
    have hs := good_step h
    have ih := lex_good ps (p + x.1.length) h.tail
    obtain ⟨b, k⟩ := x
    cases k with
    | blank => rw [lex_gap p hs]; simp only []; rw [flat_drop (b, .blank), ih]; rfl
    | remark => rw [lex_gap p hs]; simp only []; rw [flat_drop (b, .remark), ih]; rfl
    | opn => rw [lex_tok p hs]; simp only []; rw [flat_drop (b, .opn), ih]; rfl
    | cls => rw [lex_tok p hs]; simp only []; rw [flat_drop (b, .cls), ih]; rfl
    | cmd t => rw [lex_tok p hs]; simp only []; rw [flat_drop (b, .cmd t), ih]; rfl
    | wrd t => rw [lex_tok p hs]; simp only []; rw [flat_drop (b, .wrd t), ih]; rfl

/-! ### what is read is a good row -/
theorem head_eq {x : Pc} {ps : List Pc} {c : UInt8} {r : List UInt8} (hx : fit x.2 x.1) (h : flat (x :: ps) = c :: r) : ∃ q, x.1 = c :: q := by
  have hne := fit_ne hx
  rw [flat_cons] at h
  cases hb : x.1 with
  | nil => exact absurd hb hne
  | cons d q =>
    rw [hb, List.cons_append] at h
    injection h with h _
    exact ⟨q, by rw [h]⟩
theorem head_ten {x : Pc} {q : List UInt8} (hx : fit x.2 x.1) (h : x.1 = 10 :: q) : x = ([10], .blank) := by
  obtain ⟨b, k⟩ := x
  simp only [] at h
  subst h
  cases k with
  | blank => obtain ⟨c, e, hc⟩ := hx; simp only [] at e; injection e with e1 e2; subst e1 e2; rfl
  | remark => obtain ⟨r, e, _⟩ := hx; simp only [] at e; injection e with e1 _; exact absurd e1 (by decide)
  | opn => simp only [fit] at hx; injection hx with e1 _; exact absurd e1 (by decide)
  | cls => simp only [fit] at hx; injection hx with e1 _; exact absurd e1 (by decide)
  | cmd t => have e := hx.1; simp only [] at e; injection e with e1 _; exact absurd e1 (by decide)
  | wrd t =>
    have hw := hx.2
    simp only [] at hw
    cases hw with
    | plain hc _ => exact absurd hc (by decide)
theorem not10_is {c : UInt8} (h : not10 c = false) : c = 10 := u8_of (n := 10) (by have := of_decide_eq_false h; omega)
theorem mem_while {p : UInt8 → Bool} : ∀ {l : List UInt8} {c : UInt8}, c ∈ l.takeWhile p → p c = true
  | [], c, h => by simp at h
  | d :: l, c, h => by
    rw [List.takeWhile_cons] at h
    split at h
    · rename_i hd
      rcases List.mem_cons.1 h with rfl | h
      · exact hd
      · exact mem_while h
    · simp at h
theorem dropWhile_len (p : UInt8 → Bool) : ∀ l : List UInt8, l.drop (l.takeWhile p).length = l.dropWhile p
  | [] => rfl
  | c :: r => by
    rw [List.takeWhile_cons, List.dropWhile_cons]
    cases p c with
    | true => simpa using dropWhile_len p r
    | false => rfl
theorem dropWhile_head (p : UInt8 → Bool) : ∀ (l : List UInt8) (c : UInt8) (r : List UInt8), l.dropWhile p = c :: r → p c = false
  | [], c, r, h => by cases h
  | d :: l, c, r, h => by
    rw [List.dropWhile_cons] at h
    split at h
    · exact dropWhile_head p l c r h
    · rename_i hd; injection h with h1 _; rw [← h1]; simpa using hd
theorem lex_pieces : ∀ (k : Nat) (l : List UInt8) (p : Nat), l.length ≤ k → (lex p l).2 = none → ∃ ps, Good ps ∧ flat ps = l
  | _, [], p, _, _ => ⟨[], good_nil, rfl⟩
  | 0, c :: r, p, h, _ => by simp at h
  | k + 1, c :: r, p, h, hn => by
    simp only [List.length_cons] at h
    have hlen : ∀ n, 1 ≤ n → ((c :: r).drop n).length ≤ k := fun n h1 => by rw [List.length_drop]; simp; omega
    cases hs : step (c :: r) with
    | bad => rw [lex_bad p (by simp) hs] at hn; cases hn
    | gap n =>
      have hp := step_pos (l := c :: r) (by rw [hs]; simp)
      rw [hs] at hp
      rw [lex_gap p hs] at hn
      obtain ⟨ps, g1, g2⟩ := lex_pieces k _ _ (hlen n hp) hn
      rw [step_cons] at hs
      split at hs
      · rename_i hb
        injection hs with hs
        subst hs
        exact ⟨([c], .blank) :: ps, good_cons (x := ([c], .blank)) ⟨c, rfl, hb⟩ g1 (fun y b e => trivial), by rw [flat_cons, g2]; rfl⟩
      · split at hs
        · rename_i hb h37
          injection hs with hs
          obtain rfl : c = 37 := u8_of h37
          have hd : (37 :: r).drop n = r.dropWhile not10 := by rw [← hs, Nat.add_comm, List.drop_succ_cons, dropWhile_len]
          rw [hd] at g2
          refine ⟨(37 :: r.takeWhile not10, .remark) :: ps, good_cons (x := (37 :: r.takeWhile not10, .remark)) ⟨_, rfl, fun c hc => mem_while hc⟩ g1 (fun y b e => ?_), ?_⟩
          · subst e
            have hy := g1.1 y (List.mem_cons_self ..)
            have hne := fit_ne hy
            cases hb : y.1 with
            | nil => exact absurd hb hne
            | cons d q =>
              rw [flat_cons, hb, List.cons_append] at g2
              have h10 := not10_is (dropWhile_head _ _ _ _ g2.symm)
              subst h10
              exact head_ten hy hb
          · rw [flat_cons, g2]
            show 37 :: (r.takeWhile not10 ++ r.dropWhile not10) = _
            rw [List.takeWhile_append_dropWhile]
        · split at hs
          · cases hs
          · split at hs
            · cases hs
            · split at hs
              · cases hs
              · split at hs <;> cases hs
    | tok kd t n =>
      have hp := step_pos (l := c :: r) (by rw [hs]; simp)
      rw [hs] at hp
      rw [lex_tok p hs] at hn
      obtain ⟨ps, g1, g2⟩ := lex_pieces k _ _ (hlen n hp) hn
      rw [step_cons] at hs
      split at hs
      · cases hs
      · split at hs
        · cases hs
        · split at hs
          · rename_i h3
            injection hs with _ _ hs
            subst hs
            obtain rfl : c = 123 := u8_of h3
            exact ⟨([123], .opn) :: ps, good_cons (x := ([123], .opn)) rfl g1 (fun y b e => trivial), by rw [flat_cons, g2]; rfl⟩
          · split at hs
            · rename_i h4
              injection hs with _ _ hs
              subst hs
              obtain rfl : c = 125 := u8_of h4
              exact ⟨([125], .cls) :: ps, good_cons (x := ([125], .cls)) rfl g1 (fun y b e => trivial), by rw [flat_cons, g2]; rfl⟩
            · split at hs
              · rename_i hc
                injection hs with _ ht hs
                unfold isCmd at hc
                rw [Bool.and_eq_true] at hc
                obtain rfl := bsl_is hc.1
                have hd : (92 :: r).drop n = r.dropWhile alpha := by rw [← hs, Nat.add_comm, List.drop_succ_cons, dropWhile_len]
                rw [hd] at g2
                refine ⟨(92 :: r.takeWhile alpha, .cmd (r.takeWhile alpha)) :: ps, good_cons (x := (92 :: r.takeWhile alpha, .cmd (r.takeWhile alpha))) ⟨rfl, ?_, fun c hc => mem_while hc⟩ g1 (fun y b e c q hy => ?_), ?_⟩
                · cases r with
                  | nil => simp at hc
                  | cons d r =>
                    have : alpha d = true := hc.2
                    rw [List.takeWhile_cons, this]; simp
                · subst e
                  rw [flat_cons, hy, List.cons_append] at g2
                  exact dropWhile_head _ _ _ _ g2.symm
                · rw [flat_cons, g2]
                  show 92 :: (r.takeWhile alpha ++ r.dropWhile alpha) = _
                  rw [List.takeWhile_append_dropWhile]
              · split at hs
                · cases hs
                · rename_i h0
                  injection hs with _ ht hs
                  obtain ⟨w1, w2, w3⟩ := word_is (c :: r).length (c :: r) (Nat.le_refl _)
                  rw [ht, hs] at w2
                  rw [hs] at w1 w3
                  refine ⟨((c :: r).take n, .wrd t) :: ps, good_cons (x := ((c :: r).take n, .wrd t)) ⟨?_, w2⟩ g1 (fun y b e t' hy => ?_), ?_⟩
                  · intro e
                    have := congrArg List.length e
                    rw [List.length_take] at this
                    simp at this w1
                    simp only [Step.len] at hp
                    omega
                  · subst e
                    have hf := g1.1 y (List.mem_cons_self ..)
                    obtain ⟨yb, yk⟩ := y
                    simp only [] at hy
                    subst hy
                    obtain ⟨hb, hw⟩ := hf
                    simp only [] at hb hw
                    rw [← g2, flat_cons] at w3
                    cases yb with
                    | nil => exact hb rfl
                    | cons d yb => exact wd_pos hw (flat b) w3
                  · rw [flat_cons, g2]
                    exact List.take_append_drop n (c :: r)
end Go.Proofs.Ytimpadooknclkaa.Lx
