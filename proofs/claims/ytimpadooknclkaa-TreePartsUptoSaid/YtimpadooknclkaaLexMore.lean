/-
  The plain mathematics of package lexer, fifth part: gaps between tokens, and tokens' places.
-/
import Derived.Test.YtimpadooknclkaaLexLaws
set_option linter.unusedVariables false
set_option linter.unusedSimpArgs false
namespace Go.Proofs.Ytimpadooknclkaa.Lx

theorem tok_one (p : Nat) {k : Kd} (h : isTok k = true) : ∃ t, tokOf p k = [t] ∧ t.loc = p := by
  cases k with
  | blank => cases h
  | remark => cases h
  | opn => exact ⟨_, rfl, rfl⟩
  | cls => exact ⟨_, rfl, rfl⟩
  | cmd t => exact ⟨_, rfl, rfl⟩
  | wrd t => exact ⟨_, rfl, rfl⟩
theorem tok_none (p : Nat) {k : Kd} (h : isTok k = false) : tokOf p k = [] := by
  cases k with
  | blank => rfl
  | remark => rfl
  | opn => cases h
  | cls => cases h
  | cmd t => cases h
  | wrd t => cases h
theorem split_at : ∀ (ps : List Pc) (p i : Nat), i < (toks p ps).length → ∃ a x b, ps = a ++ x :: b ∧ isTok x.2 = true ∧ (toks p a).length = i ∧ (toks p ps)[i]? = (tokOf (p + (flat a).length) x.2)[0]?
  | [], p, i, h => by simp [toks] at h
  | x :: r, p, i, h => by
    cases hx : isTok x.2 with
    | false =>
      rw [toks, tok_none p hx, List.nil_append] at h
      obtain ⟨a, y, b, e1, e2, e3, e4⟩ := split_at r (p + x.1.length) i h
      refine ⟨x :: a, y, b, by rw [e1]; rfl, e2, by rw [toks, tok_none p hx]; exact e3, ?_⟩
      rw [toks, tok_none p hx, List.nil_append, e4, flat_cons, List.length_append, Nat.add_assoc]
    | true =>
      obtain ⟨t, ht, _⟩ := tok_one p hx
      cases i with
      | zero => exact ⟨[], x, r, rfl, hx, rfl, by rw [toks, ht]; show _ = (tokOf (p + 0) x.2)[0]?; rw [Nat.add_zero, ht]; rfl⟩
      | succ i =>
        rw [toks, ht] at h
        simp only [List.cons_append, List.nil_append, List.length_cons] at h
        obtain ⟨a, y, b, e1, e2, e3, e4⟩ := split_at r (p + x.1.length) i (by omega)
        refine ⟨x :: a, y, b, by rw [e1]; rfl, e2, by rw [toks, ht]; simp [e3], ?_⟩
        rw [toks, ht, flat_cons, List.length_append, ← Nat.add_assoc, ← e4]; rfl

/-! ### gaps -/
structure Gap (gs : List Pc) : Prop where
  good : Good gs
  none : kinds gs = []
  clean : Ut.clean (flat gs) = true
  first : ∀ y b, gs = y :: b → isTok y.2 = false
  last : ∀ a x, gs = a ++ [x] → x.2 = .blank
  ne : gs ≠ []
theorem fol_gap {k : Kd} {y : Pc} (hk : k ≠ .remark) (hy : fit y.2 y.1) (h : isTok y.2 = false) : fol k y := by
  obtain ⟨b, ky⟩ := y
  cases k with
  | remark => exact absurd rfl hk
  | blank => trivial
  | opn => trivial
  | cls => trivial
  | wrd t => intro t' e; simp only [] at e; rw [e] at h; cases h
  | cmd t =>
    intro c r e
    simp only [] at e
    subst e
    cases ha : alpha c with
    | false => rfl
    | true =>
      have hn := alpha_not ha
      cases ky with
      | blank =>
        obtain ⟨d, e, hd⟩ := hy
        simp only [] at e
        injection e with e _
        rw [e, hd] at hn
        exact absurd hn.2.1 (by simp)
      | remark =>
        obtain ⟨d, e, _⟩ := hy
        simp only [] at e
        injection e with e _
        rw [e] at ha
        exact absurd ha (by decide)
      | opn => cases h
      | cls => cases h
      | cmd t => cases h
      | wrd t => cases h
theorem last_of {a : List Pc} {y : Pc} {b : List Pc} (hg : Good (a ++ y :: b)) (hy : isTok y.2 = true) : ∀ a' z, a = a' ++ [z] → z.2 ≠ .remark := by
  intro a' z e hr
  have hf := hg.2 a' z y b (by rw [e]; simp)
  rw [hr] at hf
  simp only [fol] at hf
  rw [hf] at hy
  cases hy
theorem gap_in {a gs b : List Pc} (ha : Good a) (hg : Gap gs) (hb : Good b) (hl : ∀ a' z, a = a' ++ [z] → z.2 ≠ .remark) : Good (a ++ (gs ++ b)) := by
  refine ha.append (hg.good.append hb fun a' x y b' e1 e2 => by rw [hg.last a' x e1]; trivial) fun a' x y b' e1 e2 => ?_
  cases gs with
  | nil => exact absurd rfl hg.ne
  | cons z gs =>
    rw [List.cons_append] at e2
    injection e2 with e2 _
    subst e2
    exact fol_gap (hl a' x e1) (hg.good.1 z (by simp)) (hg.first z gs rfl)
theorem gap_tok {s : List UInt8} (h : lexOk s = true) {i : Nat} (hi : i < (lexL s).length) :
    ∃ (n : Nat) (t : Tok), (lexL s)[i]? = some t ∧ t.loc = (n : Int) ∧ n ≤ s.length ∧ ∀ gs, Gap gs → lexOk (s.take n ++ (flat gs ++ s.drop n)) = true ∧ (lexL (s.take n ++ (flat gs ++ s.drop n))).map plain = (lexL s).map plain := by
  obtain ⟨ps, g1, g2, g3, g4⟩ := lex_has h
  rw [g3] at hi
  obtain ⟨a, x, b, e1, e2, e3, e4⟩ := split_at ps 0 i hi
  obtain ⟨t, ht, hl⟩ := tok_one (0 + (flat a).length) e2
  have hs : s = flat a ++ flat (x :: b) := by rw [← g2, e1, flat_append]
  refine ⟨(flat a).length, t, by rw [g3, e4, ht]; rfl, by rw [hl]; omega, by rw [hs]; simp, fun gs hgs => ?_⟩
  rw [e1] at g1
  have hed := edge g1 e2 (by rw [flat_append, ← hs]; exact g4)
  have htake : s.take (flat a).length = flat a := by rw [hs]; simp
  have hdrop : s.drop (flat a).length = flat (x :: b) := by rw [hs]; simp
  rw [htake, hdrop]
  obtain ⟨i1, i2⟩ := lex_of (gap_in g1.left hgs (g1.right (ps := a)) (last_of g1 e2)) (s := flat a ++ (flat gs ++ flat (x :: b))) (by rw [flat_append, flat_append]) (clean_app hed.1 (clean_app hgs.clean hed.2))
  refine ⟨i1, ?_⟩
  rw [i2, g3, e1, toks_plain, toks_plain, kinds_append, kinds_append, kinds_append, hgs.none]; rfl
theorem gap_end {s : List UInt8} (h : lexOk s = true) (h37 : ∀ c ∈ s, c.toNat ≠ 37) (gs : List Pc) (hgs : Gap gs) : lexOk (s ++ flat gs) = true ∧ (lexL (s ++ flat gs)).map plain = (lexL s).map plain := by
  obtain ⟨ps, g1, g2, g3, g4⟩ := lex_has h
  have hg := gap_in g1 hgs good_nil (fun a' z e hr => by
    have hz := g1.1 z (by rw [e]; simp)
    obtain ⟨zb, zk⟩ := z
    simp only [] at hr
    subst hr
    obtain ⟨r, e2, _⟩ := hz
    simp only [] at e2
    refine h37 37 ?_ (by decide)
    rw [← g2, e, flat_append]
    refine List.mem_append_right _ ?_
    show 37 ∈ zb ++ []
    rw [e2]; simp)
  obtain ⟨i1, i2⟩ := lex_of hg (s := s ++ flat gs) (by rw [List.append_nil, flat_append, g2]) (clean_app g4 hgs.clean)
  refine ⟨i1, ?_⟩
  rw [i2, g3, toks_plain, toks_plain, kinds_append, List.append_nil, hgs.none, List.append_nil]
theorem good_blank {c : UInt8} (hc : blank c = true) {ps : List Pc} (h : Good ps) : Good (([c], .blank) :: ps) := good_cons (x := ([c], .blank)) ⟨c, rfl, hc⟩ h (fun y b e => trivial)
theorem good_remark (r : List UInt8) (hr : r.all not10 = true) {ps : List Pc} (h : Good ps) : Good ((37 :: r, .remark) :: ([10], .blank) :: ps) :=
  good_cons (x := (37 :: r, .remark)) ⟨r, rfl, List.all_eq_true.1 hr⟩ (good_blank (by decide) h) (fun y b e => by injection e with e _; exact e.symm)
def gap0 : List Pc := [([32], .blank)]
def gap1 : List Pc := [([10], .blank), ([9], .blank)]
def gap2 : List Pc := [(37 :: [32, 97, 32, 123, 114, 101, 109, 97, 114, 107], .remark), ([10], .blank)]
def gap3 : List Pc := [([13], .blank), ([10], .blank), (37 :: [32, 92, 49], .remark), ([10], .blank), ([32], .blank)]
theorem last_is {gs : List Pc} {b : List UInt8} {k : Kd} (h : gs.getLast? = some (b, k)) : ∀ a x, gs = a ++ [x] → x.2 = k := by
  intro a x e
  rw [e, List.getLast?_append] at h
  simp at h
  rw [h]
theorem gap0_is : Gap gap0 := ⟨good_blank (by decide) good_nil, rfl, by decide +kernel, fun y b e => by injection e with e _; rw [← e]; rfl, last_is (b := [32]) rfl, by simp [gap0]⟩
theorem gap1_is : Gap gap1 := ⟨good_blank (by decide) (good_blank (by decide) good_nil), rfl, by decide +kernel, fun y b e => by injection e with e _; rw [← e]; rfl, last_is (b := [9]) rfl, by simp [gap1]⟩
theorem gap2_is : Gap gap2 := ⟨good_remark _ (by decide) good_nil, rfl, by decide +kernel, fun y b e => by injection e with e _; rw [← e]; rfl, last_is (b := [10]) rfl, by simp [gap2]⟩
theorem gap3_is : Gap gap3 := ⟨good_blank (by decide) (good_blank (by decide) (good_remark _ (by decide) (good_blank (by decide) good_nil))), rfl, by decide +kernel, fun y b e => by injection e with e _; rw [← e]; rfl, last_is (b := [32]) rfl, by simp [gap3]⟩

/-! ### places -/
theorem loc_ge : ∀ (ps : List Pc) (p : Nat) (t : Tok), t ∈ toks p ps → (p : Int) ≤ t.loc
  | [], p, t, h => by simp [toks] at h
  | x :: r, p, t, h => by
    rw [toks] at h
    rcases List.mem_append.1 h with h | h
    · cases hx : isTok x.2 with
      | false => rw [tok_none p hx] at h; simp at h
      | true =>
        obtain ⟨u, hu, hl⟩ := tok_one p hx
        rw [hu] at h
        simp at h
        rw [h, hl]; exact Int.le_refl _
    · have := loc_ge r _ t h
      omega
theorem loc_rises : ∀ (ps : List Pc) (p : Nat), (∀ x ∈ ps, fit x.2 x.1) → ∀ i t u, (toks p ps)[i]? = some t → (toks p ps)[i + 1]? = some u → t.loc < u.loc
  | [], p, _, i, t, u, h, _ => by simp [toks] at h
  | x :: r, p, hf, i, t, u, h1, h2 => by
    have ih := loc_rises r (p + x.1.length) (fun y hy => hf y (List.mem_cons_of_mem _ hy))
    cases hx : isTok x.2 with
    | false =>
      rw [toks, tok_none p hx, List.nil_append] at h1 h2
      exact ih i t u h1 h2
    | true =>
      obtain ⟨v, hv, hl⟩ := tok_one p hx
      rw [toks, hv, List.cons_append, List.nil_append] at h1 h2
      cases i with
      | zero =>
        simp at h1 h2
        subst h1
        have := loc_ge r _ u (List.mem_of_getElem? h2)
        have hne := fit_ne (hf x (List.mem_cons_self ..))
        have hpos : 0 < x.1.length := by
          cases hb : x.1 with
          | nil => exact absurd hb hne
          | cons => simp
        rw [hl]
        omega
      | succ i =>
        simp at h1 h2
        exact ih i t u h1 h2
/-- the byte at a token's place, by its kind -/
def headOk (k : Int) (c : UInt8) : Prop := (k = 2 ∧ c.toNat = 123) ∨ (k = 3 ∧ c.toNat = 125) ∨ (k = 1 ∧ c.toNat = 92) ∨ (k = 0 ∧ blank c = false ∧ c.toNat ≠ 123 ∧ c.toNat ≠ 125 ∧ c.toNat ≠ 37)
theorem head_ok {x : Pc} (hx : fit x.2 x.1) (h : isTok x.2 = true) (p : Nat) {t : Tok} (ht : tokOf p x.2 = [t]) : ∃ c q, x.1 = c :: q ∧ headOk t.kind c := by
  obtain ⟨b, k⟩ := x
  cases k with
  | blank => cases h
  | remark => cases h
  | opn => injection ht with ht _; subst ht; exact ⟨123, [], hx, .inl ⟨rfl, rfl⟩⟩
  | cls => injection ht with ht _; subst ht; exact ⟨125, [], hx, .inr (.inl ⟨rfl, rfl⟩)⟩
  | cmd s => injection ht with ht _; subst ht; exact ⟨92, s, hx.1, .inr (.inr (.inl ⟨rfl, rfl⟩))⟩
  | wrd s =>
    injection ht with ht _
    subst ht
    obtain ⟨hb, hw⟩ := hx
    simp only [] at hb hw
    cases hw with
    | nil => exact absurd rfl hb
    | esc hd hw => exact ⟨92, _, rfl, .inr (.inr (.inr ⟨rfl, by decide, by decide, by decide, by decide⟩))⟩
    | plain hc hw =>
      have hp := ends_parts hc
      have := of_decide_eq_false hp.1
      exact ⟨_, _, rfl, .inr (.inr (.inr ⟨rfl, hp.2, by omega, by omega, by omega⟩))⟩
theorem place_at {s : List UInt8} (h : lexOk s = true) {i : Nat} (hi : i < (lexL s).length) :
    ∃ (n : Nat) (t : Tok) (c : UInt8), (lexL s)[i]? = some t ∧ t.loc = (n : Int) ∧ n < s.length ∧ s[n]? = some c ∧ headOk t.kind c ∧ lexOk (s.take n) = true ∧ lexL (s.take n) = (lexL s).take i := by
  obtain ⟨ps, g1, g2, g3, g4⟩ := lex_has h
  rw [g3] at hi
  obtain ⟨a, x, b, e1, e2, e3, e4⟩ := split_at ps 0 i hi
  obtain ⟨t, ht, hl⟩ := tok_one (0 + (flat a).length) e2
  have hs : s = flat a ++ flat (x :: b) := by rw [← g2, e1, flat_append]
  rw [e1] at g1
  obtain ⟨c, q, hc, hk⟩ := head_ok (g1.1 x (by simp)) e2 _ ht
  have htake : s.take (flat a).length = flat a := by rw [hs]; simp
  obtain ⟨i1, i2⟩ := lex_of g1.left (s := flat a) rfl (edge g1 e2 (by rw [flat_append, ← hs]; exact g4)).1
  refine ⟨(flat a).length, t, c, by rw [g3, e4, ht]; rfl, by rw [hl]; omega, ?_, ?_, hk, by rw [htake]; exact i1, ?_⟩
  · rw [hs, flat_cons, hc]; simp
  · rw [hs, flat_cons, hc]; simp
  · rw [htake, i2, g3, e1, toks_append, ← e3]; simp
theorem place_rises {s : List UInt8} (h : lexOk s = true) {i : Nat} {t u : Tok} (h1 : (lexL s)[i]? = some t) (h2 : (lexL s)[i + 1]? = some u) : t.loc < u.loc := by
  obtain ⟨ps, g1, g2, g3, g4⟩ := lex_has h
  rw [g3] at h1 h2
  exact loc_rises ps 0 g1.1 i t u h1 h2
end Go.Proofs.Ytimpadooknclkaa.Lx
