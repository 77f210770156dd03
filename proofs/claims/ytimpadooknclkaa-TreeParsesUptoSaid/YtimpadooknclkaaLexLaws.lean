/-
  The plain mathematics of package lexer, fourth part: what is read may be, what may be is read from its print, gaps, places, parts, words.
-/
import Derived.Test.YtimpadooknclkaaClean
set_option linter.unusedVariables false
set_option linter.unusedSimpArgs false
namespace Go.Proofs.Ytimpadooknclkaa.Lx

def mayT (t : Tok) : Bool :=
  if t.kind = 0 then !t.text.isEmpty && (Ut.clean t.text && t.text.all fun c => !blank c)
  else if t.kind = 1 then !t.text.isEmpty && t.text.all alpha
  else if t.kind = 2 ∨ t.kind = 3 then t.text.isEmpty else false
def may (l : List Tok) : Bool := l.all mayT
def plain (t : Tok) : Tok := ⟨t.kind, t.text, 0⟩
def pcT (t : Tok) : Pc := if t.kind = 0 then (escape t.text, .wrd t.text) else if t.kind = 1 then (92 :: t.text, .cmd t.text) else if t.kind = 2 then ([123], .opn) else ([125], .cls)
def pcs : List Tok → List Pc
  | [] => []
  | [t] => [pcT t]
  | t :: u :: r => pcT t :: ([32], .blank) :: pcs (u :: r)
def prs (l : List Tok) : List UInt8 := flat (pcs l)
def print (l : List Tok) : List UInt8 := if may l then prs l else []
def lexOk (s : List UInt8) : Bool := Ut.clean s && (lex 0 s).2.isNone
def lexL (s : List UInt8) : List Tok := if lexOk s then (lex 0 s).1 else []
def lexC (s : List UInt8) : Int := if Ut.clean s then (if (lex 0 s).2.isNone then 0 else 50) else 40
def lexA (s : List UInt8) : Int := if Ut.clean s then (match (lex 0 s).2 with | none => 0 | some p => (p : Int)) else (Ut.stop s : Int)
theorem lex_yes {s : List UInt8} (h : lexOk s = true) : Ut.clean s = true ∧ (lex 0 s).2 = none ∧ lexL s = (lex 0 s).1 ∧ lexC s = 0 ∧ lexA s = 0 := by
  have h0 := h
  unfold lexOk at h
  rw [Bool.and_eq_true, Option.isNone_iff_eq_none] at h
  refine ⟨h.1, h.2, by unfold lexL; rw [if_pos h0], by unfold lexC; rw [h.1, h.2]; rfl, by unfold lexA; rw [h.1, h.2]; rfl⟩
theorem lex_no {s : List UInt8} (h : lexOk s = false) : lexL s = [] ∧ lexC s ≠ 0 := by
  have h0 := h
  unfold lexOk at h
  refine ⟨by unfold lexL; rw [h0]; rfl, ?_⟩
  unfold lexC
  cases hc : Ut.clean s with
  | false => simp
  | true =>
    rw [hc, Bool.true_and] at h
    rw [h]; simp

/-! ### kinds alone -/
def kinds (ps : List Pc) : List Tok := ps.flatMap fun x => tokOf 0 x.2
theorem tok_plain (p : Nat) (k : Kd) : (tokOf p k).map plain = tokOf 0 k := by cases k <;> rfl
theorem toks_plain : ∀ (ps : List Pc) (p : Nat), (toks p ps).map plain = kinds ps
  | [], p => rfl
  | x :: r, p => by rw [toks, List.map_append, tok_plain, toks_plain r]; rfl
theorem kinds_append (a b : List Pc) : kinds (a ++ b) = kinds a ++ kinds b := by simp [kinds]
theorem lex_of {s : List UInt8} {ps : List Pc} (hg : Good ps) (hs : flat ps = s) (hc : Ut.clean s = true) : lexOk s = true ∧ lexL s = toks 0 ps := by
  have h := lex_good ps 0 hg
  rw [hs] at h
  have hok : lexOk s = true := by unfold lexOk; rw [hc, h]; rfl
  exact ⟨hok, by rw [(lex_yes hok).2.2.1, h]⟩
theorem lex_has {s : List UInt8} (h : lexOk s = true) : ∃ ps, Good ps ∧ flat ps = s ∧ lexL s = toks 0 ps ∧ Ut.clean s = true := by
  obtain ⟨h1, h2, h3, _⟩ := lex_yes h
  obtain ⟨ps, g1, g2⟩ := lex_pieces s.length s 0 (Nat.le_refl _) h2
  exact ⟨ps, g1, g2, (lex_of g1 g2 h1).2, h1⟩

/-! ### what may be is read from its print -/
theorem alpha_all {t : List UInt8} (h : t.all alpha = true) : ∀ c ∈ t, alpha c = true := List.all_eq_true.1 h
theorem clean_low : ∀ t : List UInt8, (∀ c ∈ t, c.toNat < 128) → Ut.clean t = true
  | [], _ => by decide
  | c :: t, h => clean_app (a := [c]) (clean_byte (h c (List.mem_cons_self ..))) (clean_low t (fun d hd => h d (List.mem_cons_of_mem _ hd)))
theorem may_cases {t : Tok} (h : mayT t = true) :
    (t.kind = 0 ∧ t.text ≠ [] ∧ Ut.clean t.text = true ∧ (∀ c ∈ t.text, blank c = false)) ∨ (t.kind = 1 ∧ t.text ≠ [] ∧ ∀ c ∈ t.text, alpha c = true) ∨ (t.kind = 2 ∧ t.text = []) ∨ (t.kind = 3 ∧ t.text = []) := by
  unfold mayT at h
  split at h
  · rename_i h0
    simp only [Bool.and_eq_true, Bool.not_eq_true', List.isEmpty_eq_false_iff, List.all_eq_true] at h
    exact .inl ⟨h0, h.1, h.2.1, fun c hc => by simpa using h.2.2 c hc⟩
  · split at h
    · rename_i h0
      simp only [Bool.and_eq_true, Bool.not_eq_true', List.isEmpty_eq_false_iff, List.all_eq_true] at h
      exact .inr (.inl ⟨h0, h.1, h.2⟩)
    · split at h
      · rename_i h0
        rw [List.isEmpty_iff] at h
        exact h0.elim (fun e => .inr (.inr (.inl ⟨e, h⟩))) (fun e => .inr (.inr (.inr ⟨e, h⟩)))
      · cases h
theorem may_word {k : Int} {t : List UInt8} {a : Int} (hk : k = 0) (h1 : t ≠ []) (h2 : Ut.clean t = true) (h3 : ∀ c ∈ t, blank c = false) : mayT ⟨k, t, a⟩ = true := by
  unfold mayT
  rw [if_pos hk]
  simp only [Bool.and_eq_true, Bool.not_eq_true', List.isEmpty_eq_false_iff, List.all_eq_true]
  exact ⟨h1, h2, fun c hc => by simp [h3 c hc]⟩
theorem may_cmd {k : Int} {t : List UInt8} {a : Int} (hk : k = 1) (h1 : t ≠ []) (h2 : ∀ c ∈ t, alpha c = true) : mayT ⟨k, t, a⟩ = true := by
  unfold mayT
  rw [if_neg (by simp only []; omega), if_pos hk]
  simp only [Bool.and_eq_true, Bool.not_eq_true', List.isEmpty_eq_false_iff, List.all_eq_true]
  exact ⟨h1, h2⟩
theorem pcT_is {t : Tok} (h : mayT t = true) : fit (pcT t).2 (pcT t).1 ∧ tokOf 0 (pcT t).2 = [plain t] ∧ Ut.clean (pcT t).1 = true := by
  obtain ⟨k, t, a⟩ := t
  rcases may_cases h with ⟨h0, h1, h2, h3⟩ | ⟨h0, h1, h2⟩ | ⟨h0, h1⟩ | ⟨h0, h1⟩
  · simp only [] at h0 h1 h2 h3
    subst h0
    exact ⟨⟨escape_ne h1, escape_wd t.length t (Nat.le_refl _) h3⟩, rfl, escape_clean h2⟩
  · simp only [] at h0 h1 h2
    subst h0
    refine ⟨⟨rfl, h1, h2⟩, rfl, clean_low _ (fun c hc => ?_)⟩
    have e : (pcT ⟨1, t, a⟩).1 = 92 :: t := rfl
    rw [e] at hc
    rcases List.mem_cons.1 hc with rfl | hc
    · decide
    · exact (alpha_not (h2 c hc)).2.2.2.2.1
  · simp only [] at h0 h1
    subst h0 h1
    exact ⟨rfl, rfl, by show Ut.clean [123] = true; exact clean_byte (by decide)⟩
  · simp only [] at h0 h1
    subst h0 h1
    exact ⟨rfl, rfl, by show Ut.clean [125] = true; exact clean_byte (by decide)⟩
theorem fol_blank (k : Kd) (c : UInt8) (hk : k ≠ .remark) (hc : blank c = true) : fol k ([c], .blank) := by
  cases k with
  | remark => exact absurd rfl hk
  | cmd t =>
    intro d r e
    simp only [] at e
    injection e with e _
    subst e
    cases ha : alpha c with
    | false => rfl
    | true => rw [(alpha_not ha).2.1] at hc; cases hc
  | wrd t => intro t' h; cases h
  | blank => trivial
  | opn => trivial
  | cls => trivial
def isTok : Kd → Bool
  | .blank => false
  | .remark => false
  | _ => true
theorem pcT_tok (t : Tok) : isTok (pcT t).2 = true := by
  unfold pcT
  split
  · rfl
  · split
    · rfl
    · split <;> rfl
theorem tok_not_remark {k : Kd} (h : isTok k = true) : k ≠ .remark ∧ k ≠ .blank := by
  constructor <;> intro e <;> rw [e] at h <;> cases h
theorem pcs_is : ∀ (l : List Tok), may l = true → Good (pcs l) ∧ kinds (pcs l) = l.map plain ∧ Ut.clean (prs l) = true
  | [], _ => ⟨good_nil, rfl, by decide⟩
  | [t], h => by
    have ht : mayT t = true := by simpa [may] using h
    obtain ⟨h1, h2, h3⟩ := pcT_is ht
    refine ⟨good_one h1, by show tokOf 0 (pcT t).2 ++ [] = _; rw [h2]; rfl, by show Ut.clean ((pcT t).1 ++ []) = true; rw [List.append_nil]; exact h3⟩
  | t :: u :: r, h => by
    have h' : mayT t = true ∧ may (u :: r) = true := by
      unfold may at h
      rw [List.all_cons, Bool.and_eq_true] at h
      exact h
    obtain ⟨h1, h2, h3⟩ := pcT_is h'.1
    obtain ⟨i1, i2, i3⟩ := pcs_is (u :: r) h'.2
    have hb : blank 32 = true := by decide
    refine ⟨good_cons h1 (good_cons (x := ([32], .blank)) ⟨32, rfl, hb⟩ i1 (fun y b e => trivial)) (fun y b e => ?_), ?_, ?_⟩
    · injection e with e _
      rw [← e]
      exact fol_blank _ 32 (tok_not_remark (pcT_tok t)).1 hb
    · show tokOf 0 (pcT t).2 ++ ([] ++ kinds (pcs (u :: r))) = _
      rw [h2, i2]; rfl
    · show Ut.clean ((pcT t).1 ++ ([32] ++ prs (u :: r))) = true
      exact clean_app h3 (clean_app (clean_byte (by decide)) i3)
theorem back (l : List Tok) (h : may l = true) : lexOk (prs l) = true ∧ (lexL (prs l)).map plain = l.map plain := by
  obtain ⟨h1, h2, h3⟩ := pcs_is l h
  obtain ⟨i1, i2⟩ := lex_of h1 rfl h3
  exact ⟨i1, by show (lexL (flat (pcs l))).map plain = _; rw [i2, toks_plain, h2]⟩
theorem may_plain (l : List Tok) : may (l.map plain) = may l := by
  unfold may
  rw [List.all_map]
  rfl

/-! ### a piece that is a token parts what is ahead of it -/
theorem first_low {y : Pc} (h : fit y.2 y.1) (hk : ∀ t, y.2 ≠ .wrd t) : ∃ c q, y.1 = c :: q ∧ c.toNat < 128 := by
  obtain ⟨b, k⟩ := y
  cases k with
  | blank =>
    obtain ⟨c, e, hc⟩ := h
    have := of_decide_eq_true hc
    exact ⟨c, [], e, by omega⟩
  | remark => obtain ⟨r, e, _⟩ := h; exact ⟨37, r, e, by decide⟩
  | opn => exact ⟨123, [], h, by decide⟩
  | cls => exact ⟨125, [], h, by decide⟩
  | cmd t => exact ⟨92, t, h.1, by decide⟩
  | wrd t => exact absurd rfl (hk t)
theorem last_low {z : Pc} (h : fit z.2 z.1) (hk : ∀ t, z.2 ≠ .wrd t) (hr : z.2 ≠ .remark) : ∃ q c, z.1 = q ++ [c] ∧ c.toNat < 128 := by
  obtain ⟨b, k⟩ := z
  cases k with
  | blank =>
    obtain ⟨c, e, hc⟩ := h
    have := of_decide_eq_true hc
    exact ⟨[], c, e, by omega⟩
  | remark => exact absurd rfl hr
  | opn => exact ⟨[], 123, h, by decide⟩
  | cls => exact ⟨[], 125, h, by decide⟩
  | cmd t =>
    obtain ⟨e, h1, h2⟩ := h
    rcases List.eq_nil_or_concat t with rfl | ⟨t', c, rfl⟩
    · exact absurd rfl h1
    · exact ⟨92 :: t', c, by rw [e]; simp, (alpha_not (h2 c (by simp))).2.2.2.2.1⟩
  | wrd t => exact absurd rfl (hk t)
theorem edge {a : List Pc} {y : Pc} {b : List Pc} (hg : Good (a ++ y :: b)) (hy : isTok y.2 = true) (hc : Ut.clean (flat (a ++ y :: b)) = true) : Ut.clean (flat a) = true ∧ Ut.clean (flat (y :: b)) = true := by
  rw [flat_append] at hc
  rcases List.eq_nil_or_concat a with rfl | ⟨a', z, ea⟩
  · exact ⟨by decide, hc⟩
  · rw [List.concat_eq_append] at ea
    subst ea
    have hz := hg.1 z (by simp)
    have hfy := hg.1 y (by simp)
    have hf := hg.2 a' z y b (by simp)
    have hnr : z.2 ≠ .remark := by
      intro e
      rw [e] at hf
      simp only [fol] at hf
      rw [hf] at hy
      cases hy
    by_cases hw : ∃ t, z.2 = .wrd t
    · obtain ⟨t, ht⟩ := hw
      rw [ht] at hf
      obtain ⟨c, q, e1, e2⟩ := first_low hfy hf
      rw [flat_cons, e1, List.cons_append] at hc ⊢
      have := clean_cut hc e2
      exact ⟨this.1, this.2.1⟩
    · obtain ⟨q, c, e1, e2⟩ := last_low hz (fun t e => hw ⟨t, e⟩) hnr
      have e3 : flat (a' ++ [z]) = (flat a' ++ q) ++ [c] := by rw [flat_append]; show flat a' ++ (z.1 ++ []) = _; rw [e1]; simp
      rw [e3] at hc ⊢
      rw [List.append_assoc] at hc
      have := clean_cut hc e2
      exact ⟨clean_app this.1 (clean_byte e2), this.2.2⟩
/-- a word's bytes are letters -/
theorem word_part {a : List Pc} {w : List UInt8} {t : List UInt8} {b : List Pc} (hg : Good (a ++ (w, .wrd t) :: b)) (hc : Ut.clean (flat (a ++ (w, .wrd t) :: b)) = true) : Ut.clean w = true := by
  have h := (edge hg rfl hc).2
  rw [flat_cons] at h
  cases b with
  | nil =>
    have e : flat ([] : List Pc) = [] := rfl
    rw [e, List.append_nil] at h
    exact h
  | cons y b =>
    have hf := hg.2 a (w, .wrd t) y b rfl
    obtain ⟨c, q, e1, e2⟩ := first_low (hg.1 y (by simp)) hf
    rw [flat_cons, e1, List.cons_append] at h
    exact (clean_cut h e2).1
theorem good_may {ps : List Pc} (hg : Good ps) (hc : Ut.clean (flat ps) = true) (p : Nat) : may (toks p ps) = true := by
  have key : ∀ x ∈ ps, ∀ q, may (tokOf q x.2) = true := by
    intro x hx q
    have hfit := hg.1 x hx
    obtain ⟨a, b, e⟩ := List.append_of_mem hx
    obtain ⟨w, k⟩ := x
    cases k with
    | blank => rfl
    | remark => rfl
    | opn => rfl
    | cls => rfl
    | cmd t =>
      show may [⟨1, t, q⟩] = true
      unfold may
      rw [List.all_cons, may_cmd rfl hfit.2.1 hfit.2.2]; rfl
    | wrd t =>
      rw [e] at hg hc
      have hw := word_part hg hc
      show may [⟨0, t, q⟩] = true
      unfold may
      rw [List.all_cons, may_word rfl (wd_nonempty hfit.2 hfit.1) (wd_clean hfit.2 hw) (wd_blank hfit.2)]; rfl
  clear hg hc
  induction ps generalizing p with
  | nil => rfl
  | cons x r ih =>
    have h1 := key x (List.mem_cons_self ..) p
    have h2 := ih (p + x.1.length) (fun y hy => key y (List.mem_cons_of_mem _ hy))
    unfold may at h1 h2 ⊢
    rw [toks, List.all_append, h1, h2]; rfl
theorem read_may {s : List UInt8} (h : lexOk s = true) : may (lexL s) = true := by
  obtain ⟨ps, g1, g2, g3, g4⟩ := lex_has h
  rw [g3]
  exact good_may g1 (by rw [g2]; exact g4) 0

/-! ### of two sources, one behind the other -/
theorem parts {s t : List UInt8} (hs : lexOk s = true) (ht : lexOk t = true) : lexOk (s ++ 10 :: t) = true ∧ (lexL (s ++ 10 :: t)).map plain = (lexL s).map plain ++ (lexL t).map plain := by
  obtain ⟨ps, g1, g2, g3, g4⟩ := lex_has hs
  obtain ⟨qs, k1, k2, k3, k4⟩ := lex_has ht
  have hb : blank 10 = true := by decide
  have hg : Good (ps ++ ([10], .blank) :: qs) := g1.append (good_cons (x := ([10], .blank)) ⟨10, rfl, hb⟩ k1 (fun y b e => trivial)) (fun a x y b e1 e2 => by
    injection e2 with e2 _
    rw [← e2]
    by_cases hr : x.2 = .remark
    · rw [hr]; rfl
    · exact fol_blank _ 10 hr hb)
  have hf : flat (ps ++ ([10], .blank) :: qs) = s ++ 10 :: t := by rw [flat_append, flat_cons, g2, k2]; rfl
  obtain ⟨i1, i2⟩ := lex_of hg hf (clean_app g4 (clean_app (a := [10]) (clean_byte (by decide)) k4))
  refine ⟨i1, ?_⟩
  rw [i2, g3, k3, toks_plain, toks_plain, toks_plain, kinds_append]
  rfl

/-! ### a word -/
theorem word_read {s : List UInt8} (h : mayT ⟨0, s, 0⟩ = true) : lexOk (escape s) = true ∧ lexL (escape s) = [⟨0, s, 0⟩] := by
  obtain ⟨h1, h2, h3⟩ := pcT_is h
  have e : pcT ⟨0, s, 0⟩ = (escape s, .wrd s) := rfl
  rw [e] at h1 h3
  have hf : flat [(escape s, Kd.wrd s)] = escape s := by show escape s ++ [] = _; rw [List.append_nil]
  obtain ⟨i1, i2⟩ := lex_of (good_one (x := (escape s, .wrd s)) h1) hf h3
  exact ⟨i1, i2⟩
end Go.Proofs.Ytimpadooknclkaa.Lx
