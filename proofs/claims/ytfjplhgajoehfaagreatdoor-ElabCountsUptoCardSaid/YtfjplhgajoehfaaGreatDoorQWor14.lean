/-
  What the visits keep of words and of numbers (plain mathematics): the words of a side are those that stand in its texts; there are as many chunks, paragraphs, lines, notes and labels as there are such commands.
  The reference's deep, Depth, plain, May (of nodes).
  The reference's plain, Depth, May (of nodes).
-/
import Derived.Deep.RegionHeld3
import Derived.Test.YtfjplhgajoehfaaGreatDoorQNin14
set_option linter.unusedVariables false
set_option linter.unusedSimpArgs false
namespace Go.Proofs.YtfjplhgajoehfaaGreatDoor.El
open Go.Proofs.YtfjplhgajoehfaaGreatDoor

/-! ### the law's own text, down to a depth -/
mutual
/-- the words of nodes that stand in texts -/
def txtL (d : Nat) : List Nd → List Txt
  | [] => []
  | n :: r => txtN d n ++ txtL d r
def txtN (d : Nat) : Nd → List Txt
  | .mk c x a _ => (if c = false then [x] else []) ++ (if x = tLabel ∨ x = tSet then [] else match d with
    | 0 => []
    | d + 1 => txtA d x a 0)
/-- of the arguments behind the k-th one -/
def txtA (d : Nat) (x : Txt) : List (List Nd) → Nat → List Txt
  | [], _ => []
  | g :: r, k => if k = 0 ∨ x ≠ tEd then txtL d g ++ txtA d x r (k + 1) else []
end
/-! ### words have no arguments, the depth is at most so much -/
mutual
def plainN : Nd → Bool
  | .mk c _ a _ => (c || a.isEmpty) && plainA a
def plainA : List (List Nd) → Bool
  | [] => true
  | g :: r => plainL g && plainA r
def plainL : List Nd → Bool
  | [] => true
  | n :: r => plainN n && plainL r
end
mutual
def fitN (d : Nat) : Nd → Bool
  | .mk _ _ a _ => match d with
    | 0 => a.isEmpty
    | d + 1 => fitA d a
def fitA (d : Nat) : List (List Nd) → Bool
  | [] => true
  | g :: r => fitL d g && fitA d r
def fitL (d : Nat) : List Nd → Bool
  | [] => true
  | n :: r => fitN d n && fitL d r
end
theorem plain_arg : ∀ {a : List (List Nd)} {k : Nat} {g : List Nd}, plainA a = true → a[k]? = some g → plainL g = true
  | [], k, g, _, h => by cases h
  | x :: r, 0, g, hp, h => by
    unfold plainA at hp
    simp only [Bool.and_eq_true] at hp
    cases h
    exact hp.1
  | x :: r, k + 1, g, hp, h => by
    unfold plainA at hp
    simp only [Bool.and_eq_true] at hp
    exact plain_arg hp.2 h
theorem fit_arg {d : Nat} : ∀ {a : List (List Nd)} {k : Nat} {g : List Nd}, fitA d a = true → a[k]? = some g → fitL d g = true
  | [], k, g, _, h => by cases h
  | x :: r, 0, g, hp, h => by
    unfold fitA at hp
    simp only [Bool.and_eq_true] at hp
    cases h
    exact hp.1
  | x :: r, k + 1, g, hp, h => by
    unfold fitA at hp
    simp only [Bool.and_eq_true] at hp
    exact fit_arg hp.2 h
/-- what an operation adds to the words, if its nodes are plain and no deeper than d -/
def Adds (op : Op) : Prop := ∀ d s n s', plainN n = true → fitN d n = true → op s n = .ok s' → s'.words = s.words ++ txtN d n
theorem visit_adds {op : Op} (h : Adds op) : ∀ (l : List Nd) (d : Nat) (s s' : St), plainL l = true → fitL d l = true → visit op s l = .ok s' → s'.words = s.words ++ txtL d l
  | [], d, s, s', _, _, e => by cases e; unfold txtL; simp
  | n :: r, d, s, s', hp, hf, e => by
    unfold plainL at hp
    unfold fitL at hf
    simp only [Bool.and_eq_true] at hp hf
    have e2 : (op s n).then (fun s1 => visit op s1 r) = .ok s' := e
    obtain ⟨s1, h1, h2⟩ := then_ok' e2
    rw [visit_adds h r d s1 s' hp.2 hf.2 h2, h d s n s1 hp.1 hf.1 h1, List.append_assoc]
    simp only [txtL]
/-- a command of one argument that is visited -/
theorem txt_one {d : Nat} {n : Nd} (hc : isCmd n = true) (ha : (args n).length = 1) (hl : text n ≠ tLabel) (hs : text n ≠ tSet) (hp : plainN n = true) (hf : fitN d n = true) : ∃ d', plainL (argN n 0) = true ∧ fitL d' (argN n 0) = true ∧ txtN d n = txtL d' (argN n 0) := by
  obtain ⟨c, x, a, p⟩ := n
  have hc : c = true := hc
  have hl : x ≠ tLabel := hl
  have hs : x ≠ tSet := hs
  match a, ha with
  | [g], _ =>
    subst hc
    unfold plainN plainA at hp
    simp only [Bool.and_eq_true] at hp
    cases d with
    | zero => unfold fitN at hf; simp at hf
    | succ d =>
      unfold fitN fitA at hf
      simp only [Bool.and_eq_true] at hf
      refine ⟨d, hp.2.1, hf.1, ?_⟩
      have hh : ¬ (x = tLabel ∨ x = tSet) := by rintro (h | h); exact hl h; exact hs h
      simp [txtN, txtA, argN, args, hh]
/-- a lemma: its first argument -/
theorem txt_ed {d : Nat} {n : Nd} (hc : isCmd n = true) (ha : (args n).length = 2) (hx : text n = tEd) (hp : plainN n = true) (hf : fitN d n = true) : ∃ d', plainL (argN n 0) = true ∧ fitL d' (argN n 0) = true ∧ txtN d n = txtL d' (argN n 0) := by
  obtain ⟨c, x, a, p⟩ := n
  have hc : c = true := hc
  have hx : x = tEd := hx
  match a, ha with
  | [g, g2], _ =>
    subst hc hx
    unfold plainN plainA at hp
    simp only [Bool.and_eq_true] at hp
    cases d with
    | zero => unfold fitN at hf; simp at hf
    | succ d =>
      unfold fitN fitA at hf
      simp only [Bool.and_eq_true] at hf
      refine ⟨d, hp.2.1, hf.1, ?_⟩
      have hh : ¬ (tEd = tLabel ∨ tEd = tSet) := by decide
      simp [txtN, txtA, argN, args, hh]
/-- a label, a number: no words -/
theorem txt_none {d : Nat} {n : Nd} (hc : isCmd n = true) (hx : text n = tLabel ∨ text n = tSet) : txtN d n = [] := by
  obtain ⟨c, x, a, p⟩ := n
  have hc : c = true := hc
  have hx2 : x = tLabel ∨ x = tSet := hx
  clear hx
  subst hc
  simp only [txtN]
  rw [if_pos hx2, if_neg (by simp)]
  rfl
theorem txt_word {d : Nat} {n : Nd} (hc : isCmd n = false) (hp : plainN n = true) : txtN d n = [text n] := by
  obtain ⟨c, x, a, p⟩ := n
  have hc : c = false := hc
  subst hc
  unfold plainN at hp
  simp only [Bool.false_or, Bool.and_eq_true] at hp
  have ha : a = [] := List.isEmpty_iff.1 hp.1
  subst ha
  unfold txtN
  rw [if_pos rfl]
  show [x] ++ _ = [x]
  split
  · rfl
  · cases d <;> rfl
/-- a take: words, commands by their rules -/
theorem take_adds {wd : Option Op} {rules : Txt → Option (Nat × Op)} (hw : ∀ f, wd = some f → ∀ s n s', f s n = .ok s' → s'.words = s.words ++ [text n]) (hr : ∀ n k f, rules (text n) = some (k, f) → isCmd n = true → (args n).length = k → ∀ d s s', plainN n = true → fitN d n = true → f s n = .ok s' → s'.words = s.words ++ txtN d n) : Adds (take wd rules) := by
  intro d s n s' hp hf h
  unfold take at h
  cases hc : isCmd n with
  | false =>
    rw [hc, if_pos rfl] at h
    cases wd with
    | none => cases h
    | some f =>
      rw [txt_word hc hp]
      exact hw f rfl s n s' h
  | true =>
    rw [hc, if_neg (by simp)] at h
    cases hx : rules (text n) with
    | none => rw [hx] at h; cases h
    | some kf =>
      obtain ⟨k, f⟩ := kf
      rw [hx] at h
      simp only [] at h
      split at h
      · rename_i hk
        exact hr n k f hx hc hk d s s' hp hf h
      · cases h
/-- notes add no words -/
theorem WordsP : NoteP (fun s s' => s'.words = s.words) where
  hr := fun s => rfl
  ht := fun a b c h k => k.trans h
  said := fun s l => rfl
theorem foot_words (t : List Txt) (i : Nat) : Pres (fun s s' => s'.words = s.words) (footOp t i) := by
  intro s n s' e
  obtain ⟨s1, e1, e2⟩ := then_ok' e
  cases e2
  have h := visit_pres WordsP.hr WordsP.ht (note_pres WordsP t) _ _ _ e1
  exact h
theorem notes_words (t : List Txt) : Pres (fun s s' => s'.words = s.words) (notesTake t) :=
  take_pres (fun f hf => by cases hf) (fun x k f e => by
    unfold notesRules at e
    cases hs : series x with
    | none => rw [hs] at e; cases e
    | some i => rw [hs] at e; cases e; exact foot_words t i)
theorem textOf_adds (t : List Txt) {inner : St → List Nd → Res} (hi : ∀ d s l s', plainL l = true → fitL d l = true → inner s l = .ok s' → s'.words.length ≠ s.words.length → s'.words = s.words ++ txtL d l) : Adds (textOf t inner) :=
  take_adds (fun f hf => by
    cases hf
    intro s n s' e
    unfold wordOp at e
    split at e
    · cases e
    · cases e; rfl) (fun n k f e hc ha d s s' hp hf h => by
    unfold textRules at e
    split at e
    · rename_i hx
      cases e
      obtain ⟨d', h1, h2, h3⟩ := txt_ed hc ha hx hp hf
      obtain ⟨s1, e1, e2⟩ := then_ok' h
      split at e2
      · cases e2
      · rename_i hne
        have h4 := visit_pres WordsP.hr WordsP.ht (notes_words t) _ _ _ e2
        simp only [] at h4
        rw [h4, h3]
        exact hi d' _ _ _ h1 h2 e1 hne
    · split at e
      · rename_i hx
        cases e
        obtain ⟨x, _, e2⟩ := one_ok' h
        split at e2
        · cases e2
        · cases e2
          rw [txt_none hc (.inl hx), List.append_nil]
      · cases e)
theorem text_adds (t : List Txt) : ∀ k, Adds (textTake t k)
  | 0 => textOf_adds t (fun d s l s' _ _ e hne => by cases e; exact absurd rfl hne)
  | k + 1 => textOf_adds t (fun d s l s' hp hf e _ => visit_adds (text_adds t k) l d s s' hp hf e)
theorem line_adds (t : List Txt) (K : Nat) (n : Nd) (hc : isCmd n = true) (ha : (args n).length = 1) (hl : text n ≠ tLabel) (hs : text n ≠ tSet) (d : Nat) (s s' : St) (hp : plainN n = true) (hf : fitN d n = true) (e : lineOp t K s n = .ok s') : s'.words = s.words ++ txtN d n := by
  obtain ⟨d', h1, h2, h3⟩ := txt_one hc ha hl hs hp hf
  obtain ⟨s1, e1, e2⟩ := then_ok' e
  split at e2
  · cases e2
  · cases e2
    simp only []
    rw [h3]
    exact visit_adds (text_adds t K) _ d' _ _ h1 h2 e1
theorem stanza_adds (t : List Txt) (K : Nat) : Adds (stanzaTake t K) :=
  take_adds (fun f hf => by cases hf) (fun n k f e hc ha d s s' hp hf h => by
    unfold stanzaRules at e
    split at e
    · rename_i hx
      cases e
      exact line_adds t K n hc ha (by rw [hx]; decide) (by rw [hx]; decide) d s s' hp hf h
    · cases e)
theorem chunk_adds (t : List Txt) (K : Nat) : Adds (chunkTake t K) :=
  take_adds (fun f hf => by cases hf) (fun n k f e hc ha d s s' hp hf h => by
    unfold chunkRules at e
    split at e
    · rename_i hx
      cases e
      obtain ⟨s1, e1, e2⟩ := then_ok' h
      cases e2
      have h := line_adds t K n hc ha (by rw [hx]; decide) (by rw [hx]; decide) d { s with ends := [] } s1 hp hf e1
      exact h
    · split at e
      · rename_i hx
        cases e
        obtain ⟨d', h1, h2, h3⟩ := txt_one hc ha (by rw [hx]; decide) (by rw [hx]; decide) hp hf
        obtain ⟨s1, e1, e2⟩ := then_ok' h
        split at e2
        · cases e2
        · cases e2
          rw [h3]
          have h := visit_adds (stanza_adds t K) _ d' _ _ h1 h2 e1
          exact h
      · split at e
        · rename_i hx
          cases e
          obtain ⟨x, _, e2⟩ := one_ok' h
          split at e2
          · cases e2
          · cases e2
            rw [txt_none hc (.inr hx), List.append_nil]
        · cases e)
theorem side_adds (t : List Txt) (K : Nat) : Adds (sideTake t K) :=
  take_adds (fun f hf => by cases hf) (fun n k f e hc ha d s s' hp hf h => by
    unfold sideRules at e
    split at e
    · rename_i hx
      cases e
      obtain ⟨d', h1, h2, h3⟩ := txt_one hc ha (by rw [hx]; decide) (by rw [hx]; decide) hp hf
      obtain ⟨s1, e1, e2⟩ := then_ok' h
      split at e2
      · cases e2
      · cases e2
        rw [h3]
        have h := visit_adds (chunk_adds t K) _ d' _ _ h1 h2 e1
        exact h
    · cases e)
/-- all words of the sides, in order -/
def allW (l : List Side) : List Txt := l.flatMap (·.words)
theorem source_adds (t : List Txt) (K : Nat) : ∀ (l : List Nd) (d : Nat) (s s' : St), plainL l = true → fitL d l = true → visit (sourceTake t K) s l = .ok s' → allW s'.sides = allW s.sides ++ txtL d l
  | [], d, s, s', _, _, e => by cases e; simp [txtL]
  | n :: r, d, s, s', hp, hf, e => by
    unfold plainL at hp
    unfold fitL at hf
    simp only [Bool.and_eq_true] at hp hf
    have e2 : (sourceTake t K s n).then (fun s1 => visit (sourceTake t K) s1 r) = .ok s' := e
    obtain ⟨s1, h1, h2⟩ := then_ok' e2
    obtain ⟨k1, k2, k3, k4⟩ := source_one h1
    obtain ⟨d', g1, g2, g3⟩ := txt_one k2 k3 (by rcases k4 with h | h | h <;> rw [h] <;> decide) (by rcases k4 with h | h | h <;> rw [h] <;> decide) hp.1 hf.1
    obtain ⟨s2, e3, e4⟩ := then_ok' k1
    split at e4
    · cases e4
    · cases e4
      have w := visit_adds (side_adds t K) _ d' _ _ g1 g2 e3
      have h3 := visit_pres sidesP.hr sidesP.ht (side_pres sidesP t K) _ _ _ e3
      simp only [List.nil_append] at w h3
      rw [source_adds t K r d _ s' hp.2 hf.2 h2]
      simp only [txtL, allW, List.flatMap_append, List.flatMap_cons, List.flatMap_nil, List.append_nil]
      rw [h3, w, g3, List.append_assoc]
theorem words_made {t : List Txt} {K : Nat} {l : List Nd} {s : St} {d : Nat} (h : made t K l = .ok s) (hp : plainL l = true) (hf : fitL d l = true) : allW s.sides = txtL d l := by
  obtain ⟨s1, e1, e2⟩ := then_ok' h
  have h1 := source_adds t K l d _ _ hp hf e1
  have hs : checkRefs s1 = .ok s → s1 = s := fun e => by
    unfold checkRefs at e
    split at e
    · cases e
    · cases e; rfl
  have h2 : s1 = s := by
    unfold finish at e2
    split at e2
    · split at e2
      · exact hs e2
      · cases e2
    · split at e2
      · exact hs e2
      · cases e2
  subst h2
  simpa [St.none, allW] using h1
end Go.Proofs.YtfjplhgajoehfaaGreatDoor.El

set_option linter.unusedVariables false
set_option linter.unusedSimpArgs false
namespace Go.Proofs.YtfjplhgajoehfaaGreatDoor
open Go.RowKit

namespace El
def dA (f : List Nd → Nat) : List (List Nd) → Nat → Nat
  | [], acc => acc
  | g :: r, acc => dA f r (max acc (1 + f g))
def dL (f : List Nd → Nat) : List Nd → Nat → Nat
  | [], acc => acc
  | n :: r, acc => dL f r (dA f (args n) acc)
def deepM : Nat → List Nd → Nat
  | 0, _ => 0
  | m + 1, l => dL (deepM m) l 0
theorem dA_ge (f : List Nd → Nat) : ∀ (a : List (List Nd)) (acc : Nat), acc ≤ dA f a acc
  | [], acc => Nat.le_refl _
  | g :: r, acc => Nat.le_trans (Nat.le_max_left _ _) (dA_ge f r _)
theorem dL_ge (f : List Nd → Nat) : ∀ (a : List Nd) (acc : Nat), acc ≤ dL f a acc
  | [], acc => Nat.le_refl _
  | n :: r, acc => Nat.le_trans (dA_ge f _ _) (dL_ge f r _)
theorem dA_le {f : List Nd → Nat} {m : Nat} (hf : ∀ g, f g ≤ m) : ∀ (a : List (List Nd)) (acc : Nat), acc ≤ m + 1 → dA f a acc ≤ m + 1
  | [], acc, h => h
  | g :: r, acc, h => dA_le hf r _ (by have := hf g; omega)
theorem dL_le {f : List Nd → Nat} {m : Nat} (hf : ∀ g, f g ≤ m) : ∀ (a : List Nd) (acc : Nat), acc ≤ m + 1 → dL f a acc ≤ m + 1
  | [], acc, h => h
  | n :: r, acc, h => dL_le hf r _ (dA_le hf _ _ h)
theorem deepM_le : ∀ (m : Nat) (l : List Nd), deepM m l ≤ m
  | 0, l => Nat.le_refl _
  | m + 1, l => dL_le (deepM_le m) l 0 (by omega)
theorem fitA_of {m d : Nat} (ih : ∀ l, deepM m l ≤ d → fitL d l = true) : ∀ (a : List (List Nd)) (acc : Nat), dA (deepM m) a acc ≤ d + 1 → fitA d a = true
  | [], acc, _ => by unfold fitA; rfl
  | g :: r, acc, h => by
    have h1 := dA_ge (deepM m) r (max acc (1 + deepM m g))
    have h0 : dA (deepM m) r (max acc (1 + deepM m g)) ≤ d + 1 := h
    unfold fitA
    rw [ih g (by omega), fitA_of ih r _ h0]
    rfl
theorem fit_of : ∀ (m d : Nat) (l : List Nd), d < m → deepM m l ≤ d → fitL d l = true
  | 0, d, l, h, _ => by omega
  | m + 1, d, l, h, hd => by
    have key : ∀ (l : List Nd) (acc : Nat), dL (deepM m) l acc ≤ d → fitL d l = true := by
      intro l
      induction l with
      | nil => intro acc _; unfold fitL; rfl
      | cons n r ihl =>
        intro acc h2
        have h3 : dL (deepM m) r (dA (deepM m) (args n) acc) ≤ d := h2
        have h4 := dL_ge (deepM m) r (dA (deepM m) (args n) acc)
        unfold fitL
        rw [ihl _ h3, Bool.and_true]
        obtain ⟨c, x, a, p⟩ := n
        have h5 : dA (deepM m) a acc ≤ d := Nat.le_trans h4 h3
        cases d with
        | zero =>
          cases a with
          | nil => unfold fitN; rfl
          | cons g a =>
            have h6 : dA (deepM m) a (max acc (1 + deepM m g)) ≤ 0 := h5
            have h7 := dA_ge (deepM m) a (max acc (1 + deepM m g))
            omega
        | succ d =>
          unfold fitN
          exact fitA_of (fun l hl => fit_of m d l (by omega) hl) a acc h5
    exact key l 0 hd
end El
/-- the arguments of a node in memory -/
theorem node_get {w : World} {K : Nat → Prop} {v : Value} {l : List Nd} (h : NodesAt w K v l) {i : Nat} {n : Nd} (hi : l[i]? = some n) : ∃ b o cap, v = .slice (some ⟨b, o, none⟩) l.length cap ∧ ∃ pa ca, w.cell? ⟨b, o + i * 4, none⟩ = some (.bool (El.isCmd n)) ∧ w.cell? ⟨b, o + i * 4 + 1, none⟩ = some (.string (str (El.text n))) ∧ w.cell? ⟨b, o + i * 4 + 2, none⟩ = some (.slice pa (El.args n).length ca) ∧ w.cell? ⟨b, o + i * 4 + 3, none⟩ = some (.int .i64 (El.loc n)) ∧ ArgsAt w K (.slice pa (El.args n).length ca) (El.args n) := by
  have hlt := (List.getElem?_eq_some_iff.1 hi).1
  obtain ⟨_, _, h3⟩ := h
  obtain ⟨b, o, cap, e, _, hr⟩ := h3 (by omega)
  have hn := RowN.at hr hi
  obtain ⟨c, x, a, p⟩ := n
  unfold NdAt at hn
  obtain ⟨va, h0, h1, h2, h4, h5⟩ := hn
  have h6 := h5
  obtain ⟨⟨pa, ca, rfl, _⟩, _, _⟩ := h5
  exact ⟨b, o, cap, e, pa, ca, h0, h1, h2, h4, h6⟩
theorem arg_get {w : World} {K : Nat → Prop} {v : Value} {a : List (List Nd)} (h : ArgsAt w K v a) {k : Nat} {g : List Nd} (hk : a[k]? = some g) : ∃ b o cap, v = .slice (some ⟨b, o, none⟩) a.length cap ∧ ∃ vg, w.cell? ⟨b, o + k, none⟩ = some vg ∧ NodesAt w K vg g := by
  have hlt := (List.getElem?_eq_some_iff.1 hk).1
  obtain ⟨_, _, h3⟩ := h
  obtain ⟨b, o, cap, e, _, hr⟩ := h3 (by omega)
  exact ⟨b, o, cap, e, RowA.at hr hk⟩
theorem nodes_head {w : World} {K : Nat → Prop} {v : Value} {l : List Nd} (h : NodesAt w K v l) : ∃ a cap, v = .slice a l.length cap ∧ l.length ≤ maxLen := by
  obtain ⟨⟨a, cap, e, _⟩, hm, _⟩ := h
  exact ⟨a, cap, e, hm⟩
theorem drop_next14 {α : Type} {l : List α} {k : Nat} {x : α} (h : l[k]? = some x) : l.drop k = x :: l.drop (k + 1) := by
  obtain ⟨hl, hx⟩ := List.getElem?_eq_some_iff.1 h
  rw [List.drop_eq_getElem_cons hl, hx]
set_option maxHeartbeats 4000000 in
set_option maxRecDepth 100000 in
theorem deep_any : ∀ (m : Nat) (K : Nat → Prop) (v : Value) (l : List Nd) (w : World), m ≤ 200 → NodesAt w K v l → Calls Tryz.prog 25 #[v, .int .i64 (m : Int)] w (IsV (.int .i64 (El.deepM m l)) w) := by
  intro m
  induction m with
  | zero =>
    intro K v l w _ h
    obtain ⟨a, cap, rfl, hm⟩ := nodes_head h
    have hz : l.length ≤ 9223372036854775807 := by unfold maxLen at hm; omega
    generalize l.length = n at *
    have e0 : El.deepM 0 l = 0 := rfl
    rw [e0]
    clear h hm e0
    go_enter Tryz.func25, Tryz.ntmps25
    go_wp2_with fail
    go_loopw [5, 6] (fun dv iv wr => dv = .int .i64 0 ∧ iv = .int .i64 0 ∧ wr = w) (fun _ _ _ => 0)
    case atStart => exact ⟨rfl, rfl, rfl⟩
    case round =>
      obtain ⟨rfl, rfl, rfl⟩ := hrel
      by_cases hp : 0 < n
      · have hp' : (0 : Int) < (n : Int) := by omega
        go_wp2
        go_ret
        exact ⟨rfl, rfl⟩
      · have hp' : ¬ (0 : Int) < (n : Int) := by omega
        go_wp2
        go_ret
        exact ⟨rfl, rfl⟩
  | succ m ih =>
    intro K v l w hm200 h
    have HA := Lib.hid h
    obtain ⟨pa, cp, rfl, hml⟩ := nodes_head h
    have hz : l.length ≤ 9223372036854775807 := by unfold maxLen at hml; omega
    obtain ⟨n, hn⟩ : ∃ n, n = l.length := ⟨_, rfl⟩
    have Hn := Lib.hid hn
    rw [← hn] at HA hz ⊢
    have HI := Lib.hid (fun v g h => ih K v g w (by omega) h)
    have HT0 : Hid (El.dL (El.deepM m) (l.drop 0) 0 = El.deepM (m + 1) l) := Lib.hid rfl
    have HTl := Lib.hid (El.deepM_le (m + 1) l)
    have HFl := Lib.hid (El.deepM_le m)
    obtain ⟨T, hT⟩ : ∃ T, T = El.deepM (m + 1) l := ⟨_, rfl⟩
    rw [← hT] at HT0 HTl ⊢
    obtain ⟨M, hM⟩ : ∃ M : Int, M = ((m + 1 : Nat) : Int) := ⟨_, rfl⟩
    have M0 : 0 < M := by omega
    have M1 : M ≤ 200 := by omega
    have HM : Hid (M - 1 = (m : Int)) := Lib.hid (by omega)
    rw [← hM]
    clear h hml hn ih hT hM
    go_enter Tryz.func25, Tryz.ntmps25
    go_wp2_with fail
    go_loopw [5, 6] (fun dv iv wr => ∃ i d : Nat, i ≤ n ∧ iv = .int .i64 i ∧ dv = .int .i64 d ∧ Hid (El.dL (El.deepM m) (l.drop i) d = T) ∧ wr = w) (fun _ iv _ => n - (intOf iv).toNat)
    case atStart => exact ⟨0, 0, Nat.zero_le _, rfl, rfl, HT0, rfl⟩
    case round =>
      obtain ⟨i, d, hi, rfl, rfl, HT, rfl⟩ := hrel
      clear HT0
      by_cases hlt : i < n
      · obtain ⟨x, hx⟩ : ∃ x, l[i]? = some x := ⟨_, List.getElem?_eq_getElem (by rw [← Hn.out]; exact hlt)⟩
        obtain ⟨b1, o1, c1, e1, pq, cq, y0, y1, y2, y3, hargs⟩ := node_get HA.out hx
        rw [← Hn.out] at e1
        obtain ⟨rfl, rfl⟩ : pa = some ⟨b1, o1, none⟩ ∧ cp = c1 := by injection e1 with a1 a2 a3; exact ⟨a1, a3⟩
        have HAr := Lib.hid hargs
        have ht := HT.out
        rw [drop_next14 hx] at ht
        have HU : Hid (El.dL (El.deepM m) (l.drop (i + 1)) (El.dA (El.deepM m) ((El.args x).drop 0) d) = T) := Lib.hid ht
        obtain ⟨na, hna⟩ : ∃ na, na = (El.args x).length := ⟨_, rfl⟩
        have Hna := Lib.hid hna
        rw [← hna] at y2 HAr
        have hza : na ≤ 9223372036854775807 := by rw [hna]; have := hargs.2.1; unfold maxLen at this; omega
        have i0 : (0 : Int) ≤ (i : Int) := by omega
        have il : (i : Int) < (n : Int) := by omega
        clear e1 hx hargs ht hna y0 y1 y3 HT
        go_wp2_with fail
        go_loopw [5, 7] (fun dv kv wx => ∃ k d2 : Nat, k ≤ na ∧ kv = .int .i64 k ∧ dv = .int .i64 d2 ∧ Hid (El.dL (El.deepM m) (l.drop (i + 1)) (El.dA (El.deepM m) ((El.args x).drop k) d2) = T) ∧ wx = wr) (fun _ kv _ => na - (intOf kv).toNat)
        case atStart => exact ⟨0, d, Nat.zero_le _, rfl, rfl, HU, rfl⟩
        case round =>
          obtain ⟨k, d2, hk, rfl, rfl, HK, rfl⟩ := hrel
          clear HU
          by_cases hkl : k < na
          · obtain ⟨g, hg⟩ : ∃ g, (El.args x)[k]? = some g := ⟨_, List.getElem?_eq_getElem (by rw [← Hna.out]; exact hkl)⟩
            obtain ⟨b2, o2, c2, e2, vg, hvg, hgn⟩ := arg_get HAr.out hg
            rw [← Hna.out] at e2
            obtain ⟨rfl, rfl⟩ : pq = some ⟨b2, o2, none⟩ ∧ cq = c2 := by injection e2 with a1 a2 a3; exact ⟨a1, a3⟩
            have HCl := Lib.hid (HI.out vg g hgn)
            obtain ⟨ag, cg, rfl, _⟩ := nodes_head hgn
            rw [← HM.out] at HCl
            have ht := HK.out
            rw [drop_next14 hg] at ht
            have HN : Hid (El.dL (El.deepM m) (l.drop (i + 1)) (El.dA (El.deepM m) ((El.args x).drop (k + 1)) (max d2 (1 + El.deepM m g))) = T) := Lib.hid ht
            have hfl := HFl.out g
            have hd2 : d2 ≤ T := by
              rw [← ht]
              exact Nat.le_trans (Nat.le_trans (Nat.le_max_left _ _) (El.dA_ge _ _ _)) (El.dL_ge _ _ _)
            have hTl := HTl.out
            obtain ⟨q, hq⟩ : ∃ q, q = El.deepM m g := ⟨_, rfl⟩
            rw [← hq] at HCl HN hfl
            obtain ⟨mx, hmx⟩ : ∃ mx, mx = max d2 (1 + q) := ⟨_, rfl⟩
            rw [← hmx] at HN
            have hmi : max (d2 : Int) (1 + (q : Int)) = (mx : Int) := by omega
            have k0 : (0 : Int) ≤ (k : Int) := by omega
            have kl : (k : Int) < (na : Int) := by omega
            have q1 : (q : Int) ≤ 200 := by omega
            clear e2 hg hgn ht hq hmx hfl hd2 hTl
            go_wp2_with fail
            refine HCl.out.mono ?_
            rintro e w1 ⟨rfl, rfl⟩
            go_wp2
            go_roundw
            case rel => exact ⟨k + 1, mx, by omega, by go_num, by first | rfl | (rw [hmi]), HN, trivial⟩
            case measure => simp [intOf]; omega
          · have HN : Hid (El.dL (El.deepM m) (l.drop (i + 1)) d2 = T) := Lib.hid (by
              have := HK.out
              rw [show List.drop k (El.args x) = [] from List.drop_eq_nil_of_le (by rw [← Hna.out]; omega)] at this
              exact this)
            go_wp2
            go_roundw
            case rel => exact ⟨i + 1, d2, by omega, by go_num, rfl, HN, trivial⟩
            case measure => simp [intOf]; omega
      · have HE : Hid (d = T) := Lib.hid (by
          have := HT.out
          rw [show List.drop i l = [] from List.drop_eq_nil_of_le (by rw [← Hn.out]; omega)] at this
          exact this)
        go_wp2
        go_ret
        rw [HE.out]
        exact ⟨rfl, rfl⟩
end Go.Proofs.YtfjplhgajoehfaaGreatDoor

set_option linter.unusedVariables false
set_option linter.unusedSimpArgs false
namespace Go.Proofs.YtfjplhgajoehfaaGreatDoor
open Go.RowKit

namespace El
theorem plainN_eq (x : Nd) : plainN x = ((isCmd x || (args x).isEmpty) && plainA (args x)) := by
  obtain ⟨c, t, a, p⟩ := x
  unfold plainN
  rfl
theorem size_argN {x : Nd} {k : Nat} {g : List Nd} (h : (args x)[k]? = some g) : sizeL g < sizeN x := by
  obtain ⟨c, t, a, p⟩ := x
  have h : a[k]? = some g := h
  have key : ∀ (a : List (List Nd)) (k : Nat), a[k]? = some g → sizeL g < sizeA a := by
    intro a
    induction a with
    | nil => intro k h; cases h
    | cons y r ih =>
      intro k h
      unfold sizeA
      cases k with
      | zero => cases h; omega
      | succ k => have := ih k h; omega
  have := key a k h
  unfold sizeN
  omega
theorem size_nodeN : ∀ {l : List Nd} {i : Nat} {x : Nd}, l[i]? = some x → sizeN x ≤ sizeL l
  | [], i, x, h => by cases h
  | y :: r, 0, x, h => by cases h; unfold sizeL; omega
  | y :: r, i + 1, x, h => by have := size_nodeN (l := r) (i := i) h; unfold sizeL; omega
end El
set_option maxHeartbeats 4000000 in
set_option maxRecDepth 100000 in
theorem plain_any (z : Nat) : ∀ (K : Nat → Prop) (v : Value) (l : List Nd) (w : World), El.sizeL l < z → NodesAt w K v l → Calls Tryz.prog 35 #[v] w (IsV (.bool (El.plainL l)) w) := by
  induction z with
  | zero => intro K v l w h; omega
  | succ z ih =>
    intro K v l w hsz h
    have HA := Lib.hid h
    obtain ⟨pa, cp, rfl, hml⟩ := nodes_head h
    have hz : l.length ≤ 9223372036854775807 := by unfold maxLen at hml; omega
    obtain ⟨n, hn⟩ : ∃ n, n = l.length := ⟨_, rfl⟩
    have Hn := Lib.hid hn
    rw [← hn] at HA hz ⊢
    have HI : Hid (∀ (i k : Nat) (x : El.Nd) (g : List El.Nd) (v : Value), l[i]? = some x → (El.args x)[k]? = some g → NodesAt w K v g → Calls Tryz.prog 35 #[v] w (IsV (.bool (El.plainL g)) w)) := Lib.hid (fun i k x g v h1 h2 h3 => ih K v g w (by have := El.size_argN h2; have := El.size_nodeN h1; omega) h3)
    have HT0 : Hid (El.plainL (l.drop 0) = El.plainL l) := Lib.hid rfl
    obtain ⟨T, hT⟩ : ∃ T, T = El.plainL l := ⟨_, rfl⟩
    rw [← hT] at HT0 ⊢
    clear h hml hn ih hT hsz
    go_enter Tryz.func35, Tryz.ntmps35
    go_wp2_with fail
    go_loopw [3] (fun iv wr => ∃ i : Nat, i ≤ n ∧ iv = .int .i64 i ∧ Hid (El.plainL (l.drop i) = T) ∧ wr = w) (fun iv _ => n - (intOf iv).toNat)
    case atStart => exact ⟨0, Nat.zero_le _, rfl, HT0, rfl⟩
    case round =>
      obtain ⟨i, hi, rfl, HT, rfl⟩ := hrel
      clear HT0
      by_cases hlt : i < n
      · obtain ⟨x, hx⟩ : ∃ x, l[i]? = some x := ⟨_, List.getElem?_eq_getElem (by rw [← Hn.out]; exact hlt)⟩
        have Hx := Lib.hid hx
        obtain ⟨b1, o1, c1, e1, pq, cq, y0, y1, y2, y3, hargs⟩ := node_get HA.out hx
        rw [← Hn.out] at e1
        obtain ⟨rfl, rfl⟩ : pa = some ⟨b1, o1, none⟩ ∧ cp = c1 := by injection e1 with a1 a2 a3; exact ⟨a1, a3⟩
        have HAr := Lib.hid hargs
        have ht := HT.out
        rw [drop_next14 hx] at ht
        unfold El.plainL at ht
        rw [El.plainN_eq] at ht
        obtain ⟨na, hna⟩ : ∃ na, na = (El.args x).length := ⟨_, rfl⟩
        have Hna := Lib.hid hna
        rw [← hna] at y2 HAr
        have hza : na ≤ 9223372036854775807 := by rw [hna]; have := hargs.2.1; unfold maxLen at this; omega
        have i0 : (0 : Int) ≤ (i : Int) := by omega
        have il : (i : Int) < (n : Int) := by omega
        cases hc : El.isCmd x with
        | false =>
          rw [hc] at y0 ht
          by_cases hp : 0 < na
          · have hp' : (0 : Int) < (na : Int) := by omega
            have HE : Hid (T = false) := Lib.hid (by
              rw [← ht]
              cases ha : El.args x with
              | nil => rw [ha] at hna; simp at hna; omega
              | cons g r => simp)
            clear e1 hx hargs ht hna y1 y3 HT
            go_wp2
            go_ret
            rw [HE.out]
            exact ⟨rfl, rfl⟩
          · have hp0 : na = 0 := by omega
            have HU : Hid (El.plainL (l.drop (i + 1)) = T) := Lib.hid (by
              rw [← ht]
              cases ha : El.args x with
              | nil => simp [El.plainA]
              | cons g r => rw [ha] at hna; simp at hna; omega)
            subst hp0
            clear e1 hx hargs ht hna y1 y3 HT hp
            go_wp2_with fail
            go_loopw [4] (fun kv wx => kv = .int .i64 0 ∧ wx = wr) (fun _ _ => 0)
            case atStart => exact ⟨rfl, rfl⟩
            case round =>
              obtain ⟨rfl, rfl⟩ := hrel
              go_wp2
              go_roundw
              case rel => exact ⟨i + 1, by omega, by go_num, HU, trivial⟩
              case measure => simp [intOf]; omega
        | true =>
          rw [hc] at y0 ht
          have HU : Hid ((El.plainA ((El.args x).drop 0) && El.plainL (l.drop (i + 1))) = T) := Lib.hid (by
            rw [← ht]
            simp)
          clear e1 hx hargs ht hna y1 y3 HT
          go_wp2_with fail
          go_loopw [4] (fun kv wx => ∃ k : Nat, k ≤ na ∧ kv = .int .i64 k ∧ Hid ((El.plainA ((El.args x).drop k) && El.plainL (l.drop (i + 1))) = T) ∧ wx = wr) (fun kv _ => na - (intOf kv).toNat)
          case atStart => exact ⟨0, Nat.zero_le _, rfl, HU, rfl⟩
          case round =>
            obtain ⟨k, hk, rfl, HK, rfl⟩ := hrel
            clear HU
            by_cases hkl : k < na
            · obtain ⟨g, hg⟩ : ∃ g, (El.args x)[k]? = some g := ⟨_, List.getElem?_eq_getElem (by rw [← Hna.out]; exact hkl)⟩
              obtain ⟨b2, o2, c2, e2, vg, hvg, hgn⟩ := arg_get HAr.out hg
              rw [← Hna.out] at e2
              obtain ⟨rfl, rfl⟩ : pq = some ⟨b2, o2, none⟩ ∧ cq = c2 := by injection e2 with a1 a2 a3; exact ⟨a1, a3⟩
              have HCl := Lib.hid (HI.out i k x g vg Hx.out hg hgn)
              obtain ⟨ag, cg, rfl, _⟩ := nodes_head hgn
              have ht := HK.out
              rw [drop_next14 hg] at ht
              unfold El.plainA at ht
              have k0 : (0 : Int) ≤ (k : Int) := by omega
              have kl : (k : Int) < (na : Int) := by omega
              cases hb : El.plainL g with
              | false =>
                rw [hb] at HCl ht
                have HE : Hid (T = false) := Lib.hid (by rw [← ht]; rfl)
                clear e2 hg hgn ht
                go_wp2_with fail
                refine HCl.out.mono ?_
                rintro e w1 ⟨rfl, rfl⟩
                go_wp2
                go_ret
                rw [HE.out]
                exact ⟨rfl, rfl⟩
              | true =>
                rw [hb] at HCl ht
                have HN : Hid ((El.plainA ((El.args x).drop (k + 1)) && El.plainL (l.drop (i + 1))) = T) := Lib.hid (by rw [← ht]; simp)
                clear e2 hg hgn ht
                go_wp2_with fail
                refine HCl.out.mono ?_
                rintro e w1 ⟨rfl, rfl⟩
                go_wp2
                go_roundw
                case rel => exact ⟨k + 1, by omega, by go_num, HN, trivial⟩
                case measure => simp [intOf]; omega
            · have HN : Hid (El.plainL (l.drop (i + 1)) = T) := Lib.hid (by
                have := HK.out
                rw [show List.drop k (El.args x) = [] from List.drop_eq_nil_of_le (by rw [← Hna.out]; omega)] at this
                unfold El.plainA at this
                rw [← this]
                simp)
              go_wp2
              go_roundw
              case rel => exact ⟨i + 1, by omega, by go_num, HN, trivial⟩
              case measure => simp [intOf]; omega
      · have HE : Hid (T = true) := Lib.hid (by
          have := HT.out
          rw [show List.drop i l = [] from List.drop_eq_nil_of_le (by rw [← Hn.out]; omega)] at this
          exact this.symm)
        go_wp2
        go_ret
        rw [HE.out]
        exact ⟨rfl, rfl⟩
theorem depth_any {K : Nat → Prop} {v : Value} {l : List Nd} {w : World} (h : NodesAt w K v l) : Calls Tryz.prog 9 #[v] w (IsV (.int .i64 (El.deepM 101 l : Nat)) w) := by
  have HC := Lib.hid (deep_any 101 K v l w (by omega) h)
  obtain ⟨a, cap, rfl, hm⟩ := nodes_head h
  have hz : l.length ≤ 9223372036854775807 := by unfold maxLen at hm; omega
  have hq := El.deepM_le 101 l
  generalize l.length = n at *
  generalize El.deepM 101 l = q at *
  have q1 : (q : Int) ≤ 101 := by omega
  clear h hm
  go_enter Tryz.func9, Tryz.ntmps9
  go_wp2_with fail
  refine HC.out.mono ?_
  rintro e w1 ⟨rfl, rfl⟩
  go_wp2
  go_ret
  exact ⟨rfl, rfl⟩
def MayP (l : List Nd) (w : World) (r : Ending) (w' : World) : Prop := ∃ b, IsV (.bool b) w r w' ∧ (b = true → El.plainL l = true ∧ El.fitL 64 l = true)
theorem may_nodes {K : Nat → Prop} {v : Value} {l : List Nd} {w : World} (h : NodesAt w K v l) : Calls Tryz.prog 19 #[v] w (MayP l w) := by
  have HD := Lib.hid (depth_any h)
  have HP := Lib.hid (plain_any (El.sizeL l + 1) K v l w (by omega) h)
  obtain ⟨a, cap, rfl, hm⟩ := nodes_head h
  have hz : l.length ≤ 9223372036854775807 := by unfold maxLen at hm; omega
  have hq := El.deepM_le 101 l
  have HF := Lib.hid (El.fit_of 101 64 l (by omega))
  generalize l.length = n at *
  generalize El.deepM 101 l = q at *
  have q1 : (q : Int) ≤ 101 := by omega
  have HT : Hid (∀ (r : Ending), r = .returned (.bool (El.plainL l)) → q ≤ 64 → MayP l w r w) := Lib.hid (fun r e hh => ⟨_, ⟨e, rfl⟩, fun e => ⟨e, HF.out hh⟩⟩)
  have HFa : Hid (∀ (r : Ending), r = .returned (.bool false) → MayP l w r w) := Lib.hid (fun r e => ⟨_, ⟨e, rfl⟩, fun e => by cases e⟩)
  obtain ⟨p, hp⟩ : ∃ p, p = El.plainL l := ⟨_, rfl⟩
  rw [← hp] at HP HT
  clear h hm hp
  by_cases h64 : q ≤ 64
  · have q64 : (q : Int) ≤ 64 := by omega
    go_enter Tryz.func19, Tryz.ntmps19
    go_wp2_with fail
    refine HD.out.mono ?_
    rintro e w1 ⟨rfl, rfl⟩
    go_wp2_with fail
    refine HP.out.mono ?_
    rintro e w1 ⟨rfl, rfl⟩
    go_wp2
    go_ret
    exact HT.out _ rfl h64
  · have q64 : ¬ (q : Int) ≤ 64 := by omega
    go_enter Tryz.func19, Tryz.ntmps19
    go_wp2_with fail
    refine HD.out.mono ?_
    rintro e w1 ⟨rfl, rfl⟩
    go_wp2
    go_ret
    exact HFa.out _ rfl
end Go.Proofs.YtfjplhgajoehfaaGreatDoor
