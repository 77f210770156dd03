/-
  What the visits leave as it was (plain mathematics).
-/
import Derived.Test.YtfjplhgajoehfaaGreatDoorQApp13
set_option linter.unusedVariables false
set_option linter.unusedSimpArgs false
namespace Go.Proofs.YtfjplhgajoehfaaGreatDoor.El
open Go.Proofs.YtfjplhgajoehfaaGreatDoor

def Pres (P : St → St → Prop) (op : Op) : Prop := ∀ s n s', op s n = .ok s' → P s s'
theorem visit_pres {P : St → St → Prop} (hr : ∀ s, P s s) (ht : ∀ a b c, P a b → P b c → P a c) {op : Op} (h : Pres P op) : ∀ (l : List Nd) (s s' : St), visit op s l = .ok s' → P s s'
  | [], s, s', e => by cases e; exact hr s
  | n :: r, s, s', e => by
    have e2 : (op s n).then (fun s1 => visit op s1 r) = .ok s' := e
    cases h1 : op s n with
    | ok s1 =>
      rw [h1] at e2
      exact ht _ _ _ (h s n s1 h1) (visit_pres hr ht h r s1 s' e2)
    | bad c a => rw [h1] at e2; cases e2
theorem take_pres {P : St → St → Prop} {wd : Option Op} {rules : Txt → Option (Nat × Op)} (hw : ∀ f, wd = some f → Pres P f) (hr : ∀ x k f, rules x = some (k, f) → Pres P f) : Pres P (take wd rules) := by
  intro s n s' h
  unfold take at h
  cases hc : isCmd n with
  | false =>
    rw [hc, if_pos rfl] at h
    cases wd with
    | none => cases h
    | some f => exact hw f rfl s n s' h
  | true =>
    rw [hc, if_neg (by simp)] at h
    cases hx : rules (text n) with
    | none => rw [hx] at h; cases h
    | some kf =>
      obtain ⟨k, f⟩ := kf
      rw [hx] at h
      simp only [] at h
      split at h
      · exact hr _ k f hx s n s' h
      · cases h
theorem then_ok' {r : Res} {f : St → Res} {s' : St} (h : r.then f = .ok s') : ∃ s1, r = .ok s1 ∧ f s1 = .ok s' := by
  cases r with
  | ok s1 => exact ⟨s1, rfl, h⟩
  | bad c a => cases h
theorem one_ok' {r : One} {f : Nd → Res} {s' : St} (h : r.then f = .ok s') : ∃ x, r = .word x ∧ f x = .ok s' := by
  cases r with
  | word x => exact ⟨x, rfl, h⟩
  | bad c a => cases h
/-- what the steps of a note do -/
structure NoteP (P : St → St → Prop) : Prop where
  hr : ∀ s, P s s
  ht : ∀ a b c, P a b → P b c → P a c
  said : ∀ (s : St) (l : List Said), P s { s with said := l }
theorem keys_pres {P : St → St → Prop} (h : NoteP P) (t : List Txt) : Pres P (keysTake t) :=
  take_pres (fun f hf => by
    cases hf
    intro s n s' e
    unfold keyOp at e
    split at e
    · cases e; exact h.said _ _
    · cases e) (fun x k f e => by cases e)
theorem note_pres {P : St → St → Prop} (h : NoteP P) (t : List Txt) : Pres P (noteTake t) :=
  take_pres (fun f hf => by
    cases hf
    intro s n s' e
    cases e
    exact h.said _ _) (fun x k f e => by
    unfold noteRules at e
    split at e
    · cases e
      intro s n s' e
      exact visit_pres h.hr h.ht (keys_pres h t) _ _ _ e
    · split at e
      · cases e
        intro s n s' e
        obtain ⟨x, _, e2⟩ := one_ok' e
        cases e2
        exact h.said _ _
      · cases e)
structure TextP (P : St → St → Prop) : Prop extends NoteP P where
  notes : ∀ (s : St) (n : Note), P s { s with notes := s.notes ++ [n] }
  lem : ∀ (s : St) (a b : Nat), P s { s with fr := a, til := b }
  word : ∀ (s : St) (x : Txt), P s { s with words := s.words ++ [x] }
  lab : ∀ (s : St) (x : Lab), P s { s with labels := s.labels ++ [x] }
theorem foot_pres {P : St → St → Prop} (h : TextP P) (t : List Txt) (i : Nat) : Pres P (footOp t i) := by
  intro s n s' e
  obtain ⟨s1, e1, e2⟩ := then_ok' e
  cases e2
  exact h.ht _ _ _ (h.ht _ _ _ (h.said s []) (visit_pres h.hr h.ht (note_pres h.toNoteP t) _ _ _ e1)) (h.notes _ _)
theorem notes_pres {P : St → St → Prop} (h : TextP P) (t : List Txt) : Pres P (notesTake t) :=
  take_pres (fun f hf => by cases hf) (fun x k f e => by
    unfold notesRules at e
    cases hs : series x with
    | none => rw [hs] at e; cases e
    | some i => rw [hs] at e; cases e; exact foot_pres h t i)
theorem ed_pres {P : St → St → Prop} (h : TextP P) (t : List Txt) {inner : St → List Nd → Res} (hi : ∀ s l s', inner s l = .ok s' → P s s') : Pres P (edOp t inner) := by
  intro s n s' e
  obtain ⟨s1, e1, e2⟩ := then_ok' e
  split at e2
  · cases e2
  · exact h.ht _ _ _ (hi _ _ _ e1) (h.ht _ _ _ (h.lem s1 _ _) (visit_pres h.hr h.ht (notes_pres h t) _ _ _ e2))
theorem textOf_pres {P : St → St → Prop} (h : TextP P) (t : List Txt) {inner : St → List Nd → Res} (hi : ∀ s l s', inner s l = .ok s' → P s s') : Pres P (textOf t inner) :=
  take_pres (fun f hf => by
    cases hf
    intro s n s' e
    unfold wordOp at e
    split at e
    · cases e
    · cases e; exact h.word _ _) (fun x k f e => by
    unfold textRules at e
    split at e
    · cases e; exact ed_pres h t hi
    · split at e
      · cases e
        intro s n s' e
        obtain ⟨x, _, e2⟩ := one_ok' e
        split at e2
        · cases e2
        · cases e2; exact h.lab _ _
      · cases e)
theorem text_pres {P : St → St → Prop} (h : TextP P) (t : List Txt) : ∀ k, Pres P (textTake t k)
  | 0 => textOf_pres h t (fun s l s' e => by cases e; exact h.hr _)
  | k + 1 => textOf_pres h t (fun s l s' e => visit_pres h.hr h.ht (text_pres h t k) _ _ _ e)
structure ParaP (P : St → St → Prop) : Prop extends TextP P where
  ends : ∀ (s : St) (l : List Nat), P s { s with ends := l }
  para : ∀ (s : St) (v : Bool) (f : Nat), P s (addPara s v f)
  num : ∀ (s : St) (m : Nat), P s { s with num := m }
theorem line_pres {P : St → St → Prop} (h : ParaP P) (t : List Txt) (k : Nat) : Pres P (lineOp t k) := by
  intro s n s' e
  obtain ⟨s1, e1, e2⟩ := then_ok' e
  split at e2
  · cases e2
  · cases e2
    exact h.ht _ _ _ (visit_pres h.hr h.ht (text_pres h.toTextP t k) _ _ _ e1) (h.ends _ _)
theorem stanza_pres {P : St → St → Prop} (h : ParaP P) (t : List Txt) (k : Nat) : Pres P (stanzaTake t k) :=
  take_pres (fun f hf => by cases hf) (fun x j f e => by
    unfold stanzaRules at e
    split at e
    · cases e; exact line_pres h t k
    · cases e)
theorem chunkTake_pres {P : St → St → Prop} (h : ParaP P) (t : List Txt) (k : Nat) : Pres P (chunkTake t k) :=
  take_pres (fun f hf => by cases hf) (fun x j f e => by
    unfold chunkRules at e
    split at e
    · cases e
      intro s n s' e
      obtain ⟨s1, e1, e2⟩ := then_ok' e
      cases e2
      exact h.ht _ _ _ (h.ht _ _ _ (h.ends s []) (line_pres h t k _ _ _ e1)) (h.para _ _ _)
    · split at e
      · cases e
        intro s n s' e
        obtain ⟨s1, e1, e2⟩ := then_ok' e
        split at e2
        · cases e2
        · cases e2
          exact h.ht _ _ _ (h.ht _ _ _ (h.ends s []) (visit_pres h.hr h.ht (stanza_pres h t k) _ _ _ e1)) (h.para _ _ _)
      · split at e
        · cases e
          intro s n s' e
          obtain ⟨x, _, e2⟩ := one_ok' e
          split at e2
          · cases e2
          · cases e2; exact h.num _ _
        · cases e)
structure ChunkP (P : St → St → Prop) : Prop extends ParaP P where
  paras : ∀ (s : St), P s { s with paras := [], num := 0 }
  chunk : ∀ (s : St) (c : List Para), P s { s with chunks := s.chunks ++ [c] }
theorem chunkOp_pres {P : St → St → Prop} (h : ChunkP P) (t : List Txt) (k : Nat) : Pres P (chunkOp t k) := by
  intro s n s' e
  obtain ⟨s1, e1, e2⟩ := then_ok' e
  split at e2
  · cases e2
  · cases e2
    exact h.ht _ _ _ (h.ht _ _ _ (h.paras s) (visit_pres h.hr h.ht (chunkTake_pres h.toParaP t k) _ _ _ e1)) (h.chunk _ _)
theorem side_pres {P : St → St → Prop} (h : ChunkP P) (t : List Txt) (k : Nat) : Pres P (sideTake t k) :=
  take_pres (fun f hf => by cases hf) (fun x j f e => by
    unfold sideRules at e
    split at e
    · cases e; exact chunkOp_pres h t k
    · cases e)
/-- the sides that are done stay -/
theorem sidesP : ChunkP (fun s s' => s'.sides = s.sides) where
  hr := fun s => rfl
  ht := fun a b c h1 h2 => h2.trans h1
  said := fun _ _ => rfl
  notes := fun _ _ => rfl
  lem := fun _ _ _ => rfl
  word := fun _ _ => rfl
  lab := fun _ _ => rfl
  ends := fun _ _ => rfl
  para := fun _ _ _ => rfl
  num := fun _ _ => rfl
  paras := fun _ => rfl
  chunk := fun _ _ => rfl
theorem sideOp_sides {t : List Txt} {k : Nat} {s : St} {n : Nd} {s' : St} (h : sideOp t k s n = .ok s') : s'.sides.length = s.sides.length + 1 := by
  obtain ⟨s1, e1, e2⟩ := then_ok' h
  split at e2
  · cases e2
  · cases e2
    have h1 := visit_pres sidesP.hr sidesP.ht (side_pres sidesP t k) _ _ _ e1
    simp only [] at h1
    rw [List.length_append, h1]
    rfl
theorem source_one {t : List Txt} {k : Nat} {s : St} {n : Nd} {s' : St} (h : sourceTake t k s n = .ok s') : sideOp t k s n = .ok s' ∧ isCmd n = true ∧ (args n).length = 1 ∧ (text n = tText ∨ text n = tLeft ∨ text n = tRight) := by
  unfold sourceTake take at h
  cases hc : isCmd n with
  | false => rw [hc, if_pos rfl] at h; cases h
  | true =>
    rw [hc, if_neg (by simp)] at h
    unfold sourceRules at h
    by_cases ht : text n = tText ∨ text n = tLeft ∨ text n = tRight
    · rw [if_pos ht] at h
      simp only [] at h
      split at h
      · rename_i hk
        exact ⟨h, rfl, hk, ht⟩
      · cases h
    · rw [if_neg ht] at h; cases h
theorem source_sides {t : List Txt} {k : Nat} : ∀ (l : List Nd) (s s' : St), visit (sourceTake t k) s l = .ok s' → s'.sides.length = s.sides.length + l.length
  | [], s, s', e => by cases e; rfl
  | n :: r, s, s', e => by
    have e2 : (sourceTake t k s n).then (fun s1 => visit (sourceTake t k) s1 r) = .ok s' := e
    obtain ⟨s1, h1, h2⟩ := then_ok' e2
    have h3 := sideOp_sides (source_one h1).1
    have h4 := source_sides r s1 s' h2
    simp only [List.length_cons]
    omega
end Go.Proofs.YtfjplhgajoehfaaGreatDoor.El
