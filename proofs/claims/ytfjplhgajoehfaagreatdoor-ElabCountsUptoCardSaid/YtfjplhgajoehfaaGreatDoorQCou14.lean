/-
  What the visits add, counted (plain mathematics): there are as many chunks, paragraphs and stanzas, lines, notes and labels as there are such commands.
  The law's count: how many commands of some names there are in nodes, down to a depth.
-/
import Derived.Test.YtfjplhgajoehfaaGreatDoorQWor14
import Derived.Test.YtfjplhgajoehfaaGreatDoorQNin14
import Derived.Test.YtfjplhgajoehfaaGreatDoorQFin14
import Derived.Test.YtfjplhgajoehfaaGreatDoorQSer14
set_option linter.unusedVariables false
set_option linter.unusedSimpArgs false
namespace Go.Proofs.YtfjplhgajoehfaaGreatDoor.El
open Go.Proofs.YtfjplhgajoehfaaGreatDoor

mutual
/-- how many commands of some names there are, down to a depth -/
def cntL (ns : List Txt) (d : Nat) : List Nd → Nat
  | [] => 0
  | n :: r => cntN ns d n + cntL ns d r
def cntN (ns : List Txt) (d : Nat) : Nd → Nat
  | .mk c x a _ => (if c = true then ns.count x else 0) + (match d with
    | 0 => 0
    | d + 1 => cntA ns d a)
def cntA (ns : List Txt) (d : Nat) : List (List Nd) → Nat
  | [] => 0
  | g :: r => cntL ns d g + cntA ns d r
end
def Cnts (ns : List Txt) (m : St → Nat) (op : Op) : Prop := ∀ d s n s', plainN n = true → fitN d n = true → op s n = .ok s' → m s' = m s + cntN ns d n
theorem visit_cnts {ns : List Txt} {m : St → Nat} {op : Op} (h : Cnts ns m op) : ∀ (l : List Nd) (d : Nat) (s s' : St), plainL l = true → fitL d l = true → visit op s l = .ok s' → m s' = m s + cntL ns d l
  | [], d, s, s', _, _, e => by cases e; unfold cntL; simp
  | n :: r, d, s, s', hp, hf, e => by
    unfold plainL at hp
    unfold fitL at hf
    simp only [Bool.and_eq_true] at hp hf
    have e2 : (op s n).then (fun s1 => visit op s1 r) = .ok s' := e
    obtain ⟨s1, h1, h2⟩ := then_ok' e2
    rw [visit_cnts h r d s1 s' hp.2 hf.2 h2, h d s n s1 hp.1 hf.1 h1]
    simp only [cntL]
    omega
theorem cnt_one (ns : List Txt) {d : Nat} {n : Nd} (hc : isCmd n = true) (ha : (args n).length = 1) (hp : plainN n = true) (hf : fitN d n = true) : ∃ d', plainL (argN n 0) = true ∧ fitL d' (argN n 0) = true ∧ cntN ns d n = ns.count (text n) + cntL ns d' (argN n 0) := by
  obtain ⟨c, x, a, p⟩ := n
  have hc : c = true := hc
  match a, ha with
  | [g], _ =>
    subst hc
    unfold plainN plainA at hp
    simp only [Bool.and_eq_true] at hp
    cases d with
    | zero => unfold fitN at hf; simp at hf
    | succ d =>
      unfold fitN fitA at hf
      simp only [Bool.and_eq_true] at hf
      refine ⟨d, hp.2.1, hf.1, ?_⟩
      simp [cntN, cntA, argN, args, text]
theorem cnt_two (ns : List Txt) {d : Nat} {n : Nd} (hc : isCmd n = true) (ha : (args n).length = 2) (hp : plainN n = true) (hf : fitN d n = true) : ∃ d', plainL (argN n 0) = true ∧ fitL d' (argN n 0) = true ∧ plainL (argN n 1) = true ∧ fitL d' (argN n 1) = true ∧ cntN ns d n = ns.count (text n) + cntL ns d' (argN n 0) + cntL ns d' (argN n 1) := by
  obtain ⟨c, x, a, p⟩ := n
  have hc : c = true := hc
  match a, ha with
  | [g, g2], _ =>
    subst hc
    unfold plainN plainA plainA at hp
    simp only [Bool.and_eq_true] at hp
    cases d with
    | zero => unfold fitN at hf; simp at hf
    | succ d =>
      unfold fitN fitA fitA at hf
      simp only [Bool.and_eq_true] at hf
      refine ⟨d, hp.2.1, hf.1, hp.2.2.1, hf.2.1, ?_⟩
      simp [cntN, cntA, argN, args, text]
      omega
theorem cnt_word (ns : List Txt) {d : Nat} {n : Nd} (hc : isCmd n = false) (hp : plainN n = true) : cntN ns d n = 0 := by
  obtain ⟨c, x, a, p⟩ := n
  have hc : c = false := hc
  subst hc
  unfold plainN at hp
  simp only [Bool.false_or, Bool.and_eq_true] at hp
  have ha : a = [] := List.isEmpty_iff.1 hp.1
  subst ha
  unfold cntN
  rw [if_neg (by decide)]
  cases d <;> rfl
/-- a name or a number: one word in it -/
theorem cnt_single (ns : List Txt) {d : Nat} {n x : Nd} (hc : isCmd n = true) (ha : (args n).length = 1) (hp : plainN n = true) (hf : fitN d n = true) (h : single n = .word x) : cntN ns d n = ns.count (text n) := by
  obtain ⟨d', h1, _, h3⟩ := cnt_one ns hc ha hp hf
  rw [h3]
  unfold single at h
  cases hm : firstCmd (argN n 0) with
  | some m => rw [hm] at h; cases h
  | none =>
    rw [hm] at h
    simp only [] at h
    generalize argN n 0 = l at h h1 hm
    match l, h with
    | [y], h =>
      have hy : isCmd y = false := by
        unfold firstCmd at hm
        cases hc : isCmd y with
        | false => rfl
        | true => rw [hc] at hm; simp at hm
      unfold plainL at h1
      simp only [Bool.and_eq_true] at h1
      unfold cntL cntL
      rw [cnt_word ns hy h1.1]
      rfl
theorem take_cnts {ns : List Txt} {m : St → Nat} {wd : Option Op} {rules : Txt → Option (Nat × Op)} (hw : ∀ f, wd = some f → ∀ s n s', f s n = .ok s' → m s' = m s) (hr : ∀ n k f, rules (text n) = some (k, f) → isCmd n = true → (args n).length = k → ∀ d s s', plainN n = true → fitN d n = true → f s n = .ok s' → m s' = m s + cntN ns d n) : Cnts ns m (take wd rules) := by
  intro d s n s' hp hf h
  unfold take at h
  cases hc : isCmd n with
  | false =>
    rw [hc, if_pos rfl] at h
    cases wd with
    | none => cases h
    | some f =>
      rw [cnt_word ns hc hp]
      exact hw f rfl s n s' h
  | true =>
    rw [hc, if_neg (by simp)] at h
    cases hx : rules (text n) with
    | none => rw [hx] at h; cases h
    | some kf =>
      obtain ⟨k, f⟩ := kf
      rw [hx] at h
      simp only [] at h
      split at h
      · rename_i hk
        exact hr n k f hx hc hk d s s' hp hf h
      · cases h
/-- what the steps of a text add -/
structure TC (ns : List Txt) (m : St → Nat) : Prop where
  said : ∀ (s : St) (l : List Said), m { s with said := l } = m s
  lem : ∀ (s : St) (a b : Nat), m { s with fr := a, til := b } = m s
  word : ∀ (s : St) (x : Txt), m { s with words := s.words ++ [x] } = m s
  note : ∀ (s : St) (n : Note) (x : Txt) (i : Nat), series x = some i → m { s with notes := s.notes ++ [n] } = m s + ns.count x
  lab : ∀ (s : St) (x : Lab), m { s with labels := s.labels ++ [x] } = m s + ns.count tLabel
  ed : ns.count tEd = 0
  sig : ns.count tSig = 0
  ref : ns.count tRef = 0
theorem keys_cnts {ns : List Txt} {m : St → Nat} (h : TC ns m) (t : List Txt) : Cnts ns m (keysTake t) :=
  take_cnts (fun f hf => by
    cases hf
    intro s n s' e
    unfold keyOp at e
    split at e
    · cases e; exact h.said _ _
    · cases e) (fun n k f e => by cases e)
theorem note_cnts {ns : List Txt} {m : St → Nat} (h : TC ns m) (t : List Txt) : Cnts ns m (noteTake t) :=
  take_cnts (fun f hf => by
    cases hf
    intro s n s' e
    cases e
    exact h.said _ _) (fun n k f e hc ha d s s' hp hf e2 => by
    unfold noteRules at e
    split at e
    · rename_i hx
      cases e
      obtain ⟨d', h1, h2, h3⟩ := cnt_one ns hc ha hp hf
      rw [h3, hx, h.sig, Nat.zero_add]
      exact visit_cnts (keys_cnts h t) _ d' _ _ h1 h2 e2
    · split at e
      · rename_i hx
        cases e
        obtain ⟨x, e3, e4⟩ := one_ok' e2
        cases e4
        rw [cnt_single ns hc ha hp hf e3, hx, h.ref]
        exact h.said _ _
      · cases e)
theorem notes_cnts {ns : List Txt} {m : St → Nat} (h : TC ns m) (t : List Txt) : Cnts ns m (notesTake t) :=
  take_cnts (fun f hf => by cases hf) (fun n k f e hc ha d s s' hp hf e2 => by
    unfold notesRules at e
    cases hs : series (text n) with
    | none => rw [hs] at e; cases e
    | some i =>
      rw [hs] at e
      cases e
      obtain ⟨d', h1, h2, h3⟩ := cnt_one ns hc ha hp hf
      obtain ⟨s1, e3, e4⟩ := then_ok' e2
      cases e4
      have h4 := visit_cnts (note_cnts h t) _ d' _ _ h1 h2 e3
      rw [h.note s1 _ _ i hs, h4, h.said, h3]
      omega)
theorem textOf_cnts {ns : List Txt} {m : St → Nat} (h : TC ns m) (t : List Txt) {inner : St → List Nd → Res} (hi : ∀ d s l s', plainL l = true → fitL d l = true → inner s l = .ok s' → s'.words.length ≠ s.words.length → m s' = m s + cntL ns d l) : Cnts ns m (textOf t inner) :=
  take_cnts (fun f hf => by
    cases hf
    intro s n s' e
    unfold wordOp at e
    split at e
    · cases e
    · cases e; exact h.word _ _) (fun n k f e hc ha d s s' hp hf e2 => by
    unfold textRules at e
    split at e
    · rename_i hx
      cases e
      obtain ⟨d', h1, h2, h3, h4, h5⟩ := cnt_two ns hc ha hp hf
      obtain ⟨s1, e3, e4⟩ := then_ok' e2
      split at e4
      · cases e4
      · rename_i hne
        have g1 := hi d' _ _ _ h1 h2 e3 hne
        have g2 := visit_cnts (notes_cnts h t) _ d' _ _ h3 h4 e4
        rw [g2, h.lem, g1, h5, hx, h.ed]
        omega
    · split at e
      · rename_i hx
        cases e
        obtain ⟨x, e3, e4⟩ := one_ok' e2
        split at e4
        · cases e4
        · cases e4
          rw [cnt_single ns hc ha hp hf e3, hx]
          exact h.lab _ _
      · cases e)
theorem text_cnts {ns : List Txt} {m : St → Nat} (h : TC ns m) (t : List Txt) : ∀ k, Cnts ns m (textTake t k)
  | 0 => textOf_cnts h t (fun d s l s' _ _ e hne => by cases e; exact absurd rfl hne)
  | k + 1 => textOf_cnts h t (fun d s l s' hp hf e _ => visit_cnts (text_cnts h t k) l d s s' hp hf e)
/-- a line's text: what it adds ahead of its end -/
theorem line_cnts {ns : List Txt} {m : St → Nat} (h : TC ns m) (t : List Txt) (K : Nat) {n : Nd} (hc : isCmd n = true) (ha : (args n).length = 1) {d : Nat} {s s' : St} (hp : plainN n = true) (hf : fitN d n = true) (e : lineOp t K s n = .ok s') : ∃ s1, m s1 + ns.count (text n) = m s + cntN ns d n ∧ s' = { s1 with ends := s.ends ++ [s1.words.length] } ∧ LineR s s' := by
  have hl := line_lineR t K s n s' e
  obtain ⟨d', h1, h2, h3⟩ := cnt_one ns hc ha hp hf
  obtain ⟨s1, e1, e2⟩ := then_ok' e
  split at e2
  · cases e2
  · cases e2
    have h4 := visit_cnts (text_cnts h t K) _ d' _ _ h1 h2 e1
    have h5 := (visit_pres TextR.refl (fun _ _ _ => TextR.trans) (text_textR t K) _ _ _ e1).ends
    exact ⟨s1, by rw [h4, h3]; omega, by rw [h5], hl⟩
/-- what the steps of a chunk add -/
structure PC (ns : List Txt) (m : St → Nat) : Prop extends TC ns m where
  ends : ∀ (s : St) (l : List Nat), m { s with ends := l } = m s
  para : ∀ (s : St) (v : Bool) (f : Nat), m (addPara s v f) = m s
  num : ∀ (s : St) (k : Nat), m { s with num := k } = m s
  paras : ∀ (s : St), m { s with paras := [], num := 0 } = m s
  chunk : ∀ (s : St) (c : List Para), m { s with chunks := s.chunks ++ [c] } = m s
theorem stanza_cnts {ns : List Txt} {m : St → Nat} (h : PC ns m) (hl : ns.count tL = 0) (t : List Txt) (K : Nat) : Cnts ns m (stanzaTake t K) :=
  take_cnts (fun f hf => by cases hf) (fun n k f e hc ha d s s' hp hf e2 => by
    unfold stanzaRules at e
    split at e
    · rename_i hx
      cases e
      obtain ⟨s1, h1, rfl, _⟩ := line_cnts h.toTC t K hc ha hp hf e2
      rw [h.ends]
      rw [hx, hl] at h1
      omega
    · cases e)
theorem chunk_cnts {ns : List Txt} {m : St → Nat} (h : PC ns m) (hl : ns.count tL = 0) (hpp : ns.count tP = 0) (hv : ns.count tVerse = 0) (hs : ns.count tSet = 0) (t : List Txt) (K : Nat) : Cnts ns m (chunkTake t K) :=
  take_cnts (fun f hf => by cases hf) (fun n k f e hc ha d s s' hp hf e2 => by
    unfold chunkRules at e
    split at e
    · rename_i hx
      cases e
      obtain ⟨s1, e3, e4⟩ := then_ok' e2
      cases e4
      obtain ⟨s2, h1, rfl, _⟩ := line_cnts h.toTC t K hc ha hp hf e3
      rw [h.para, h.ends]
      rw [hx, hpp] at h1
      have e0 := h.ends s []
      omega
    · split at e
      · rename_i hx
        cases e
        obtain ⟨d', h1, h2, h3⟩ := cnt_one ns hc ha hp hf
        obtain ⟨s1, e3, e4⟩ := then_ok' e2
        split at e4
        · cases e4
        · cases e4
          have h4 := visit_cnts (stanza_cnts h hl t K) _ d' _ _ h1 h2 e3
          rw [h.para, h4, h.ends, h3, hx, hv]
          omega
      · split at e
        · rename_i hx
          cases e
          obtain ⟨x, e3, e4⟩ := one_ok' e2
          split at e4
          · cases e4
          · cases e4
            rw [h.num, cnt_single ns hc ha hp hf e3, hx, hs]
            rfl
        · cases e)
theorem side_cnts {ns : List Txt} {m : St → Nat} (h : PC ns m) (hl : ns.count tL = 0) (hpp : ns.count tP = 0) (hv : ns.count tVerse = 0) (hs : ns.count tSet = 0) (hch : ns.count tChunk = 0) (t : List Txt) (K : Nat) : Cnts ns m (sideTake t K) :=
  take_cnts (fun f hf => by cases hf) (fun n k f e hc ha d s s' hp hf e2 => by
    unfold sideRules at e
    split at e
    · rename_i hx
      cases e
      obtain ⟨d', h1, h2, h3⟩ := cnt_one ns hc ha hp hf
      obtain ⟨s1, e3, e4⟩ := then_ok' e2
      split at e4
      · cases e4
      · cases e4
        have h4 := visit_cnts (chunk_cnts h hl hpp hv hs t K) _ d' _ _ h1 h2 e3
        rw [h.chunk, h4, h.paras, h3, hx, hch]
        omega
    · cases e)

/-! ### the five -/
def nChunk : List Txt := [tChunk]
def nPara : List Txt := [tP, tVerse]
def nLine : List Txt := [tL]
def nLabel : List Txt := [tLabel]
theorem ser_none {ns : List Txt} (h : ∀ x ∈ ns, x ∉ seriesL) {x : Txt} {i : Nat} (hs : series x = some i) : ns.count x = 0 := by
  rw [List.count_eq_zero]
  intro hx
  refine h x hx ?_
  have key : ∀ (l : List Txt) (i : Nat), idx l x = some i → x ∈ l := by
    intro l
    induction l with
    | nil => intro i h; cases h
    | cons y r ih =>
      intro i h
      unfold idx at h
      split at h
      · rename_i e; rw [e]; exact List.mem_cons_self
      · cases hr : idx r x with
        | none => rw [hr] at h; cases h
        | some j => exact List.mem_cons_of_mem _ (ih j hr)
  exact key _ _ hs
theorem ser_one {x : Txt} {i : Nat} (hs : series x = some i) : seriesL.count x = 1 := by
  have hx : x ∈ seriesL := by
    by_cases h : x ∈ seriesL
    · exact h
    · exfalso
      have h1 : seriesL.count x = 0 := by rw [List.count_eq_zero]; exact h
      have h2 := @ser_none [x] (fun y hy => by rw [List.mem_singleton.1 hy]; exact h) x i hs
      simp at h2
  unfold seriesL at hx ⊢
  simp only [List.mem_cons, List.not_mem_nil, or_false] at hx
  rcases hx with h | h | h | h | h | h | h | h | h | h | h <;> rw [h] <;> decide
/-- names that no text has -/
theorem zeroP {ns : List Txt} (h : ∀ x ∈ ns, x ∉ seriesL) (h1 : ns.count tLabel = 0) (h2 : ns.count tEd = 0) (h3 : ns.count tSig = 0) (h4 : ns.count tRef = 0) : PC ns (fun _ => 0) where
  said := fun _ _ => rfl
  lem := fun _ _ _ => rfl
  word := fun _ _ => rfl
  note := fun s n x i hs => by rw [ser_none h hs]
  lab := fun s x => by rw [h1]
  ed := h2
  sig := h3
  ref := h4
  ends := fun _ _ => rfl
  para := fun _ _ _ => rfl
  num := fun _ _ => rfl
  paras := fun _ => rfl
  chunk := fun _ _ => rfl
theorem zChunk : PC nChunk (fun _ => 0) := zeroP (by decide) (by decide) (by decide) (by decide) (by decide)
theorem zPara : PC nPara (fun _ => 0) := zeroP (by decide) (by decide) (by decide) (by decide) (by decide)
theorem zLine : PC nLine (fun _ => 0) := zeroP (by decide) (by decide) (by decide) (by decide) (by decide)
theorem labelP : PC nLabel (fun s => s.labels.length) where
  said := fun _ _ => rfl
  lem := fun _ _ _ => rfl
  word := fun _ _ => rfl
  note := fun s n x i hs => by rw [ser_none (ns := nLabel) (by decide) hs]; rfl
  lab := fun s x => by simp [nLabel]
  ed := by decide
  sig := by decide
  ref := by decide
  ends := fun _ _ => rfl
  para := fun _ _ _ => rfl
  num := fun _ _ => rfl
  paras := fun _ => rfl
  chunk := fun _ _ => rfl
theorem notesPC : PC seriesL (fun s => s.notes.length) where
  said := fun _ _ => rfl
  lem := fun _ _ _ => rfl
  word := fun _ _ => rfl
  note := fun s n x i hs => by rw [ser_one hs]; simp
  lab := fun s x => by rw [show seriesL.count tLabel = 0 by decide]; rfl
  ed := by decide
  sig := by decide
  ref := by decide
  ends := fun _ _ => rfl
  para := fun _ _ _ => rfl
  num := fun _ _ => rfl
  paras := fun _ => rfl
  chunk := fun _ _ => rfl
/-! #### lines, paragraphs, chunks -/
def lnP (l : List Para) : Nat := (l.map (fun p => if p.verse = true then p.ends.length else 0)).sum
def lnC (l : List (List Para)) : Nat := (l.map lnP).sum
def paC (l : List (List Para)) : Nat := (l.map List.length).sum
theorem lines_stanza (t : List Txt) (K : Nat) : Cnts nLine (fun s => s.ends.length) (stanzaTake t K) :=
  take_cnts (fun f hf => by cases hf) (fun n k f e hc ha d s s' hp hf e2 => by
    unfold stanzaRules at e
    split at e
    · rename_i hx
      cases e
      obtain ⟨s1, h1, rfl, _⟩ := line_cnts zLine.toTC t K hc ha hp hf e2
      rw [hx, show nLine.count tL = 1 by decide] at h1
      simp only [List.length_append, List.length_singleton]
      omega
    · cases e)
theorem lines_chunk (t : List Txt) (K : Nat) : Cnts nLine (fun s => lnP s.paras) (chunkTake t K) :=
  take_cnts (fun f hf => by cases hf) (fun n k f e hc ha d s s' hp hf e2 => by
    unfold chunkRules at e
    split at e
    · rename_i hx
      cases e
      obtain ⟨s1, e3, e4⟩ := then_ok' e2
      cases e4
      obtain ⟨s2, h1, rfl, hr⟩ := line_cnts zLine.toTC t K hc ha hp hf e3
      have h2 := hr.paras
      simp only [] at h2
      rw [hx, show nLine.count tP = 0 by decide] at h1
      simp only [addPara, lnP, List.map_append, List.map_cons, List.map_nil, List.sum_append, List.sum_cons, List.sum_nil]
      rw [h2]
      simp
      omega
    · split at e
      · rename_i hx
        cases e
        obtain ⟨d', h1, h2, h3⟩ := cnt_one nLine hc ha hp hf
        obtain ⟨s1, e3, e4⟩ := then_ok' e2
        split at e4
        · cases e4
        · cases e4
          have h4 := visit_cnts (lines_stanza t K) _ d' _ _ h1 h2 e3
          have h5 := (visit_pres LineR.refl (fun _ _ _ => LineR.trans) (stanza_lineR t K) _ _ _ e3).paras
          simp only [] at h4 h5
          simp only [addPara, lnP, List.map_append, List.map_cons, List.map_nil, List.sum_append, List.sum_cons, List.sum_nil]
          rw [h5, h4, h3, hx, show nLine.count tVerse = 0 by decide]
          simp
      · split at e
        · rename_i hx
          cases e
          obtain ⟨x, e3, e4⟩ := one_ok' e2
          split at e4
          · cases e4
          · cases e4
            rw [cnt_single nLine hc ha hp hf e3, hx]
            rfl
        · cases e)
theorem paras_chunk (t : List Txt) (K : Nat) : Cnts nPara (fun s => s.paras.length) (chunkTake t K) :=
  take_cnts (fun f hf => by cases hf) (fun n k f e hc ha d s s' hp hf e2 => by
    unfold chunkRules at e
    split at e
    · rename_i hx
      cases e
      obtain ⟨s1, e3, e4⟩ := then_ok' e2
      cases e4
      obtain ⟨s2, h1, rfl, hr⟩ := line_cnts zPara.toTC t K hc ha hp hf e3
      have h2 := hr.paras
      simp only [] at h2
      rw [hx, show nPara.count tP = 1 by decide] at h1
      simp only [addPara, List.length_append, List.length_singleton]
      rw [h2]
      omega
    · split at e
      · rename_i hx
        cases e
        obtain ⟨d', h1, h2, h3⟩ := cnt_one nPara hc ha hp hf
        obtain ⟨s1, e3, e4⟩ := then_ok' e2
        split at e4
        · cases e4
        · cases e4
          have h4 := visit_cnts (stanza_cnts zPara (by decide) t K) _ d' _ _ h1 h2 e3
          have h5 := (visit_pres LineR.refl (fun _ _ _ => LineR.trans) (stanza_lineR t K) _ _ _ e3).paras
          simp only [] at h4 h5
          simp only [addPara, List.length_append, List.length_singleton]
          rw [h5, h3, hx, show nPara.count tVerse = 1 by decide]
          omega
      · split at e
        · rename_i hx
          cases e
          obtain ⟨x, e3, e4⟩ := one_ok' e2
          split at e4
          · cases e4
          · cases e4
            rw [cnt_single nPara hc ha hp hf e3, hx]
            rfl
        · cases e)
/-- chunks that are done stay -/
theorem chunksP : ParaP (fun s s' => s'.chunks = s.chunks) where
  hr := fun s => rfl
  ht := fun a b c h1 h2 => h2.trans h1
  said := fun _ _ => rfl
  notes := fun _ _ => rfl
  lem := fun _ _ _ => rfl
  word := fun _ _ => rfl
  lab := fun _ _ => rfl
  ends := fun _ _ => rfl
  para := fun _ _ _ => rfl
  num := fun _ _ => rfl
theorem side_of {ns : List Txt} {m : List (List Para) → Nat} (t : List Txt) (K : Nat) (h : ∀ (d : Nat) (n : Nd) (s s1 : St), isCmd n = true → (args n).length = 1 → text n = tChunk → plainN n = true → fitN d n = true → visit (chunkTake t K) { s with paras := [], num := 0 } (argN n 0) = .ok s1 → m (s.chunks ++ [s1.paras]) = m s.chunks + cntN ns d n) : Cnts ns (fun s => m s.chunks) (sideTake t K) :=
  take_cnts (fun f hf => by cases hf) (fun n k f e hc ha d s s' hp hf e2 => by
    unfold sideRules at e
    split at e
    · rename_i hx
      cases e
      obtain ⟨s1, e3, e4⟩ := then_ok' e2
      split at e4
      · cases e4
      · cases e4
        have h5 := visit_pres chunksP.hr chunksP.ht (chunkTake_pres chunksP t K) _ _ _ e3
        simp only [] at h5 ⊢
        rw [h5]
        exact h d n s s1 hc ha hx hp hf e3
    · cases e)
theorem chunks_side (t : List Txt) (K : Nat) : Cnts nChunk (fun s => s.chunks.length) (sideTake t K) :=
  side_of (m := List.length) t K (fun d n s s1 hc ha hx hp hf e => by
    obtain ⟨d', h1, h2, h3⟩ := cnt_one nChunk hc ha hp hf
    have h4 := visit_cnts (chunk_cnts zChunk (by decide) (by decide) (by decide) (by decide) t K) _ d' _ _ h1 h2 e
    rw [h3, hx, show nChunk.count tChunk = 1 by decide, List.length_append, List.length_singleton]
    omega)
theorem paras_side (t : List Txt) (K : Nat) : Cnts nPara (fun s => paC s.chunks) (sideTake t K) :=
  side_of (m := paC) t K (fun d n s s1 hc ha hx hp hf e => by
    obtain ⟨d', h1, h2, h3⟩ := cnt_one nPara hc ha hp hf
    have h4 := visit_cnts (paras_chunk t K) _ d' _ _ h1 h2 e
    simp only [List.length_nil, Nat.zero_add] at h4
    rw [h3, hx, show nPara.count tChunk = 0 by decide, ← h4]
    simp [paC])
theorem lines_side (t : List Txt) (K : Nat) : Cnts nLine (fun s => lnC s.chunks) (sideTake t K) :=
  side_of (m := lnC) t K (fun d n s s1 hc ha hx hp hf e => by
    obtain ⟨d', h1, h2, h3⟩ := cnt_one nLine hc ha hp hf
    have h4 := visit_cnts (lines_chunk t K) _ d' _ _ h1 h2 e
    have h5 : lnP s1.paras = cntL nLine d' (argN n 0) := by
      have : lnP s1.paras = 0 + cntL nLine d' (argN n 0) := h4
      omega
    rw [h3, hx, show nLine.count tChunk = 0 by decide, ← h5]
    simp [lnC])
/-! #### the sides -/
theorem source_cnts {ns : List Txt} {f : Side → Nat} (t : List Txt) (K : Nat) (h1 : ns.count tText = 0) (h2 : ns.count tLeft = 0) (h3 : ns.count tRight = 0) (h : ∀ (d : Nat) (s : St) (l : List Nd) (s1 : St), plainL l = true → fitL d l = true → visit (sideTake t K) { s with chunks := [], words := [], notes := [] } l = .ok s1 → f ⟨s1.chunks, s1.words, s1.notes⟩ = cntL ns d l) : Cnts ns (fun s => (s.sides.map f).sum) (sourceTake t K) := by
  intro d s n s' hp hf e
  obtain ⟨k1, k2, k3, k4⟩ := source_one e
  obtain ⟨d', g1, g2, g3⟩ := cnt_one ns k2 k3 hp hf
  obtain ⟨s1, e3, e4⟩ := then_ok' k1
  split at e4
  · cases e4
  · cases e4
    have h5 := visit_pres sidesP.hr sidesP.ht (side_pres sidesP t K) _ _ _ e3
    have h6 := h d' s _ s1 g1 g2 e3
    simp only [] at h5
    have h7 : ns.count (text n) = 0 := by rcases k4 with k | k | k <;> rw [k] <;> assumption
    simp only [List.map_append, List.map_cons, List.map_nil, List.sum_append, List.sum_cons, List.sum_nil]
    rw [h5, h6, g3, h7]
    omega
theorem labels_source (t : List Txt) (K : Nat) : Cnts nLabel (fun s => s.labels.length) (sourceTake t K) := by
  intro d s n s' hp hf e
  obtain ⟨k1, k2, k3, k4⟩ := source_one e
  obtain ⟨d', g1, g2, g3⟩ := cnt_one nLabel k2 k3 hp hf
  obtain ⟨s1, e3, e4⟩ := then_ok' k1
  split at e4
  · cases e4
  · cases e4
    have h6 := visit_cnts (side_cnts labelP (by decide) (by decide) (by decide) (by decide) (by decide) t K) _ d' _ _ g1 g2 e3
    simp only [] at h6 ⊢
    have h7 : nLabel.count (text n) = 0 := by rcases k4 with k | k | k <;> rw [k] <;> decide
    rw [h6, g3, h7]
    omega
/-- what a document counts -/
structure CountsOk (d : Nat) (l : List Nd) (s : St) : Prop where
  chunks : (s.sides.map (fun x => x.chunks.length)).sum = cntL nChunk d l
  paras : (s.sides.map (fun x => paC x.chunks)).sum = cntL nPara d l
  lines : (s.sides.map (fun x => lnC x.chunks)).sum = cntL nLine d l
  notes : (s.sides.map (fun x => x.notes.length)).sum = cntL seriesL d l
  labels : s.labels.length = cntL nLabel d l
theorem counts_made {t : List Txt} {K : Nat} {l : List Nd} {s : St} {d : Nat} (h : made t K l = .ok s) (hp : plainL l = true) (hf : fitL d l = true) : CountsOk d l s := by
  obtain ⟨s1, e1, e2⟩ := then_ok' h
  have key : CountsOk d l s1 := by
    refine ⟨?_, ?_, ?_, ?_, ?_⟩
    · have := visit_cnts (source_cnts (ns := nChunk) (f := fun x => x.chunks.length) t K (by decide) (by decide) (by decide) (fun d s l s1 hp hf e => by simpa using visit_cnts (chunks_side t K) l d _ _ hp hf e)) l d _ _ hp hf e1
      simpa [St.none] using this
    · have := visit_cnts (source_cnts (ns := nPara) (f := fun x => paC x.chunks) t K (by decide) (by decide) (by decide) (fun d s l s1 hp hf e => by simpa [paC] using visit_cnts (paras_side t K) l d _ _ hp hf e)) l d _ _ hp hf e1
      simpa [St.none] using this
    · have := visit_cnts (source_cnts (ns := nLine) (f := fun x => lnC x.chunks) t K (by decide) (by decide) (by decide) (fun d s l s1 hp hf e => by simpa [lnC] using visit_cnts (lines_side t K) l d _ _ hp hf e)) l d _ _ hp hf e1
      simpa [St.none] using this
    · have := visit_cnts (source_cnts (ns := seriesL) (f := fun x => x.notes.length) t K (by decide) (by decide) (by decide) (fun d s l s1 hp hf e => by simpa using visit_cnts (side_cnts notesPC (by decide) (by decide) (by decide) (by decide) (by decide) t K) l d _ _ hp hf e)) l d _ _ hp hf e1
      simpa [St.none] using this
    · have := visit_cnts (labels_source t K) l d _ _ hp hf e1
      simpa [St.none] using this
  have hs : checkRefs s1 = .ok s → s1 = s := fun e => by
    unfold checkRefs at e
    split at e
    · cases e
    · cases e; rfl
  have h2 : s1 = s := by
    unfold finish at e2
    split at e2
    · split at e2
      · exact hs e2
      · cases e2
    · split at e2
      · exact hs e2
      · cases e2
  rw [← h2]
  exact key
end Go.Proofs.YtfjplhgajoehfaaGreatDoor.El

set_option linter.unusedVariables false
set_option linter.unusedSimpArgs false
namespace Go.Proofs.YtfjplhgajoehfaaGreatDoor
open Go.RowKit

namespace El
theorem cntN_is (ns : List Txt) (d : Nat) (n : Nd) : cntN ns d n = (if isCmd n = true then ns.count (text n) else 0) + (if d = 0 then 0 else cntA ns (d - 1) (args n)) := by
  obtain ⟨c, x, a, p⟩ := n
  cases d with
  | zero => rfl
  | succ d => rfl
theorem count_drop {ns : List Txt} {k : Nat} {y x : Txt} (h : ns[k]? = some y) : (ns.drop k).count x = (if x = y then 1 else 0) + (ns.drop (k + 1)).count x := by
  obtain ⟨hl, hx⟩ := List.getElem?_eq_some_iff.1 h
  rw [List.drop_eq_getElem_cons hl, hx, List.count_cons]
  by_cases e : x = y
  · subst e; simp; omega
  · have e2 : ¬ (y == x) = true := by intro h; exact e (eq_of_beq h).symm
    rw [if_neg e, if_neg e2]; omega
mutual
theorem cntL_le (ns : List Txt) (d : Nat) : ∀ l : List Nd, cntL ns d l ≤ ns.length * sizeL l
  | [] => by unfold cntL; simp
  | n :: r => by
    have h1 := cntN_le ns d n
    have h2 := cntL_le ns d r
    unfold cntL sizeL
    rw [Nat.mul_add]
    omega
theorem cntN_le (ns : List Txt) (d : Nat) : ∀ n : Nd, cntN ns d n ≤ ns.length * sizeN n
  | .mk c x a p => by
    have h0 : (if c = true then ns.count x else 0) ≤ ns.length := by
      split
      · exact List.count_le_length
      · omega
    have h2 : (if d = 0 then 0 else cntA ns (d - 1) a) ≤ ns.length * sizeA a := by
      split
      · omega
      · exact cntA_le ns (d - 1) a
    rw [cntN_is]
    unfold sizeN
    rw [Nat.mul_add, Nat.mul_add]
    have h3 : ns.length * 1 = ns.length := Nat.mul_one _
    have h5 : (if isCmd (Nd.mk c x a p) = true then ns.count (text (Nd.mk c x a p)) else 0) ≤ ns.length := h0
    have h6 : (if d = 0 then 0 else cntA ns (d - 1) (args (Nd.mk c x a p))) ≤ ns.length * sizeA a := h2
    omega
theorem cntA_le (ns : List Txt) (d : Nat) : ∀ a : List (List Nd), cntA ns d a ≤ ns.length * sizeA a
  | [] => by unfold cntA; simp
  | g :: r => by
    have h1 := cntL_le ns d g
    have h2 := cntA_le ns d r
    unfold cntA sizeA
    rw [Nat.mul_add, Nat.mul_add]
    omega
end
end El
set_option maxHeartbeats 8000000 in
set_option maxRecDepth 100000 in
theorem count_any (ns : List (List UInt8)) (hns : ns.length ≤ 100) : ∀ (d : Nat) (K : Nat → Prop) (v tv : Value) (l : List Nd) (w : World), d ≤ 64 → El.sizeL l ≤ lim14 → NodesAt w K v l → TxsAt w tv ns → Calls Tryz.prog 24 #[v, tv, .int .i64 (d : Int)] w (Ret (.int .i64 ((El.cntL ns d l : Nat) : Int)) w) := by
  intro d
  induction d using Nat.strongRecOn with
  | ind d ih =>
    intro K v tv l w hd hsz h ht
    have HA := Lib.hid h
    have HT := Lib.hid ht
    obtain ⟨pa, cp, rfl, hml⟩ := nodes_head h
    obtain ⟨⟨pt, ct, rfl, _⟩, _, _⟩ := ht
    have hz : l.length ≤ 9223372036854775807 := by unfold maxLen at hml; omega
    obtain ⟨n, hn⟩ : ∃ n, n = l.length := ⟨_, rfl⟩
    have Hn := Lib.hid hn
    obtain ⟨m, hm⟩ : ∃ m, m = ns.length := ⟨_, rfl⟩
    have Hm := Lib.hid hm
    have hm100 : m ≤ 100 := by omega
    rw [← hn] at HA hz ⊢
    rw [← hm] at HT ⊢
    have HI : Hid (∀ (d' : Nat) (g : List El.Nd) (v : Value) (wx : World), d = d' + 1 → El.sizeL g ≤ lim14 → NodesAt wx K v g → Below w.heap.size w wx → Calls Tryz.prog 24 #[v, .slice pt m ct, .int .i64 (d' : Int)] wx (Ret (.int .i64 ((El.cntL ns d' g : Nat) : Int)) wx)) := Lib.hid (fun d' g v wx e h2 h3 hb => ih d' (by omega) K v _ g wx (by omega) h2 h3 (SlcAt.mono HT.out hb))
    have HSz : Hid (∀ i x, l[i]? = some x → El.sizeN x ≤ lim14) := Lib.hid (fun i x hx => Nat.le_trans (El.size_nodeN hx) hsz)
    have HTl : Hid (El.cntL ns d l ≤ 419430400) := Lib.hid (by
      have h1 := El.cntL_le ns d l
      have h2 : ns.length * El.sizeL l ≤ 100 * lim14 := Nat.mul_le_mul hns hsz
      unfold lim14 at h2
      omega)
    have HT0 : Hid (0 + El.cntL ns d (l.drop 0) = El.cntL ns d l) := Lib.hid (by rw [Nat.zero_add]; rfl)
    obtain ⟨T, hT⟩ : ∃ T, T = El.cntL ns d l := ⟨_, rfl⟩
    rw [← hT] at HT0 HTl ⊢
    have d0 : (0 : Int) ≤ (d : Int) := by omega
    have d64 : (d : Int) ≤ 64 := by omega
    clear h hml hn hm ih hT hsz hns
    go_enter Tryz.func24, Tryz.ntmps24
    go_wp2_with fail
    go_loopw [7, 8] (fun av iv wr => ∃ i acc : Nat, i ≤ n ∧ iv = .int .i64 (i : Int) ∧ av = .int .i64 (acc : Int) ∧ Hid (acc + El.cntL ns d (l.drop i) = T) ∧ Hid (Below w.heap.size w wr)) (fun _ iv _ => n - (intOf iv).toNat)
    case atStart => exact ⟨0, 0, Nat.zero_le _, rfl, rfl, HT0, Lib.hid (Below.refl _ _)⟩
    case round =>
      obtain ⟨i, acc, hi, rfl, rfl, HC, HB⟩ := hrel
      clear HT0
      by_cases hlt : i < n
      · obtain ⟨x, hx⟩ : ∃ x, l[i]? = some x := ⟨_, List.getElem?_eq_getElem (by rw [← Hn.out]; exact hlt)⟩
        have hsx := HSz.out i x hx
        obtain ⟨b1, o1, c1, e1, pq, cq, y0, y1, y2, y3, hargs⟩ := node_get HA.out hx
        rw [← Hn.out] at e1
        obtain ⟨rfl, rfl⟩ : pa = some ⟨b1, o1, none⟩ ∧ cp = c1 := by injection e1 with a1 a2 a3; exact ⟨a1, a3⟩
        have hc := HC.out
        rw [drop_next14 hx] at hc
        unfold El.cntL at hc
        rw [El.cntN_is] at hc
        obtain ⟨c, tx, ags, p⟩ := x
        have HAr0 : ArgsAt w K (.slice pq ags.length cq) ags := hargs
        have y0 : w.cell? ⟨b1, o1 + i * 4, none⟩ = some (.bool c) := y0
        have y1 : w.cell? ⟨b1, o1 + i * 4 + 1, none⟩ = some (.string (str tx)) := y1
        have y2 : w.cell? ⟨b1, o1 + i * 4 + 2, none⟩ = some (.slice pq ags.length cq) := y2
        have hza : ags.length ≤ 9223372036854775807 := by have := HAr0.2.1; unfold maxLen at this; omega
        obtain ⟨na, hna⟩ : ∃ na, na = ags.length := ⟨_, rfl⟩
        have Hna := Lib.hid hna
        have HAr := Lib.hid HAr0
        rw [← hna] at y2 HAr hza
        have Y0 := Lib.hid y0
        have Y1 := Lib.hid y1
        have Y2 := Lib.hid y2
        have HSx := Lib.hid hsx
        have i0 : (0 : Int) ≤ (i : Int) := by omega
        have il : (i : Int) < (n : Int) := by omega
        obtain ⟨rest, hrest⟩ : ∃ r, r = El.cntL ns d (l.drop (i + 1)) := ⟨_, rfl⟩
        have Hrest := Lib.hid hrest
        rw [← hrest] at hc
        have HU : Hid (acc + (if c = true then (ns.drop 0).count tx else 0) + ((if d = 0 then 0 else El.cntA ns (d - 1) ags) + rest) = T) := Lib.hid (by
          have h2 : acc + (((if c = true then ns.count tx else 0) + (if d = 0 then 0 else El.cntA ns (d - 1) ags)) + rest) = T := hc
          rw [List.drop_zero]
          omega)
        clear e1 hx hsx hargs hc hna HAr0 HC hrest y0 y1 y2 y3
        go_wp2_with fail
        go_loopw [7, 9] (fun av kv wr => ∃ k a2 : Nat, k ≤ m ∧ kv = .int .i64 (k : Int) ∧ av = .int .i64 (a2 : Int) ∧ Hid (a2 + (if c = true then (ns.drop k).count tx else 0) + ((if d = 0 then 0 else El.cntA ns (d - 1) ags) + rest) = T) ∧ Hid (Below w.heap.size w wr)) (fun _ kv _ => m - (intOf kv).toNat)
        case atStart => exact ⟨0, acc, Nat.zero_le _, rfl, rfl, HU, HB⟩
        case round =>
          obtain ⟨k, a2, hk, rfl, rfl, HK, HB2⟩ := hrel
          clear HU HB
          by_cases hkl : k < m
          · obtain ⟨y, hy⟩ : ∃ y, ns[k]? = some y := ⟨_, List.getElem?_eq_getElem (by rw [← Hm.out]; exact hkl)⟩
            obtain ⟨b2, o2, c2, e2, r2⟩ := HT.out.2.2 (by rw [← Hm.out]; omega)
            rw [← Hm.out] at e2
            obtain ⟨rfl, rfl⟩ : pt = some ⟨b2, o2, none⟩ ∧ ct = c2 := by injection e2 with a1 a2 a3; exact ⟨a1, a3⟩
            have hyc : w.cell? ⟨b2, o2 + k, none⟩ = some (.string (str y)) := by have := r2 k y hy 0 _ rfl; rwa [Nat.mul_one, Nat.add_zero] at this
            have hcd := @El.count_drop ns k y tx hy
            have a2T : a2 ≤ 419430400 := by have := HK.out; have := HTl.out; omega
            have k0 : (0 : Int) ≤ (k : Int) := by omega
            have kl : (k : Int) < (m : Int) := by omega
            have q0 := cell_below HB2.out Y0.out
            have q1 := cell_below HB2.out Y1.out
            have q2 := cell_below HB2.out hyc
            have HCd := Lib.hid hcd
            clear e2 r2 hy hyc hcd
            cases c with
            | false =>
              have HN : Hid (a2 + (if false = true then (ns.drop (k + 1)).count tx else 0) + ((if d = 0 then 0 else El.cntA ns (d - 1) ags) + rest) = T) := Lib.hid (by have := HK.out; rw [if_neg (by decide)] at this ⊢; exact this)
              go_wp2_with fail
              go_quiet (fail)
              go_wp2_with fail
              go_roundw
              case rel => exact ⟨k + 1, a2, by omega, by go_num, rfl, HN, Lib.hid (below_step HB2.out (below_drew _ _))⟩
              case measure => simp [intOf]; omega
            | true =>
              by_cases hxy : tx = y
              · have hb : ((str tx).toList == (str y).toList) = true := by rw [toList_beq]; exact decide_eq_true hxy
                have HN : Hid ((a2 + 1) + (if true = true then (ns.drop (k + 1)).count tx else 0) + ((if d = 0 then 0 else El.cntA ns (d - 1) ags) + rest) = T) := Lib.hid (by have := HK.out; rw [if_pos rfl, HCd.out, if_pos hxy] at this; rw [if_pos rfl]; omega)
                clear hxy
                go_wp2_with fail
                go_quiet (fail)
                go_wp2_with fail
                go_roundw
                case rel => exact ⟨k + 1, a2 + 1, by omega, by go_num, by go_num, HN, Lib.hid (below_step HB2.out (below_drew _ _))⟩
                case measure => simp [intOf]; omega
              · have hb : ((str tx).toList == (str y).toList) = false := by rw [toList_beq]; exact decide_eq_false hxy
                have HN : Hid (a2 + (if true = true then (ns.drop (k + 1)).count tx else 0) + ((if d = 0 then 0 else El.cntA ns (d - 1) ags) + rest) = T) := Lib.hid (by have := HK.out; rw [if_pos rfl, HCd.out, if_neg hxy] at this; rw [if_pos rfl]; omega)
                clear hxy
                go_wp2_with fail
                go_quiet (fail)
                go_wp2_with fail
                go_roundw
                case rel => exact ⟨k + 1, a2, by omega, by go_num, rfl, HN, Lib.hid (below_step HB2.out (below_drew _ _))⟩
                case measure => simp [intOf]; omega
          · have HV : Hid (a2 + ((if d = 0 then 0 else El.cntA ns (d - 1) (ags.drop 0)) + rest) = T) := Lib.hid (by
              have h0 := HK.out
              rw [show List.drop k ns = [] from List.drop_eq_nil_of_le (by rw [← Hm.out]; omega), List.count_nil] at h0
              rw [List.drop_zero]
              have : (if c = true then 0 else 0) = 0 := by split <;> rfl
              omega)
            clear HK
            go_wp2_with fail
            go_loopw [7, 10] (fun av kv wr => ∃ k a2 : Nat, k ≤ na ∧ kv = .int .i64 (k : Int) ∧ av = .int .i64 (a2 : Int) ∧ Hid (a2 + ((if d = 0 then 0 else El.cntA ns (d - 1) (ags.drop k)) + rest) = T) ∧ Hid (Below w.heap.size w wr)) (fun _ kv _ => na - (intOf kv).toNat)
            case atStart => exact ⟨0, a2, Nat.zero_le _, rfl, rfl, HV, HB2⟩
            case round =>
              obtain ⟨j, a3, hj, rfl, rfl, HJ, HB3⟩ := hrel
              clear HV HB2
              have q2 := cell_below HB3.out Y2.out
              by_cases hjl : j < na
              · by_cases hd0 : d = 0
                · have hdn : ¬ ((0 : Int) < (d : Int)) := by omega
                  have hdd : decide ((0 : Int) < (d : Int)) = false := decide_eq_false hdn
                  have hde : decide (0 < d) = false := by rw [decide_eq_false_iff_not]; omega
                  have j0 : (0 : Int) ≤ (j : Int) := by omega
                  have jl : (j : Int) < (na : Int) := by omega
                  have HN : Hid (a3 + El.cntL ns d (l.drop (i + 1)) = T) := Lib.hid (by have := HJ.out; rw [if_pos hd0] at this; rw [← Hrest.out]; omega)
                  go_wp2_with fail
                  go_roundw
                  case rel => exact ⟨i + 1, a3, by omega, by go_num, rfl, HN, HB3⟩
                  case measure => simp [intOf]; omega
                · obtain ⟨d', hdd⟩ : ∃ d', d = d' + 1 := ⟨d - 1, by omega⟩
                  obtain ⟨g, hg⟩ : ∃ g, ags[j]? = some g := ⟨_, List.getElem?_eq_getElem (by rw [← Hna.out]; exact hjl)⟩
                  obtain ⟨b3, o3, c3, e3, vg, hvg, hgn⟩ := arg_get HAr.out hg
                  rw [← Hna.out] at e3
                  obtain ⟨rfl, rfl⟩ : pq = some ⟨b3, o3, none⟩ ∧ cq = c3 := by injection e3 with a1 a2 a3; exact ⟨a1, a3⟩
                  have hgs : El.sizeL g ≤ lim14 := by
                    have h1 := HSx.out
                    have h2 := El.size_argN (x := .mk c tx ags p) hg
                    omega
                  have HCl := Lib.hid (HI.out d' g vg wr hdd hgs (hgn.mono HB3.out) HB3.out)
                  obtain ⟨ag, cg, rfl, _⟩ := nodes_head hgn
                  have q3 := cell_below HB3.out hvg
                  obtain ⟨q, hq⟩ : ∃ q, q = El.cntL ns d' g := ⟨_, rfl⟩
                  rw [← hq] at HCl
                  have HN : Hid ((a3 + q) + ((if d = 0 then 0 else El.cntA ns (d - 1) (ags.drop (j + 1))) + rest) = T) := Lib.hid (by
                    have h0 := HJ.out
                    rw [drop_next14 hg, if_neg hd0] at h0
                    rw [if_neg hd0]
                    unfold El.cntA at h0
                    have e : d - 1 = d' := by omega
                    rw [e] at h0 ⊢
                    omega)
                  have aqT : a3 + q ≤ 419430400 := by have := HN.out; have := HTl.out; omega
                  have hdp : (0 : Int) < (d : Int) := by omega
                  have hde : decide (0 < d) = true := by rw [decide_eq_true_iff]; omega
                  have hdw : IntKind.i64.wrap ((d : Int) - 1) = (d' : Int) := by rw [IntWalk.i64_left, IntWalk.wrap64_in _ (by omega)]; omega
                  have j0 : (0 : Int) ≤ (j : Int) := by omega
                  have jl : (j : Int) < (na : Int) := by omega
                  clear e3 hg hvg hgn hgs hq hdd
                  go_wp2_with fail
                  refine HCl.out.mono ?_
                  rintro e w5 ⟨rfl, hb5⟩
                  have HB5 := Lib.hid (below_step HB3.out hb5)
                  clear hb5
                  go_wp2_with fail
                  go_roundw
                  case rel => exact ⟨j + 1, a3 + q, by omega, by go_num, by go_num, HN, HB5⟩
                  case measure => simp [intOf]; omega
              · have HN : Hid (a3 + El.cntL ns d (l.drop (i + 1)) = T) := Lib.hid (by
                  have h0 := HJ.out
                  rw [show List.drop j ags = [] from List.drop_eq_nil_of_le (by rw [← Hna.out]; omega)] at h0
                  unfold El.cntA at h0
                  rw [← Hrest.out]
                  have : (if d = 0 then 0 else 0) = 0 := by split <;> rfl
                  omega)
                go_wp2_with fail
                go_roundw
                case rel => exact ⟨i + 1, a3, by omega, by go_num, rfl, HN, HB3⟩
                case measure => simp [intOf]; omega
      · have HE : Hid (acc = T) := Lib.hid (by
          have := HC.out
          rw [show List.drop i l = [] from List.drop_eq_nil_of_le (by rw [← Hn.out]; omega)] at this
          unfold El.cntL at this
          omega)
        go_wp2
        go_ret
        rw [← HE.out]
        exact ⟨rfl, HB.out⟩
end Go.Proofs.YtfjplhgajoehfaaGreatDoor
