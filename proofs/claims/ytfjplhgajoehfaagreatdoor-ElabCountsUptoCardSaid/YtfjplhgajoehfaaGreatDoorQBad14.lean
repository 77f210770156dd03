/-
  What is bad has a code that is not 0 (plain mathematics).
  The law's inside; a document's paragraphs in memory; what a call of Make leaves, as far as spans go.
-/
import Derived.Test.YtfjplhgajoehfaaGreatDoorQNin14
set_option linter.unusedVariables false
set_option linter.unusedSimpArgs false
namespace Go.Proofs.YtfjplhgajoehfaaGreatDoor.El
open Go.Proofs.YtfjplhgajoehfaaGreatDoor

def Coded (op : Op) : Prop := ∀ s n c a, op s n = .bad c a → c ≠ 0
theorem then_bad2 {r : Res} {f : St → Res} {c a : Int} (h : r.then f = .bad c a) : r = .bad c a ∨ ∃ s1, r = .ok s1 ∧ f s1 = .bad c a := by
  cases r with
  | ok s1 => exact .inr ⟨s1, rfl, h⟩
  | bad c' a' => exact .inl h
theorem one_bad2 {r : One} {f : Nd → Res} {c a : Int} (h : r.then f = .bad c a) : r = .bad c a ∨ ∃ x, r = .word x ∧ f x = .bad c a := by
  cases r with
  | word x => exact .inr ⟨x, rfl, h⟩
  | bad c' a' =>
    have h2 : Res.bad c' a' = .bad c a := h
    cases h2
    exact .inl rfl
theorem single_bad {n : Nd} {c a : Int} (h : single n = .bad c a) : c ≠ 0 := by
  unfold single at h
  split at h
  · cases h; decide
  · split at h
    · cases h
    · cases h; decide
theorem visit_coded {op : Op} (h : Coded op) : ∀ (l : List Nd) (s : St) (c a : Int), visit op s l = .bad c a → c ≠ 0
  | [], s, c, a, e => by cases e
  | n :: r, s, c, a, e => by
    have e2 : (op s n).then (fun s1 => visit op s1 r) = .bad c a := e
    rcases then_bad2 e2 with h1 | ⟨s1, _, h2⟩
    · exact h s n c a h1
    · exact visit_coded h r s1 c a h2
theorem take_coded {wd : Option Op} {rules : Txt → Option (Nat × Op)} (hw : ∀ f, wd = some f → Coded f) (hr : ∀ x k f, rules x = some (k, f) → Coded f) : Coded (take wd rules) := by
  intro s n c a h
  unfold take at h
  cases hc : isCmd n with
  | false =>
    rw [hc, if_pos rfl] at h
    cases wd with
    | none => cases h; decide
    | some f => exact hw f rfl s n c a h
  | true =>
    rw [hc, if_neg (by simp)] at h
    cases hx : rules (text n) with
    | none => rw [hx] at h; cases h; decide
    | some kf =>
      obtain ⟨k, f⟩ := kf
      rw [hx] at h
      simp only [] at h
      split at h
      · exact hr _ k f hx s n c a h
      · cases h; decide
theorem keys_coded (t : List Txt) : Coded (keysTake t) :=
  take_coded (fun f hf => by
    cases hf
    intro s n c a e
    unfold keyOp at e
    split at e
    · cases e
    · cases e; decide) (fun x k f e => by cases e)
theorem note_coded (t : List Txt) : Coded (noteTake t) :=
  take_coded (fun f hf => by
    cases hf
    intro s n c a e
    cases e) (fun x k f e => by
    unfold noteRules at e
    split at e
    · cases e
      intro s n c a e
      exact visit_coded (keys_coded t) _ _ _ _ e
    · split at e
      · cases e
        intro s n c a e
        rcases one_bad2 e with h | ⟨x, _, h⟩
        · exact single_bad h
        · cases h
      · cases e)
theorem notes_coded (t : List Txt) : Coded (notesTake t) :=
  take_coded (fun f hf => by cases hf) (fun x k f e => by
    unfold notesRules at e
    cases hs : series x with
    | none => rw [hs] at e; cases e
    | some i =>
      rw [hs] at e
      cases e
      intro s n c a e
      rcases then_bad2 e with h | ⟨s1, _, h⟩
      · exact visit_coded (note_coded t) _ _ _ _ h
      · cases h)
theorem textOf_coded (t : List Txt) {inner : St → List Nd → Res} (hi : ∀ s l c a, inner s l = .bad c a → c ≠ 0) : Coded (textOf t inner) :=
  take_coded (fun f hf => by
    cases hf
    intro s n c a e
    unfold wordOp at e
    split at e
    · cases e; decide
    · cases e) (fun x k f e => by
    unfold textRules at e
    split at e
    · cases e
      intro s n c a e
      rcases then_bad2 e with h | ⟨s1, _, h⟩
      · exact hi _ _ _ _ h
      · split at h
        · cases h; decide
        · exact visit_coded (notes_coded t) _ _ _ _ h
    · split at e
      · cases e
        intro s n c a e
        rcases one_bad2 e with h | ⟨x, _, h⟩
        · exact single_bad h
        · split at h
          · cases h; decide
          · cases h
      · cases e)
theorem text_coded (t : List Txt) : ∀ k, Coded (textTake t k)
  | 0 => textOf_coded t (fun s l c a e => by cases e)
  | k + 1 => textOf_coded t (fun s l c a e => visit_coded (text_coded t k) _ _ _ _ e)
theorem line_coded (t : List Txt) (k : Nat) : Coded (lineOp t k) := by
  intro s n c a e
  rcases then_bad2 e with h | ⟨s1, _, h⟩
  · exact visit_coded (text_coded t k) _ _ _ _ h
  · split at h
    · cases h; decide
    · cases h
theorem stanza_coded (t : List Txt) (k : Nat) : Coded (stanzaTake t k) :=
  take_coded (fun f hf => by cases hf) (fun x j f e => by
    unfold stanzaRules at e
    split at e
    · cases e; exact line_coded t k
    · cases e)
theorem chunkTake_coded (t : List Txt) (k : Nat) : Coded (chunkTake t k) :=
  take_coded (fun f hf => by cases hf) (fun x j f e => by
    unfold chunkRules at e
    split at e
    · cases e
      intro s n c a e
      rcases then_bad2 e with h | ⟨s1, _, h⟩
      · exact line_coded t k _ _ _ _ h
      · cases h
    · split at e
      · cases e
        intro s n c a e
        rcases then_bad2 e with h | ⟨s1, _, h⟩
        · exact visit_coded (stanza_coded t k) _ _ _ _ h
        · split at h
          · cases h; decide
          · cases h
      · split at e
        · cases e
          intro s n c a e
          rcases one_bad2 e with h | ⟨x, _, h⟩
          · exact single_bad h
          · split at h
            · cases h; decide
            · cases h
        · cases e)
theorem side_coded (t : List Txt) (k : Nat) : Coded (sideTake t k) :=
  take_coded (fun f hf => by cases hf) (fun x j f e => by
    unfold sideRules at e
    split at e
    · cases e
      intro s n c a e
      rcases then_bad2 e with h | ⟨s1, _, h⟩
      · exact visit_coded (chunkTake_coded t k) _ _ _ _ h
      · split at h
        · cases h; decide
        · cases h
    · cases e)
theorem source_coded (t : List Txt) (k : Nat) : Coded (sourceTake t k) :=
  take_coded (fun f hf => by cases hf) (fun x j f e => by
    unfold sourceRules at e
    split at e
    · cases e
      intro s n c a e
      rcases then_bad2 e with h | ⟨s1, _, h⟩
      · exact visit_coded (side_coded t k) _ _ _ _ h
      · split at h
        · cases h; decide
        · cases h
    · cases e)
theorem made_coded {t : List Txt} {K : Nat} {l : List Nd} {c a : Int} (h : made t K l = .bad c a) : c ≠ 0 := by
  rcases then_bad2 h with h | ⟨s1, _, h⟩
  · exact visit_coded (source_coded t K) _ _ _ _ h
  · have hr : ∀ s, checkRefs s = .bad c a → c ≠ 0 := fun s e => by
      unfold checkRefs at e
      split at e
      · cases e; decide
      · cases e
    unfold finish at h
    split at h
    · split at h
      · exact hr _ h
      · cases h; decide
    · split at h
      · exact hr _ h
      · cases h; decide
end Go.Proofs.YtfjplhgajoehfaaGreatDoor.El

set_option linter.unusedVariables false
set_option linter.unusedSimpArgs false
namespace Go.Proofs.YtfjplhgajoehfaaGreatDoor
open Go.RowKit
attribute [local irreducible] El.made El.visit El.finish

set_option maxHeartbeats 4000000 in
set_option maxRecDepth 100000 in
theorem inside_any (v : Value) (ns : List El.Note) (a e : Nat) (w : World) (h : NotesAt w v ns) (hin : El.InP ns a e) : Calls Tryz.prog 21 #[v, .int .i64 (a : Int), .int .i64 (e : Int)] w (Ret (.bool true) w) := by
  have HA := Lib.hid h
  have HI := Lib.hid hin
  have hml := notes_len h
  obtain ⟨pa, cp, rfl⟩ : ∃ pa cp, v = .slice pa ns.length cp := by
    obtain ⟨K, rs, r1, r2⟩ := h
    obtain ⟨⟨p, c, e, _⟩, _⟩ := r1
    rw [r2.1] at e
    exact ⟨p, c, e⟩
  have hza : ns.length ≤ 9223372036854775807 := by unfold maxLen at hml; omega
  obtain ⟨n, hn⟩ : ∃ n, n = ns.length := ⟨_, rfl⟩
  have Hn := Lib.hid hn
  rw [← hn] at HA hza ⊢
  have HB0 : Hid (Below w.heap.size w w) := Lib.hid (Below.refl _ _)
  clear h hin hml hn
  go_enter Tryz.func21, Tryz.ntmps21
  go_wp2_with fail
  go_loopw [7] (fun iv wr => ∃ k : Nat, k ≤ n ∧ iv = .int .i64 k ∧ Hid (Below w.heap.size w wr)) (fun iv _ => n - (intOf iv).toNat)
  case atStart => exact ⟨0, Nat.zero_le _, rfl, HB0⟩
  case round =>
    obtain ⟨k, hk, rfl, HB⟩ := hrel
    clear HB0
    by_cases hlt : k < n
    · obtain ⟨nt, hnt⟩ : ∃ nt, ns[k]? = some nt := ⟨_, List.getElem?_eq_getElem (by rw [← Hn.out]; exact hlt)⟩
      obtain ⟨bn, on, cpn, en, pt, ct, hnote⟩ := note_get HA.out hnt
      rw [← Hn.out] at en
      obtain ⟨rfl, rfl⟩ : pa = some ⟨bn, on, none⟩ ∧ cp = cpn := by injection en with a1 a2 a3; exact ⟨a1, a3⟩
      obtain ⟨m0, m1, m2, m3, m4, _⟩ := hnote.mono HB.out
      have hp := HI.out nt (List.mem_of_getElem? hnt)
      have k0 : (0 : Int) ≤ (k : Int) := by omega
      have kl : (k : Int) < (n : Int) := by omega
      obtain ⟨fr, hfr⟩ : ∃ fr : Int, fr = (nt.fr : Int) := ⟨_, rfl⟩
      obtain ⟨tl, htl⟩ : ∃ tl : Int, tl = (nt.til : Int) := ⟨_, rfl⟩
      have hp2 : (a : Int) ≤ fr → fr < (e : Int) → tl ≤ (e : Int) ∧ fr < tl := fun h1 h2 => by
        have := hp (by omega) (by omega)
        omega
      rw [← hfr] at m1
      rw [← htl] at m2
      have hb := below_alloc wr (.cells #[.int .i64 nt.ser, .int .i64 fr, .int .i64 tl, .slice pt nt.txt.length ct, .int .i64 nt.loc] 44)
      have HBx := Lib.hid (below_step HB.out hb)
      obtain ⟨A, hA⟩ : ∃ A : Int, A = (a : Int) := ⟨_, rfl⟩
      obtain ⟨E, hE⟩ : ∃ E : Int, E = (e : Int) := ⟨_, rfl⟩
      rw [← hA, ← hE] at hp2
      clear hnt en hnote hp hfr htl hb
      rw [← hA, ← hE]
      clear hA hE
      by_cases c1 : A ≤ fr
      · by_cases c2 : fr < E
        · obtain ⟨c3, c4⟩ := hp2 c1 c2
          clear hp2
          go_wp2
          go_roundw
          case rel => exact ⟨k + 1, by omega, by go_num, HBx⟩
          case measure => simp [intOf]; omega
        · clear hp2
          go_wp2
          go_roundw
          case rel => exact ⟨k + 1, by omega, by go_num, HBx⟩
          case measure => simp [intOf]; omega
      · clear hp2
        go_wp2
        go_roundw
        case rel => exact ⟨k + 1, by omega, by go_num, HBx⟩
        case measure => simp [intOf]; omega
    · go_wp2
      go_ret
      exact ⟨rfl, HB.out⟩
/-! ### chunks, paragraphs, ends -/
theorem chunk_get {w : World} {v : Value} {cs : List (List El.Para)} (h : ChunksAt w v cs) {i : Nat} {c : List El.Para} (hi : cs[i]? = some c) : ∃ b o cap, v = .slice (some ⟨b, o, none⟩) cs.length cap ∧ ∃ pp cq, w.cell? ⟨b, o + i, none⟩ = some (.slice pp c.length cq) ∧ ParasAt w (.slice pp c.length cq) c := by
  obtain ⟨K, rs, r1, r2⟩ := h
  have hlt := (List.getElem?_eq_some_iff.1 hi).1
  obtain ⟨_, _, r13⟩ := r1
  obtain ⟨b, o, cap, e, _, hc⟩ := r13 (by rw [r2.1]; omega)
  obtain ⟨r, hr, q1⟩ := r2.get hi
  have hcell := hc i r hr 0 _ rfl
  rw [r2.1] at e
  rw [Nat.mul_one, Nat.add_zero] at hcell
  have q1' : ParasK K w r.v c := q1
  have l0 := parasK_len q1'
  have v0 : r.v = .slice r.a c.length r.cap := by unfold Hd.v; rw [l0]
  rw [v0] at hcell q1'
  exact ⟨b, o, cap, e, r.a, r.cap, hcell, ⟨K, q1'⟩⟩
structure ParaCells (w : World) (b o : Nat) (p : El.Para) (pe : Option Addr) (ce : Nat) : Prop where
  c0 : w.cell? ⟨b, o, none⟩ = some (.bool p.verse)
  c1 : w.cell? ⟨b, o + 1, none⟩ = some (.int .i64 p.fr)
  c2 : w.cell? ⟨b, o + 2, none⟩ = some (.int .i64 p.num)
  c3 : w.cell? ⟨b, o + 3, none⟩ = some (.slice pe p.ends.length ce)
  ends : SlcAt enC 1 w (.slice pe p.ends.length ce) p.ends
theorem ParaCells.mono {w w' : World} {b o : Nat} {p : El.Para} {pe : Option Addr} {ce : Nat} (h : ParaCells w b o p pe ce) (hb : Below w.heap.size w w') : ParaCells w' b o p pe ce :=
  ⟨cell_below hb h.c0, cell_below hb h.c1, cell_below hb h.c2, cell_below hb h.c3, SlcAt.mono h.ends hb⟩
theorem para_get {w : World} {v : Value} {ps : List El.Para} (h : ParasAt w v ps) {i : Nat} {p : El.Para} (hi : ps[i]? = some p) : ∃ b o cap, v = .slice (some ⟨b, o, none⟩) ps.length cap ∧ ∃ pe ce, ParaCells w b (o + i * 4) p pe ce := by
  obtain ⟨K, rs, r1, r2⟩ := h
  have hlt := (List.getElem?_eq_some_iff.1 hi).1
  obtain ⟨_, _, r13⟩ := r1
  obtain ⟨b, o, cap, e, _, hc⟩ := r13 (by rw [r2.1]; omega)
  obtain ⟨r, hr, q1, q2, q3, q4⟩ := r2.get hi
  have hcell := hc i r hr
  rw [r2.1] at e
  refine ⟨b, o, cap, e, r.e.a, r.e.cap, ?_⟩
  have e0 : w.cell? ⟨b, o + i * 4 + 0, none⟩ = some (.bool r.verse) := hcell 0 _ rfl
  have e1 : w.cell? ⟨b, o + i * 4 + 1, none⟩ = some (.int .i64 r.fr) := hcell 1 _ rfl
  have e2 : w.cell? ⟨b, o + i * 4 + 2, none⟩ = some (.int .i64 r.num) := hcell 2 _ rfl
  have e3 : w.cell? ⟨b, o + i * 4 + 3, none⟩ = some r.e.v := hcell 3 _ rfl
  have l3 := slcK_len q4
  have v3 : r.e.v = .slice r.e.a p.ends.length r.e.cap := by unfold Hd.v; rw [l3]
  rw [v3] at e3 q4
  rw [q1] at e0
  rw [q2] at e1
  rw [q3] at e2
  exact ⟨e0, e1, e2, e3, q4.at⟩
theorem paras_lenM {w : World} {v : Value} {ps : List El.Para} (h : ParasAt w v ps) : ps.length ≤ maxLen := by
  obtain ⟨K, rs, r1, r2⟩ := h
  obtain ⟨_, hm, _⟩ := r1
  rw [r2.1] at hm
  exact hm
theorem chunks_lenM {w : World} {v : Value} {ps : List (List El.Para)} (h : ChunksAt w v ps) : ps.length ≤ maxLen := by
  obtain ⟨K, rs, r1, r2⟩ := h
  obtain ⟨_, hm, _⟩ := r1
  rw [r2.1] at hm
  exact hm
/-- what a call of Make leaves, as far as spans go -/
def SpansPost (w : World) (e : Ending) (w' : World) : Prop := Below w.heap.size w w' ∧
  ((∃ vs vl s, e = .returned (.tuple #[.agg #[vs, vl], .agg #[.int .i64 0, .int .i64 0]]) ∧ SidesAt w' vs s.sides ∧ SlcAt laC 3 w' vl s.labels ∧ El.SpansOk s)
  ∨ (∃ c a, e = .returned (.tuple #[.agg #[.slice none 0 0, .slice none 0 0], .agg #[.int .i64 c, .int .i64 a]]) ∧ c ≠ 0))
theorem doc_spans {keys : List (List UInt8)} {l : List El.Nd} {w w' : World} {e : Ending} (h : MakePost keys l w e w') : SpansPost w e w' := by
  have h := h.res
  obtain ⟨R, hR⟩ : ∃ R, R = El.made keys El.deepest l := ⟨_, rfl⟩
  rw [← hR] at h
  obtain ⟨hb, h⟩ := h
  refine ⟨hb, ?_⟩
  cases R with
  | ok s =>
    obtain ⟨vs, vl, K, rfl, hS, hL, _⟩ := h
    exact .inl ⟨vs, vl, s, rfl, ⟨K, hS⟩, hL.at, El.spans_made hR.symm⟩
  | bad c a => exact .inr ⟨c, a, h, El.made_coded hR.symm⟩
end Go.Proofs.YtfjplhgajoehfaaGreatDoor
