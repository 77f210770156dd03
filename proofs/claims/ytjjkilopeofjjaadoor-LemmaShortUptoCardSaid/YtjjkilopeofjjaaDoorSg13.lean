/-
  The plain mathematics of package sigla: keys, names, tables, their texts, and what texts are of; no program is mentioned here.
-/
import Derived.Test.YtjjkilopeofjjaaDoorCut13
set_option linter.unusedVariables false
set_option linter.unusedSimpArgs false
namespace Go.Proofs.YtjjkilopeofjjaaDoor.Sg
open Go.Proofs.YtjjkilopeofjjaaDoor

abbrev Bs := List UInt8
structure Sig where
  k : Bs
  n : Bs
  deriving DecidableEq
def keyC (c : UInt8) : Bool := decide (48 ≤ c.toNat ∧ c.toNat ≤ 57) || decide (97 ≤ c.toNat ∧ c.toNat ≤ 122) || decide (65 ≤ c.toNat ∧ c.toNat ≤ 90)
def keyOk (s : Bs) : Bool := s.all keyC && (decide (1 ≤ s.length) && decide (s.length ≤ 8))
def nameOk (s : Bs) : Bool := s.all (fun c => decide (c ≠ 10)) && (decide (1 ≤ s.length) && decide (s.length ≤ 200))
/-- the place of the first siglum with a key -/
def find (t : List Sig) (key : Bs) : Int := if t.findIdx (fun x => decide (x.k = key)) < t.length then (t.findIdx (fun x => decide (x.k = key)) : Int) else -1
def keys (t : List Sig) : List Bs := t.map (·.k)
def may (t : List Sig) : Bool := decide (t.length ≤ 100) && t.all (fun x => keyOk x.k && nameOk x.n) && decide (keys t).Nodup
def line (x : Sig) : Bs := x.k ++ 32 :: x.n
def text (t : List Sig) : Bs := t.flatMap fun x => line x ++ [10]
def print (t : List Sig) : Bs := if may t = true then text t else []
/-- a text at its first blank -/
def cut : Bs → Option (Bs × Bs)
  | [] => none
  | c :: r => if c = 32 then some ([], r) else (cut r).map fun x => (c :: x.1, x.2)
/-- a line that may be -/
def lineOk (l : Bs) : Option Sig := match cut l with
  | none => none
  | some (k, n) => if keyOk k = true ∧ nameOk n = true then some ⟨k, n⟩ else none
/-- lines, one behind the other: i of them are read, t is what they are -/
def parseL : List Sig → Nat → List Bs → List Sig × Int × Int
  | t, i, [] => (t, 0, 0)
  | t, i, [l] => if l = [] then (t, 0, 0) else ([], 130, i)
  | t, i, l :: m :: r => match lineOk l with
    | none => ([], 130, i)
    | some x => if x.k ∈ keys t then ([], 131, i) else if t.length = 100 then ([], 132, i) else parseL (t ++ [x]) (i + 1) (m :: r)
def parse (s : Bs) : List Sig × Int × Int := parseL [] 0 (Mt.split 10 s)

theorem keyOk_yes {s : Bs} (h : keyOk s = true) : (∀ c ∈ s, keyC c = true) ∧ 1 ≤ s.length ∧ s.length ≤ 8 := by
  unfold keyOk at h
  simp only [Bool.and_eq_true, decide_eq_true_eq] at h
  exact ⟨List.all_eq_true.1 h.1, h.2.1, h.2.2⟩
theorem nameOk_yes {s : Bs} (h : nameOk s = true) : (10 : UInt8) ∉ s ∧ 1 ≤ s.length ∧ s.length ≤ 200 := by
  unfold nameOk at h
  simp only [Bool.and_eq_true, decide_eq_true_eq] at h
  refine ⟨fun hm => ?_, h.2.1, h.2.2⟩
  have := List.all_eq_true.1 h.1 10 hm
  simp at this
theorem keyC_no {c : UInt8} (h : keyC c = true) : c ≠ 10 ∧ c ≠ 32 ∧ c ≠ 46 := by
  unfold keyC at h
  simp only [Bool.or_eq_true, decide_eq_true_eq] at h
  refine ⟨?_, ?_, ?_⟩
  all_goals
    rintro rfl
    revert h
    decide
theorem key_free {s : Bs} (h : keyOk s = true) {c : UInt8} (hc : c = 10 ∨ c = 32 ∨ c = 46) : c ∉ s := fun hm => by
  have := keyC_no ((keyOk_yes h).1 c hm)
  rcases hc with rfl | rfl | rfl
  · exact this.1 rfl
  · exact this.2.1 rfl
  · exact this.2.2 rfl
theorem cut_at : ∀ {k : Bs} (n : Bs), (32 : UInt8) ∉ k → cut (k ++ 32 :: n) = some (k, n)
  | [], n, _ => by simp [cut]
  | c :: r, n, h => by
    have hc : c ≠ 32 := fun e => h (by rw [e]; exact List.mem_cons_self)
    have hr : (32 : UInt8) ∉ r := fun hm => h (List.mem_cons_of_mem _ hm)
    simp only [List.cons_append, cut]
    rw [if_neg hc, cut_at n hr]
    rfl
theorem cut_some : ∀ {l k n : Bs}, cut l = some (k, n) → l = k ++ 32 :: n ∧ (32 : UInt8) ∉ k
  | [], k, n, h => by simp [cut] at h
  | c :: r, k, n, h => by
    simp only [cut] at h
    split at h
    · rename_i hc
      simp only [Option.some.injEq, Prod.mk.injEq] at h
      obtain ⟨rfl, rfl⟩ := h
      exact ⟨by rw [hc]; rfl, by simp⟩
    · rename_i hc
      cases e : cut r with
      | none => rw [e] at h; cases h
      | some x =>
        obtain ⟨a, b⟩ := x
        rw [e] at h
        simp only [Option.map_some, Option.some.injEq, Prod.mk.injEq] at h
        obtain ⟨rfl, rfl⟩ := h
        obtain ⟨h1, h2⟩ := cut_some e
        refine ⟨by rw [h1]; rfl, fun hm => ?_⟩
        rcases List.mem_cons.1 hm with e' | hm
        · exact hc e'.symm
        · exact h2 hm
theorem lineOk_line {x : Sig} (hk : keyOk x.k = true) (hn : nameOk x.n = true) : lineOk (line x) = some x := by
  unfold lineOk line
  rw [cut_at x.n (key_free hk (.inr (.inl rfl)))]
  simp only []
  rw [if_pos ⟨hk, hn⟩]
theorem lineOk_some {l : Bs} {x : Sig} (h : lineOk l = some x) : l = line x ∧ keyOk x.k = true ∧ nameOk x.n = true := by
  unfold lineOk at h
  cases e : cut l with
  | none => rw [e] at h; cases h
  | some y =>
    obtain ⟨k, n⟩ := y
    rw [e] at h
    simp only [] at h
    split at h
    · rename_i hc
      obtain rfl := Option.some.inj h
      exact ⟨(cut_some e).1, hc.1, hc.2⟩
    · cases h
theorem line_free {x : Sig} (hk : keyOk x.k = true) (hn : nameOk x.n = true) : (10 : UInt8) ∉ line x := by
  unfold line
  intro h
  rcases List.mem_append.1 h with h | h
  · exact key_free hk (.inl rfl) h
  · rcases List.mem_cons.1 h with h | h
    · exact absurd h (by decide)
    · exact (nameOk_yes hn).1 h
theorem may_yes {t : List Sig} (h : may t = true) : t.length ≤ 100 ∧ (∀ x ∈ t, keyOk x.k = true ∧ nameOk x.n = true) ∧ (keys t).Nodup := by
  unfold may at h
  simp only [Bool.and_eq_true, decide_eq_true_eq] at h
  refine ⟨h.1.1, fun x hx => ?_, h.2⟩
  have := List.all_eq_true.1 h.1.2 x hx
  simpa only [Bool.and_eq_true] using this
theorem may_of {t : List Sig} (h1 : t.length ≤ 100) (h2 : ∀ x ∈ t, keyOk x.k = true ∧ nameOk x.n = true) (h3 : (keys t).Nodup) : may t = true := by
  unfold may
  rw [decide_eq_true h1, decide_eq_true h3]
  simp only [Bool.true_and, Bool.and_true]
  rw [List.all_eq_true]
  intro x hx
  rw [(h2 x hx).1, (h2 x hx).2]
  rfl
theorem keys_app (a b : List Sig) : keys (a ++ b) = keys a ++ keys b := List.map_append
/-- the lines of a table's text -/
theorem split_text {t : List Sig} (h : ∀ x ∈ t, keyOk x.k = true ∧ nameOk x.n = true) : Mt.split 10 (text t) = t.map line ++ [[]] := by
  have := Mt.split_lines (c := 10) [] (ls := t.map line) (fun l hl => by
    obtain ⟨x, hx, rfl⟩ := List.mem_map.1 hl
    exact line_free (h x hx).1 (h x hx).2)
  rw [List.append_nil, List.flatMap_map] at this
  unfold text
  rw [this]
  rfl
/-- lines that may be, read behind others -/
theorem parseL_lines : ∀ (s t : List Sig) (i : Nat), (∀ x ∈ s, keyOk x.k = true ∧ nameOk x.n = true) → (keys (t ++ s)).Nodup → (t ++ s).length ≤ 100 → ∀ r, r ≠ [] → parseL t i (s.map line ++ r) = parseL (t ++ s) (i + s.length) r
  | [], t, i, _, _, _, r, _ => by simp
  | x :: s, t, i, h, hn, hl, r, hr => by
    obtain ⟨m, q, e⟩ : ∃ m q, s.map line ++ r = m :: q := by
      cases e : s.map line ++ r with
      | nil => simp at e; exact absurd e.2 hr
      | cons m q => exact ⟨m, q, rfl⟩
    have hx := h x List.mem_cons_self
    have hk : ¬ x.k ∈ keys t := by
      rw [keys_app] at hn
      have := (List.nodup_append.1 hn).2.2
      intro hm
      exact this x.k hm x.k (by simp [keys]) rfl
    have hlen : ¬ t.length = 100 := by simp at hl; omega
    rw [List.map_cons, List.cons_append, e]
    simp only [parseL]
    rw [lineOk_line hx.1 hx.2]
    simp only []
    rw [if_neg hk, if_neg hlen, ← e, parseL_lines s (t ++ [x]) (i + 1) (fun y hy => h y (List.mem_cons_of_mem _ hy)) (by rw [List.append_assoc]; exact hn) (by rw [List.append_assoc]; exact hl) r hr]
    rw [List.append_assoc, List.length_cons]
    congr 1
    omega
/-- a table that may be is parsed from its print as it was -/
theorem parse_print {t : List Sig} (h : may t = true) : parse (print t) = (t, 0, 0) := by
  obtain ⟨h1, h2, h3⟩ := may_yes h
  unfold parse print
  rw [if_pos h, split_text h2, parseL_lines t [] 0 h2 (by simpa using h3) (by simpa using h1) [[]] (by simp)]
  simp [parseL]
/-- what is parsed is what its lines are -/
theorem parseL_ok : ∀ (ls : List Bs) (t : List Sig) (i : Nat) (m : List Sig) (z : Int), t.length ≤ 100 → (∀ x ∈ t, keyOk x.k = true ∧ nameOk x.n = true) → (keys t).Nodup → ls ≠ [] → parseL t i ls = (m, 0, z) → ∃ s, m = t ++ s ∧ ls = s.map line ++ [[]] ∧ may m = true ∧ z = 0
  | [], t, i, m, z, _, _, _, h, _ => absurd rfl h
  | [l], t, i, m, z, h1, h2, h3, _, h => by
    simp only [parseL] at h
    split at h
    · rename_i hl
      simp only [Prod.mk.injEq] at h
      obtain ⟨rfl, _, rfl⟩ := h
      exact ⟨[], by simp, by rw [hl]; rfl, may_of h1 h2 h3, rfl⟩
    · simp at h
  | l :: a :: r, t, i, m, z, h1, h2, h3, _, h => by
    simp only [parseL] at h
    cases e : lineOk l with
    | none => rw [e] at h; simp at h
    | some x =>
      rw [e] at h
      simp only [] at h
      split at h
      · simp at h
      · rename_i hk
        split at h
        · simp at h
        · rename_i hlen
          obtain ⟨e1, e2, e3⟩ := lineOk_some e
          obtain ⟨s, g1, g2, g3, g4⟩ := parseL_ok (a :: r) (t ++ [x]) (i + 1) m z (by simp; omega) (fun y hy => by
            rcases List.mem_append.1 hy with hy | hy
            · exact h2 y hy
            · simp at hy; subst hy; exact ⟨e2, e3⟩) (by
            rw [keys_app]
            refine List.nodup_append.2 ⟨h3, by simp [keys], fun y hy w hw => ?_⟩
            simp [keys] at hw
            subst hw
            intro e'
            exact hk (by rw [← e']; exact hy)) (by simp) h
          exact ⟨x :: s, by rw [g1, List.append_assoc]; rfl, by rw [g2, e1]; rfl, g3, g4⟩
/-- what is parsed may be, and is printed as it stood -/
theorem parse_ok {s : Bs} {t : List Sig} {z : Int} (h : parse s = (t, 0, z)) : may t = true ∧ print t = s ∧ z = 0 := by
  unfold parse at h
  obtain ⟨m, h1, h2, h3, h4⟩ := parseL_ok _ [] 0 t z (by simp) (by simp) (by simp [keys]) (Mt.split_ne 10 s) h
  rw [List.nil_append] at h1
  subst h1
  refine ⟨h3, ?_, h4⟩
  unfold print
  rw [if_pos h3]
  have := Mt.join_split 10 s
  rw [h2, Mt.join_lines, List.append_nil, List.flatMap_map] at this
  exact this
end Go.Proofs.YtjjkilopeofjjaaDoor.Sg
