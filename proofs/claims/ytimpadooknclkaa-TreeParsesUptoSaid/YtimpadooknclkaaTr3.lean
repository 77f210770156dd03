/-
  Plain mathematics of package tree, its third part: nodes that are the same but for their places, and with them; faults that wrong tokens among the four kinds have; the tokens that there are.
-/
import Derived.Test.YtimpadooknclkaaTr2
set_option linter.unusedVariables false
set_option linter.unusedSimpArgs false
namespace Go.Proofs.Ytimpadooknclkaa.Tr
open Go.Proofs.Ytimpadooknclkaa

mutual
def sameN : Nd → Nd → Bool
  | .mk c x args _, .mk c' x' args' _ => (c == c') && ((x == x') && sameA args args')
def sameA : List (List Nd) → List (List Nd) → Bool
  | [], [] => true
  | g :: gs, h :: hs => sameL g h && sameA gs hs
  | [], _ :: _ => false
  | _ :: _, [] => false
def sameL : List Nd → List Nd → Bool
  | [], [] => true
  | n :: r, m :: s => sameN n m && sameL r s
  | [], _ :: _ => false
  | _ :: _, [] => false
end
mutual
theorem sameN_self : ∀ n : Nd, sameN n n = true
  | .mk c x args a => by simp [sameN, sameA_self args]
theorem sameA_self : ∀ l : List (List Nd), sameA l l = true
  | [] => by simp [sameA]
  | g :: gs => by simp [sameA, sameL_self g, sameA_self gs]
theorem sameL_self : ∀ l : List Nd, sameL l l = true
  | [] => by simp [sameL]
  | n :: r => by simp [sameL, sameN_self n, sameL_self r]
end
theorem sameL_len : ∀ (a b : List Nd), sameL a b = true → a.length = b.length
  | [], [], _ => rfl
  | n :: r, m :: s, h => by
    simp only [sameL, Bool.and_eq_true] at h
    simp [sameL_len r s h.2]
  | [], _ :: _, h => by simp [sameL] at h
  | _ :: _, [], h => by simp [sameL] at h
theorem sameA_len : ∀ (a b : List (List Nd)), sameA a b = true → a.length = b.length
  | [], [], _ => rfl
  | n :: r, m :: s, h => by
    simp only [sameA, Bool.and_eq_true] at h
    simp [sameA_len r s h.2]
  | [], _ :: _, h => by simp [sameA] at h
  | _ :: _, [], h => by simp [sameA] at h
/-- the walk of the two lists by their places: what of them has been held, and what is left -/
theorem sameL_take : ∀ (a b : List Nd) (k : Nat), a.length = b.length → sameL a b = (sameL (a.take k) (b.take k) && sameL (a.drop k) (b.drop k))
  | a, b, 0, _ => by simp [sameL]
  | [], [], k + 1, _ => by simp [sameL]
  | n :: r, m :: s, k + 1, h => by
    simp only [List.take_succ_cons, List.drop_succ_cons, sameL]
    rw [sameL_take r s k (by simpa using h), Bool.and_assoc]
theorem sameA_take : ∀ (a b : List (List Nd)) (k : Nat), a.length = b.length → sameA a b = (sameA (a.take k) (b.take k) && sameA (a.drop k) (b.drop k))
  | a, b, 0, _ => by simp [sameA]
  | [], [], k + 1, _ => by simp [sameA]
  | n :: r, m :: s, k + 1, h => by
    simp only [List.take_succ_cons, List.drop_succ_cons, sameA]
    rw [sameA_take r s k (by simpa using h), Bool.and_assoc]

/-! ### how many nodes there are: what a recursion over them goes down by -/
mutual
def sizeN : Nd → Nat
  | .mk _ _ args _ => sizeA args + 1
def sizeA : List (List Nd) → Nat
  | [] => 0
  | g :: gs => sizeL g + sizeA gs + 1
def sizeL : List Nd → Nat
  | [] => 0
  | n :: r => sizeN n + sizeL r
end
theorem sizeA_mem : ∀ (l : List (List Nd)) (g : List Nd), g ∈ l → sizeL g < sizeA l
  | [], g, h => by cases h
  | h :: hs, g, hm => by
    simp only [sizeA]
    rcases List.mem_cons.1 hm with rfl | h1
    · omega
    · have := sizeA_mem hs g h1
      omega
theorem sizeL_mem : ∀ (l : List Nd) (n : Nd), n ∈ l → sizeN n ≤ sizeL l
  | [], g, h => by cases h
  | h :: hs, g, hm => by
    simp only [sizeL]
    rcases List.mem_cons.1 hm with rfl | h1
    · omega
    · have := sizeL_mem hs g h1
      omega
/-- an argument of one of the nodes is smaller than they are -/
theorem size_arg {l : List Nd} {c : Bool} {x : List UInt8} {args : List (List Nd)} {a : Int} {g : List Nd} (h : Nd.mk c x args a ∈ l) (hg : g ∈ args) : sizeL g < sizeL l := by
  have h1 := sizeL_mem l _ h
  have h2 := sizeA_mem args g hg
  simp only [sizeN] at h1
  omega

/-! ### depth, cut off -/
def deep (l : List Nd) (most : Nat) : Nat := min (depthL l) most
theorem may_deep (l : List Nd) : decide (deep l 101 ≤ 64) = decide (depthL l ≤ 64) := by
  unfold deep
  rw [decide_eq_decide]
  omega
theorem depthA_mem : ∀ (l : List (List Nd)) (g : List Nd), g ∈ l → 1 + depthL g ≤ depthA l
  | [], g, h => by cases h
  | h :: hs, g, hm => by
    simp only [depthA]
    rcases List.mem_cons.1 hm with rfl | h1
    · omega
    · have := depthA_mem hs g h1
      omega
theorem depthA_snoc (l : List (List Nd)) (g : List Nd) : depthA (l ++ [g]) = max (depthA l) (1 + depthL g) := by
  induction l with
  | nil => simp [depthA]
  | cons h hs ih => simp only [List.cons_append, depthA, ih]; omega
theorem flatA_snoc (l : List (List Nd)) (g : List Nd) (k : Nat) (a : Int) : flatA (l ++ [g]) (k + 1) a = flatA l (k + 1) a ++ ⟨2, [], a⟩ :: (flatL g k ++ [⟨3, [], a⟩]) := by
  induction l with
  | nil => simp [flatA]
  | cons h hs ih => simp only [List.cons_append, flatA, ih, List.append_assoc]
theorem flatA_zero (l : List (List Nd)) (a : Int) : flatA l 0 a = [] := by
  cases l <;> simp [flatA]
theorem plainA_snoc (l : List (List Nd)) (g : List Nd) : plainA (l ++ [g]) = (plainA l && plainL g) := by
  induction l with
  | nil => simp [plainA]
  | cons h hs ih => simp only [List.cons_append, plainA, ih, Bool.and_assoc]

/-! ### the tokens of the kinds that there are -/
def realB (t : Tok) : Bool := decide (0 ≤ t.kind) && decide (t.kind ≤ 3)
theorem real_iff (t : Tok) : realB t = true ↔ real t := by
  unfold realB real
  rw [Bool.and_eq_true, decide_eq_true_iff, decide_eq_true_iff]
  omega
def reals (l : List Tok) : List Tok := l.filter realB
theorem reals_real (l : List Tok) : ∀ t ∈ reals l, real t := fun t ht => (real_iff t).1 (List.mem_filter.1 ht).2
theorem reals_append (l m : List Tok) : reals (l ++ m) = reals l ++ reals m := List.filter_append ..
/-- what Parse answers -/
def code (l : List Tok) : Int := match flt [] false (reals l) with | none => 0 | some x => x.1
def place (l : List Tok) : Int := match flt [] false (reals l) with | none => 0 | some x => x.2
theorem flt_code : ∀ (l : List Tok) (os : List Int) (beh : Bool) (x : Int × Int), flt os beh l = some x → x.1 ≠ 0
  | [], [], beh, x, h => by simp [flt] at h
  | [], o :: os, beh, x, h => by simp [flt] at h; rw [← h]; simp
  | t :: r, os, beh, x, h => by
    by_cases h2 : t.kind = 2
    · rw [flt_open h2] at h
      split at h
      · injection h with h; rw [← h]; simp
      · split at h
        · injection h with h; rw [← h]; simp
        · exact flt_code r _ _ x h
    · by_cases h3 : t.kind = 3
      · cases os with
        | nil => rw [flt_close_none h3] at h; injection h with h; rw [← h]; simp
        | cons o os => rw [flt_close h3] at h; exact flt_code r _ _ x h
      · rw [flt_plain h2 h3] at h
        exact flt_code r _ _ x h
theorem parse_yes {l : List Tok} (h : code l = 0) : place l = 0 ∧ ∃ ns, G 0 (reals l) ns := by
  unfold code at h
  unfold place
  cases hf : flt [] false (reals l) with
  | none => exact ⟨rfl, formed (reals_real l) hf⟩
  | some x => rw [hf] at h; exact absurd h (flt_code _ _ _ x hf)
theorem parse_of {l : List Tok} {ns : List Nd} (h : G 0 (reals l) ns) : code l = 0 ∧ place l = 0 := by
  unfold code place
  rw [flt_none h]
  exact ⟨rfl, rfl⟩
theorem G.real {d : Nat} {l : List Tok} {ns : List Nd} (h : G d l ns) : ∀ t ∈ l, Tr.real t := by
  induction h with
  | nil d => intro t ht; cases ht
  | word h hr ih => intro u hu; exact (List.mem_cons.1 hu).elim (fun e => by rw [e]; exact .inl h) (ih u)
  | cmd h hr ih => intro u hu; exact (List.mem_cons.1 hu).elim (fun e => by rw [e]; exact .inr (.inl h)) (ih u)
  | grp h ho hc hd hb hr ihb ihr =>
    intro u hu
    simp only [List.mem_cons, List.mem_append] at hu
    rcases hu with rfl | rfl | hu | rfl | hu
    · exact .inr (.inl h)
    · exact .inr (.inr (.inl ho))
    · exact ihb u hu
    · exact .inr (.inr (.inr hc))
    · exact ihr u (List.mem_cons_of_mem _ hu)
theorem reals_id {l : List Tok} (h : ∀ t ∈ l, real t) : reals l = l := List.filter_eq_self.2 fun t ht => (real_iff t).2 (h t ht)
/-- LAW's middle: nodes that may be are parsed from their tokens as they were -/
theorem back {l : List Nd} (h : may l = true) : code (flat l) = 0 ∧ place (flat l) = 0 ∧ G 0 (reals (flat l)) l := by
  have h1 := flat_forms h
  have h2 : G 0 (reals (flat l)) l := by rw [reals_id h1.real]; exact h1
  exact ⟨(parse_of h2).1, (parse_of h2).2, h2⟩
/-- LAW's middle: of two lists that are parsed, one behind the other, the nodes are those of both -/
theorem parts {l m : List Tok} {a b : List Nd} (h1 : G 0 (reals l) a) (h2 : G 0 (reals m) b) : G 0 (reals (l ++ m)) (a ++ b) := by
  rw [reals_append]
  exact h1.append h2
end Go.Proofs.Ytimpadooknclkaa.Tr
