/-
  Plain mathematics of package tree: a machine that takes one token after the other, with a stack of groups that are open; what it ends with is what the tokens form, or what is wrong with them first.
-/
import Derived.Test.YtimpadooknclkaaTr3
set_option linter.unusedVariables false
set_option linter.unusedSimpArgs false
namespace Go.Proofs.Ytimpadooknclkaa.Tr
open Go.Proofs.Ytimpadooknclkaa

def isCmd : Nd → Bool
  | .mk c _ _ _ => c
def lastCmd (l : List Nd) : Bool := match l.getLast? with
  | some n => isCmd n
  | none => false
def putArg (g : List Nd) : Nd → Nd
  | .mk c x args a => .mk c x (args ++ [g]) a
/-- one argument more for the last node -/
def addArg (p : List Nd) (g : List Nd) : List Nd := match p.getLast? with
  | some n => p.dropLast ++ [putArg g n]
  | none => p
theorem lastCmd_snoc (p : List Nd) (n : Nd) : lastCmd (p ++ [n]) = isCmd n := by simp [lastCmd]
theorem addArg_snoc (p : List Nd) (n : Nd) (g : List Nd) : addArg (p ++ [n]) g = p ++ [putArg g n] := by simp [addArg]
theorem lastCmd_addArg (p : List Nd) (g : List Nd) : lastCmd (addArg p g) = lastCmd p := by
  rcases List.eq_nil_or_concat p with rfl | ⟨q, n, rfl⟩
  · rfl
  · obtain ⟨c, x, args, a⟩ := n
    rw [List.concat_eq_append, addArg_snoc, lastCmd_snoc, lastCmd_snoc]; rfl

abbrev Frames := List (List Nd × Int)
inductive Out where
  | bad (code loc : Int)
  | good (ns : List Nd)
def mch : List Tok → List Nd → Int → Frames → Out
  | [], pre, a, [] => .good pre
  | [], pre, a, _ :: _ => .bad 62 a
  | t :: r, pre, a, R =>
    if t.kind = 0 ∨ t.kind = 1 then mch r (pre ++ [.mk (decide (t.kind = 1)) t.text [] t.loc]) a R
    else if t.kind = 2 then
      if lastCmd pre = false then .bad 60 t.loc
      else if 64 ≤ R.length then .bad 63 t.loc
      else mch r [] t.loc ((pre, a) :: R)
    else if t.kind = 3 then
      match R with
      | [] => .bad 61 t.loc
      | (p, b) :: R' => mch r (addArg p pre) b R'
    else mch r pre a R
theorem mch_word {t : Tok} (h : t.kind = 0) (r : List Tok) (pre : List Nd) (a : Int) (R : Frames) : mch (t :: r) pre a R = mch r (pre ++ [.mk false t.text [] t.loc]) a R := by
  cases R <;> simp [mch, h]
theorem mch_cmd {t : Tok} (h : t.kind = 1) (r : List Tok) (pre : List Nd) (a : Int) (R : Frames) : mch (t :: r) pre a R = mch r (pre ++ [.mk true t.text [] t.loc]) a R := by
  cases R <;> simp [mch, h]
theorem mch_open {t : Tok} (h : t.kind = 2) (r : List Tok) (pre : List Nd) (a : Int) (R : Frames) : mch (t :: r) pre a R = if lastCmd pre = false then .bad 60 t.loc else if 64 ≤ R.length then .bad 63 t.loc else mch r [] t.loc ((pre, a) :: R) := by
  cases R <;> simp [mch, h]
theorem mch_close {t : Tok} (h : t.kind = 3) (r : List Tok) (pre : List Nd) (a : Int) (p : List Nd) (b : Int) (R : Frames) : mch (t :: r) pre a ((p, b) :: R) = mch r (addArg p pre) b R := by
  simp [mch, h]
theorem mch_close_none {t : Tok} (h : t.kind = 3) (r : List Tok) (pre : List Nd) (a : Int) : mch (t :: r) pre a [] = .bad 61 t.loc := by
  simp [mch, h]
theorem mch_other {t : Tok} (h : ¬ real t) (r : List Tok) (pre : List Nd) (a : Int) (R : Frames) : mch (t :: r) pre a R = mch r pre a R := by
  unfold real at h
  have h0 : ¬ t.kind = 0 := by omega
  have h1 : ¬ t.kind = 1 := by omega
  have h2 : ¬ t.kind = 2 := by omega
  have h3 : ¬ t.kind = 3 := by omega
  cases R <;> simp [mch, h0, h1, h2, h3]

/-! ### tokens that form nodes -/
theorem mch_G {d : Nat} {l : List Tok} {ns : List Nd} (h : G d l ns) : ∀ (R : Frames), R.length = d → ∀ (m : List Tok) (a : Int),
    (∀ pre, mch (l ++ m) pre a R = mch m (pre ++ ns) a R) ∧
    (∀ (t : Tok) (r : List Tok) (x : List UInt8) (args : List (List Nd)) (b : Int) (ns' : List Nd), l = t :: r → t.kind = 1 → ns = .mk true x args b :: ns' → ∀ pre args0, mch (r ++ m) (pre ++ [.mk true x args0 b]) a R = mch m (pre ++ (.mk true x (args0 ++ args) b :: ns')) a R) := by
  induction h with
  | nil d => intro R hR m a; exact ⟨fun pre => by simp, fun t r x args b ns' e => by cases e⟩
  | @word d t r ns h hr ih =>
    intro R hR m a
    refine ⟨fun pre => ?_, fun u r' x args b ns' e hk => by injection e with e1 e2; subst e1; omega⟩
    rw [List.cons_append, mch_word h, (ih R hR m a).1, List.append_assoc]
    rfl
  | @cmd d t r ns h hr ih =>
    intro R hR m a
    refine ⟨fun pre => ?_, fun u r' x args b ns' e hk e2 pre args0 => ?_⟩
    · rw [List.cons_append, mch_cmd h, (ih R hR m a).1, List.append_assoc]
      rfl
    · injection e with e1 e3
      injection e2 with e4 e5
      injection e4 with _ e6 e7 e8
      subst e1 e3 e5 e6 e7 e8
      rw [(ih R hR m a).1, List.append_nil, List.append_assoc]
      rfl
  | @grp d t o c b r gs x aa args ns h ho hc hd hb hr ihb ihr =>
    intro R hR m a
    have P2 : ∀ pre args0, mch ((o :: (b ++ c :: r)) ++ m) (pre ++ [.mk true x args0 aa]) a R = mch m (pre ++ (.mk true x (args0 ++ (gs :: args)) aa :: ns)) a R := by
      intro pre args0
      rw [show (o :: (b ++ c :: r) ++ m : List Tok) = o :: (b ++ (c :: (r ++ m))) by simp, mch_open ho, lastCmd_snoc, if_neg (by simp [isCmd]), if_neg (by omega),
        (ihb ((pre ++ [Nd.mk true x args0 aa], a) :: R) (by simp [hR]) (c :: (r ++ m)) o.loc).1, mch_close hc, List.nil_append, addArg_snoc]
      have h2 := (ihr R hR m a).2 t r x args aa ns rfl h rfl pre (args0 ++ [gs])
      rw [List.append_assoc, List.singleton_append] at h2
      exact h2
    obtain ⟨args', ns', e3⟩ := hr.head t r rfl h
    injection e3 with e4 e5
    injection e4 with _ e6 e7 e8
    refine ⟨fun pre => ?_, fun u r' x' args2 b2 ns2 e hk e2 pre args0 => ?_⟩
    · rw [List.cons_append, mch_cmd h, ← e6, ← e8]
      have := P2 pre []
      rw [List.nil_append] at this
      exact this
    · injection e with e1 e3
      injection e2 with e4 e5
      injection e4 with _ e6 e7 e8
      subst e1 e3 e5 e6 e7 e8
      exact P2 pre args0
theorem mch_reals : ∀ (l : List Tok) (pre : List Nd) (a : Int) (R : Frames), mch l pre a R = mch (reals l) pre a R
  | [], _, _, _ => rfl
  | t :: r, pre, a, R => by
    by_cases h : real t
    · have e : reals (t :: r) = t :: reals r := by rw [reals, List.filter_cons, if_pos ((real_iff t).2 h)]; rfl
      rw [e]
      rcases h with h | h | h | h
      · rw [mch_word h, mch_word h, mch_reals]
      · rw [mch_cmd h, mch_cmd h, mch_reals]
      · rw [mch_open h, mch_open h, mch_reals]
      · cases R with
        | nil => rw [mch_close_none h, mch_close_none h]
        | cons f R => obtain ⟨p, b⟩ := f; rw [mch_close h, mch_close h, mch_reals]
    · have e : reals (t :: r) = reals r := by rw [reals, List.filter_cons, if_neg (fun hh => h ((real_iff t).1 hh))]; rfl
      rw [mch_other h, e, mch_reals]
theorem mch_yes {ts : List Tok} {ns : List Nd} (h : G 0 (reals ts) ns) : mch ts [] 0 [] = .good ns := by
  rw [mch_reals]
  have := (mch_G h [] rfl [] 0).1 []
  rw [List.append_nil, List.nil_append] at this
  rw [this]
  rfl

/-! ### tokens that have a fault -/
def places : Int → Frames → List Int
  | _, [] => []
  | a, (_, b) :: R => a :: places b R
theorem places_len : ∀ (R : Frames) (a : Int), (places a R).length = R.length
  | [], _ => rfl
  | (_, b) :: R, a => by simp [places, places_len R b]
theorem mch_flt : ∀ (l : List Tok), (∀ t ∈ l, real t) → ∀ (pre : List Nd) (a : Int) (R : Frames), R.length ≤ 64 → (∀ f ∈ R, lastCmd f.1 = true) → ∀ c p, flt (places a R) (lastCmd pre) l = some (c, p) → mch l pre a R = .bad c p
  | [], _, pre, a, [], _, _, c, p, h => by simp [places, flt] at h
  | [], _, pre, a, (q, b) :: R, _, _, c, p, h => by
    simp only [places, flt, Option.some.injEq, Prod.mk.injEq] at h
    obtain ⟨rfl, rfl⟩ := h
    rfl
  | t :: r, hl, pre, a, R, hR, hC, c, p, h => by
    have hlr : ∀ t ∈ r, real t := fun t ht => hl t (List.mem_cons_of_mem _ ht)
    rcases hl t (List.mem_cons_self ..) with k | k | k | k
    · rw [flt_plain (by omega) (by omega), show decide (t.kind = 1) = false from decide_eq_false (by omega)] at h
      rw [mch_word k]
      exact mch_flt r hlr _ a R hR hC c p (by rw [lastCmd_snoc]; exact h)
    · rw [flt_plain (by omega) (by omega), show decide (t.kind = 1) = true from decide_eq_true k] at h
      rw [mch_cmd k]
      exact mch_flt r hlr _ a R hR hC c p (by rw [lastCmd_snoc]; exact h)
    · rw [flt_open k, places_len] at h
      rw [mch_open k]
      split at h
      · rename_i hb
        rw [if_pos hb]
        simp only [Option.some.injEq, Prod.mk.injEq] at h
        obtain ⟨rfl, rfl⟩ := h
        rfl
      · rename_i hb
        rw [if_neg hb]
        split at h
        · rename_i h64
          rw [if_pos (by omega)]
          simp only [Option.some.injEq, Prod.mk.injEq] at h
          obtain ⟨rfl, rfl⟩ := h
          rfl
        · rename_i h64
          rw [if_neg (by omega)]
          exact mch_flt r hlr [] t.loc ((pre, a) :: R) (by simp; omega) (fun f hf => by
            rcases List.mem_cons.1 hf with rfl | hf
            · simpa using hb
            · exact hC f hf) c p h
    · cases R with
      | nil =>
        rw [mch_close_none k]
        rw [places, flt_close_none k] at h
        simp only [Option.some.injEq, Prod.mk.injEq] at h
        obtain ⟨rfl, rfl⟩ := h
        rfl
      | cons f R =>
        obtain ⟨q, b⟩ := f
        rw [mch_close k]
        rw [places, flt_close k] at h
        exact mch_flt r hlr _ b R (by simp at hR; omega) (fun f hf => hC f (List.mem_cons_of_mem _ hf)) c p (by rw [lastCmd_addArg, hC (q, b) (List.mem_cons_self ..)]; exact h)
theorem mch_no {ts : List Tok} (h : code ts ≠ 0) : mch ts [] 0 [] = .bad (code ts) (place ts) := by
  rw [mch_reals]
  refine mch_flt _ (reals_real ts) [] 0 [] (by simp) (fun f hf => by cases hf) _ _ ?_
  unfold code at h
  unfold code place
  simp only [places, lastCmd, List.getLast?_nil]
  cases hf : flt [] false (reals ts) with
  | none => rw [hf] at h; exact absurd rfl h
  | some x => rfl

/-! ### sizes -/
def sizeS (pre : List Nd) : Frames → Nat
  | [] => sizeL pre
  | (p, _) :: R => sizeL pre + 1 + sizeS p R
theorem sizeL_append (a b : List Nd) : sizeL (a ++ b) = sizeL a + sizeL b := by
  induction a with
  | nil => simp [sizeL]
  | cons n r ih => simp only [List.cons_append, sizeL, ih]; omega
theorem sizeA_append (a b : List (List Nd)) : sizeA (a ++ b) = sizeA a + sizeA b := by
  induction a with
  | nil => simp [sizeA]
  | cons n r ih => simp only [List.cons_append, sizeA, ih]; omega
theorem len_le : ∀ l : List Nd, l.length ≤ sizeL l
  | [] => Nat.zero_le _
  | .mk c x args a :: r => by have := len_le r; simp only [List.length_cons, sizeL, sizeN]; omega
theorem lenA_le : ∀ l : List (List Nd), l.length ≤ sizeA l
  | [] => Nat.zero_le _
  | g :: r => by have := lenA_le r; simp only [List.length_cons, sizeA]; omega
end Go.Proofs.Ytimpadooknclkaa.Tr
