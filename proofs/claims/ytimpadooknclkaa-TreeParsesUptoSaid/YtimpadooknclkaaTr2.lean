/-
  Plain mathematics of package tree, its second part: nodes' tokens, their depth, whether they may be; and back.
-/
import Derived.Test.YtimpadooknclkaaTr
set_option linter.unusedVariables false
set_option linter.unusedSimpArgs false
namespace Go.Proofs.Ytimpadooknclkaa.Tr
open Go.Proofs.Ytimpadooknclkaa

/-! ### depth; words without arguments; tokens -/
mutual
def depthN : Nd → Nat
  | .mk _ _ args _ => depthA args
def depthA : List (List Nd) → Nat
  | [] => 0
  | g :: gs => max (1 + depthL g) (depthA gs)
def depthL : List Nd → Nat
  | [] => 0
  | n :: r => max (depthN n) (depthL r)
end
mutual
def plainN : Nd → Bool
  | .mk c _ args _ => (c || args.isEmpty) && plainA args
def plainA : List (List Nd) → Bool
  | [] => true
  | g :: gs => plainL g && plainA gs
def plainL : List Nd → Bool
  | [] => true
  | n :: r => plainN n && plainL r
end
mutual
def flatN : Nd → Nat → List Tok
  | .mk c x args a, k => if c then ⟨1, x, a⟩ :: flatA args k a else [⟨0, x, a⟩]
def flatA : List (List Nd) → Nat → Int → List Tok
  | [], _, _ => []
  | _ :: _, 0, _ => []
  | g :: gs, k + 1, a => ⟨2, [], a⟩ :: (flatL g k ++ ⟨3, [], a⟩ :: flatA gs (k + 1) a)
def flatL : List Nd → Nat → List Tok
  | [], _ => []
  | n :: r, k => flatN n k ++ flatL r k
end
def may (l : List Nd) : Bool := decide (depthL l ≤ 64) && plainL l
def flat (l : List Nd) : List Tok := flatL l 100

theorem depthL_append (a b : List Nd) : depthL (a ++ b) = max (depthL a) (depthL b) := by
  induction a with
  | nil => simp [depthL]
  | cons n r ih => simp only [List.cons_append, depthL, ih]; omega
theorem flatL_append (a b : List Nd) (k : Nat) : flatL (a ++ b) k = flatL a k ++ flatL b k := by
  induction a with
  | nil => rfl
  | cons n r ih => simp only [List.cons_append, flatL, ih, List.append_assoc]
theorem plainL_append (a b : List Nd) : plainL (a ++ b) = (plainL a && plainL b) := by
  induction a with
  | nil => simp [plainL]
  | cons n r ih => simp only [List.cons_append, plainL, ih, Bool.and_assoc]

/-! ### nodes that may be are formed by their tokens -/
mutual
theorem flatN_G : ∀ (n : Nd) (d k : Nat) (r : List Tok) (ns : List Nd), plainN n = true → depthN n + d ≤ 64 → depthN n ≤ k → G d r ns → G d (flatN n k ++ r) (n :: ns)
  | .mk c x args a, d, k, r, ns, hp, hd, hk, hr => by
    unfold plainN at hp
    unfold depthN at hd hk
    unfold flatN
    rw [Bool.and_eq_true] at hp
    cases c with
    | true => exact flatA_G args d k x a r ns hp.2 hd hk hr
    | false =>
      have h0 : args = [] := by simpa using hp.1
      subst h0
      exact G.word (t := ⟨0, x, a⟩) rfl hr
theorem flatA_G : ∀ (args : List (List Nd)) (d k : Nat) (x : List UInt8) (a : Int) (r : List Tok) (ns : List Nd), plainA args = true → depthA args + d ≤ 64 → depthA args ≤ k → G d r ns → G d (⟨1, x, a⟩ :: (flatA args k a ++ r)) (.mk true x args a :: ns)
  | [], d, k, x, a, r, ns, hp, hd, hk, hr => by
    unfold flatA
    exact G.cmd (t := ⟨1, x, a⟩) rfl hr
  | g :: gs, d, 0, x, a, r, ns, hp, hd, hk, hr => by
    unfold depthA at hk
    omega
  | g :: gs, d, k + 1, x, a, r, ns, hp, hd, hk, hr => by
    unfold plainA at hp
    unfold depthA at hd hk
    unfold flatA
    rw [Bool.and_eq_true] at hp
    have h1 := flatL_G g (d + 1) k hp.1 (by omega) (by omega)
    have h2 := flatA_G gs d (k + 1) x a r ns hp.2 (by omega) (by omega) hr
    have h3 := G.grp (t := ⟨1, x, a⟩) (o := ⟨2, [], a⟩) (c := ⟨3, [], a⟩) rfl rfl rfl (by omega) h1 h2
    simpa using h3
theorem flatL_G : ∀ (l : List Nd) (d k : Nat), plainL l = true → depthL l + d ≤ 64 → depthL l ≤ k → G d (flatL l k) l
  | [], d, k, hp, hd, hk => .nil d
  | n :: r, d, k, hp, hd, hk => by
    unfold plainL at hp
    unfold depthL at hd hk
    unfold flatL
    rw [Bool.and_eq_true] at hp
    exact flatN_G n d k _ r hp.1 (by omega) (by omega) (flatL_G r d k hp.2 (by omega) (by omega))
end
theorem flat_forms {l : List Nd} (h : may l = true) : G 0 (flat l) l := by
  unfold may at h
  rw [Bool.and_eq_true, decide_eq_true_iff] at h
  exact flatL_G l 0 100 h.2 (by omega) (by omega)

/-! ### and what tokens form may be, and has these tokens -/
theorem G.depth {d : Nat} {l : List Tok} {ns : List Nd} (h : G d l ns) : d ≤ 64 → depthL ns + d ≤ 64 := by
  induction h with
  | nil d => intro hd; simp only [depthL]; omega
  | word h hr ih => intro hd; have := ih hd; simp only [depthL, depthN, depthA]; omega
  | cmd h hr ih => intro hd; have := ih hd; simp only [depthL, depthN, depthA]; omega
  | grp h ho hc hd hb hr ihb ihr =>
    intro hd'
    have h1 := ihb (by omega)
    have h2 := ihr hd'
    simp only [depthL, depthN, depthA] at h2 ⊢
    omega
theorem G.plain {d : Nat} {l : List Tok} {ns : List Nd} (h : G d l ns) : plainL ns = true := by
  induction h with
  | nil d => rfl
  | word h hr ih => simp [plainL, plainN, plainA, ih]
  | cmd h hr ih => simp [plainL, plainN, plainA, ih]
  | grp h ho hc hd hb hr ihb ihr =>
    simp only [plainL, plainN, plainA, Bool.true_or, Bool.true_and, ihb] at ihr ⊢
    exact ihr
theorem G.may {l : List Tok} {ns : List Nd} (h : G 0 l ns) : may ns = true := by
  unfold Tr.may
  have h1 := h.depth (Nat.zero_le _)
  rw [h.plain, decide_eq_true (show depthL ns ≤ 64 by omega)]
  rfl
/-- a token without its place, and a brace without its text -/
def bare (t : Tok) : Tok := ⟨t.kind, if t.kind > 1 then [] else t.text, 0⟩
theorem G.bare {d : Nat} {l : List Tok} {ns : List Nd} (h : G d l ns) : ∀ k, depthL ns ≤ k → (flatL ns k).map Tr.bare = l.map Tr.bare := by
  induction h with
  | nil d => intro k hk; rfl
  | @word d t r ns h hr ih =>
    intro k hk
    simp only [depthL, depthN, depthA] at hk
    have e := ih k (by omega)
    simp only [flatL, flatN, Bool.false_eq_true, if_false, List.cons_append, List.nil_append, List.map_cons, e]
    simp [Tr.bare, h]
  | @cmd d t r ns h hr ih =>
    intro k hk
    simp only [depthL, depthN, depthA] at hk
    have e := ih k (by omega)
    simp only [flatL, flatN, flatA, if_true, List.cons_append, List.nil_append, List.map_cons, e]
    simp [Tr.bare, h]
  | @grp d t o c b r gs x a args ns h ho hc hd hb hr ihb ihr =>
    intro k hk
    simp only [depthL, depthN, depthA] at hk
    cases k with
    | zero => omega
    | succ k =>
      have e1 := ihb k (by omega)
      have e2 := ihr (k + 1) (by simp only [depthL, depthN]; omega)
      simp only [flatL, flatN, if_true, List.cons_append, List.map_cons, List.map_append, List.cons.injEq] at e2
      simp only [flatL, flatN, flatA, if_true, List.cons_append, List.append_assoc, List.map_cons, List.map_append, e1, e2.1, e2.2]
      simp [Tr.bare, ho, hc]

/-! ### words -/
def words (l : List Nd) : List (List UInt8) := ((flat l).filter fun t => decide (t.kind = 0)).map (·.text)
theorem words_append (a b : List Nd) : words (a ++ b) = words a ++ words b := by
  unfold words flat
  rw [flatL_append, List.filter_append, List.map_append]
/-! ### a command about two lists -/
theorem wrap_depth (x : List UInt8) (a b : List Nd) (loc : Int) : depthL [.mk true x [a, b] loc] = max (depthL a) (depthL b) + 1 := by
  simp only [depthL, depthN, depthA]
  omega
theorem wrap_plain (x : List UInt8) (a b : List Nd) (loc : Int) : plainL [.mk true x [a, b] loc] = (plainL a && plainL b) := by
  simp [plainL, plainN, plainA]

/-! ### more depth than there is changes nothing -/
mutual
theorem flatN_more : ∀ (n : Nd) (k m : Nat), depthN n ≤ k → depthN n ≤ m → flatN n k = flatN n m
  | .mk c x args a, k, m, hk, hm => by
    unfold depthN at hk hm
    unfold flatN
    rw [flatA_more args k m a hk hm]
theorem flatA_more : ∀ (args : List (List Nd)) (k m : Nat) (a : Int), depthA args ≤ k → depthA args ≤ m → flatA args k a = flatA args m a
  | [], k, m, a, _, _ => by simp [flatA]
  | g :: gs, k, m, a, hk, hm => by
    unfold depthA at hk hm
    match k, m, hk, hm with
    | 0, _, hk, hm => omega
    | _ + 1, 0, hk, hm => omega
    | k + 1, m + 1, hk, hm =>
      unfold flatA
      rw [flatL_more g k m (by omega) (by omega), flatA_more gs (k + 1) (m + 1) a (by omega) (by omega)]
theorem flatL_more : ∀ (l : List Nd) (k m : Nat), depthL l ≤ k → depthL l ≤ m → flatL l k = flatL l m
  | [], _, _, _, _ => by simp [flatL]
  | n :: r, k, m, hk, hm => by
    unfold depthL at hk hm
    unfold flatL
    rw [flatN_more n k m (by omega) (by omega), flatL_more r k m (by omega) (by omega)]
end
theorem wrap_words (x : List UInt8) (a b : List Nd) (loc : Int) (ha : depthL a ≤ 64) (hb : depthL b ≤ 64) : words [.mk true x [a, b] loc] = words a ++ words b := by
  unfold words flat
  simp only [flatL, flatN, flatA, if_true, List.append_nil]
  rw [flatL_more a 99 100 (by omega) (by omega), flatL_more b 99 100 (by omega) (by omega)]
  simp
end Go.Proofs.Ytimpadooknclkaa.Tr
