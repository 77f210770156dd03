/-
  Plain mathematics of package tree: what tokens form which nodes ('G'), what is wrong with them first ('flt'), and that nodes are flattened and parsed as they were. No code in it.
-/
import Derived.Test.YtimpadooknclkaaPrints
set_option linter.unusedVariables false
set_option linter.unusedSimpArgs false
namespace Go.Proofs.Ytimpadooknclkaa.Tr
open Go.Proofs.Ytimpadooknclkaa

abbrev Tok := Lx.Tok
/-- a node -/
inductive Nd where
  | mk (cmd : Bool) (text : List UInt8) (args : List (List Nd)) (loc : Int)

/-- the tokens l form the nodes ns, inside d groups -/
inductive G : Nat → List Tok → List Nd → Prop
  | nil (d : Nat) : G d [] []
  | word {d : Nat} {t : Tok} {r : List Tok} {ns : List Nd} (h : t.kind = 0) (hr : G d r ns) : G d (t :: r) (.mk false t.text [] t.loc :: ns)
  | cmd {d : Nat} {t : Tok} {r : List Tok} {ns : List Nd} (h : t.kind = 1) (hr : G d r ns) : G d (t :: r) (.mk true t.text [] t.loc :: ns)
  | grp {d : Nat} {t o c : Tok} {b r : List Tok} {gs : List Nd} {x : List UInt8} {a : Int} {args : List (List Nd)} {ns : List Nd} (h : t.kind = 1) (ho : o.kind = 2) (hc : c.kind = 3) (hd : d < 64) (hb : G (d + 1) b gs)
      (hr : G d (t :: r) (.mk true x args a :: ns)) : G d (t :: o :: (b ++ c :: r)) (.mk true x (gs :: args) a :: ns)

theorem G.head {d : Nat} {l : List Tok} {ns : List Nd} (h : G d l ns) : ∀ (t : Tok) (r : List Tok), l = t :: r → t.kind = 1 → ∃ args ns', ns = .mk true t.text args t.loc :: ns' := by
  induction h with
  | nil d => intro t r e; cases e
  | word h hr ih => intro t r e hk; injection e with e1 e2; subst e1; omega
  | cmd h hr ih => intro t r e hk; injection e with e1 e2; subst e1; exact ⟨_, _, rfl⟩
  | grp h ho hc hd hb hr ihb ihr =>
    intro t r e hk
    injection e with e1 e2
    subst e1
    obtain ⟨args, ns', e3⟩ := ihr _ _ rfl h
    injection e3 with e4 e5
    injection e4 with _ e6 e7 e8
    subst e6 e8
    exact ⟨_, _, rfl⟩
theorem G.group {d : Nat} {t o c : Tok} {b r : List Tok} {gs ns : List Nd} (h : t.kind = 1) (ho : o.kind = 2) (hc : c.kind = 3) (hd : d < 64) (hb : G (d + 1) b gs) (hr : G d (t :: r) ns) : ∃ ms, G d (t :: o :: (b ++ c :: r)) ms := by
  obtain ⟨args, ns', rfl⟩ := hr.head t r rfl h
  exact ⟨_, G.grp h ho hc hd hb hr⟩
theorem G.append {d : Nat} {l m : List Tok} {a b : List Nd} (h : G d l a) (hm : G d m b) : G d (l ++ m) (a ++ b) := by
  induction h with
  | nil d => exact hm
  | word h hr ih => exact .word h (ih hm)
  | cmd h hr ih => exact .cmd h (ih hm)
  | @grp d t o c bb r gs x a args ns h ho hc hd hb hr ihb ihr =>
    have h1 := G.grp h ho hc hd hb (ihr hm)
    simpa [List.append_assoc] using h1

/-! ### what is wrong first -/
def flt (opens : List Int) (behind : Bool) : List Tok → Option (Int × Int)
  | [] => match opens with
    | [] => none
    | o :: _ => some (62, o)
  | t :: r =>
    if t.kind = 2 then
      if behind = false then some (60, t.loc)
      else if opens.length = 64 then some (63, t.loc)
      else flt (t.loc :: opens) false r
    else if t.kind = 3 then
      match opens with
      | [] => some (61, t.loc)
      | _ :: os => flt os true r
    else flt opens (decide (t.kind = 1)) r

theorem flt_plain {t : Tok} (h2 : t.kind ≠ 2) (h3 : t.kind ≠ 3) (os : List Int) (beh : Bool) (r : List Tok) : flt os beh (t :: r) = flt os (decide (t.kind = 1)) r := by
  cases os <;> simp [flt, h2, h3]
theorem flt_open {t : Tok} (h2 : t.kind = 2) (os : List Int) (beh : Bool) (r : List Tok) : flt os beh (t :: r) = if beh = false then some (60, t.loc) else if os.length = 64 then some (63, t.loc) else flt (t.loc :: os) false r := by
  cases os <;> simp [flt, h2]
theorem flt_close {t : Tok} (h3 : t.kind = 3) (o : Int) (os : List Int) (beh : Bool) (r : List Tok) : flt (o :: os) beh (t :: r) = flt os true r := by
  simp [flt, h3]
theorem flt_close_none {t : Tok} (h3 : t.kind = 3) (beh : Bool) (r : List Tok) : flt [] beh (t :: r) = some (61, t.loc) := by
  simp [flt, h3]

theorem flt_of {d : Nat} {l : List Tok} {ns : List Nd} (h : G d l ns) : ∀ (os : List Int), os.length = d → ∀ (m : List Tok) (beh : Bool), ∃ beh', flt os beh (l ++ m) = flt os beh' m ∧ (l = [] → beh' = beh) := by
  induction h with
  | nil d => intro os _ m beh; exact ⟨beh, rfl, fun _ => rfl⟩
  | @word d t r ns h hr ih =>
    intro os ho m beh
    obtain ⟨b', e, _⟩ := ih os ho m false
    refine ⟨b', ?_, fun e => by cases e⟩
    rw [List.cons_append, flt_plain (by omega) (by omega), show decide (t.kind = 1) = false from decide_eq_false (by omega)]
    exact e
  | @cmd d t r ns h hr ih =>
    intro os ho m beh
    obtain ⟨b', e, _⟩ := ih os ho m true
    refine ⟨b', ?_, fun e => by cases e⟩
    rw [List.cons_append, flt_plain (by omega) (by omega), show decide (t.kind = 1) = true from decide_eq_true h]
    exact e
  | @grp d t o c b r gs x a args ns h ho hc hd hb hr ihb ihr =>
    intro os hos m beh
    obtain ⟨b1, e1, _⟩ := ihb (o.loc :: os) (by simp [hos]) (c :: (r ++ m)) false
    obtain ⟨b2, e2, _⟩ := ihr os hos m beh
    refine ⟨b2, ?_, fun e => by cases e⟩
    rw [List.cons_append, flt_plain (by omega) (by omega), show decide (t.kind = 1) = true from decide_eq_true h] at e2 ⊢
    rw [show (o :: (b ++ c :: r) ++ m : List Tok) = o :: (b ++ c :: (r ++ m)) by simp, flt_open ho, if_neg (by simp), if_neg (by omega), e1, flt_close hc]
    exact e2
/-- tokens that form nodes have no fault -/
theorem flt_none {l : List Tok} {ns : List Nd} (h : G 0 l ns) : flt [] false l = none := by
  obtain ⟨b, e, _⟩ := flt_of h [] rfl [] false
  rw [List.append_nil] at e
  rw [e]
  rfl

def real (t : Tok) : Prop := t.kind = 0 ∨ t.kind = 1 ∨ t.kind = 2 ∨ t.kind = 3
/-- tokens that have no fault form nodes -/
theorem forms : ∀ (n : Nat) (l : List Tok), l.length ≤ n → (∀ t ∈ l, real t) → ∀ (os : List Int), os.length ≤ 64 → ∀ (beh : Bool), flt os beh l = none →
    ∃ b rest, l = b ++ rest ∧ (beh = false → ∃ ns, G os.length b ns) ∧ (beh = true → ∀ t : Tok, t.kind = 1 → ∃ ns, G os.length (t :: b) ns) ∧
      ((rest = [] ∧ os = []) ∨ ∃ c r o os', rest = c :: r ∧ c.kind = 3 ∧ os = o :: os' ∧ flt os' true r = none)
  | n, [], _, _, os, _, beh, h => by
    cases os with
    | nil => exact ⟨[], [], rfl, fun _ => ⟨[], .nil _⟩, fun _ t ht => ⟨_, .cmd ht (.nil _)⟩, .inl ⟨rfl, rfl⟩⟩
    | cons o os' => simp [flt] at h
  | 0, t :: r, hl, _, os, _, beh, h => by simp at hl
  | n + 1, t :: r, hl, hk, os, ho, beh, h => by
    have hr : r.length ≤ n := by simp at hl; omega
    have hkr : ∀ t ∈ r, real t := fun t ht => hk t (List.mem_cons_of_mem _ ht)
    rcases hk t (List.mem_cons_self ..) with h0 | h1 | h2 | h3
    · rw [flt_plain (by omega) (by omega), show decide (t.kind = 1) = false from decide_eq_false (by omega)] at h
      obtain ⟨b, rest, e, g1, _, g3⟩ := forms n r hr hkr os ho false h
      obtain ⟨ns, hns⟩ := g1 rfl
      exact ⟨t :: b, rest, by rw [e]; rfl, fun _ => ⟨_, .word h0 hns⟩, fun _ u hu => ⟨_, .cmd hu (.word h0 hns)⟩, g3⟩
    · rw [flt_plain (by omega) (by omega), show decide (t.kind = 1) = true from decide_eq_true h1] at h
      obtain ⟨b, rest, e, _, g2, g3⟩ := forms n r hr hkr os ho true h
      obtain ⟨ns, hns⟩ := g2 rfl t h1
      exact ⟨t :: b, rest, by rw [e]; rfl, fun _ => ⟨_, hns⟩, fun _ u hu => ⟨_, .cmd hu hns⟩, g3⟩
    · rw [flt_open h2] at h
      split at h
      · cases h
      · rename_i hb
        have hbt : beh = true := by cases beh <;> simp_all
        subst hbt
        split at h
        · cases h
        · rename_i h64
          obtain ⟨b, rest, e, g1, _, g3⟩ := forms n r hr hkr (t.loc :: os) (by simp; omega) false h
          obtain ⟨gs, hgs⟩ := g1 rfl
          rcases g3 with ⟨_, e2⟩ | ⟨c, r2, o, os', e2, hc, e3, hf⟩
          · cases e2
          · injection e3 with e4 e5
            subst e5 e2 e
            have hr2 : r2.length ≤ n := by simp at hr; omega
            obtain ⟨b2, rest2, e6, _, k2, k3⟩ := forms n r2 hr2 (fun t ht => hkr t (by simp [ht])) os ho true hf
            subst e6
            refine ⟨t :: (b ++ c :: b2), rest2, by simp, fun h => (by cases h), fun _ u hu => ?_, k3⟩
            obtain ⟨ns, hns⟩ := k2 rfl u hu
            exact G.group hu h2 hc (by omega) hgs hns
    · cases os with
      | nil => rw [flt_close_none h3] at h; cases h
      | cons o os' =>
        rw [flt_close h3] at h
        exact ⟨[], t :: r, rfl, fun _ => ⟨[], .nil _⟩, fun _ u hu => ⟨_, .cmd hu (.nil _)⟩, .inr ⟨t, r, o, os', rfl, h3, rfl, h⟩⟩
theorem formed {l : List Tok} (hk : ∀ t ∈ l, real t) (h : flt [] false l = none) : ∃ ns, G 0 l ns := by
  obtain ⟨b, rest, e, g1, _, g3⟩ := forms l.length l (Nat.le_refl _) hk [] (by simp) false h
  obtain ⟨ns, hns⟩ := g1 rfl
  rcases g3 with ⟨e2, _⟩ | ⟨_, _, _, _, _, _, e2, _⟩
  · rw [e, e2, List.append_nil]; exact ⟨ns, hns⟩
  · cases e2

/-! ### where a group ends -/
/-- how far the token is with which the tokens ahead, of which k groups are open, close them all -/
def ends : Nat → List Tok → Option Nat
  | _, [] => none
  | k, t :: r =>
    let k' := if t.kind = 2 then k + 1 else if t.kind = 3 then k - 1 else k
    if k' = 0 then some 0 else (ends k' r).map (· + 1)
theorem ends_plain {t : Tok} (h2 : t.kind ≠ 2) (h3 : t.kind ≠ 3) (k : Nat) (r : List Tok) : ends (k + 1) (t :: r) = (ends (k + 1) r).map (· + 1) := by
  simp [ends, h2, h3]
theorem ends_open {t : Tok} (h2 : t.kind = 2) (k : Nat) (r : List Tok) : ends k (t :: r) = (ends (k + 1) r).map (· + 1) := by
  simp [ends, h2]
theorem ends_close {t : Tok} (h3 : t.kind = 3) (k : Nat) (r : List Tok) : ends (k + 2) (t :: r) = (ends (k + 1) r).map (· + 1) := by
  simp [ends, h3]
theorem ends_last {t : Tok} (h3 : t.kind = 3) (r : List Tok) : ends 1 (t :: r) = some 0 := by
  simp [ends, h3]
theorem map_add (x : Option Nat) (a b : Nat) : (x.map (· + a)).map (· + b) = x.map (· + (a + b)) := by
  cases x <;> simp [Nat.add_assoc]
theorem ends_of {d : Nat} {l : List Tok} {ns : List Nd} (h : G d l ns) : ∀ (k : Nat) (m : List Tok), ends (k + 1) (l ++ m) = (ends (k + 1) m).map (· + l.length) := by
  induction h with
  | nil d => intro k m; simp
  | @word d t r ns h hr ih =>
    intro k m
    rw [List.cons_append, ends_plain (by omega) (by omega), ih, map_add, List.length_cons]
  | @cmd d t r ns h hr ih =>
    intro k m
    rw [List.cons_append, ends_plain (by omega) (by omega), ih, map_add, List.length_cons]
  | @grp d t o c b r gs x a args ns h ho hc hd hb hr ihb ihr =>
    intro k m
    have e0 := ihr k m
    rw [List.cons_append, ends_plain (by omega) (by omega)] at e0 ⊢
    rw [show (o :: (b ++ c :: r) ++ m : List Tok) = o :: (b ++ (c :: (r ++ m))) by simp, ends_open ho, ihb (k + 1), ends_close hc, map_add, map_add]
    have e2 : (ends (k + 1) (r ++ m)).map (· + (1 + (b.length + (1 + 1)))) = ((ends (k + 1) (r ++ m)).map (· + 1)).map (· + (b.length + 2)) := by
      rw [map_add]
    rw [map_add, e2, e0, map_add]
    congr 1
    funext x
    simp only [List.length_cons, List.length_append]
    omega
theorem ends_group {d : Nat} {o c : Tok} {b r : List Tok} {gs : List Nd} (ho : o.kind = 2) (hc : c.kind = 3) (hb : G d b gs) : ends 0 (o :: (b ++ c :: r)) = some (b.length + 1) := by
  rw [ends_open ho, ends_of hb 0, ends_last hc]
  simp
end Go.Proofs.Ytimpadooknclkaa.Tr
