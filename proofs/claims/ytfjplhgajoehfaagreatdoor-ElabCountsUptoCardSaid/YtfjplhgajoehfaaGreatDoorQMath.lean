/-
  The plain mathematics of package fault: which text a chain has, what a text is read as, and that the two undo one another; no program is mentioned here.
  strconv.Atoi and Itoa as the landed elab calls them; numerals from 1 to 9999.
-/
import Derived.Lib.IndexMore
import Derived.Lib.ItoaNum
import Derived.Lib.AtoiAll
import Derived.Lib.Strings
import Derived.Test.YtfjplhgajoehfaaGreatDoorShelf
import Derived.Test.YtfjplhgajoehfaaGreatDoorQLemma14
namespace Go.Proofs.YtfjplhgajoehfaaGreatDoor.Fm
open Go.Lib

/-! ### decimal numerals -/
def isDig (c : UInt8) : Bool := decide (48 ≤ c.toNat ∧ c.toNat ≤ 57)
theorem dig_toNat (d : Nat) (h : d < 10) : (UInt8.ofNat (48 + d)).toNat = 48 + d := by
  rw [UInt8.toNat_ofNat']; omega
theorem decDigits_dig (u : Nat) : ∀ c ∈ decDigits u, 48 ≤ c.toNat ∧ c.toNat ≤ 57 := by
  induction u using Nat.strongRecOn with
  | _ u ih =>
    intro c hc
    rw [decDigits] at hc
    split at hc
    · rename_i h
      simp only [List.mem_singleton] at hc
      subst hc
      rw [dig_toNat u h]; omega
    · rename_i h
      simp only [List.mem_append, List.mem_singleton] at hc
      rcases hc with hc | hc
      · exact ih (u / 10) (by omega) c hc
      · subst hc
        rw [dig_toNat (u % 10) (by omega)]; omega
theorem decDigits_ne (u : Nat) : decDigits u ≠ [] := by
  rw [decDigits]; split <;> simp

/-- the number that digits spell, behind 'acc' -/
def spell (acc : Nat) : List UInt8 → Nat
  | [] => acc
  | c :: r => spell (acc * 10 + (c.toNat - 48)) r
theorem spell_append (l : List UInt8) (c : UInt8) : ∀ acc, spell acc (l ++ [c]) = spell acc l * 10 + (c.toNat - 48) := by
  induction l with
  | nil => intro acc; rfl
  | cons x r ih => intro acc; exact ih _
theorem spell_dec (u : Nat) : spell 0 (decDigits u) = u := by
  induction u using Nat.strongRecOn with
  | _ u ih =>
    by_cases h : u < 10
    · rw [decDigits_one h]
      show 0 * 10 + ((UInt8.ofNat (48 + u)).toNat - 48) = u
      rw [dig_toNat u h]; omega
    · rw [decDigits, dif_neg h, spell_append, ih (u / 10) (by omega), dig_toNat (u % 10) (by omega)]
      omega
theorem spell_ge (l : List UInt8) : ∀ acc, acc ≤ spell acc l := by
  induction l with
  | nil => intro acc; exact Nat.le_refl _
  | cons x r ih => intro acc; exact Nat.le_trans (by omega) (ih _)
theorem parse_spell (l : List UInt8) : ∀ (acc : Nat), (∀ c ∈ l, 48 ≤ c.toNat ∧ c.toNat ≤ 57) → spell acc l < 18446744073709551616 → parseUint10 acc l = .ok (spell acc l) := by
  induction l with
  | nil => intro acc _ _; unfold parseUint10 spell; rfl
  | cons c r ih =>
    intro acc hd hs
    have hc := hd c (List.mem_cons_self ..)
    have h1 := spell_ge r (acc * 10 + (c.toNat - 48))
    have hs' : spell (acc * 10 + (c.toNat - 48)) r < 18446744073709551616 := hs
    have hi := ih (acc * 10 + (c.toNat - 48)) (fun x hx => hd x (List.mem_cons_of_mem _ hx)) hs'
    have hsp : spell acc (c :: r) = spell (acc * 10 + (c.toNat - 48)) r := rfl
    rw [hsp, ← hi]
    conv => lhs; unfold parseUint10
    rw [if_pos hc, if_neg (by omega), if_neg (by omega)]
theorem parseMag_dec (u : Nat) (h : u < 18446744073709551616) : parseMag (decDigits u) = .ok u := by
  unfold parseMag
  rw [if_neg (decDigits_ne u), parse_spell _ _ (decDigits_dig u) (by rw [spell_dec]; exact h), spell_dec]
/-- Atoi reads a numeral back. -/
theorem atoi_itoa (n : Int) (h0 : -9223372036854775808 ≤ n) (h1 : n ≤ 9223372036854775807) : atoiAll (itoa n) = .ok n := by
  unfold itoa
  by_cases hn : n < 0
  · rw [if_pos hn]
    unfold atoiAll
    simp only [show (45 : UInt8).toNat = 45 from rfl]
    rw [if_pos (Or.inr trivial), parseMag_dec _ (by omega)]
    simp only [not_true_eq_false, false_and, if_false, true_and, if_true]
    rw [if_neg (by omega)]
    congr 1; omega
  · rw [if_neg hn]
    have hd := decDigits_dig n.toNat
    have hp := parseMag_dec n.toNat (by omega)
    cases hx : decDigits n.toNat with
    | nil => exact absurd hx (decDigits_ne _)
    | cons c r =>
      rw [hx] at hd hp
      have hc := hd c (List.mem_cons_self ..)
      unfold atoiAll
      simp only
      rw [if_neg (by omega), hp]
      simp only
      rw [if_neg (by omega), if_neg (by omega), if_neg (by omega)]
      congr 1; omega
theorem itoa_bytes (n : Int) : ∀ c ∈ itoa n, c = 45 ∨ (48 ≤ c.toNat ∧ c.toNat ≤ 57) := by
  intro c hc
  unfold itoa at hc
  split at hc
  · simp only [List.mem_cons] at hc
    rcases hc with rfl | hc
    · exact Or.inl rfl
    · exact Or.inr (decDigits_dig _ c hc)
  · exact Or.inr (decDigits_dig _ c hc)

/-- the number whose numeral a text is -/
def num (l : List UInt8) : Option Int := match atoiAll l with
  | .ok v => if itoa v = l then some v else none
  | _ => none
theorem num_itoa (n : Int) (h0 : -9223372036854775808 ≤ n) (h1 : n ≤ 9223372036854775807) : num (itoa n) = some n := by
  unfold num; rw [atoi_itoa n h0 h1]; simp
theorem num_some {l : List UInt8} {n : Int} (h : num l = some n) : l = itoa n := by
  unfold num at h
  split at h
  · split at h
    · rename_i h2; injection h with h; rw [← h]; exact h2.symm
    · cases h
  · cases h
theorem parseMag_bound {l : List UInt8} {u : Nat} (h : parseMag l = .ok u) : u < 18446744073709551616 := parseMag_lt h
theorem atoi_range {l : List UInt8} {n : Int} (h : atoiAll l = .ok n) : -9223372036854775808 ≤ n ∧ n ≤ 9223372036854775807 := by
  unfold atoiAll at h
  split at h
  · cases h
  · rename_i c r
    simp only at h
    split at h
    · cases h
    · cases h
    · split at h
      · cases h
      · split at h
        · cases h
        · injection h with h
          split at h <;> rename_i hn <;> subst h <;> omega
theorem num_range {l : List UInt8} {n : Int} (h : num l = some n) : -9223372036854775808 ≤ n ∧ n ≤ 9223372036854775807 := by
  unfold num at h
  split at h
  · rename_i hv
    split at h
    · injection h with h; subst h; exact atoi_range hv
    · cases h
  · cases h

/-! ### the first place of a separator -/
theorem occ_head {l sep : List UInt8} {x : UInt8} (hx : sep.head? = some x) {i : Nat} (h : occAt l sep i = true) : l[i]? = some x := by
  unfold occAt at h
  cases sep with
  | nil => cases hx
  | cons y t =>
    simp only [List.head?_cons, Option.some.injEq] at hx
    subst hx
    cases hd : l.drop i with
    | nil => rw [hd] at h; simp at h
    | cons z r =>
      rw [hd] at h
      simp only [List.isPrefixOf_cons_cons, Bool.and_eq_true, beq_iff_eq] at h
      have : (l.drop i)[0]? = some z := by rw [hd]; rfl
      rw [List.getElem?_drop, Nat.add_zero] at this
      rw [this, h.1]
theorem cut_here {l sep r : List UInt8} {x : UInt8} (hx : sep.head? = some x) (hl : x ∉ l) : cut (l ++ (sep ++ r)) sep = (l, r, true) := by
  have hi : index (l ++ (sep ++ r)) sep = l.length := by
    refine index_first (by simp) ?_ ?_
    · unfold occAt
      rw [List.drop_left]
      exact List.isPrefixOf_iff_prefix.2 ⟨r, rfl⟩
    · intro j hj
      cases ho : occAt (l ++ (sep ++ r)) sep j with
      | false => rfl
      | true =>
        have := occ_head hx ho
        rw [List.getElem?_append_left hj] at this
        exact absurd (List.mem_of_getElem? this) hl
  unfold cut
  rw [hi, if_pos (by omega)]
  simp
theorem cut_none {l sep : List UInt8} {x : UInt8} (hx : sep.head? = some x) (hl : x ∉ l) : cut l sep = (l, [], false) := by
  have hi : index l sep = -1 := by
    refine index_none ?_
    intro j _
    cases ho : occAt l sep j with
    | false => rfl
    | true => exact absurd (List.mem_of_getElem? (occ_head hx ho)) hl
  unfold cut
  rw [hi, if_neg (by omega)]
theorem occ_split {l sep : List UInt8} {i : Nat} (h : occAt l sep i = true) : l = l.take i ++ (sep ++ l.drop (i + sep.length)) := by
  unfold occAt at h
  obtain ⟨t, ht⟩ := List.isPrefixOf_iff_prefix.1 h
  have h1 : l.drop (i + sep.length) = t := by
    rw [← List.drop_drop, ← ht, List.drop_left]
  rw [h1, ht, List.take_append_drop]
theorem cut_found {l sep a b : List UInt8} (h : cut l sep = (a, b, true)) : l = a ++ (sep ++ b) := by
  unfold cut at h
  split at h
  · rename_i h0
    rcases index_spec l sep with ⟨h1, _⟩ | ⟨i, h1, _, h3, _⟩
    · omega
    · rw [h1] at h
      simp only [Int.toNat_natCast, Prod.mk.injEq] at h
      have := occ_split h3
      rw [h.1, h.2.1] at this
      exact this
  · simp at h
theorem cut_lost {l sep a b : List UInt8} (h : cut l sep = (a, b, false)) : a = l ∧ b = [] := by
  unfold cut at h
  split at h
  · simp at h
  · simp only [Prod.mk.injEq, and_true] at h; exact ⟨h.1.symm, h.2.symm⟩
theorem cut_first (l sep : List UInt8) (i : Nat) (hi : i ≤ l.length) (ho : occAt l sep i = true) (hn : ∀ j, j < i → occAt l sep j = false) : cut l sep = (l.take i, l.drop (i + sep.length), true) := by
  unfold cut
  rw [index_first hi ho hn, if_pos (by omega)]
  simp
theorem cut_never (l sep : List UInt8) (hn : ∀ j, j ≤ l.length → occAt l sep j = false) : cut l sep = (l, [], false) := by
  unfold cut
  rw [index_none hn, if_neg (by omega)]

/-! ### chains, their texts, and reading -/
def colon : List UInt8 := [58, 32]
def blank : List UInt8 := [32]
def faultW : List UInt8 := [102, 97, 117, 108, 116]
def faultB : List UInt8 := [102, 97, 117, 108, 116, 32]
def atB : List UInt8 := [32, 97, 116, 32]
def okName (l : List UInt8) : Bool := !l.isEmpty && l.all fun c => decide (97 ≤ c.toNat ∧ c.toNat ≤ 122)

def faultText (c a : Int) : List UInt8 := faultB ++ itoa c ++ (if a < 0 then [] else atB ++ itoa a)
def stagesText (ns : List (List UInt8)) : List UInt8 := ns.flatMap fun n => n ++ colon
def chainText (c a : Int) (ns : List (List UInt8)) : List UInt8 := stagesText ns ++ faultText c a

/-- what is read behind the word 'fault' and a blank -/
def readNums (l : List UInt8) : Option (Int × Int) :=
  match cut l atB with
  | (x, y, true) => match num x with
    | some c => match num y with
      | some a => if a < 0 then none else some (c, a)
      | none => none
    | none => none
  | (x, _, false) => match num x with
    | some c => some (c, -1)
    | none => none
def readFault (l : List UInt8) : Option (Int × Int) := if hasPrefix l faultB then readNums (trimPrefix l faultB) else none
/-- what is read of a text; 'fuel': more than its length; 'acc': the stages ahead -/
def readChain : Nat → List (List UInt8) → List UInt8 → Option (Int × Int × List (List UInt8))
  | 0, _, _ => none
  | fuel + 1, acc, l => match cut l colon with
    | (n, r, true) => if okName n then readChain fuel (acc ++ [n]) r else none
    | (_, _, false) => match readFault l with
      | some (c, a) => some (c, a, acc)
      | none => none
def readText (l : List UInt8) : Option (Int × Int × List (List UInt8)) := readChain (l.length + 1) [] l

theorem cut_shorter {l sep a b : List UInt8} (hs : sep ≠ []) (h : cut l sep = (a, b, true)) : b.length < l.length := by
  have h1 := congrArg List.length (cut_found h)
  have h2 : 0 < sep.length := List.length_pos_iff.2 hs
  simp at h1
  omega
theorem readChain_fuel : ∀ (f g : Nat) (acc : List (List UInt8)) (l : List UInt8), l.length < f → l.length < g → readChain f acc l = readChain g acc l
  | 0, _, _, _, h, _ => by omega
  | _, 0, _, _, _, h => by omega
  | f + 1, g + 1, acc, l, h1, h2 => by
    simp only [readChain]
    split
    · rename_i n r hc
      have := cut_shorter (by decide) hc
      split
      · exact readChain_fuel f g _ r (by omega) (by omega)
      · rfl
    · rfl

theorem num_inj {a b : Int} (ha : -9223372036854775808 ≤ a ∧ a ≤ 9223372036854775807) (hb : -9223372036854775808 ≤ b ∧ b ≤ 9223372036854775807) (h : itoa a = itoa b) : a = b := by
  have h1 := atoi_itoa a ha.1 ha.2
  rw [h, atoi_itoa b hb.1 hb.2] at h1
  injection h1 with h1
  exact h1.symm

theorem noBlank_itoa (n : Int) : (32 : UInt8) ∉ itoa n := by
  intro h
  rcases itoa_bytes n 32 h with h | h
  · revert h; decide
  · revert h; decide
theorem noColon_itoa (n : Int) : (58 : UInt8) ∉ itoa n := by
  intro h
  rcases itoa_bytes n 58 h with h | h
  · revert h; decide
  · revert h; decide
theorem noColon_fault (c a : Int) : (58 : UInt8) ∉ faultText c a := by
  unfold faultText
  have h1 := noColon_itoa c
  have h2 := noColon_itoa a
  split <;> simp [faultB, atB, h1, h2]
theorem noColon_name {l : List UInt8} (h : okName l = true) : (58 : UInt8) ∉ l := by
  intro hm
  unfold okName at h
  rw [Bool.and_eq_true, List.all_eq_true] at h
  have := h.2 58 hm
  revert this; decide

theorem readNums_text {c a : Int} (hc : -9223372036854775808 ≤ c ∧ c ≤ 9223372036854775807) (ha : a ≤ 9223372036854775807) (ha1 : -1 ≤ a) :
    readNums (itoa c ++ (if a < 0 then [] else atB ++ itoa a)) = some (c, a) := by
  unfold readNums
  by_cases h : a < 0
  · rw [if_pos h, List.append_nil, cut_none (x := 32) rfl (noBlank_itoa c)]
    simp only
    rw [num_itoa c hc.1 hc.2]
    simp only [Option.some.injEq, Prod.mk.injEq, true_and]
    omega
  · rw [if_neg h, cut_here (x := 32) rfl (noBlank_itoa c)]
    simp only
    rw [num_itoa c hc.1 hc.2, num_itoa a (by omega) ha]
    simp only
    rw [if_neg h]
theorem readFault_text {c a : Int} (hc : -9223372036854775808 ≤ c ∧ c ≤ 9223372036854775807) (ha : a ≤ 9223372036854775807) (ha1 : -1 ≤ a) :
    readFault (faultText c a) = some (c, a) := by
  have hp : hasPrefix (faultText c a) faultB = true := by
    unfold hasPrefix faultText
    rw [List.append_assoc]
    exact List.isPrefixOf_iff_prefix.2 ⟨_, rfl⟩
  unfold readFault
  rw [if_pos hp]
  unfold trimPrefix
  rw [if_pos hp]
  unfold faultText
  rw [List.append_assoc, List.drop_left]
  exact readNums_text hc ha ha1
theorem readChain_text {c a : Int} (hc : -9223372036854775808 ≤ c ∧ c ≤ 9223372036854775807) (ha : a ≤ 9223372036854775807) (ha1 : -1 ≤ a) :
    ∀ (ns : List (List UInt8)) (fuel : Nat) (acc : List (List UInt8)), (∀ n ∈ ns, okName n = true) → ns.length < fuel → readChain fuel acc (chainText c a ns) = some (c, a, acc ++ ns)
  | _, 0, _, _, h => by omega
  | [], f + 1, acc, _, _ => by
    have : chainText c a [] = faultText c a := by simp [chainText, stagesText]
    rw [this]
    simp only [readChain]
    rw [cut_none (x := 58) rfl (noColon_fault c a)]
    simp only
    rw [readFault_text hc ha ha1]
    simp
  | n :: ns, f + 1, acc, hn, hf => by
    have : chainText c a (n :: ns) = n ++ (colon ++ chainText c a ns) := by simp [chainText, stagesText]
    rw [this]
    simp only [readChain]
    rw [cut_here (x := 58) rfl (noColon_name (hn n (List.mem_cons_self ..)))]
    simp only
    rw [if_pos (hn n (List.mem_cons_self ..)), readChain_text hc ha ha1 ns f (acc ++ [n]) (fun m hm => hn m (List.mem_cons_of_mem _ hm)) (by simpa using hf)]
    simp
theorem stages_length (ns : List (List UInt8)) : ns.length ≤ (stagesText ns).length := by
  induction ns with
  | nil => simp
  | cons n r ih =>
    have : stagesText (n :: r) = (n ++ colon) ++ stagesText r := by simp [stagesText]
    rw [this]
    simp [colon]
    omega
/-- A chain is read back from its text. -/
theorem readText_text {c a : Int} (hc : -9223372036854775808 ≤ c ∧ c ≤ 9223372036854775807) (ha : a ≤ 9223372036854775807) (ha1 : -1 ≤ a) (ns : List (List UInt8)) (hn : ∀ n ∈ ns, okName n = true) :
    readText (chainText c a ns) = some (c, a, ns) := by
  unfold readText
  rw [readChain_text hc ha ha1 ns _ [] hn (by have := stages_length ns; unfold chainText; simp; omega)]
  simp

theorem readNums_some {l : List UInt8} {c a : Int} (h : readNums l = some (c, a)) : l = itoa c ++ (if a < 0 then [] else atB ++ itoa a) := by
  unfold readNums at h
  split at h
  · rename_i x y hcut
    have hl := cut_found hcut
    split at h
    · rename_i c' hx
      split at h
      · rename_i a' hy
        split at h
        · cases h
        · rename_i ha
          simp only [Option.some.injEq, Prod.mk.injEq] at h
          obtain ⟨rfl, rfl⟩ := h
          rw [if_neg ha, hl, num_some hx, num_some hy]
      · cases h
    · cases h
  · rename_i x y hcut
    have hl := cut_lost hcut
    split at h
    · rename_i c' hx
      simp only [Option.some.injEq, Prod.mk.injEq] at h
      obtain ⟨rfl, rfl⟩ := h
      rw [if_pos (by omega), ← num_some hx, hl.1]
      simp
    · cases h
theorem readNums_range {l : List UInt8} {c a : Int} (h : readNums l = some (c, a)) : (-9223372036854775808 ≤ c ∧ c ≤ 9223372036854775807) ∧ -1 ≤ a ∧ a ≤ 9223372036854775807 := by
  unfold readNums at h
  split at h
  · split at h
    · rename_i c' hx
      split at h
      · rename_i a' hy
        split at h
        · cases h
        · rename_i ha
          simp only [Option.some.injEq, Prod.mk.injEq] at h
          obtain ⟨rfl, rfl⟩ := h
          exact ⟨num_range hx, by omega, (num_range hy).2⟩
      · cases h
    · cases h
  · split at h
    · rename_i c' hx
      simp only [Option.some.injEq, Prod.mk.injEq] at h
      obtain ⟨rfl, rfl⟩ := h
      exact ⟨num_range hx, by omega, by omega⟩
    · cases h
theorem readFault_some {l : List UInt8} {c a : Int} (h : readFault l = some (c, a)) : l = faultText c a ∧ (-9223372036854775808 ≤ c ∧ c ≤ 9223372036854775807) ∧ -1 ≤ a ∧ a ≤ 9223372036854775807 := by
  unfold readFault at h
  split at h
  · rename_i hp
    refine ⟨?_, readNums_range h⟩
    have h2 := readNums_some h
    unfold trimPrefix at h2
    rw [if_pos hp] at h2
    obtain ⟨t, ht⟩ := List.isPrefixOf_iff_prefix.1 hp
    rw [← ht, List.drop_left] at h2
    unfold faultText
    rw [List.append_assoc, ← h2, ht]
  · cases h
theorem readChain_some : ∀ (fuel : Nat) (acc : List (List UInt8)) (l : List UInt8) (c a : Int) (ns : List (List UInt8)), readChain fuel acc l = some (c, a, ns) → ∃ ms, ns = acc ++ ms ∧ l = chainText c a ms ∧ (-9223372036854775808 ≤ c ∧ c ≤ 9223372036854775807) ∧ -1 ≤ a ∧ a ≤ 9223372036854775807
  | 0, _, _, _, _, _, h => by cases h
  | f + 1, acc, l, c, a, ns, h => by
    simp only [readChain] at h
    split at h
    · rename_i n r hcut
      split at h
      · obtain ⟨ms, h1, h2, h3⟩ := readChain_some f _ r c a ns h
        refine ⟨n :: ms, by rw [h1]; simp, ?_, h3⟩
        rw [cut_found hcut, h2]
        simp [chainText, stagesText]
      · cases h
    · split at h
      · rename_i c' a' hf
        simp only [Option.some.injEq, Prod.mk.injEq] at h
        obtain ⟨rfl, rfl, rfl⟩ := h
        have := readFault_some hf
        exact ⟨[], by simp, by simp [chainText, stagesText, this.1], this.2⟩
      · cases h
/-- What is read has this text. -/
theorem readText_some {l : List UInt8} {c a : Int} {ns : List (List UInt8)} (h : readText l = some (c, a, ns)) : l = chainText c a ns ∧ (-9223372036854775808 ≤ c ∧ c ≤ 9223372036854775807) ∧ -1 ≤ a ∧ a ≤ 9223372036854775807 := by
  obtain ⟨ms, h1, h2⟩ := readChain_some _ _ _ _ _ _ h
  simp at h1
  subst h1
  exact h2
end Go.Proofs.YtfjplhgajoehfaaGreatDoor.Fm

set_option linter.unusedVariables false
set_option linter.unusedSimpArgs false
namespace Go.Proofs.YtfjplhgajoehfaaGreatDoor
open Go.RowKit

/-- what the row's list of package-level variables lays for Atoi and Itoa -/
structure LibEnv (w : World) : Prop where
  syn : ∃ tp p, w.var? Tryz.prog "strconv.ErrSyntax" = some #[.iface tp p]
  rng : ∃ tp p, w.var? Tryz.prog "strconv.ErrRange" = some #[.iface tp p]
  tab : Lib.TabIs Tryz.prog w "internal/strconv.uint64pow10" .u64 Lib.pow10Tab
theorem var_below {w w' : World} (hb : Below w.heap.size w w') {n : String} {cs : Array Value} (h : w.var? Tryz.prog n = some cs) : w'.var? Tryz.prog n = some cs := by
  have h0 := h
  unfold World.var? at h
  cases hg : Tryz.prog.globalNamed n with
  | none => rw [hg] at h; cases h
  | some g =>
    rw [hg] at h
    simp only [Option.bind_some] at h
    have hlt : g < w.heap.size := by
      rcases Nat.lt_or_ge g w.heap.size with h' | h'
      · exact h'
      · rw [Array.getElem?_eq_none h'] at h; cases h
    exact var?_below hb hg hlt h0
theorem LibEnv.mono {w w' : World} (h : LibEnv w) (hb : Below w.heap.size w w') : LibEnv w' := by
  obtain ⟨⟨t2, p2, h2⟩, ⟨t3, p3, h3⟩, h4⟩ := h
  exact ⟨⟨t2, p2, var_below hb h2⟩, ⟨t3, p3, var_below hb h3⟩, var_below hb h4⟩
theorem below_growN (w : World) (k : Nat) (os : Array Obj) : Below w.heap.size w (Go.Sort.grow (w.drewN k) os) :=
  ⟨rfl, rfl, rfl, by simp [Go.Sort.grow, World.drewN], fun i hi => by simp [Go.Sort.grow, World.drewN, Array.getElem?_append, hi]⟩
theorem below_bytes {w w' : World} {e : TypeId} (h : w' = w ∨ ∃ t, w' = Lib.bytesWorld w e t) : Below w.heap.size w w' := by
  rcases h with rfl | ⟨t, rfl⟩
  · exact Below.refl _ _
  · exact Lib.bytesWorld_below _ _ _
/-- a text that is no number at all -/
theorem atoi_bad (s : ByteArray) (hlim : s.size ≤ 281474976710656) (h : (∀ v, Lib.atoiAll s.data.toList ≠ .ok v) ∧ Lib.atoiAll s.data.toList ≠ .range) (tp : TypeId) (p : Value) (w : World) (hvar : w.var? Tryz.prog "strconv.ErrSyntax" = some #[.iface tp p]) :
    Calls Tryz.prog 84 #[.string s] w fun e w' => ∃ N, e = .returned (.tuple #[.int .i64 0, .iface 157 (.pointer (some ⟨N, 0, none⟩))]) ∧ w.heap.size ≤ N ∧ w'.heap[N]? = some (.cells #[.string ⟨#[65, 116, 111, 105]⟩, .string s, .iface tp p] 166 (0, 0)) ∧ Below w.heap.size w w' :=
  Any.strconv_Atoi_syntax_var Tryz.laysC172 s hlim (by cases hh : Lib.atoiAll s.data.toList <;> simp_all) tp p w hvar

def Atoi14 (l : List UInt8) (w : World) (e : Ending) (w' : World) : Prop := Below w.heap.size w w' ∧ ((∃ v, Lib.atoiAll l = .ok v ∧ e = .returned (.tuple #[.int .i64 v, .nilIface])) ∨ ((∀ v, Lib.atoiAll l ≠ .ok v) ∧ ∃ n T x, e = .returned (.tuple #[.int .i64 n, .iface T x])))
theorem atoi14 (s : ByteArray) (hs : s.size ≤ 281474976710656) (w : World) (hL : LibEnv w) : Calls Tryz.prog 84 #[.string s] w (Atoi14 s.data.toList w) := by
  rcases ha : Lib.atoiAll s.data.toList with v | _ | _
  · refine (Tryz.strconv_Atoi_ok s (by omega) v ha w).mono ?_
    rintro e w' ⟨rfl, hw⟩
    exact ⟨below_bytes hw, .inl ⟨v, ha, rfl⟩⟩
  · obtain ⟨tp, p, hv⟩ := hL.syn
    refine (atoi_bad s hs ⟨fun v => by rw [ha]; simp, by rw [ha]; simp⟩ tp p w hv).mono ?_
    rintro e w' ⟨N, rfl, _, _, hb⟩
    exact ⟨hb, .inr ⟨fun v => by rw [ha]; simp, _, _, _, rfl⟩⟩
  · obtain ⟨tp, p, hv⟩ := hL.rng
    refine (Tryz.strconv_Atoi_range_var s hs ha tp p w hv).mono ?_
    rintro e w' ⟨N, rfl, _, _, hb⟩
    exact ⟨hb, .inr ⟨fun v => by rw [ha]; simp, _, _, _, rfl⟩⟩
theorem itoa14 (n : Int) (h0 : -9223372036854775808 ≤ n) (h1 : n ≤ 9223372036854775807) (w : World) (hL : LibEnv w) : Calls Tryz.prog 85 #[.int .i64 n] w (Ret (.string ⟨(Lib.itoa n).toArray⟩) w) := by
  refine (Tryz.strconv_Itoa n h0 h1 w hL.tab).mono ?_
  rintro e w' ⟨rfl, k, os, rfl⟩
  exact ⟨rfl, below_growN _ _ _⟩

/-! ### numerals -/
open Go.Lib
theorem dec_spell : ∀ (l : List UInt8) (a : Nat), l.foldl (fun v b => v * 10 + (b.toNat - 48)) a = Fm.spell a l
  | [], a => rfl
  | c :: r, a => dec_spell r _
theorem head_snoc {l : List UInt8} {c : UInt8} (h : l ≠ []) : (l ++ [c]).head? = l.head? := by
  cases l with
  | nil => exact absurd rfl h
  | cons x r => rfl
theorem spell_pos {l : List UInt8} (hne : l ≠ []) (hd : ∀ c ∈ l, 48 ≤ c.toNat ∧ c.toNat ≤ 57) (h0 : l.head? ≠ some 48) : 1 ≤ Fm.spell 0 l := by
  cases l with
  | nil => exact absurd rfl hne
  | cons c r =>
    have h1 := Fm.spell_ge r (0 * 10 + (c.toNat - 48))
    have h2 := hd c (List.mem_cons_self ..)
    have h3 : c.toNat ≠ 48 := fun e => h0 (by rw [List.head?_cons]; congr 1; exact UInt8.toNat_inj.1 e)
    show 1 ≤ Fm.spell (0 * 10 + (c.toNat - 48)) r
    omega
theorem dec_back : ∀ (n : Nat) (l : List UInt8), l.length = n → l ≠ [] → (∀ c ∈ l, 48 ≤ c.toNat ∧ c.toNat ≤ 57) → l.head? ≠ some 48 → decDigits (Fm.spell 0 l) = l := by
  intro n
  induction n with
  | zero => intro l hl hne; exact absurd (List.eq_nil_of_length_eq_zero hl) hne
  | succ n ih =>
    intro l hl hne hd h0
    obtain ⟨p, c, rfl⟩ : ∃ p c, l = p ++ [c] := ⟨l.dropLast, l.getLast hne, (List.dropLast_concat_getLast hne).symm⟩
    have hc := hd c (by simp)
    have ec : UInt8.ofNat (48 + (c.toNat - 48)) = c := by
      rw [show 48 + (c.toNat - 48) = c.toNat by omega]
      exact UInt8.ofNat_toNat
    by_cases hp : p = []
    · subst hp
      show decDigits (0 * 10 + (c.toNat - 48)) = [c]
      rw [decDigits_one (by omega)]
      rw [show 48 + (0 * 10 + (c.toNat - 48)) = 48 + (c.toNat - 48) by omega, ec]
    · have hp0 : p.head? ≠ some 48 := by rw [← head_snoc hp (c := c)]; exact h0
      have hdp : ∀ x ∈ p, 48 ≤ x.toNat ∧ x.toNat ≤ 57 := fun x hx => hd x (List.mem_append_left _ hx)
      have h1 := spell_pos hp hdp hp0
      have ihp := ih p (by simpa using hl) hp hdp hp0
      rw [Fm.spell_append]
      rw [decDigits, dif_neg (by omega), show (Fm.spell 0 p * 10 + (c.toNat - 48)) / 10 = Fm.spell 0 p by omega, show (Fm.spell 0 p * 10 + (c.toNat - 48)) % 10 = c.toNat - 48 by omega, ihp, ec]
theorem spell_lt : ∀ (l : List UInt8) (a : Nat), (∀ c ∈ l, 48 ≤ c.toNat ∧ c.toNat ≤ 57) → Fm.spell a l < (a + 1) * 10 ^ l.length
  | [], a, _ => by show a < (a + 1) * 1; omega
  | c :: r, a, hd => by
    have h1 := spell_lt r (a * 10 + (c.toNat - 48)) (fun x hx => hd x (List.mem_cons_of_mem _ hx))
    have h2 := hd c (List.mem_cons_self ..)
    have h3 : (a * 10 + (c.toNat - 48) + 1) * 10 ^ r.length ≤ ((a + 1) * 10) * 10 ^ r.length := Nat.mul_le_mul_right _ (by omega)
    show Fm.spell (a * 10 + (c.toNat - 48)) r < (a + 1) * 10 ^ (r.length + 1)
    rw [Nat.pow_succ, Nat.mul_comm (10 ^ r.length) 10, ← Nat.mul_assoc]
    omega
theorem dec_head : ∀ (n u : Nat), u ≤ n → 1 ≤ u → (decDigits u).head? ≠ some 48 := by
  intro n
  induction n with
  | zero => intro u h1 h2; omega
  | succ n ih =>
    intro u h1 h2
    by_cases h : u < 10
    · rw [decDigits_one h]
      intro e
      have e2 := congrArg UInt8.toNat (Option.some.inj e)
      rw [Fm.dig_toNat u h] at e2
      have : (48 : UInt8).toNat = 48 := rfl
      omega
    · rw [decDigits, dif_neg h, head_snoc (Fm.decDigits_ne _)]
      exact ih (u / 10) (by omega) (by omega)
theorem dec_len {u : Nat} (h : u ≤ 9999) : (decDigits u).length ≤ 4 := by
  rw [decDigits_length]
  by_cases h1 : u < 10
  · rw [nDigits_small h1]; omega
  · rw [nDigits_big h1]
    by_cases h2 : u / 10 < 10
    · rw [nDigits_small h2]; omega
    · rw [nDigits_big h2]
      by_cases h3 : u / 10 / 10 < 10
      · rw [nDigits_small h3]; omega
      · rw [nDigits_big h3, nDigits_small (by omega)]; omega
theorem digit_all {l : List UInt8} : (l.all El.digit = true) ↔ ∀ c ∈ l, 48 ≤ c.toNat ∧ c.toNat ≤ 57 := by
  rw [List.all_eq_true]
  constructor
  · intro h c hc
    have := h c hc
    unfold El.digit at this
    simpa using this
  · intro h c hc
    have := h c hc
    unfold El.digit
    simpa using this
/-- a numeral's value, by what Atoi and Itoa make of it -/
theorem value_num (l : List UInt8) : El.value l = match Fm.num l with
    | some v => if 1 ≤ v ∧ v ≤ 9999 then v.toNat else 0
    | none => 0 := by
  unfold El.value
  by_cases hc : l.length < 1 ∨ 4 < l.length ∨ l.head? = some 48 ∨ l.all El.digit = false
  · rw [if_pos hc]
    cases hn : Fm.num l with
    | none => rfl
    | some v =>
      simp only []
      by_cases hv : 1 ≤ v ∧ v ≤ 9999
      · exfalso
        have e := Fm.num_some hn
        have e2 : l = decDigits v.toNat := by
          rw [e]
          unfold itoa
          rw [if_neg (by omega)]
        have h1 := dec_len (u := v.toNat) (by omega)
        have h2 := dec_head _ v.toNat (Nat.le_refl _) (by omega)
        have h3 := Fm.decDigits_ne v.toNat
        have h4 := digit_all.2 (Fm.decDigits_dig v.toNat)
        rw [← e2] at h1 h2 h3 h4
        rcases hc with hc | hc | hc | hc
        · exact h3 (List.eq_nil_of_length_eq_zero (by omega))
        · omega
        · exact h2 hc
        · rw [h4] at hc; cases hc
      · rw [if_neg hv]
  · rw [if_neg hc]
    have h1 : ¬ l.length < 1 := fun h => hc (.inl h)
    have h2 : ¬ 4 < l.length := fun h => hc (.inr (.inl h))
    have h3 : l.head? ≠ some 48 := fun h => hc (.inr (.inr (.inl h)))
    have h4 : l.all El.digit = true := by cases h : l.all El.digit with
      | true => rfl
      | false => exact absurd (.inr (.inr (.inr h))) hc
    have hd := digit_all.1 h4
    have hne : l ≠ [] := fun h => h1 (by rw [h]; decide)
    have hb := dec_back _ l rfl hne hd h3
    have hp := spell_pos hne hd h3
    have hlt := spell_lt l 0 hd
    have h10 : 10 ^ l.length ≤ 10 ^ 4 := Nat.pow_le_pow_right (by omega) (by omega)
    have e : El.dec l = Fm.spell 0 l := dec_spell l 0
    have hit : itoa ((Fm.spell 0 l : Nat) : Int) = l := by
      unfold itoa
      rw [if_neg (by omega)]
      simpa using hb
    have hnum : Fm.num l = some ((Fm.spell 0 l : Nat) : Int) := by
      have := Fm.num_itoa ((Fm.spell 0 l : Nat) : Int) (by omega) (by omega)
      rwa [hit] at this
    rw [hnum, e]
    simp only []
    rw [if_pos ⟨by omega, by omega⟩]
    omega
theorem num_of_ok {l : List UInt8} {v : Int} (h : Lib.atoiAll l = .ok v) : Fm.num l = if Lib.itoa v = l then some v else none := by unfold Fm.num; rw [h]
theorem num_of_bad {l : List UInt8} (h : ∀ v, Lib.atoiAll l ≠ .ok v) : Fm.num l = none := by
  unfold Fm.num
  cases ha : Lib.atoiAll l with
  | ok v => exact absurd ha (h v)
  | _ => rfl
end Go.Proofs.YtfjplhgajoehfaaGreatDoor
