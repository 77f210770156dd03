/-
  The reference's numerals: what Digits, Signed and Number of the document's answers return.
-/
import Derived.Test.YtjjkilopeofjjaaDoorNum
set_option linter.unusedVariables false
set_option linter.unusedSimpArgs false
namespace Go.Proofs.YtjjkilopeofjjaaDoor
open Go.RowKit

theorem dec_big (k : Nat) (h : ¬ k < 10) : Lib.decDigits k = Lib.decDigits (k / 10) ++ [UInt8.ofNat (48 + k % 10)] := by
  rw [Lib.decDigits, dif_neg h]
def tens : ByteArray := ⟨#[48, 49, 50, 51, 52, 53, 54, 55, 56, 57]⟩
theorem tens_at (d : Nat) (h : d < 10) : (tens.extract d (d + 1)).data.toList = [UInt8.ofNat (48 + d)] := by
  have : ∀ d : Fin 10, (tens.extract d.val (d.val + 1)).data.toList = [UInt8.ofNat (48 + d.val)] := by decide +kernel
  exact this ⟨d, h⟩

set_option maxHeartbeats 1000000 in
set_option maxRecDepth 100000 in
theorem digits_any (N : Nat) (hN : N ≤ 18446744073709551615) (w : World) :
    Calls Tryd.prog 32 #[.int .u64 N] w fun e w' => e = .returned (.string ⟨(Lib.decDigits N).toArray⟩) ∧ w' = w := by
  have hlen := dec_len N hN
  go_enter Tryd.func32, Tryd.ntmps32
  go_wp2
  go_loop [0, 3] (fun n s => ∃ (k : Nat) (l : ByteArray), k ≤ 18446744073709551615 ∧ n = .int .u64 k ∧ s = .string l ∧ Hid (Lib.decDigits N = Lib.decDigits k ++ l.data.toList)) (fun n _ => (intOf n).toNat)
  case atStart => exact ⟨N, ByteArray.empty, hN, rfl, rfl, by show _ = _; simp⟩
  case round =>
    obtain ⟨k, l, hk, rfl, rfl, H⟩ := hrel
    have hl : l.size + (Lib.decDigits k).length ≤ 20 := by
      have := congrArg List.length H.out
      rw [List.length_append] at this
      rw [Lib.size_eq]; omega
    by_cases hk9 : k < 10
    · go_wp2
      go_ret
      refine ⟨ret_str ?_, rfl⟩
      show (tens.extract k (k + 1) ++ l).data.toList = Lib.decDigits N
      rw [H.out, ByteArray.data_append, Array.toList_append, tens_at k hk9, Lib.decDigits_one hk9]
    · go_wp2
      go_round
      case rel =>
        refine ⟨k / 10, tens.extract (k % 10) (k % 10 + 1) ++ l, by omega, by simp, rfl, ?_⟩
        show _ = _
        rw [H.out, ByteArray.data_append, Array.toList_append, tens_at (k % 10) (by omega), dec_big k hk9]
        simp
      case measure => simp [intOf]; omega

theorem digits_int (x : Int) (h0 : 0 ≤ x) (h1 : x ≤ 18446744073709551615) (w : World) :
    Calls Tryd.prog 32 #[.int .u64 x] w fun e w' => e = .returned (.string ⟨(Lib.decDigits x.toNat).toArray⟩) ∧ w' = w := by
  have h := digits_any x.toNat (by omega) w
  rw [Int.toNat_of_nonneg h0] at h
  exact h

theorem signed_str (n : Int) (h : n < 0) (x : Int) (hx : x = -n) : (⟨#[45]⟩ ++ (⟨(Lib.decDigits x.toNat).toArray⟩ : ByteArray) : ByteArray).data.toList = Lib.itoa n := by
  unfold Lib.itoa
  rw [if_pos h, ByteArray.data_append, Array.toList_append]
  have : x.toNat = n.natAbs := by omega
  rw [this]
  rfl

set_option maxHeartbeats 1000000 in
set_option maxRecDepth 100000 in
theorem signed_any (n : Int) (h0 : -9223372036854775808 ≤ n) (h1 : n ≤ 9223372036854775807) (w : World) :
    Calls Tryd.prog 24 #[.int .i64 n] w fun e w' => e = .returned (.string ⟨(Lib.itoa n).toArray⟩) ∧ w' = w := by
  by_cases hn : n < 0
  · have hdl : ¬ 9223372036854775807 < 1 + (Lib.decDigits (-(n + 1) + 1).toNat).length := by
      have := dec_len (-(n + 1) + 1).toNat (by omega)
      omega
    go_enter Tryd.func24, Tryd.ntmps24
    go_wp2_with (go_at_call 32; refine (digits_int _ (by omega) (by omega) _).mono ?_; rintro e w' ⟨rfl, rfl⟩)
    go_ret
    exact ⟨ret_str (signed_str n hn _ (by omega)), rfl⟩
  · go_enter Tryd.func24, Tryd.ntmps24
    go_wp2_with (go_at_call 32; refine (digits_int _ (by omega) (by omega) _).mono ?_; rintro e w' ⟨rfl, rfl⟩)
    go_ret
    refine ⟨ret_str ?_, rfl⟩
    unfold Lib.itoa
    rw [if_neg (by omega)]

/-! ### Number -/
def dg8 (c : UInt8) : Int := (c.toNat : Int) - 48
/-- what the loop of Number makes of digits, within a uint64 -/
def mspell (acc : Int) : List UInt8 → Int
  | [] => acc
  | c :: r => mspell (IntKind.u64.wrap (IntKind.u64.wrap (10 * acc) + dg8 c)) r
theorem mspell_snoc (l : List UInt8) (c : UInt8) : ∀ acc, mspell acc (l ++ [c]) = IntKind.u64.wrap (IntKind.u64.wrap (10 * mspell acc l) + dg8 c) := by
  induction l with
  | nil => intro acc; rfl
  | cons x r ih => intro acc; exact ih _
theorem wrap_u64_eq (x : Int) : IntKind.u64.wrap x = x % 18446744073709551616 := by
  unfold IntKind.wrap
  simp [IntKind.signed, IntKind.bits]
theorem wrap_i64_eq (x : Int) : IntKind.i64.wrap x = if 9223372036854775808 ≤ x % 18446744073709551616 then x % 18446744073709551616 - 18446744073709551616 else x % 18446744073709551616 := by
  unfold IntKind.wrap
  simp [IntKind.signed, IntKind.bits]
theorem wrap_u64 (x : Int) (h0 : 0 ≤ x) (h1 : x ≤ 18446744073709551615) : IntKind.u64.wrap x = x := by
  rw [wrap_u64_eq]
  omega
theorem mspell_eq (l : List UInt8) : ∀ acc : Nat, (∀ c ∈ l, 48 ≤ c.toNat ∧ c.toNat ≤ 57) → Fm.spell acc l ≤ 18446744073709551615 → mspell acc l = Fm.spell acc l := by
  induction l with
  | nil => intro acc _ _; rfl
  | cons c r ih =>
    intro acc hd hs
    have hc := hd c (List.mem_cons_self ..)
    have h1 := Fm.spell_ge r (acc * 10 + (c.toNat - 48))
    have hs' : Fm.spell (acc * 10 + (c.toNat - 48)) r ≤ 18446744073709551615 := hs
    have hi := ih (acc * 10 + (c.toNat - 48)) (fun x hx => hd x (List.mem_cons_of_mem _ hx)) hs'
    have e1 : IntKind.u64.wrap (10 * (acc : Int)) = 10 * (acc : Int) := wrap_u64 _ (by omega) (by omega)
    have e2 : IntKind.u64.wrap (10 * (acc : Int) + dg8 c) = 10 * (acc : Int) + dg8 c := wrap_u64 _ (by unfold dg8; omega) (by unfold dg8; omega)
    show mspell (IntKind.u64.wrap (IntKind.u64.wrap (10 * (acc : Int)) + dg8 c)) r = ((Fm.spell (acc * 10 + (c.toNat - 48)) r : Nat) : Int)
    rw [e1, e2, ← hi]
    congr 1
    unfold dg8
    omega
theorem mspell_dec (u : Nat) (h : u ≤ 18446744073709551615) : mspell 0 (Lib.decDigits u) = u := by
  have := mspell_eq (Lib.decDigits u) 0 (Fm.decDigits_dig u) (by rw [Fm.spell_dec]; exact h)
  rw [Fm.spell_dec] at this
  exact this
theorem wrap_is (x : Int) : wrap64 x = IntKind.i64.wrap x := by
  rw [wrap_i64_eq]
  unfold wrap64
  split <;> omega
theorem wrap_i64_range (x : Int) : -9223372036854775808 ≤ IntKind.i64.wrap x ∧ IntKind.i64.wrap x ≤ 9223372036854775807 := by
  rw [wrap_i64_eq]
  split <;> omega
theorem wrap_u64_range (x : Int) : 0 ≤ IntKind.u64.wrap x ∧ IntKind.u64.wrap x ≤ 18446744073709551615 := by
  rw [wrap_u64_eq]
  omega
theorem wrap_neg (n : Int) (h0 : 0 ≤ n) (h1 : n ≤ 9223372036854775808) : IntKind.i64.wrap (IntKind.u64.wrap (0 - n)) = -n := by
  rw [wrap_i64_eq, wrap_u64_eq]
  split <;> omega
theorem wrap_pos (n : Int) (h0 : 0 ≤ n) (h1 : n ≤ 9223372036854775807) : IntKind.i64.wrap n = n := by
  rw [wrap_i64_eq]
  split <;> omega

/-- what Number answers: is the text a numeral, and, if so, of which number -/
def NumberPost (l : List UInt8) (w : World) (e : Ending) (w' : World) : Prop :=
  ∃ k : Int, e = .returned (.tuple #[.int .i64 k, .bool (Fm.num l).isSome]) ∧ (∀ v, Fm.num l = some v → k = v) ∧ w' = w
theorem number_done (l : List UInt8) (k : Int) (hk : -9223372036854775808 ≤ k ∧ k ≤ 9223372036854775807) (hv : ∀ v, Fm.num l = some v → k = v) :
    decide (Lib.itoa k = l) = (Fm.num l).isSome := by
  by_cases h : Lib.itoa k = l
  · rw [decide_eq_true h, ← h, Fm.num_itoa k hk.1 hk.2]; rfl
  · rw [decide_eq_false h]
    cases hn : Fm.num l with
    | none => rfl
    | some v => exact absurd ((hv v hn) ▸ (Fm.num_some hn).symm) h
/-- a numeral's bytes behind its sign are digits, and spell its amount -/
theorem num_neg {l : List UInt8} {v : Int} (h : Fm.num l = some v) (hs : l.head? = some 45) : v < 0 ∧ l.drop 1 = Lib.decDigits v.natAbs := by
  have e := Fm.num_some h
  unfold Lib.itoa at e
  split at e
  · rename_i hv; exact ⟨hv, by rw [e]; rfl⟩
  · rw [e] at hs
    cases hd : Lib.decDigits v.toNat with
    | nil => rw [hd] at hs; cases hs
    | cons c r =>
      rw [hd] at hs
      simp only [List.head?_cons, Option.some.injEq] at hs
      have := Fm.decDigits_dig v.toNat c (by rw [hd]; exact List.mem_cons_self ..)
      rw [hs] at this
      exact absurd this.1 (by decide)
theorem num_pos {l : List UInt8} {v : Int} (h : Fm.num l = some v) (hs : l.head? ≠ some 45) : 0 ≤ v ∧ l = Lib.decDigits v.natAbs := by
  have e := Fm.num_some h
  unfold Lib.itoa at e
  split at e
  · rw [e] at hs; exact absurd rfl hs
  · rename_i hv
    exact ⟨by omega, by rw [e]; congr 1; omega⟩


/-- digits up to place k of L, then a byte that is none: no numeral -/
theorem number_bad {l : List UInt8} {f k : Nat} {c : UInt8} (hf : f = if l.head? = some 45 then 1 else 0) (hk : f ≤ k) (hc : l[k]? = some c) (hd : ¬ (48 ≤ c.toNat ∧ c.toNat ≤ 57)) : Fm.num l = none := by
  cases hn : Fm.num l with
  | none => rfl
  | some v =>
    exfalso
    apply hd
    by_cases h : l.head? = some 45
    · rw [if_pos h] at hf
      have e := (num_neg hn h).2
      have : c ∈ l.drop 1 := by
        refine List.mem_of_getElem? (i := k - 1) ?_
        rw [List.getElem?_drop, show 1 + (k - 1) = k by omega]; exact hc
      rw [e] at this
      exact Fm.decDigits_dig _ c this
    · have e := (num_pos hn h).2
      have : c ∈ l := List.mem_of_getElem? hc
      rw [e] at this
      exact Fm.decDigits_dig _ c this
/-- the loop's end: k bytes behind the sign are digits; k is all of them, or 22 with it -/
theorem number_end {l : List UInt8} {f k : Nat} {v : Int} (hf : f = if l.head? = some 45 then 1 else 0) (hk : f ≤ k) (hend : k = l.length ∨ k = 22) (hn : Fm.num l = some v) :
    mspell 0 ((l.drop f).take (k - f)) = v.natAbs ∧ (f = 1 → v < 0) ∧ (f = 0 → 0 ≤ v) := by
  have h20 := num_len hn
  have hr := Fm.num_range hn
  by_cases h : l.head? = some 45
  · rw [if_pos h] at hf
    obtain ⟨h1, h2⟩ := num_neg hn h
    subst hf
    refine ⟨?_, fun _ => h1, fun h => by omega⟩
    rw [List.take_of_length_le (by rw [List.length_drop]; omega), h2]
    exact mspell_dec _ (by omega)
  · rw [if_neg h] at hf
    obtain ⟨h1, h2⟩ := num_pos hn h
    subst hf
    refine ⟨?_, fun h => by omega, fun _ => h1⟩
    rw [List.drop_zero, List.take_of_length_le (by omega)]
    conv => lhs; rw [h2]
    exact mspell_dec _ (by omega)
theorem mspell_range (l : List UInt8) : 0 ≤ mspell 0 l ∧ mspell 0 l ≤ 18446744073709551615 := by
  rcases List.eq_nil_or_concat l with rfl | ⟨r, c, rfl⟩
  · exact ⟨Int.le_refl _, by unfold mspell; omega⟩
  · rw [List.concat_eq_append, mspell_snoc]; exact wrap_u64_range _

/-- the bytes behind the first one, up to place k -/
def behind (l : List UInt8) (k : Nat) : List UInt8 := (l.drop 1).take (k - 1)
theorem behind_next (l : List UInt8) (k : Nat) (c : UInt8) (hk : 1 ≤ k) (h : l[k]? = some c) : behind l (k + 1) = behind l k ++ [c] := by
  unfold behind
  rw [show k + 1 - 1 = k - 1 + 1 by omega]
  exact take_next (l.drop 1) (k - 1) c (by rw [List.getElem?_drop, show 1 + (k - 1) = k by omega]; exact h)
def OkNum (l : List UInt8) (k : Int) : Prop := (-9223372036854775808 ≤ k ∧ k ≤ 9223372036854775807) ∧ ∀ v, Fm.num l = some v → k = v
theorem okNum_pos {l : List UInt8} {k : Nat} (hh : l.head? ≠ some 45) (hend : k = l.length ∨ k = 22) : OkNum l (wrap64 (mspell 0 (l.take k))) := by
  rw [wrap_is]
  refine ⟨wrap_i64_range _, fun v hv => ?_⟩
  have h := number_end (f := 0) (k := k) (by rw [if_neg hh]) (Nat.zero_le _) hend hv
  have hr := Fm.num_range hv
  have h2 := h.2.2 rfl
  have e : mspell 0 (l.take k) = v.natAbs := h.1
  rw [e, wrap_pos _ (by omega) (by omega)]; omega
theorem okNum_neg {l : List UInt8} {k : Nat} (hh : l.head? = some 45) (hk : 1 ≤ k) (hend : k = l.length ∨ k = 22) : OkNum l (wrap64 (IntKind.u64.wrap (-mspell 0 (behind l k)))) := by
  rw [wrap_is, show (-mspell 0 (behind l k)) = 0 - mspell 0 ((l.drop 1).take (k - 1)) by unfold behind; omega]
  refine ⟨wrap_i64_range _, fun v hv => ?_⟩
  have h := number_end (f := 1) (k := k) (by rw [if_pos hh]) hk hend hv
  have hr := Fm.num_range hv
  have h2 := h.2.1 rfl
  rw [h.1, wrap_neg _ (by omega) (by omega)]; omega
theorem signed_wrap (x : Int) (w : World) : Calls Tryd.prog 24 #[.int .i64 (wrap64 x)] w fun e w' => e = .returned (.string ⟨(Lib.itoa (wrap64 x)).toArray⟩) ∧ w' = w := by
  have h := wrap_i64_range x
  rw [← wrap_is] at h
  exact signed_any _ h.1 h.2 w
theorem number_post {l : List UInt8} {k : Int} {b : Bool} {e : Ending} {w : World} (ho : OkNum l k) (hb : b = decide (Lib.itoa k = l)) (he : e = .returned (.tuple #[.int .i64 k, .bool b])) : NumberPost l w e w := by
  refine ⟨k, ?_, ho.2, rfl⟩
  rw [he, hb, number_done l k ho.1 ho.2]


theorem num_beq (x : Int) (s : ByteArray) : decide (Lib.itoa x = s.data.toList) = (Lib.itoa x == s.toList) := by
  rw [Lib.toList_data]
  by_cases h : Lib.itoa x = s.data.toList
  · simp [h]
  · rw [decide_eq_false h, beq_eq_false_iff_ne.2 h]

end Go.Proofs.YtjjkilopeofjjaaDoor
