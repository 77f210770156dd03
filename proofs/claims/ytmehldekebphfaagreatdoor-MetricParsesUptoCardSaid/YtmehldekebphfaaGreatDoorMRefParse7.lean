/-
  The reference's words, numbers, lengths and rows.
-/
import Derived.Test.YtmehldekebphfaaGreatDoorNum
import Derived.Test.YtmehldekebphfaaGreatDoorPrint
import Derived.Test.YtmehldekebphfaaGreatDoorParse
import Derived.Test.YtmehldekebphfaaGreatDoorRefFind7
import Derived.Test.YtmehldekebphfaaGreatDoorRefSplit7
import Derived.Test.YtmehldekebphfaaGreatDoorWords7
import Derived.Deep.RegionLaw
import Derived.Deep.RegionHeld3
import Derived.Deep.DeepCutAuto
set_option linter.unusedVariables false
set_option linter.unusedSimpArgs false
namespace Go.Proofs.YtmehldekebphfaaGreatDoor
open Go.RowKit

theorem dec_big (k : Nat) (h : ¬ k < 10) : Lib.decDigits k = Lib.decDigits (k / 10) ++ [UInt8.ofNat (48 + k % 10)] := by
  rw [Lib.decDigits, dif_neg h]
def tens : ByteArray := ⟨#[48, 49, 50, 51, 52, 53, 54, 55, 56, 57]⟩
theorem tens_at (d : Nat) (h : d < 10) : (tens.extract d (d + 1)).data.toList = [UInt8.ofNat (48 + d)] := by
  have : ∀ d : Fin 10, (tens.extract d.val (d.val + 1)).data.toList = [UInt8.ofNat (48 + d.val)] := by decide +kernel
  exact this ⟨d, h⟩

set_option maxHeartbeats 1000000 in
set_option maxRecDepth 100000 in
theorem digits_any (N : Nat) (hN : N ≤ 18446744073709551615) (w : World) :
    Calls Tryz.prog 77 #[.int .u64 N] w fun e w' => e = .returned (.string ⟨(Lib.decDigits N).toArray⟩) ∧ w' = w := by
  have hlen := dec_len N hN
  go_enter Tryz.func77, Tryz.ntmps77
  go_wp2
  go_loop [0, 3] (fun n s => ∃ (k : Nat) (l : ByteArray), k ≤ 18446744073709551615 ∧ n = .int .u64 k ∧ s = .string l ∧ Hid (Lib.decDigits N = Lib.decDigits k ++ l.data.toList)) (fun n _ => (intOf n).toNat)
  case atStart => exact ⟨N, ByteArray.empty, hN, rfl, rfl, by show _ = _; simp⟩
  case round =>
    obtain ⟨k, l, hk, rfl, rfl, H⟩ := hrel
    have hl : l.size + (Lib.decDigits k).length ≤ 20 := by
      have := congrArg List.length H.out
      rw [List.length_append] at this
      rw [Lib.size_eq]; omega
    by_cases hk9 : k < 10
    · go_wp2
      go_ret
      refine ⟨ret_str ?_, rfl⟩
      show (tens.extract k (k + 1) ++ l).data.toList = Lib.decDigits N
      rw [H.out, ByteArray.data_append, Array.toList_append, tens_at k hk9, Lib.decDigits_one hk9]
    · go_wp2
      go_round
      case rel =>
        refine ⟨k / 10, tens.extract (k % 10) (k % 10 + 1) ++ l, by omega, by simp, rfl, ?_⟩
        show _ = _
        rw [H.out, ByteArray.data_append, Array.toList_append, tens_at (k % 10) (by omega), dec_big k hk9]
        simp
      case measure => simp [intOf]; omega

theorem digits_int (x : Int) (h0 : 0 ≤ x) (h1 : x ≤ 18446744073709551615) (w : World) :
    Calls Tryz.prog 77 #[.int .u64 x] w fun e w' => e = .returned (.string ⟨(Lib.decDigits x.toNat).toArray⟩) ∧ w' = w := by
  have h := digits_any x.toNat (by omega) w
  rw [Int.toNat_of_nonneg h0] at h
  exact h

theorem signed_str (n : Int) (h : n < 0) (x : Int) (hx : x = -n) : (⟨#[45]⟩ ++ (⟨(Lib.decDigits x.toNat).toArray⟩ : ByteArray) : ByteArray).data.toList = Lib.itoa n := by
  unfold Lib.itoa
  rw [if_pos h, ByteArray.data_append, Array.toList_append]
  have : x.toNat = n.natAbs := by omega
  rw [this]
  rfl

set_option maxHeartbeats 1000000 in
set_option maxRecDepth 100000 in
theorem signed_any (n : Int) (h0 : -9223372036854775808 ≤ n) (h1 : n ≤ 9223372036854775807) (w : World) :
    Calls Tryz.prog 78 #[.int .i64 n] w fun e w' => e = .returned (.string ⟨(Lib.itoa n).toArray⟩) ∧ w' = w := by
  by_cases hn : n < 0
  · have hdl : ¬ 9223372036854775807 < 1 + (Lib.decDigits (-(n + 1) + 1).toNat).length := by
      have := dec_len (-(n + 1) + 1).toNat (by omega)
      omega
    go_enter Tryz.func78, Tryz.ntmps78
    go_wp2_with (go_at_call 77; refine (digits_int _ (by omega) (by omega) _).mono ?_; rintro e w' ⟨rfl, rfl⟩)
    go_ret
    exact ⟨ret_str (signed_str n hn _ (by omega)), rfl⟩
  · go_enter Tryz.func78, Tryz.ntmps78
    go_wp2_with (go_at_call 77; refine (digits_int _ (by omega) (by omega) _).mono ?_; rintro e w' ⟨rfl, rfl⟩)
    go_ret
    refine ⟨ret_str ?_, rfl⟩
    unfold Lib.itoa
    rw [if_neg (by omega)]

/-! ### Number -/
def dg8 (c : UInt8) : Int := (c.toNat : Int) - 48
/-- what the loop of Number makes of digits, within a uint64 -/
def mspell (acc : Int) : List UInt8 → Int
  | [] => acc
  | c :: r => mspell (IntKind.u64.wrap (IntKind.u64.wrap (10 * acc) + dg8 c)) r
theorem mspell_snoc (l : List UInt8) (c : UInt8) : ∀ acc, mspell acc (l ++ [c]) = IntKind.u64.wrap (IntKind.u64.wrap (10 * mspell acc l) + dg8 c) := by
  induction l with
  | nil => intro acc; rfl
  | cons x r ih => intro acc; exact ih _
theorem wrap_u64_eq (x : Int) : IntKind.u64.wrap x = x % 18446744073709551616 := by
  unfold IntKind.wrap
  simp [IntKind.signed, IntKind.bits]
theorem wrap_i64_eq (x : Int) : IntKind.i64.wrap x = if 9223372036854775808 ≤ x % 18446744073709551616 then x % 18446744073709551616 - 18446744073709551616 else x % 18446744073709551616 := by
  unfold IntKind.wrap
  simp [IntKind.signed, IntKind.bits]
theorem wrap_u64 (x : Int) (h0 : 0 ≤ x) (h1 : x ≤ 18446744073709551615) : IntKind.u64.wrap x = x := by
  rw [wrap_u64_eq]
  omega
theorem mspell_eq (l : List UInt8) : ∀ acc : Nat, (∀ c ∈ l, 48 ≤ c.toNat ∧ c.toNat ≤ 57) → Fm.spell acc l ≤ 18446744073709551615 → mspell acc l = Fm.spell acc l := by
  induction l with
  | nil => intro acc _ _; rfl
  | cons c r ih =>
    intro acc hd hs
    have hc := hd c (List.mem_cons_self ..)
    have h1 := Fm.spell_ge r (acc * 10 + (c.toNat - 48))
    have hs' : Fm.spell (acc * 10 + (c.toNat - 48)) r ≤ 18446744073709551615 := hs
    have hi := ih (acc * 10 + (c.toNat - 48)) (fun x hx => hd x (List.mem_cons_of_mem _ hx)) hs'
    have e1 : IntKind.u64.wrap (10 * (acc : Int)) = 10 * (acc : Int) := wrap_u64 _ (by omega) (by omega)
    have e2 : IntKind.u64.wrap (10 * (acc : Int) + dg8 c) = 10 * (acc : Int) + dg8 c := wrap_u64 _ (by unfold dg8; omega) (by unfold dg8; omega)
    show mspell (IntKind.u64.wrap (IntKind.u64.wrap (10 * (acc : Int)) + dg8 c)) r = ((Fm.spell (acc * 10 + (c.toNat - 48)) r : Nat) : Int)
    rw [e1, e2, ← hi]
    congr 1
    unfold dg8
    omega
theorem mspell_dec (u : Nat) (h : u ≤ 18446744073709551615) : mspell 0 (Lib.decDigits u) = u := by
  have := mspell_eq (Lib.decDigits u) 0 (Fm.decDigits_dig u) (by rw [Fm.spell_dec]; exact h)
  rw [Fm.spell_dec] at this
  exact this
theorem wrap_is (x : Int) : wrap64 x = IntKind.i64.wrap x := by
  rw [wrap_i64_eq]
  unfold wrap64
  split <;> omega
theorem wrap_i64_range (x : Int) : -9223372036854775808 ≤ IntKind.i64.wrap x ∧ IntKind.i64.wrap x ≤ 9223372036854775807 := by
  rw [wrap_i64_eq]
  split <;> omega
theorem wrap_u64_range (x : Int) : 0 ≤ IntKind.u64.wrap x ∧ IntKind.u64.wrap x ≤ 18446744073709551615 := by
  rw [wrap_u64_eq]
  omega
theorem wrap_neg (n : Int) (h0 : 0 ≤ n) (h1 : n ≤ 9223372036854775808) : IntKind.i64.wrap (IntKind.u64.wrap (0 - n)) = -n := by
  rw [wrap_i64_eq, wrap_u64_eq]
  split <;> omega
theorem wrap_pos (n : Int) (h0 : 0 ≤ n) (h1 : n ≤ 9223372036854775807) : IntKind.i64.wrap n = n := by
  rw [wrap_i64_eq]
  split <;> omega

/-- what Number answers: is the text a numeral, and, if so, of which number -/
def NumberPost (l : List UInt8) (w : World) (e : Ending) (w' : World) : Prop :=
  ∃ k : Int, e = .returned (.tuple #[.int .i64 k, .bool (Fm.num l).isSome]) ∧ (∀ v, Fm.num l = some v → k = v) ∧ w' = w
theorem number_done (l : List UInt8) (k : Int) (hk : -9223372036854775808 ≤ k ∧ k ≤ 9223372036854775807) (hv : ∀ v, Fm.num l = some v → k = v) :
    decide (Lib.itoa k = l) = (Fm.num l).isSome := by
  by_cases h : Lib.itoa k = l
  · rw [decide_eq_true h, ← h, Fm.num_itoa k hk.1 hk.2]; rfl
  · rw [decide_eq_false h]
    cases hn : Fm.num l with
    | none => rfl
    | some v => exact absurd ((hv v hn) ▸ (Fm.num_some hn).symm) h
/-- a numeral's bytes behind its sign are digits, and spell its amount -/
theorem num_neg {l : List UInt8} {v : Int} (h : Fm.num l = some v) (hs : l.head? = some 45) : v < 0 ∧ l.drop 1 = Lib.decDigits v.natAbs := by
  have e := Fm.num_some h
  unfold Lib.itoa at e
  split at e
  · rename_i hv; exact ⟨hv, by rw [e]; rfl⟩
  · rw [e] at hs
    cases hd : Lib.decDigits v.toNat with
    | nil => rw [hd] at hs; cases hs
    | cons c r =>
      rw [hd] at hs
      simp only [List.head?_cons, Option.some.injEq] at hs
      have := Fm.decDigits_dig v.toNat c (by rw [hd]; exact List.mem_cons_self ..)
      rw [hs] at this
      exact absurd this.1 (by decide)
theorem num_pos {l : List UInt8} {v : Int} (h : Fm.num l = some v) (hs : l.head? ≠ some 45) : 0 ≤ v ∧ l = Lib.decDigits v.natAbs := by
  have e := Fm.num_some h
  unfold Lib.itoa at e
  split at e
  · rw [e] at hs; exact absurd rfl hs
  · rename_i hv
    exact ⟨by omega, by rw [e]; congr 1; omega⟩


/-- digits up to place k of L, then a byte that is none: no numeral -/
theorem number_bad {l : List UInt8} {f k : Nat} {c : UInt8} (hf : f = if l.head? = some 45 then 1 else 0) (hk : f ≤ k) (hc : l[k]? = some c) (hd : ¬ (48 ≤ c.toNat ∧ c.toNat ≤ 57)) : Fm.num l = none := by
  cases hn : Fm.num l with
  | none => rfl
  | some v =>
    exfalso
    apply hd
    by_cases h : l.head? = some 45
    · rw [if_pos h] at hf
      have e := (num_neg hn h).2
      have : c ∈ l.drop 1 := by
        refine List.mem_of_getElem? (i := k - 1) ?_
        rw [List.getElem?_drop, show 1 + (k - 1) = k by omega]; exact hc
      rw [e] at this
      exact Fm.decDigits_dig _ c this
    · have e := (num_pos hn h).2
      have : c ∈ l := List.mem_of_getElem? hc
      rw [e] at this
      exact Fm.decDigits_dig _ c this
/-- the loop's end: k bytes behind the sign are digits; k is all of them, or 22 with it -/
theorem number_end {l : List UInt8} {f k : Nat} {v : Int} (hf : f = if l.head? = some 45 then 1 else 0) (hk : f ≤ k) (hend : k = l.length ∨ k = 22) (hn : Fm.num l = some v) :
    mspell 0 ((l.drop f).take (k - f)) = v.natAbs ∧ (f = 1 → v < 0) ∧ (f = 0 → 0 ≤ v) := by
  have h20 := num_len hn
  have hr := Fm.num_range hn
  by_cases h : l.head? = some 45
  · rw [if_pos h] at hf
    obtain ⟨h1, h2⟩ := num_neg hn h
    subst hf
    refine ⟨?_, fun _ => h1, fun h => by omega⟩
    rw [List.take_of_length_le (by rw [List.length_drop]; omega), h2]
    exact mspell_dec _ (by omega)
  · rw [if_neg h] at hf
    obtain ⟨h1, h2⟩ := num_pos hn h
    subst hf
    refine ⟨?_, fun h => by omega, fun _ => h1⟩
    rw [List.drop_zero, List.take_of_length_le (by omega)]
    conv => lhs; rw [h2]
    exact mspell_dec _ (by omega)
theorem mspell_range (l : List UInt8) : 0 ≤ mspell 0 l ∧ mspell 0 l ≤ 18446744073709551615 := by
  rcases List.eq_nil_or_concat l with rfl | ⟨r, c, rfl⟩
  · exact ⟨Int.le_refl _, by unfold mspell; omega⟩
  · rw [List.concat_eq_append, mspell_snoc]; exact wrap_u64_range _

/-- the bytes behind the first one, up to place k -/
def behind (l : List UInt8) (k : Nat) : List UInt8 := (l.drop 1).take (k - 1)
theorem behind_next (l : List UInt8) (k : Nat) (c : UInt8) (hk : 1 ≤ k) (h : l[k]? = some c) : behind l (k + 1) = behind l k ++ [c] := by
  unfold behind
  rw [show k + 1 - 1 = k - 1 + 1 by omega]
  exact take_next (l.drop 1) (k - 1) c (by rw [List.getElem?_drop, show 1 + (k - 1) = k by omega]; exact h)
def OkNum (l : List UInt8) (k : Int) : Prop := (-9223372036854775808 ≤ k ∧ k ≤ 9223372036854775807) ∧ ∀ v, Fm.num l = some v → k = v
theorem okNum_pos {l : List UInt8} {k : Nat} (hh : l.head? ≠ some 45) (hend : k = l.length ∨ k = 22) : OkNum l (wrap64 (mspell 0 (l.take k))) := by
  rw [wrap_is]
  refine ⟨wrap_i64_range _, fun v hv => ?_⟩
  have h := number_end (f := 0) (k := k) (by rw [if_neg hh]) (Nat.zero_le _) hend hv
  have hr := Fm.num_range hv
  have h2 := h.2.2 rfl
  have e : mspell 0 (l.take k) = v.natAbs := h.1
  rw [e, wrap_pos _ (by omega) (by omega)]; omega
theorem okNum_neg {l : List UInt8} {k : Nat} (hh : l.head? = some 45) (hk : 1 ≤ k) (hend : k = l.length ∨ k = 22) : OkNum l (wrap64 (IntKind.u64.wrap (-mspell 0 (behind l k)))) := by
  rw [wrap_is, show (-mspell 0 (behind l k)) = 0 - mspell 0 ((l.drop 1).take (k - 1)) by unfold behind; omega]
  refine ⟨wrap_i64_range _, fun v hv => ?_⟩
  have h := number_end (f := 1) (k := k) (by rw [if_pos hh]) hk hend hv
  have hr := Fm.num_range hv
  have h2 := h.2.1 rfl
  rw [h.1, wrap_neg _ (by omega) (by omega)]; omega
theorem signed_wrap (x : Int) (w : World) : Calls Tryz.prog 78 #[.int .i64 (wrap64 x)] w fun e w' => e = .returned (.string ⟨(Lib.itoa (wrap64 x)).toArray⟩) ∧ w' = w := by
  have h := wrap_i64_range x
  rw [← wrap_is] at h
  exact signed_any _ h.1 h.2 w
theorem number_post {l : List UInt8} {k : Int} {b : Bool} {e : Ending} {w : World} (ho : OkNum l k) (hb : b = decide (Lib.itoa k = l)) (he : e = .returned (.tuple #[.int .i64 k, .bool b])) : NumberPost l w e w := by
  refine ⟨k, ?_, ho.2, rfl⟩
  rw [he, hb, number_done l k ho.1 ho.2]


theorem num_beq (x : Int) (s : ByteArray) : decide (Lib.itoa x = s.data.toList) = (Lib.itoa x == s.toList) := by
  rw [Lib.toList_data]
  by_cases h : Lib.itoa x = s.data.toList
  · simp [h]
  · rw [decide_eq_false h, beq_eq_false_iff_ne.2 h]

set_option maxHeartbeats 4000000 in
set_option maxRecDepth 100000 in
theorem number_plus (s : ByteArray) (hs : s.size ≤ 9223372036854775807) (h0 : 0 < s.size) (hm : ((s[0].toNat : Int) == 45) = false) (hh : s.data.toList.head? ≠ some 45) (w : World) :
    Calls Tryz.prog 83 #[.string s] w (NumberPost s.data.toList w) := by
  have HH := Lib.hid hh
  clear hh
  go_enter Tryz.func83, Tryz.ntmps83
  go_wp2
  go_loop [5, 6] (fun n i => ∃ k : Nat, 0 ≤ k ∧ k ≤ s.size ∧ k ≤ 22 ∧ i = .int .i64 k ∧ n = .int .u64 (mspell 0 (s.data.toList.take k))) (fun _ i => s.size - (intOf i).toNat)
  case atStart => exact ⟨0, by omega, by omega, by omega, rfl, rfl⟩
  case round =>
    obtain ⟨k, hk1, hk, hk2, rfl, rfl⟩ := hrel
    have hr := mspell_range (s.data.toList.take k)
    by_cases hlt : k < s.size
    · by_cases h22 : k < 22
      · by_cases hd : 48 ≤ (s[k].toNat : Int) ∧ (s[k].toNat : Int) ≤ 57
        · obtain ⟨hd1, hd2⟩ := hd
          have HS := Lib.hid (mspell_snoc (s.data.toList.take k) s[k] 0)
          have HT := Lib.hid (take_next _ _ _ (byte_at s k hlt))
          go_wp2
          go_round
          case rel => exact ⟨k + 1, by omega, by omega, by omega, by go_num, by rw [HT.out, HS.out]; rfl⟩
          case measure => simp [intOf]; omega
        · have hbad := Lib.hid (number_bad (f := 0) (by rw [if_neg HH.out]) hk1 (byte_at s k hlt) (by omega))
          go_wp2
          all_goals go_ret2
          all_goals exact ⟨0, by rw [hbad.out]; rfl, (fun v hv => by rw [hbad.out] at hv; cases hv), rfl⟩
      · have ho := Lib.hid (okNum_pos HH.out (Or.inr (show k = 22 by omega)))
        go_wp2_with (go_at_call 78; refine (signed_wrap _ _).mono ?_; rintro e w' ⟨rfl, rfl⟩)
        go_ret2
        exact number_post ho.out rfl (by rw [num_beq]; rfl)
    · have ho := Lib.hid (okNum_pos HH.out (Or.inl (show k = s.data.toList.length by rw [← Lib.size_eq]; omega)))
      go_wp2_with (go_at_call 78; refine (signed_wrap _ _).mono ?_; rintro e w' ⟨rfl, rfl⟩)
      go_ret2
      exact number_post ho.out rfl (by rw [num_beq]; rfl)

set_option maxHeartbeats 4000000 in
set_option maxRecDepth 100000 in
theorem number_minus (s : ByteArray) (hs : s.size ≤ 9223372036854775807) (h0 : 0 < s.size) (hm : ((s[0].toNat : Int) == 45) = true) (hh : s.data.toList.head? = some 45) (w : World) :
    Calls Tryz.prog 83 #[.string s] w (NumberPost s.data.toList w) := by
  have HH := Lib.hid hh
  clear hh
  go_enter Tryz.func83, Tryz.ntmps83
  go_wp2
  go_loop [5, 6] (fun n i => ∃ k : Nat, 1 ≤ k ∧ k ≤ s.size ∧ k ≤ 22 ∧ i = .int .i64 k ∧ n = .int .u64 (mspell 0 (behind s.data.toList k))) (fun _ i => s.size - (intOf i).toNat)
  case atStart => exact ⟨1, by omega, by omega, by omega, rfl, rfl⟩
  case round =>
    obtain ⟨k, hk1, hk, hk2, rfl, rfl⟩ := hrel
    have hr := mspell_range (behind s.data.toList k)
    by_cases hlt : k < s.size
    · by_cases h22 : k < 22
      · by_cases hd : 48 ≤ (s[k].toNat : Int) ∧ (s[k].toNat : Int) ≤ 57
        · obtain ⟨hd1, hd2⟩ := hd
          have HS := Lib.hid (mspell_snoc (behind s.data.toList k) s[k] 0)
          have HT := Lib.hid (behind_next _ _ _ hk1 (byte_at s k hlt))
          go_wp2
          go_round
          case rel => exact ⟨k + 1, by omega, by omega, by omega, by go_num, by rw [HT.out, HS.out]; rfl⟩
          case measure => simp [intOf]; omega
        · have hbad := Lib.hid (number_bad (f := 1) (by rw [if_pos HH.out]) hk1 (byte_at s k hlt) (by omega))
          go_wp2
          all_goals go_ret2
          all_goals exact ⟨0, by rw [hbad.out]; rfl, (fun v hv => by rw [hbad.out] at hv; cases hv), rfl⟩
      · have ho := Lib.hid (okNum_neg HH.out hk1 (Or.inr (show k = 22 by omega)))
        go_wp2_with (go_at_call 78; refine (signed_wrap _ _).mono ?_; rintro e w' ⟨rfl, rfl⟩)
        go_ret2
        exact number_post ho.out rfl (by rw [num_beq]; rfl)
    · have ho := Lib.hid (okNum_neg HH.out hk1 (Or.inl (show k = s.data.toList.length by rw [← Lib.size_eq]; omega)))
      go_wp2_with (go_at_call 78; refine (signed_wrap _ _).mono ?_; rintro e w' ⟨rfl, rfl⟩)
      go_ret2
      exact number_post ho.out rfl (by rw [num_beq]; rfl)

set_option maxHeartbeats 4000000 in
set_option maxRecDepth 100000 in
theorem number_empty (w : World) :
    Calls Tryz.prog 83 #[.string ⟨#[]⟩] w (NumberPost [] w) := by
  go_enter Tryz.func83, Tryz.ntmps83
  go_wp2
  refine wp_loop_rounds 1 ?_
  rw [rounds_succ]
  go_wp2_with (go_at_call 78; refine (signed_any 0 (by decide) (by decide) _).mono ?_; rintro e w' ⟨rfl, rfl⟩)
  go_ret2
  refine number_post (k := 0) (b := (Lib.itoa 0).isEmpty) ⟨by decide, fun v hv => ?_⟩ (by decide +kernel) ?_
  · have : Fm.num [] = none := by decide +kernel
    rw [this] at hv; cases hv
  · rfl

/-- Number, at every text. -/
theorem number_any (s : ByteArray) (hs : s.size ≤ 9223372036854775807) (w : World) :
    Calls Tryz.prog 83 #[.string s] w (NumberPost s.data.toList w) := by
  rcases Nat.eq_zero_or_pos s.size with h0 | h0
  · have : s = ⟨#[]⟩ := by
      obtain ⟨⟨l⟩⟩ := s
      have : l = [] := by
        rw [Lib.size_eq] at h0
        exact List.eq_nil_of_length_eq_zero h0
      rw [this]
    subst this
    exact number_empty w
  · have hb := byte_at s 0 h0
    have hh : s.data.toList.head? = some s[0] := by rw [← hb, List.head?_eq_getElem?]
    by_cases h : s[0] = 45
    · exact number_minus s hs h0 (by rw [h]; rfl) (by rw [hh, h]) w
    · have hne : ¬ (s[0].toNat : Int) = 45 := fun e => h (UInt8.toNat_inj.1 (by rw [show (45 : UInt8).toNat = 45 from rfl]; omega))
      exact number_plus s hs h0 (by simpa using hne) (by rw [hh]; intro e; injection e with e; exact h e) w
end Go.Proofs.YtmehldekebphfaaGreatDoor

namespace Go.Proofs.YtmehldekebphfaaGreatDoor
open Go.RowKit

end Go.Proofs.YtmehldekebphfaaGreatDoor

namespace Go.Proofs.YtmehldekebphfaaGreatDoor
open Go.RowKit

theorem digits_is (x : Int) (h0 : 0 ≤ x) (h1 : x ≤ 18446744073709551615) (w : World) : Calls Tryz.prog 77 #[.int .u64 x] w (Is (.string ⟨(Lib.decDigits x.toNat).toArray⟩) w) :=
  (digits_int x h0 h1 w).mono fun _ _ h => ⟨h.1, h.2.symm⟩
/-- what is written so far: what stands ahead of the digits, and the digits 'done' -/
structure Out (pre : List UInt8) (done : List Nat) (u : ByteArray) : Prop where
  text : u.data.toList = pre ++ Sc.bytesOf done
  short : pre.length ≤ 7
  few : done.length ≤ 5
theorem out_size {pre : List UInt8} {done : List Nat} {u : ByteArray} (h : Out pre done u) : u.size ≤ 12 := by
  rw [Lib.size_eq, h.text, List.length_append]
  have := h.short
  have := h.few
  unfold Sc.bytesOf
  rw [List.length_map]
  omega
theorem out_snoc {pre : List UInt8} {done : List Nat} {u : ByteArray} {q : Int} (h : Out pre done u) (q0 : 0 ≤ q) (q9 : q ≤ 9) : (u ++ ⟨(Lib.decDigits q.toNat).toArray⟩ : ByteArray).data.toList = pre ++ Sc.bytesOf (done ++ [q.toNat]) := by
  rw [ByteArray.data_append, Array.toList_append, h.text, Lib.decDigits_one (by omega), Sc.bytesOf_append, List.append_assoc]
  rfl
theorem out_next {pre : List UInt8} {done : List Nat} {u : ByteArray} (hl : done.length < 5) {q : Int} (h : Out pre done u) (q0 : 0 ≤ q) (q9 : q ≤ 9) : Out pre (done ++ [q.toNat]) (u ++ ⟨(Lib.decDigits q.toNat).toArray⟩) :=
  ⟨out_snoc h q0 q9, h.short, by rw [List.length_append, List.length_cons, List.length_nil]; omega⟩

set_option maxHeartbeats 600000 in
set_option maxRecDepth 100000 in
theorem refPrint_minus (m : Int) (hf : Sc.fits (-m) = true) (hm0 : 0 < m) (w : World) : Calls Tryz.prog 42 #[.int .i64 (-m)] w (Ret (.string ⟨(Sc.print (-m)).toArray⟩) w) := by
  have ⟨b0, b1⟩ := Sc.fits_yes hf
  have a0 : m ≤ 1073741823 := by omega
  have hneg : -m < 0 := by omega
  have es : Sc.size (-m) = m := by unfold Sc.size; rw [if_pos hneg]; omega
  have hp := print_yes hf
  rw [es, if_pos hneg] at hp
  have q0' : 0 ≤ (m) / 65536 := by omega
  have q1' : (m) / 65536 ≤ 16383 := by omega
  have m0' : 0 ≤ (m) % 65536 := by omega
  have m1' : (m) % 65536 < 65536 := by omega
  have l1 := dec_short ((m) / 65536).toNat (by omega)
  obtain ⟨all, hall⟩ : ∃ all, all = Sc.fracDs ((m) % 65536).toNat := ⟨_, rfl⟩
  obtain ⟨_, _, h9, _, _⟩ := Sc.fracDs_ok ((m) % 65536).toNat (by omega)
  have hst := stand_start m0' m1'
  obtain ⟨pre, hpre⟩ : ∃ pre, pre = [45] ++ (Lib.decDigits ((m) / 65536).toNat ++ [46]) := ⟨_, rfl⟩
  have hpl : pre.length ≤ 7 := by rw [hpre]; simp; omega
  rw [← hall] at h9 hst hp
  have HP : Hid (Sc.print (-m) = pre ++ Sc.bytesOf all) := Lib.hid (by rw [hp, hpre]; simp)
  have H9 := Lib.hid h9
  have HST := Lib.hid hst
  have HPre := Lib.hid hpre
  have HPL := Lib.hid hpl
  have HF := Lib.hid hf
  have n0 : ¬ 9223372036854775807 < (Lib.decDigits ((m) / 65536).toNat).length + 1 := by omega
  have n1 : ¬ 9223372036854775807 < 0 + ((Lib.decDigits ((m) / 65536).toNat).length + 1) := by omega
  have n2 : ¬ 9223372036854775807 < 1 + ((Lib.decDigits ((m) / 65536).toNat).length + 1) := by omega
  clear h9 hst hall hp hpre hpl hf es hneg b0 b1
  go_enter Tryz.func42, Tryz.ntmps42
  go_wp2_with fail
  refine (refFits_any _ _ HF.out _).mono ?_
  rintro e w' ⟨rfl, rfl⟩
  go_wp2_with fail
  refine (digits_is _ q0' (by omega) _).mono ?_
  rintro e w' ⟨rfl, rfl⟩
  go_wp2_with fail
  clear q0' q1' l1 n0 n1 n2
  go_loopg [3, 4, 5] 5 (fun k ov sv dv wr => ∃ (u : ByteArray) (s d : Int) (done : List Nat), ov = .string u ∧ sv = .int .i64 s ∧ dv = .int .i64 d ∧ Hid (Stand all k s d done) ∧ Hid (Out pre done u) ∧ Hid (Below w.heap.size w wr))
  case atStart => exact ⟨_, 10 * ((m) % 65536) + 5, 10, [], rfl, rfl, rfl, HST, Lib.hid ⟨by rw [HPre.out]; simp [Sc.bytesOf], HPL.out, by simp⟩, Lib.hid (Below.refl _ _)⟩
  case round =>
    obtain ⟨u, s, d, done, rfl, rfl, rfl, HS, HO, HB⟩ := hrel
    clear m0' m1'
    by_cases hD : 65536 < d
    · have NX := HS.out.next (s' := s - 17232) H9.out (by rw [if_pos hD])
      obtain ⟨hlow, hs0, HNX0⟩ := NX
      have HNX := Lib.hid HNX0
      have hs1 : s - 17232 ≤ 655360 := by have := HS.out.s1; omega
      have hd0 := HS.out.d0
      have hd1 := HS.out.d1
      have hlow := hlow hD
      have hsm := HS.out.s1
      have q0 : 0 ≤ (s - 17232) / 65536 := by omega
      have q9 : (s - 17232) / 65536 ≤ 9 := by have := HNX0.dig; omega
      have m0 : 0 ≤ (s - 17232) % 65536 := by omega
      have m1 : (s - 17232) % 65536 < 65536 := by omega
      have HO3 := Lib.hid (out_next HNX0.len (q := (s - 17232) / 65536) HO.out q0 q9)
      have l1 : (Lib.decDigits ((s - 17232) / 65536).toNat).length = 1 := by rw [Lib.decDigits_one (by omega)]; rfl
      have n1 : ¬ 9223372036854775807 < u.size + (Lib.decDigits ((s - 17232) / 65536).toNat).length := by have := HNX0.len; have := out_size HO.out; omega

      clear HNX0 l1
      by_cases hle : 10 * ((s - 17232) % 65536) ≤ 10 * d
      · go_wp2_with fail
        refine (digits_is _ q0 (by omega) _).mono ?_
        rintro e w1 ⟨rfl, rfl⟩
        go_wp2_with fail
        go_ret
        refine ⟨ret_strL ?_, HB.out⟩
        have hx := HO3.out.text
        rw [HNX.out.last hle] at hx
        rw [hx, HP.out]
      · exfalso; omega
    · have NX := HS.out.next (s' := s) H9.out (by rw [if_neg hD])
      obtain ⟨hlow, hs0, HNX0⟩ := NX
      have HNX := Lib.hid HNX0
      have hs1 : s ≤ 655360 := by have := HS.out.s1; omega
      have hd0 := HS.out.d0
      have hd1 := HS.out.d1
      clear hlow
      have hD1 : d ≤ 65536 := by omega
      have q0 : 0 ≤ (s) / 65536 := by omega
      have q9 : (s) / 65536 ≤ 9 := by have := HNX0.dig; omega
      have m0 : 0 ≤ (s) % 65536 := by omega
      have m1 : (s) % 65536 < 65536 := by omega
      have HO3 := Lib.hid (out_next HNX0.len (q := (s) / 65536) HO.out q0 q9)
      have l1 : (Lib.decDigits ((s) / 65536).toNat).length = 1 := by rw [Lib.decDigits_one (by omega)]; rfl
      have n1 : ¬ 9223372036854775807 < u.size + (Lib.decDigits ((s) / 65536).toNat).length := by have := HNX0.len; have := out_size HO.out; omega
      clear hD
      clear HNX0 l1
      by_cases hle : 10 * ((s) % 65536) ≤ 10 * d
      · go_wp2_with fail
        refine (digits_is _ q0 (by omega) _).mono ?_
        rintro e w1 ⟨rfl, rfl⟩
        go_wp2_with fail
        go_ret
        refine ⟨ret_strL ?_, HB.out⟩
        have hx := HO3.out.text
        rw [HNX.out.last hle] at hx
        rw [hx, HP.out]
      · obtain ⟨f', hf', hst'⟩ := HNX.out.more (by omega)
        have HF := Lib.hid hf'
        have HST' := Lib.hid hst'
        have hle2 : 10 * d < 10 * ((s) % 65536) := by omega
        clear hf' hst' hle
        go_wp2_with fail
        refine (digits_is _ q0 (by omega) _).mono ?_
        rintro e w1 ⟨rfl, rfl⟩
        go_wp2_with fail
        go_roundg f'
        case measure => have := HF.out; omega
        case rel => exact ⟨_, _, _, _, rfl, rfl, rfl, HST', HO3, HB⟩

set_option maxHeartbeats 600000 in
set_option maxRecDepth 100000 in
theorem refPrint_pos (n : Int) (hf : Sc.fits n = true) (hneg : 0 ≤ n) (w : World) : Calls Tryz.prog 42 #[.int .i64 n] w (Ret (.string ⟨(Sc.print n).toArray⟩) w) := by
  have ⟨a0, a1⟩ := Sc.fits_yes hf
  have es : Sc.size n = n := by unfold Sc.size; rw [if_neg (by omega)]
  have hp := print_yes hf
  rw [es, if_neg (show ¬ n < 0 by omega)] at hp
  have q0' : 0 ≤ (n) / 65536 := by omega
  have q1' : (n) / 65536 ≤ 16383 := by omega
  have m0' : 0 ≤ (n) % 65536 := by omega
  have m1' : (n) % 65536 < 65536 := by omega
  have l1 := dec_short ((n) / 65536).toNat (by omega)
  obtain ⟨all, hall⟩ : ∃ all, all = Sc.fracDs ((n) % 65536).toNat := ⟨_, rfl⟩
  obtain ⟨_, _, h9, _, _⟩ := Sc.fracDs_ok ((n) % 65536).toNat (by omega)
  have hst := stand_start m0' m1'
  obtain ⟨pre, hpre⟩ : ∃ pre, pre = (Lib.decDigits ((n) / 65536).toNat ++ [46]) := ⟨_, rfl⟩
  have hpl : pre.length ≤ 7 := by rw [hpre]; simp; omega
  rw [← hall] at h9 hst hp
  have HP : Hid (Sc.print n = pre ++ Sc.bytesOf all) := Lib.hid (by rw [hp, hpre]; simp)
  have H9 := Lib.hid h9
  have HST := Lib.hid hst
  have HPre := Lib.hid hpre
  have HPL := Lib.hid hpl
  have HF := Lib.hid hf
  have n0 : ¬ 9223372036854775807 < (Lib.decDigits ((n) / 65536).toNat).length + 1 := by omega
  have n1 : ¬ 9223372036854775807 < 0 + ((Lib.decDigits ((n) / 65536).toNat).length + 1) := by omega
  have n2 : ¬ 9223372036854775807 < 1 + ((Lib.decDigits ((n) / 65536).toNat).length + 1) := by omega
  clear h9 hst hall hp hpre hpl hf es
  go_enter Tryz.func42, Tryz.ntmps42
  go_wp2_with fail
  refine (refFits_any _ _ HF.out _).mono ?_
  rintro e w' ⟨rfl, rfl⟩
  go_wp2_with fail
  refine (digits_is _ q0' (by omega) _).mono ?_
  rintro e w' ⟨rfl, rfl⟩
  go_wp2_with fail
  clear q0' q1' l1 n0 n1 n2
  go_loopg [3, 4, 5] 5 (fun k ov sv dv wr => ∃ (u : ByteArray) (s d : Int) (done : List Nat), ov = .string u ∧ sv = .int .i64 s ∧ dv = .int .i64 d ∧ Hid (Stand all k s d done) ∧ Hid (Out pre done u) ∧ Hid (Below w.heap.size w wr))
  case atStart => exact ⟨_, 10 * ((n) % 65536) + 5, 10, [], rfl, rfl, rfl, HST, Lib.hid ⟨by rw [HPre.out]; simp [Sc.bytesOf], HPL.out, by simp⟩, Lib.hid (Below.refl _ _)⟩
  case round =>
    obtain ⟨u, s, d, done, rfl, rfl, rfl, HS, HO, HB⟩ := hrel
    clear m0' m1'
    by_cases hD : 65536 < d
    · have NX := HS.out.next (s' := s - 17232) H9.out (by rw [if_pos hD])
      obtain ⟨hlow, hs0, HNX0⟩ := NX
      have HNX := Lib.hid HNX0
      have hs1 : s - 17232 ≤ 655360 := by have := HS.out.s1; omega
      have hd0 := HS.out.d0
      have hd1 := HS.out.d1
      have hlow := hlow hD
      have hsm := HS.out.s1
      have q0 : 0 ≤ (s - 17232) / 65536 := by omega
      have q9 : (s - 17232) / 65536 ≤ 9 := by have := HNX0.dig; omega
      have m0 : 0 ≤ (s - 17232) % 65536 := by omega
      have m1 : (s - 17232) % 65536 < 65536 := by omega
      have HO3 := Lib.hid (out_next HNX0.len (q := (s - 17232) / 65536) HO.out q0 q9)
      have l1 : (Lib.decDigits ((s - 17232) / 65536).toNat).length = 1 := by rw [Lib.decDigits_one (by omega)]; rfl
      have n1 : ¬ 9223372036854775807 < u.size + (Lib.decDigits ((s - 17232) / 65536).toNat).length := by have := HNX0.len; have := out_size HO.out; omega

      clear HNX0 l1
      by_cases hle : 10 * ((s - 17232) % 65536) ≤ 10 * d
      · go_wp2_with fail
        refine (digits_is _ q0 (by omega) _).mono ?_
        rintro e w1 ⟨rfl, rfl⟩
        go_wp2_with fail
        go_ret
        refine ⟨ret_strL ?_, HB.out⟩
        have hx := HO3.out.text
        rw [HNX.out.last hle] at hx
        rw [hx, HP.out]
      · exfalso; omega
    · have NX := HS.out.next (s' := s) H9.out (by rw [if_neg hD])
      obtain ⟨hlow, hs0, HNX0⟩ := NX
      have HNX := Lib.hid HNX0
      have hs1 : s ≤ 655360 := by have := HS.out.s1; omega
      have hd0 := HS.out.d0
      have hd1 := HS.out.d1
      clear hlow
      have hD1 : d ≤ 65536 := by omega
      have q0 : 0 ≤ (s) / 65536 := by omega
      have q9 : (s) / 65536 ≤ 9 := by have := HNX0.dig; omega
      have m0 : 0 ≤ (s) % 65536 := by omega
      have m1 : (s) % 65536 < 65536 := by omega
      have HO3 := Lib.hid (out_next HNX0.len (q := (s) / 65536) HO.out q0 q9)
      have l1 : (Lib.decDigits ((s) / 65536).toNat).length = 1 := by rw [Lib.decDigits_one (by omega)]; rfl
      have n1 : ¬ 9223372036854775807 < u.size + (Lib.decDigits ((s) / 65536).toNat).length := by have := HNX0.len; have := out_size HO.out; omega
      clear hD
      clear HNX0 l1
      by_cases hle : 10 * ((s) % 65536) ≤ 10 * d
      · go_wp2_with fail
        refine (digits_is _ q0 (by omega) _).mono ?_
        rintro e w1 ⟨rfl, rfl⟩
        go_wp2_with fail
        go_ret
        refine ⟨ret_strL ?_, HB.out⟩
        have hx := HO3.out.text
        rw [HNX.out.last hle] at hx
        rw [hx, HP.out]
      · obtain ⟨f', hf', hst'⟩ := HNX.out.more (by omega)
        have HF := Lib.hid hf'
        have HST' := Lib.hid hst'
        have hle2 : 10 * d < 10 * ((s) % 65536) := by omega
        clear hf' hst' hle
        go_wp2_with fail
        refine (digits_is _ q0 (by omega) _).mono ?_
        rintro e w1 ⟨rfl, rfl⟩
        go_wp2_with fail
        go_roundg f'
        case measure => have := HF.out; omega
        case rel => exact ⟨_, _, _, _, rfl, rfl, rfl, HST', HO3, HB⟩

set_option maxHeartbeats 1000000 in
set_option maxRecDepth 100000 in
theorem refPrint_no (n : Int) (hf : Sc.fits n = false) (w : World) : Calls Tryz.prog 42 #[.int .i64 n] w (Ret (.string ⟨(Sc.print n).toArray⟩) w) := by
  rw [Sc.print_no hf]
  have HF := Lib.hid hf
  clear hf
  go_enter Tryz.func42, Tryz.ntmps42
  go_wp2_with fail
  refine (refFits_any _ _ HF.out _).mono ?_
  rintro e w' ⟨rfl, rfl⟩
  go_wp2_with fail
  go_ret
  exact ⟨rfl, Below.refl _ _⟩
theorem refPrint_any (n : Int) (w : World) : Calls Tryz.prog 42 #[.int .i64 n] w (Ret (.string ⟨(Sc.print n).toArray⟩) w) := by
  cases hf : Sc.fits n with
  | false => exact refPrint_no n hf w
  | true =>
    by_cases h : n < 0
    · have h1 : Sc.fits (-(-n)) = true := by rw [Int.neg_neg]; exact hf
      have h2 := refPrint_minus (-n) h1 (by omega) w
      rw [Int.neg_neg] at h2
      exact h2
    · exact refPrint_pos n hf (by omega) w
end Go.Proofs.YtmehldekebphfaaGreatDoor

namespace Go.Proofs.YtmehldekebphfaaGreatDoor
open Go.RowKit

theorem ref_none {l : List UInt8} (h : Sc.refM (Sc.unsigned l) = none) : parseV l = 0 ∧ parseB l = false := by
  have : Sc.parse l = none := by rw [← Sc.refParse_eq]; unfold Sc.refParse; rw [h]; rfl
  unfold parseV parseB
  rw [this]; exact ⟨rfl, rfl⟩
theorem ref_some {l : List UInt8} {m : Nat} (h : Sc.refM (Sc.unsigned l) = some m) : Sc.fitV (Sc.sgn (Sc.neg l) m) = parseV l ∧ Sc.fits (Sc.sgn (Sc.neg l) m) = parseB l := by
  have : Sc.parse l = if Sc.fits (Sc.sgn (Sc.neg l) m) then some (Sc.sgn (Sc.neg l) m) else none := by rw [← Sc.refParse_eq]; unfold Sc.refParse; rw [h]; rfl
  unfold parseV parseB Sc.fitV
  rw [this]
  cases Sc.fits (Sc.sgn (Sc.neg l) m) <;> exact ⟨rfl, rfl⟩
theorem ret_fit {x y a : Int} {b : Bool} (h : x = y) (ho : Sc.fitV y = a ∧ Sc.fits y = b) : Ending.returned (.tuple #[.int .i64 (Sc.fitV x), .bool (Sc.fits x)]) = .returned (.tuple #[.int .i64 a, .bool b]) := by rw [h, ho.1, ho.2]

theorem step_dot (n j : Nat) : Sc.step (some (n, none, j)) 46 = some (n, some j, j + 1) := by
  unfold Sc.step
  simp only
  rw [if_pos ⟨trivial, trivial⟩]
theorem ne_dot {c : UInt8} (hc : 48 ≤ c.toNat) : c ≠ 46 := by intro e; rw [e] at hc; exact absurd hc (by decide)
theorem step_dig_none {c : UInt8} (n j : Nat) (hc : 48 ≤ c.toNat ∧ c.toNat ≤ 57) : Sc.step (some (n, none, j)) c = some (Sc.cap n c, none, j + 1) := by
  unfold Sc.step
  simp only
  rw [if_neg (fun e => ne_dot hc.1 e.1), if_pos (Sc.isDig_iff.2 hc), if_pos trivial]
theorem step_dig_some {c : UInt8} (n x j : Nat) (hc : 48 ≤ c.toNat ∧ c.toNat ≤ 57) : Sc.step (some (n, some x, j)) c = some (n, some x, j + 1) := by
  unfold Sc.step
  simp only
  rw [if_neg (fun e => ne_dot hc.1 e.1), if_pos (Sc.isDig_iff.2 hc)]
  rfl
theorem step_bad_none {c : UInt8} (n j : Nat) (h : c ≠ 46) (hc : ¬ (48 ≤ c.toNat ∧ c.toNat ≤ 57)) : Sc.step (some (n, none, j)) c = none := by
  unfold Sc.step
  simp only
  rw [if_neg (fun e => h e.1), if_neg (fun e => hc (Sc.isDig_iff.1 e))]
theorem step_bad_some {c : UInt8} (n x j : Nat) (hc : ¬ (48 ≤ c.toNat ∧ c.toNat ≤ 57)) : Sc.step (some (n, some x, j)) c = none := by
  unfold Sc.step
  simp only
  rw [if_neg (fun e => by cases e.2), if_neg (fun e => hc (Sc.isDig_iff.1 e))]
theorem scan_next {l : List UInt8} {fr k n : Nat} {d : Option Nat} {c : UInt8} (hk : fr ≤ k) (hc : l[k]? = some c) (h : Sc.scan ((l.drop fr).take (k - fr)) = some (n, d, k - fr)) :
    Sc.scan ((l.drop fr).take (k + 1 - fr)) = Sc.step (some (n, d, k - fr)) c := by
  rw [show k + 1 - fr = k - fr + 1 by omega, take_next (l.drop fr) (k - fr) c (by rw [List.getElem?_drop, show fr + (k - fr) = k by omega]; exact hc), Sc.scan_snoc, h]
theorem scan_dot {l : List UInt8} {fr k n : Nat} (hk : fr ≤ k) (hc : l[k]? = some 46) (h : Sc.scan ((l.drop fr).take (k - fr)) = some (n, none, k - fr)) :
    Sc.scan ((l.drop fr).take (k + 1 - fr)) = some (n, some (k - fr), k + 1 - fr) := by
  rw [scan_next hk hc h, step_dot, show k + 1 - fr = k - fr + 1 by omega]
theorem scan_dig_none {l : List UInt8} {fr k n : Nat} {c : UInt8} (hk : fr ≤ k) (hc : l[k]? = some c) (hd : 48 ≤ c.toNat ∧ c.toNat ≤ 57) (h : Sc.scan ((l.drop fr).take (k - fr)) = some (n, none, k - fr)) :
    Sc.scan ((l.drop fr).take (k + 1 - fr)) = some (Sc.cap n c, none, k + 1 - fr) := by
  rw [scan_next hk hc h, step_dig_none _ _ hd, show k + 1 - fr = k - fr + 1 by omega]
theorem scan_dig_some {l : List UInt8} {fr k n x : Nat} {c : UInt8} (hk : fr ≤ k) (hc : l[k]? = some c) (hd : 48 ≤ c.toNat ∧ c.toNat ≤ 57) (h : Sc.scan ((l.drop fr).take (k - fr)) = some (n, some x, k - fr)) :
    Sc.scan ((l.drop fr).take (k + 1 - fr)) = some (n, some x, k + 1 - fr) := by
  rw [scan_next hk hc h, step_dig_some _ _ _ hd, show k + 1 - fr = k - fr + 1 by omega]
theorem scan_bad_none {l : List UInt8} {fr k n : Nat} {c : UInt8} (hk : fr ≤ k) (hc : l[k]? = some c) (h46 : c ≠ 46) (hd : ¬ (48 ≤ c.toNat ∧ c.toNat ≤ 57)) (h : Sc.scan ((l.drop fr).take (k - fr)) = some (n, none, k - fr)) : Sc.refM (l.drop fr) = none := by
  have : Sc.scan (l.drop fr) = none := Sc.scan_bad (k := k + 1 - fr) (by rw [scan_next hk hc h, step_bad_none _ _ h46 hd])
  unfold Sc.refM
  rw [this]
theorem scan_bad_some {l : List UInt8} {fr k n x : Nat} {c : UInt8} (hk : fr ≤ k) (hc : l[k]? = some c) (hd : ¬ (48 ≤ c.toNat ∧ c.toNat ≤ 57)) (h : Sc.scan ((l.drop fr).take (k - fr)) = some (n, some x, k - fr)) : Sc.refM (l.drop fr) = none := by
  have : Sc.scan (l.drop fr) = none := Sc.scan_bad (k := k + 1 - fr) (by rw [scan_next hk hc h, step_bad_some _ _ _ hd])
  unfold Sc.refM
  rw [this]
theorem cap_low {n : Nat} {c : UInt8} (hn : n < 100000) (hc : 48 ≤ c.toNat) : ((Sc.cap n c : Nat) : Int) = 10 * (n : Int) + ((c.toNat : Int) - 48) := by
  unfold Sc.cap
  rw [if_pos hn]; omega
theorem cap_high {n : Nat} {c : UInt8} (hn : ¬ n < 100000) : Sc.cap n c = n := by
  unfold Sc.cap
  rw [if_neg hn]
theorem cap_one {n : Nat} {c : UInt8} (hn : n ≤ 1000207) : Sc.cap n c ≤ 1000207 := Sc.cap_le [c] n hn
theorem scan_whole {l : List UInt8} {fr k n : Nat} {d : Option Nat} (hk : l.length ≤ k) (h : Sc.scan ((l.drop fr).take (k - fr)) = some (n, d, k - fr)) : Sc.scan (l.drop fr) = some (n, d, k - fr) := by
  rw [List.take_of_length_le (by rw [List.length_drop]; omega)] at h
  exact h
/-- behind the dot there are digits -/
theorem scan_frac {t : List UInt8} {n d j : Nat} (h : Sc.scan t = some (n, some d, j)) : ∀ c ∈ t.drop (d + 1), 48 ≤ c.toNat ∧ c.toNat ≤ 57 := by
  rcases Sc.cut_split t with ⟨h46, _⟩ | ⟨p, f, rfl, h46, _⟩
  · cases hd : t.all Fm.isDig with
    | false =>
      have hs : Sc.scan t = none := Sc.foldl_bad_none t 0 0 h46 hd
      rw [hs] at h; cases h
    | true =>
      have hs : Sc.scan t = some (t.foldl Sc.cap 0, none, 0 + t.length) := Sc.foldl_digs t 0 none 0 (Sc.all_dig.1 hd)
      rw [hs] at h; cases h
  · cases hd : p.all Fm.isDig with
    | false =>
      have hs : Sc.scan (p ++ 46 :: f) = none := by
        unfold Sc.scan
        rw [List.foldl_append, Sc.foldl_bad_none p 0 0 h46 hd, Sc.foldl_none]
      rw [hs] at h; cases h
    | true =>
      have hs1 : Sc.scan (p ++ 46 :: f) = f.foldl Sc.step (some (p.foldl Sc.cap 0, some p.length, p.length + 1)) := by
        have hst := step_dot (p.foldl Sc.cap 0) (0 + p.length)
        unfold Sc.scan
        rw [List.foldl_append, Sc.foldl_digs p 0 none 0 (Sc.all_dig.1 hd), if_pos rfl, List.foldl_cons, hst]
        simp
      cases hf : f.all Fm.isDig with
      | false =>
        rw [hs1, Sc.foldl_bad_some f _ _ _ hf] at h; cases h
      | true =>
        rw [hs1, Sc.foldl_digs f _ _ _ (Sc.all_dig.1 hf)] at h
        injection h with h
        injection h with _ h
        injection h with h _
        injection h with h
        subst h
        have hdr : (p ++ 46 :: f).drop (p.length + 1) = f := by
          rw [← List.drop_drop, List.drop_left]; rfl
        rw [hdr]
        exact Sc.all_dig.1 hf
theorem refM_plain {t : List UInt8} {n j : Nat} (h : Sc.scan t = some (n, none, j)) (h0 : t.length ≠ 0) : Sc.refM t = some (65536 * n) := by
  unfold Sc.refM
  rw [h]
  simp only
  rw [if_neg h0]
theorem refM_none0 {t : List UInt8} {n j : Nat} (h : Sc.scan t = some (n, none, j)) (h0 : t.length = 0) : Sc.refM t = none := by
  unfold Sc.refM
  rw [h]
  simp only
  rw [if_pos h0]
theorem refM_bad {t : List UInt8} {n d j : Nat} (h : Sc.scan t = some (n, some d, j)) (h0 : d = 0 ∨ d + 1 = t.length ∨ 18 < t.length - d) : Sc.refM t = none := by
  unfold Sc.refM
  rw [h]
  simp only
  rw [if_pos h0]
theorem refM_good {t : List UInt8} {n d j : Nat} (h : Sc.scan t = some (n, some d, j)) (h0 : ¬ (d = 0 ∨ d + 1 = t.length ∨ 18 < t.length - d)) : Sc.refM t = some (65536 * n + (Sc.facc (t.drop (d + 1)) + 1) / 2) := by
  unfold Sc.refM
  rw [h]
  simp only
  rw [if_neg h0]

set_option maxHeartbeats 4000000 in
set_option maxRecDepth 100000 in
theorem refParse_plus (s : ByteArray) (hs : s.size ≤ 9223372036854775807) (h0 : 0 < s.size) (hm : ((s[0].toNat : Int) == 45) = false) (hu : Sc.unsigned s.data.toList = s.data.toList.drop 0) (hg : Sc.neg s.data.toList = false) (w : World) :
    Calls Tryz.prog 84 #[.string s] w (Ret (Two (parseV s.data.toList) (parseB s.data.toList)) w) := by
  have hn := @ref_none s.data.toList
  have hy := @ref_some s.data.toList
  rw [hu] at hn hy
  rw [hg] at hy
  have HNo := Lib.hid hn
  have HYes : Hid (∀ m, Sc.refM (s.data.toList.drop 0) = some m → Sc.fitV (Sc.sgn false m) = parseV s.data.toList ∧ Sc.fits (Sc.sgn false m) = parseB s.data.toList) := Lib.hid (fun m h => hy h)
  have hlen : s.data.toList.length = s.size := (Lib.size_eq s).symm
  have HLen := Lib.hid hlen
  clear hn hy hu hg hlen
  go_enter Tryz.func84, Tryz.ntmps84
  go_wp2_with fail
  go_loop [5, 6, 7] (fun dv nv iv => ∃ (k n : Nat) (p : Int), 0 ≤ k ∧ k ≤ s.size ∧ iv = .int .i64 k ∧ nv = .int .i64 p ∧ 0 ≤ p ∧ p ≤ 1000207 ∧ Hid ((n : Int) = p) ∧ ((dv = .int .i64 s.size ∧ Hid (Sc.scan ((s.data.toList.drop 0).take (k - 0)) = some (n, none, k - 0))) ∨ (∃ j : Nat, 0 ≤ j ∧ j < k ∧ dv = .int .i64 j ∧ Hid (Sc.scan ((s.data.toList.drop 0).take (k - 0)) = some (n, some (j - 0), k - 0))))) (fun _ _ iv => s.size - (intOf iv).toNat)
  case atStart => exact ⟨0, 0, 0, by omega, by omega, rfl, rfl, by omega, by omega, Lib.hid rfl, .inl ⟨rfl, Lib.hid (by simp [Sc.scan])⟩⟩
  case round =>
    obtain ⟨k, n, p, hk0, hk, rfl, rfl, hp0, hp1, HP, hd⟩ := hrel
    rcases hd with ⟨rfl, H⟩ | ⟨j, hj0, hj, rfl, H⟩
    · by_cases hlt : k < s.size
      · by_cases h46 : s[k] = 46
        · have HN : Hid (Sc.scan ((s.data.toList.drop 0).take (k + 1 - 0)) = some (n, some (k - 0), k + 1 - 0)) := Lib.hid (scan_dot hk0 (by rw [← h46]; exact byte_at s k hlt) H.out)
          have hc : ((s[k].toNat : Int) == 46) = true := by rw [h46]; rfl
          clear h46
          go_wp2
          go_round
          case rel => exact ⟨k + 1, n, p, by omega, by omega, by go_num, rfl, hp0, hp1, HP, .inr ⟨k, hk0, by omega, rfl, HN⟩⟩
          case measure => simp [intOf]; omega
        · have hc : ((s[k].toNat : Int) == 46) = false := beq_eq_false_iff_ne.2 (fun e => h46 (UInt8.toNat_inj.1 (by rw [show (46 : UInt8).toNat = 46 from rfl]; omega)))
          by_cases hd : 48 ≤ (s[k].toNat : Int) ∧ (s[k].toNat : Int) ≤ 57
          · have HN := Lib.hid (scan_dig_none hk0 (byte_at s k hlt) (by omega) H.out)
            have hcap := Lib.hid (cap_one (n := n) (c := s[k]) (by have := HP.out; omega))
            obtain ⟨hd1, hd2⟩ := hd
            clear h46
            by_cases hb : p < 100000
            · have HC := Lib.hid (cap_low (n := n) (c := s[k]) (by have := HP.out; omega) (by omega))
              go_wp2
              go_round
              case rel => exact ⟨k + 1, Sc.cap n s[k], _, by omega, by omega, by go_num, rfl, by omega, by omega, Lib.hid (by rw [HC.out, HP.out]), .inl ⟨rfl, HN⟩⟩
              case measure => simp [intOf]; omega
            · have HC := Lib.hid (cap_high (n := n) (c := s[k]) (by have := HP.out; omega))
              rw [HC.out] at HN
              have hb1 : 100000 ≤ p := by omega
              clear hb
              go_wp2
              go_round
              case rel => exact ⟨k + 1, n, p, by omega, by omega, by go_num, rfl, hp0, hp1, HP, .inl ⟨rfl, HN⟩⟩
              case measure => simp [intOf]; omega
          · have HO := Lib.hid (HNo.out (scan_bad_none hk0 (byte_at s k hlt) h46 (by omega) H.out))
            clear h46
            go_wp2
            all_goals go_ret2
            all_goals exact ⟨ret_pair ⟨HO.out.1.symm, HO.out.2.symm⟩, Below.refl _ _⟩
      · obtain rfl : k = s.size := by omega
        have HW := Lib.hid (scan_whole (by rw [HLen.out]; exact Nat.le_refl _) H.out)
        have hT : (s.data.toList.drop 0).length = s.size - 0 := by rw [List.length_drop, HLen.out]
        have z2 : ((s.size : Int) == (s.size : Int) - 1) = false := beq_eq_false_iff_ne.2 (by omega)
        have z3 : decide ((s.size : Int) < (s.size : Int) - 1) = false := decide_eq_false (by omega)
        have h1 : ¬ s.size = 0 := by omega
        have HO := Lib.hid (HYes.out _ (refM_plain HW.out (by rw [hT]; omega)))
        have z1 : ((s.size : Int) == 0) = false := beq_eq_false_iff_ne.2 (by omega)
        clear hT h1
        go_wp2_with fail
        refine wp_loop_rounds 1 ?_
        rw [rounds_succ]
        go_wp2_with fail
        refine (one_yes _ _).mono ?_
        rintro e w' ⟨rfl, rfl⟩
        go_wp2_with fail
        go_ret2
        exact ⟨ret_fit (by unfold Sc.sgn; simp only [if_true, if_false, Bool.false_eq_true]; have := HP.out; omega) HO.out, Below.refl _ _⟩
    · by_cases hlt : k < s.size
      · by_cases hd : 48 ≤ (s[k].toNat : Int) ∧ (s[k].toNat : Int) ≤ 57
        · have HN := Lib.hid (scan_dig_some hk0 (byte_at s k hlt) (by omega) H.out)
          obtain ⟨hd1, hd2⟩ := hd
          have hjs : ((j : Int) == (s.size : Int)) = false := beq_eq_false_iff_ne.2 (by omega)
          have hjn : decide (j = s.size) = false := decide_eq_false (by omega)
          go_wp2
          go_round
          case rel => exact ⟨k + 1, n, p, by omega, by omega, by go_num, rfl, hp0, hp1, HP, .inr ⟨j, hj0, by omega, rfl, HN⟩⟩
          case measure => simp [intOf]; omega
        · have HO := Lib.hid (HNo.out (scan_bad_some hk0 (byte_at s k hlt) (by omega) H.out))
          have hjs : ((j : Int) == (s.size : Int)) = false := beq_eq_false_iff_ne.2 (by omega)
          have hjn : decide (j = s.size) = false := decide_eq_false (by omega)
          go_wp2
          all_goals go_ret2
          all_goals exact ⟨ret_pair ⟨HO.out.1.symm, HO.out.2.symm⟩, Below.refl _ _⟩
      · obtain rfl : k = s.size := by omega
        have HW := Lib.hid (scan_whole (by rw [HLen.out]; exact Nat.le_refl _) H.out)
        have hT : (s.data.toList.drop 0).length = s.size - 0 := by rw [List.length_drop, HLen.out]
        have HT := Lib.hid hT
        clear hT hlt
        by_cases h1 : j = 0
        · have HO := Lib.hid (HNo.out (refM_bad HW.out (.inl (by omega))))
          have z1 : ((j : Int) == 0) = true := beq_iff_eq.2 (by omega)
          clear h1
          go_wp2_with fail
          go_ret2
          exact ⟨ret_pair ⟨HO.out.1.symm, HO.out.2.symm⟩, Below.refl _ _⟩
        · have z1 : ((j : Int) == 0) = false := beq_eq_false_iff_ne.2 (by omega)
          by_cases h2 : j + 1 = s.size
          · have HO := Lib.hid (HNo.out (refM_bad HW.out (.inr (.inl (by rw [HT.out]; omega)))))
            have z2 : ((j : Int) == (s.size : Int) - 1) = true := beq_iff_eq.2 (by omega)
            clear h1 h2
            go_wp2_with fail
            go_ret2
            exact ⟨ret_pair ⟨HO.out.1.symm, HO.out.2.symm⟩, Below.refl _ _⟩
          · have z2 : ((j : Int) == (s.size : Int) - 1) = false := beq_eq_false_iff_ne.2 (by omega)
            by_cases h3 : 18 < s.size - j
            · have HO := Lib.hid (HNo.out (refM_bad HW.out (.inr (.inr (by rw [HT.out]; omega)))))
              have z3 : decide ((18 : Int) < (s.size : Int) - (j : Int)) = true := decide_eq_true (by omega)
              clear h1 h2 h3
              go_wp2_with fail
              go_ret2
              exact ⟨ret_pair ⟨HO.out.1.symm, HO.out.2.symm⟩, Below.refl _ _⟩
            · have z3 : decide ((18 : Int) < (s.size : Int) - (j : Int)) = false := decide_eq_false (by omega)
              have HO := HYes.out _ (refM_good HW.out (by rw [HT.out]; omega))
              have HB := scan_frac HW.out
              have e : 0 + (j - 0 + 1) = j + 1 := by omega
              rw [List.drop_drop, e] at HO HB
              have HO := Lib.hid HO
              have HB := Lib.hid HB
              clear h1 h2 h3 e
              go_wp2_with fail
              go_loop [8, 9] (fun v i => ∃ (m : Nat) (q : Int), j + 1 ≤ m ∧ m ≤ s.size ∧ i = .int .i64 ((m : Int) - 1) ∧ v = .int .i64 q ∧ 0 ≤ q ∧ q ≤ 131072 ∧ Hid (((Sc.facc (s.data.toList.drop m) : Nat) : Int) = q)) (fun _ i => (intOf i + 1).toNat)
              case atStart => exact ⟨s.size, 0, by omega, Nat.le_refl _, rfl, rfl, by omega, by omega, Lib.hid (facc_end _ _ (by rw [HLen.out]; omega))⟩
              case round =>
                obtain ⟨m, q, hm0, hm, rfl, rfl, hq0, hq1, HQ⟩ := hrel
                rcases m with _ | r
                · omega
                · have e : (((r + 1 : Nat) : Int) - 1) = (r : Int) := by omega
                  rw [e]
                  clear e
                  by_cases hr : r = j
                  · subst hr
                    go_wp2_with fail
                    refine (one_yes _ _).mono ?_
                    rintro e w' ⟨rfl, rfl⟩
                    go_wp2_with fail
                    go_ret2
                    exact ⟨ret_fit (by unfold Sc.sgn; simp only [if_true, if_false, Bool.false_eq_true]; have := HP.out; have := HQ.out; omega) HO.out, Below.refl _ _⟩
                  · have hlt : r < s.size := by omega
                    have hrj : (j : Int) < (r : Int) := by omega
                    have hd := HB.out s[r] (List.mem_of_getElem? (i := r - (j + 1)) (by rw [List.getElem?_drop, show j + 1 + (r - (j + 1)) = r by omega]; exact byte_at s r hlt))
                    obtain ⟨hd1, hd2⟩ := hd
                    have HN := Lib.hid (facc_step _ _ _ (byte_at s r hlt) (by omega))
                    clear hr
                    go_wp2
                    go_round
                    case rel => exact ⟨r, _, by omega, by omega, rfl, rfl, by omega, by omega, Lib.hid (by rw [HN.out, HQ.out])⟩
                    case measure => simp [intOf]

end Go.Proofs.YtmehldekebphfaaGreatDoor

namespace Go.Proofs.YtmehldekebphfaaGreatDoor
open Go.RowKit

set_option maxHeartbeats 4000000 in
set_option maxRecDepth 100000 in
theorem refParse_minus (s : ByteArray) (hs : s.size ≤ 9223372036854775807) (h0 : 0 < s.size) (hm : ((s[0].toNat : Int) == 45) = true) (hu : Sc.unsigned s.data.toList = s.data.toList.drop 1) (hg : Sc.neg s.data.toList = true) (w : World) :
    Calls Tryz.prog 84 #[.string s] w (Ret (Two (parseV s.data.toList) (parseB s.data.toList)) w) := by
  have hn := @ref_none s.data.toList
  have hy := @ref_some s.data.toList
  rw [hu] at hn hy
  rw [hg] at hy
  have HNo := Lib.hid hn
  have HYes : Hid (∀ m, Sc.refM (s.data.toList.drop 1) = some m → Sc.fitV (Sc.sgn true m) = parseV s.data.toList ∧ Sc.fits (Sc.sgn true m) = parseB s.data.toList) := Lib.hid (fun m h => hy h)
  have hlen : s.data.toList.length = s.size := (Lib.size_eq s).symm
  have HLen := Lib.hid hlen
  clear hn hy hu hg hlen
  go_enter Tryz.func84, Tryz.ntmps84
  go_wp2_with fail
  go_loop [5, 6, 7] (fun dv nv iv => ∃ (k n : Nat) (p : Int), 1 ≤ k ∧ k ≤ s.size ∧ iv = .int .i64 k ∧ nv = .int .i64 p ∧ 0 ≤ p ∧ p ≤ 1000207 ∧ Hid ((n : Int) = p) ∧ ((dv = .int .i64 s.size ∧ Hid (Sc.scan ((s.data.toList.drop 1).take (k - 1)) = some (n, none, k - 1))) ∨ (∃ j : Nat, 1 ≤ j ∧ j < k ∧ dv = .int .i64 j ∧ Hid (Sc.scan ((s.data.toList.drop 1).take (k - 1)) = some (n, some (j - 1), k - 1))))) (fun _ _ iv => s.size - (intOf iv).toNat)
  case atStart => exact ⟨1, 0, 0, by omega, by omega, rfl, rfl, by omega, by omega, Lib.hid rfl, .inl ⟨rfl, Lib.hid (by simp [Sc.scan])⟩⟩
  case round =>
    obtain ⟨k, n, p, hk0, hk, rfl, rfl, hp0, hp1, HP, hd⟩ := hrel
    rcases hd with ⟨rfl, H⟩ | ⟨j, hj0, hj, rfl, H⟩
    · by_cases hlt : k < s.size
      · by_cases h46 : s[k] = 46
        · have HN : Hid (Sc.scan ((s.data.toList.drop 1).take (k + 1 - 1)) = some (n, some (k - 1), k + 1 - 1)) := Lib.hid (scan_dot hk0 (by rw [← h46]; exact byte_at s k hlt) H.out)
          have hc : ((s[k].toNat : Int) == 46) = true := by rw [h46]; rfl
          clear h46
          go_wp2
          go_round
          case rel => exact ⟨k + 1, n, p, by omega, by omega, by go_num, rfl, hp0, hp1, HP, .inr ⟨k, hk0, by omega, rfl, HN⟩⟩
          case measure => simp [intOf]; omega
        · have hc : ((s[k].toNat : Int) == 46) = false := beq_eq_false_iff_ne.2 (fun e => h46 (UInt8.toNat_inj.1 (by rw [show (46 : UInt8).toNat = 46 from rfl]; omega)))
          by_cases hd : 48 ≤ (s[k].toNat : Int) ∧ (s[k].toNat : Int) ≤ 57
          · have HN := Lib.hid (scan_dig_none hk0 (byte_at s k hlt) (by omega) H.out)
            have hcap := Lib.hid (cap_one (n := n) (c := s[k]) (by have := HP.out; omega))
            obtain ⟨hd1, hd2⟩ := hd
            clear h46
            by_cases hb : p < 100000
            · have HC := Lib.hid (cap_low (n := n) (c := s[k]) (by have := HP.out; omega) (by omega))
              go_wp2
              go_round
              case rel => exact ⟨k + 1, Sc.cap n s[k], _, by omega, by omega, by go_num, rfl, by omega, by omega, Lib.hid (by rw [HC.out, HP.out]), .inl ⟨rfl, HN⟩⟩
              case measure => simp [intOf]; omega
            · have HC := Lib.hid (cap_high (n := n) (c := s[k]) (by have := HP.out; omega))
              rw [HC.out] at HN
              have hb1 : 100000 ≤ p := by omega
              clear hb
              go_wp2
              go_round
              case rel => exact ⟨k + 1, n, p, by omega, by omega, by go_num, rfl, hp0, hp1, HP, .inl ⟨rfl, HN⟩⟩
              case measure => simp [intOf]; omega
          · have HO := Lib.hid (HNo.out (scan_bad_none hk0 (byte_at s k hlt) h46 (by omega) H.out))
            clear h46
            go_wp2
            all_goals go_ret2
            all_goals exact ⟨ret_pair ⟨HO.out.1.symm, HO.out.2.symm⟩, Below.refl _ _⟩
      · obtain rfl : k = s.size := by omega
        have HW := Lib.hid (scan_whole (by rw [HLen.out]; exact Nat.le_refl _) H.out)
        have hT : (s.data.toList.drop 1).length = s.size - 1 := by rw [List.length_drop, HLen.out]
        have z2 : ((s.size : Int) == (s.size : Int) - 1) = false := beq_eq_false_iff_ne.2 (by omega)
        have z3 : decide ((s.size : Int) < (s.size : Int) - 1) = false := decide_eq_false (by omega)
        by_cases h1 : s.size = 1
        · have HO := Lib.hid (HNo.out (refM_none0 HW.out (by rw [hT]; omega)))
          have z1 : ((s.size : Int) == 1) = true := by rw [h1]; rfl
          clear hT h1
          go_wp2_with fail
          go_ret2
          exact ⟨ret_pair ⟨HO.out.1.symm, HO.out.2.symm⟩, Below.refl _ _⟩
        · have HO := Lib.hid (HYes.out _ (refM_plain HW.out (by rw [hT]; omega)))
          have z1 : ((s.size : Int) == 1) = false := beq_eq_false_iff_ne.2 (by omega)
          clear hT h1
          go_wp2_with fail
          refine wp_loop_rounds 1 ?_
          rw [rounds_succ]
          go_wp2_with fail
          refine (one_yes _ _).mono ?_
          rintro e w' ⟨rfl, rfl⟩
          go_wp2_with fail
          go_ret2
          exact ⟨ret_fit (by unfold Sc.sgn; simp only [if_true, if_false, Bool.false_eq_true]; have := HP.out; omega) HO.out, Below.refl _ _⟩
    · by_cases hlt : k < s.size
      · by_cases hd : 48 ≤ (s[k].toNat : Int) ∧ (s[k].toNat : Int) ≤ 57
        · have HN := Lib.hid (scan_dig_some hk0 (byte_at s k hlt) (by omega) H.out)
          obtain ⟨hd1, hd2⟩ := hd
          have hjs : ((j : Int) == (s.size : Int)) = false := beq_eq_false_iff_ne.2 (by omega)
          have hjn : decide (j = s.size) = false := decide_eq_false (by omega)
          go_wp2
          go_round
          case rel => exact ⟨k + 1, n, p, by omega, by omega, by go_num, rfl, hp0, hp1, HP, .inr ⟨j, hj0, by omega, rfl, HN⟩⟩
          case measure => simp [intOf]; omega
        · have HO := Lib.hid (HNo.out (scan_bad_some hk0 (byte_at s k hlt) (by omega) H.out))
          have hjs : ((j : Int) == (s.size : Int)) = false := beq_eq_false_iff_ne.2 (by omega)
          have hjn : decide (j = s.size) = false := decide_eq_false (by omega)
          go_wp2
          all_goals go_ret2
          all_goals exact ⟨ret_pair ⟨HO.out.1.symm, HO.out.2.symm⟩, Below.refl _ _⟩
      · obtain rfl : k = s.size := by omega
        have HW := Lib.hid (scan_whole (by rw [HLen.out]; exact Nat.le_refl _) H.out)
        have hT : (s.data.toList.drop 1).length = s.size - 1 := by rw [List.length_drop, HLen.out]
        have HT := Lib.hid hT
        clear hT hlt
        by_cases h1 : j = 1
        · have HO := Lib.hid (HNo.out (refM_bad HW.out (.inl (by omega))))
          have z1 : ((j : Int) == 1) = true := beq_iff_eq.2 (by omega)
          clear h1
          go_wp2_with fail
          go_ret2
          exact ⟨ret_pair ⟨HO.out.1.symm, HO.out.2.symm⟩, Below.refl _ _⟩
        · have z1 : ((j : Int) == 1) = false := beq_eq_false_iff_ne.2 (by omega)
          by_cases h2 : j + 1 = s.size
          · have HO := Lib.hid (HNo.out (refM_bad HW.out (.inr (.inl (by rw [HT.out]; omega)))))
            have z2 : ((j : Int) == (s.size : Int) - 1) = true := beq_iff_eq.2 (by omega)
            clear h1 h2
            go_wp2_with fail
            go_ret2
            exact ⟨ret_pair ⟨HO.out.1.symm, HO.out.2.symm⟩, Below.refl _ _⟩
          · have z2 : ((j : Int) == (s.size : Int) - 1) = false := beq_eq_false_iff_ne.2 (by omega)
            by_cases h3 : 18 < s.size - j
            · have HO := Lib.hid (HNo.out (refM_bad HW.out (.inr (.inr (by rw [HT.out]; omega)))))
              have z3 : decide ((18 : Int) < (s.size : Int) - (j : Int)) = true := decide_eq_true (by omega)
              clear h1 h2 h3
              go_wp2_with fail
              go_ret2
              exact ⟨ret_pair ⟨HO.out.1.symm, HO.out.2.symm⟩, Below.refl _ _⟩
            · have z3 : decide ((18 : Int) < (s.size : Int) - (j : Int)) = false := decide_eq_false (by omega)
              have HO := HYes.out _ (refM_good HW.out (by rw [HT.out]; omega))
              have HB := scan_frac HW.out
              have e : 1 + (j - 1 + 1) = j + 1 := by omega
              rw [List.drop_drop, e] at HO HB
              have HO := Lib.hid HO
              have HB := Lib.hid HB
              clear h1 h2 h3 e
              go_wp2_with fail
              go_loop [8, 9] (fun v i => ∃ (m : Nat) (q : Int), j + 1 ≤ m ∧ m ≤ s.size ∧ i = .int .i64 ((m : Int) - 1) ∧ v = .int .i64 q ∧ 0 ≤ q ∧ q ≤ 131072 ∧ Hid (((Sc.facc (s.data.toList.drop m) : Nat) : Int) = q)) (fun _ i => (intOf i + 1).toNat)
              case atStart => exact ⟨s.size, 0, by omega, Nat.le_refl _, rfl, rfl, by omega, by omega, Lib.hid (facc_end _ _ (by rw [HLen.out]; omega))⟩
              case round =>
                obtain ⟨m, q, hm0, hm, rfl, rfl, hq0, hq1, HQ⟩ := hrel
                rcases m with _ | r
                · omega
                · have e : (((r + 1 : Nat) : Int) - 1) = (r : Int) := by omega
                  rw [e]
                  clear e
                  by_cases hr : r = j
                  · subst hr
                    go_wp2_with fail
                    refine (one_yes _ _).mono ?_
                    rintro e w' ⟨rfl, rfl⟩
                    go_wp2_with fail
                    go_ret2
                    exact ⟨ret_fit (by unfold Sc.sgn; simp only [if_true, if_false, Bool.false_eq_true]; have := HP.out; have := HQ.out; omega) HO.out, Below.refl _ _⟩
                  · have hlt : r < s.size := by omega
                    have hrj : (j : Int) < (r : Int) := by omega
                    have hd := HB.out s[r] (List.mem_of_getElem? (i := r - (j + 1)) (by rw [List.getElem?_drop, show j + 1 + (r - (j + 1)) = r by omega]; exact byte_at s r hlt))
                    obtain ⟨hd1, hd2⟩ := hd
                    have HN := Lib.hid (facc_step _ _ _ (byte_at s r hlt) (by omega))
                    clear hr
                    go_wp2
                    go_round
                    case rel => exact ⟨r, _, by omega, by omega, rfl, rfl, by omega, by omega, Lib.hid (by rw [HN.out, HQ.out])⟩
                    case measure => simp [intOf]

set_option maxHeartbeats 4000000 in
set_option maxRecDepth 100000 in
theorem refParse_empty (w : World) : Calls Tryz.prog 84 #[.string ⟨#[]⟩] w (Ret (Two (parseV []) (parseB [])) w) := by
  have HO : Hid (parseV [] = 0 ∧ parseB [] = false) := Lib.hid (ref_none (l := []) rfl)
  go_enter Tryz.func84, Tryz.ntmps84
  go_wp2_with fail
  refine wp_loop_rounds 1 ?_
  rw [rounds_succ]
  go_wp2_with fail
  go_ret2
  exact ⟨ret_pair ⟨HO.out.1.symm, HO.out.2.symm⟩, Below.refl _ _⟩

/-- The reference's Parse, at every text. -/
theorem refParse_any (s : ByteArray) (hs : s.size ≤ 9223372036854775807) (w : World) : Calls Tryz.prog 84 #[.string s] w (Ret (Two (parseV s.data.toList) (parseB s.data.toList)) w) := by
  rcases Nat.eq_zero_or_pos s.size with h0 | h0
  · have : s = ⟨#[]⟩ := by
      obtain ⟨⟨l⟩⟩ := s
      have : l = [] := by
        rw [Lib.size_eq] at h0
        exact List.eq_nil_of_length_eq_zero h0
      rw [this]
    subst this
    exact refParse_empty w
  · have hb := byte_at s 0 h0
    have hh : s.data.toList.head? = some s[0] := by rw [← hb, List.head?_eq_getElem?]
    by_cases h : s[0] = 45
    · have hg : Sc.neg s.data.toList = true := by unfold Sc.neg; rw [hh, h]; rfl
      exact refParse_minus s hs h0 (by rw [h]; rfl) (by unfold Sc.unsigned; rw [hg]; rfl) hg w
    · have hg : Sc.neg s.data.toList = false := by unfold Sc.neg; rw [hh]; exact beq_eq_false_iff_ne.2 (fun e => h (Option.some.inj e))
      exact refParse_plus s hs h0 (beq_eq_false_iff_ne.2 (fun e => h (UInt8.toNat_inj.1 (by rw [show (45 : UInt8).toNat = 45 from rfl]; omega)))) (by unfold Sc.unsigned; rw [hg, List.drop_zero]; rfl) hg w
end Go.Proofs.YtmehldekebphfaaGreatDoor

namespace Go.Proofs.YtmehldekebphfaaGreatDoor
open Go.RowKit

set_option maxHeartbeats 4000000 in
theorem length_any (s : ByteArray) (hs : s.size ≤ 9223372036854775807) (w : World) : Calls Tryz.prog 54 #[.string s] w (Ret (.tuple #[.int .i64 (parseV s.data.toList), .bool (Mt.lenB s.data.toList).isSome]) w) := by
  have HP := Lib.hid (fun w => refParse_any s hs w)
  obtain ⟨n, hn⟩ : ∃ n, n = parseV s.data.toList := ⟨_, rfl⟩
  obtain ⟨b, hb⟩ : ∃ b, b = parseB s.data.toList := ⟨_, rfl⟩
  have HI : Hid ((Mt.lenB s.data.toList).isSome = (b && ((⟨(Sc.print n).toArray⟩ : ByteArray).toList == s.toList))) := Lib.hid (by rw [hb, hn, bytes_eq7, lenB_is])
  rw [← hn, ← hb] at HP
  rw [← hn]
  have HR := Lib.hid (fun w => refPrint_any n w)
  generalize (Mt.lenB s.data.toList).isSome = q at HI ⊢
  generalize (⟨(Sc.print n).toArray⟩ : ByteArray) = t at HR HI
  clear hn hb hs
  cases b with
  | false =>
    go_enter Tryz.func54, Tryz.ntmps54
    go_wp2_with fail
    refine (HP.out _).mono ?_
    rintro e w1 ⟨rfl, hb1⟩
    go_wp2
    go_ret2
    rw [HI.out]
    exact ⟨rfl, hb1⟩
  | true =>
    go_enter Tryz.func54, Tryz.ntmps54
    go_wp2_with fail
    refine (HP.out _).mono ?_
    rintro e w1 ⟨rfl, hb1⟩
    have HB := Lib.hid hb1
    clear hb1
    go_wp2_with fail
    refine (HR.out _).mono ?_
    rintro e w2 ⟨rfl, hb2⟩
    have HB2 := Lib.hid (below_step HB.out hb2)
    clear hb2
    go_wp2
    go_ret2
    rw [HI.out]
    exact ⟨by simp, HB2.out⟩

theorem codeB_is (l : List UInt8) (k : Int) (hk : ∀ v, Fm.num l = some v → k = v) : (Mt.codeB l).isSome = ((Fm.num l).isSome && decide (0 ≤ k) && decide ((l.length : Int) < 8)) ∧ ∀ n, Mt.codeB l = some n → k = n := by
  unfold Mt.codeB
  cases hn : Fm.num l with
  | none => exact ⟨rfl, fun n h => by cases h⟩
  | some v =>
    have := hk v hn
    subst this
    simp only [Option.isSome_some, Bool.true_and]
    by_cases h : 0 ≤ k ∧ l.length < 8
    · rw [if_pos h]
      exact ⟨by rw [decide_eq_true h.1, decide_eq_true (show (l.length : Int) < 8 by omega)]; rfl, fun n h => by injection h⟩
    · rw [if_neg h]
      refine ⟨?_, fun n h => by cases h⟩
      by_cases h0 : 0 ≤ k
      · rw [decide_eq_true h0, decide_eq_false (show ¬ (l.length : Int) < 8 by omega)]; rfl
      · rw [decide_eq_false h0]; rfl

set_option maxHeartbeats 4000000 in
theorem code_any (s : ByteArray) (hs : s.size ≤ 9223372036854775807) (w : World) : Calls Tryz.prog 53 #[.string s] w (fun e w' => ∃ c : Int, e = .returned (.tuple #[.int .i32 c, .bool (Mt.codeB s.data.toList).isSome]) ∧ (∀ n, Mt.codeB s.data.toList = some n → c = n) ∧ w' = w) := by
  have HP := Lib.hid (fun w => number_any s hs w)
  have HI := Lib.hid (fun k hk => codeB_is s.data.toList k hk)
  have HC := Lib.hid (fun n (h : Mt.codeB s.data.toList = some n) => code_bound h)
  have HZ : Hid (s.data.toList.length = s.size) := Lib.hid (size7 s).symm
  obtain ⟨L, hL⟩ : ∃ L, L = s.data.toList := ⟨_, rfl⟩
  rw [← hL] at HP HI HC HZ ⊢
  clear hL
  go_enter Tryz.func53, Tryz.ntmps53
  go_wp2_with fail
  refine (HP.out _).mono ?_
  rintro e w1 ⟨k, rfl, hk, rfl⟩
  obtain ⟨i1, i2⟩ := HI.out k hk
  have H1 := Lib.hid i1
  have H2 := Lib.hid i2
  clear i1 i2 hk
  generalize (Fm.num L).isSome = b at H1 ⊢
  have hwr : Hid (∀ n, Mt.codeB L = some n → wrap32 k = n) := Lib.hid (fun n h => by
    rw [← IntWalk.i32_left]
    have h1 := H2.out n h
    have h2 := HC.out n h
    subst h1
    exact IntWalk.i32_in _ (by omega))
  cases b with
  | false =>
    go_wp2
    go_ret2
    exact ⟨_, by rw [H1.out]; rfl, hwr.out, rfl⟩
  | true =>
    by_cases h0 : 0 ≤ k
    · have HD := Lib.hid (decide_eq_true h0)
      go_wp2
      go_ret2
      exact ⟨_, by rw [H1.out, HZ.out, HD.out]; rfl, hwr.out, rfl⟩
    · have HD := Lib.hid (decide_eq_false h0)
      go_wp2
      go_ret2
      exact ⟨_, by rw [H1.out, HD.out]; rfl, hwr.out, rfl⟩

set_option maxHeartbeats 4000000 in
theorem blank_any (c : Int) (hc : In32 c) (w : World) : Calls Tryz.prog 43 #[.int .i32 c] w (Ret (.string (str (32 :: Lib.itoa c))) w) := by
  unfold In32 at hc
  have HS := Lib.hid (fun w => signed_any c (by omega) (by omega) w)
  have hl := Lib.itoa_length_le c (by omega) (by omega)
  have HE : Hid ((⟨#[32]⟩ : ByteArray) ++ ⟨(Lib.itoa c).toArray⟩ = str (32 :: Lib.itoa c)) := Lib.hid (by
    apply ByteArray.ext
    simp [str])
  have e1 : ∀ wx, (Op.stringOp .add ⟨#[32]⟩ ⟨(Lib.itoa c).toArray⟩).run Tryz.prog wx = .ok (.string ((⟨#[32]⟩ : ByteArray) ++ ⟨(Lib.itoa c).toArray⟩)) wx := fun wx => by
    apply run_string_add_sum
    show 1 + (Lib.itoa c).toArray.size ≤ _
    simp only [List.size_toArray]
    omega
  go_enter Tryz.func43, Tryz.ntmps43
  go_wp2_with fail
  refine (HS.out _).mono ?_
  rintro e w1 ⟨rfl, hb1⟩
  go_wp2
  go_ret
  exact ⟨by rw [← HE.out]; rfl, by first | exact hb1 | (subst hb1; exact Below.refl _ _)⟩

set_option maxHeartbeats 4000000 in
theorem kinds_any (w : World) : Calls Tryz.prog 52 #[] w (fun e w' => ∃ v, e = .returned v ∧ StrsAt w' v [Mt.spaceW, Mt.hyphenW, Mt.charW, Mt.kernW, Mt.ligW] ∧ Below w.heap.size w w') := by
  have HB := Lib.hid (below_alloc w (.cells #[.string ⟨#[115, 112, 97, 99, 101]⟩, .string ⟨#[104, 121, 112, 104, 101, 110]⟩, .string ⟨#[99, 104, 97, 114]⟩, .string ⟨#[107, 101, 114, 110]⟩, .string ⟨#[108, 105, 103]⟩] 9))
  go_enter Tryz.func52, Tryz.ntmps52
  go_wp2
  go_ret
  refine ⟨_, rfl, ⟨⟨some ⟨w.heap.size, 0, none⟩, 5, rfl, by decide⟩, by unfold maxLen; decide, fun _ => ⟨w.heap.size, 0, 5, rfl, fun i s hs => ?_⟩⟩, HB.out⟩
  match i, hs with
  | 0, hs => simp at hs; subst hs; simp; rfl
  | 1, hs => simp at hs; subst hs; simp; rfl
  | 2, hs => simp at hs; subst hs; simp; rfl
  | 3, hs => simp at hs; subst hs; simp; rfl
  | 4, hs => simp at hs; subst hs; simp; rfl
  | n + 5, hs => simp at hs
end Go.Proofs.YtmehldekebphfaaGreatDoor

namespace Go.Proofs.YtmehldekebphfaaGreatDoor
open Go.RowKit

theorem obj_keptR {w w' : World} {b : Nat} {x : Obj} (hb : Below w.heap.size w w') (h : w.heap[b]? = some x) : w'.heap[b]? = some x := by
  have hl : b < w.heap.size := by
    rcases Nat.lt_or_ge b w.heap.size with h' | h'
    · exact h'
    · rw [Array.getElem?_eq_none h'] at h; cases h
  rw [hb.block _ hl]; exact h
theorem obj_ltR {w : World} {b : Nat} {x : Obj} (h : w.heap[b]? = some x) : b < w.heap.size := by
  rcases Nat.lt_or_ge b w.heap.size with h' | h'
  · exact h'
  · rw [Array.getElem?_eq_none h'] at h; cases h
theorem obj_newR (w : World) (p : Nat) (hp : w.heap.size = p) (cs : Array Value) (T : TypeId) : (w.alloc (.cells cs T)).heap[p]? = some (.cells cs T (0, 0)) := by subst hp; exact heap_alloc_new w _
theorem obj_setR {w : World} {b p i : Nat} {v : Value} {o : Obj} (h : w.heap[b]? = some o) (hne : b ≠ p) : (w.setCell ⟨p, i, none⟩ v).heap[b]? = some o := by rw [Below.heap_setCell w ⟨p, i, none⟩ v b hne]; exact h
theorem set7R (w : World) (p : Nat) (a0 a1 a2 a3 a4 a5 a6 : Value) {c0 c1 c2 c3 c4 c5 c6 : Value} {T : TypeId} (hp : w.heap[p]? = some (.cells #[c0, c1, c2, c3, c4, c5, c6] T (0, 0))) :
    (((((((w.setCell ⟨p, 0, none⟩ a0).setCell ⟨p, 1, none⟩ a1).setCell ⟨p, 2, none⟩ a2).setCell ⟨p, 3, none⟩ a3).setCell ⟨p, 4, none⟩ a4).setCell ⟨p, 5, none⟩ a5).setCell ⟨p, 6, none⟩ a6).heap[p]? = some (.cells #[a0, a1, a2, a3, a4, a5, a6] T (0, 0)) ∧ (∀ B, B ≤ p → Below B w (((((((w.setCell ⟨p, 0, none⟩ a0).setCell ⟨p, 1, none⟩ a1).setCell ⟨p, 2, none⟩ a2).setCell ⟨p, 3, none⟩ a3).setCell ⟨p, 4, none⟩ a4).setCell ⟨p, 5, none⟩ a5).setCell ⟨p, 6, none⟩ a6)) := by
  have hb : ∀ B, B ≤ p → Below B w w := fun B _ => Below.refl B w
  obtain ⟨w1, g0⟩ : ∃ wz : World, wz = w.setCell ⟨p, 0, none⟩ a0 := ⟨_, rfl⟩
  rw [← g0]
  have hp : w1.heap[p]? = some (.cells #[a0, c1, c2, c3, c4, c5, c6] T (0, 0)) := by rw [g0]; exact heap_setCell_same _ _ 0 _ _ a0 hp
  have hb : ∀ B, B ≤ p → Below B w w1 := fun B h1 => by rw [g0]; exact (hb B h1).setCell (p := ⟨p, 0, none⟩) h1 a0
  clear g0
  obtain ⟨w2, g1⟩ : ∃ wz : World, wz = w1.setCell ⟨p, 1, none⟩ a1 := ⟨_, rfl⟩
  rw [← g1]
  have hp : w2.heap[p]? = some (.cells #[a0, a1, c2, c3, c4, c5, c6] T (0, 0)) := by rw [g1]; exact heap_setCell_same _ _ 1 _ _ a1 hp
  have hb : ∀ B, B ≤ p → Below B w w2 := fun B h1 => by rw [g1]; exact (hb B h1).setCell (p := ⟨p, 1, none⟩) h1 a1
  clear g1
  obtain ⟨w3, g2⟩ : ∃ wz : World, wz = w2.setCell ⟨p, 2, none⟩ a2 := ⟨_, rfl⟩
  rw [← g2]
  have hp : w3.heap[p]? = some (.cells #[a0, a1, a2, c3, c4, c5, c6] T (0, 0)) := by rw [g2]; exact heap_setCell_same _ _ 2 _ _ a2 hp
  have hb : ∀ B, B ≤ p → Below B w w3 := fun B h1 => by rw [g2]; exact (hb B h1).setCell (p := ⟨p, 2, none⟩) h1 a2
  clear g2
  obtain ⟨w4, g3⟩ : ∃ wz : World, wz = w3.setCell ⟨p, 3, none⟩ a3 := ⟨_, rfl⟩
  rw [← g3]
  have hp : w4.heap[p]? = some (.cells #[a0, a1, a2, a3, c4, c5, c6] T (0, 0)) := by rw [g3]; exact heap_setCell_same _ _ 3 _ _ a3 hp
  have hb : ∀ B, B ≤ p → Below B w w4 := fun B h1 => by rw [g3]; exact (hb B h1).setCell (p := ⟨p, 3, none⟩) h1 a3
  clear g3
  obtain ⟨w5, g4⟩ : ∃ wz : World, wz = w4.setCell ⟨p, 4, none⟩ a4 := ⟨_, rfl⟩
  rw [← g4]
  have hp : w5.heap[p]? = some (.cells #[a0, a1, a2, a3, a4, c5, c6] T (0, 0)) := by rw [g4]; exact heap_setCell_same _ _ 4 _ _ a4 hp
  have hb : ∀ B, B ≤ p → Below B w w5 := fun B h1 => by rw [g4]; exact (hb B h1).setCell (p := ⟨p, 4, none⟩) h1 a4
  clear g4
  obtain ⟨w6, g5⟩ : ∃ wz : World, wz = w5.setCell ⟨p, 5, none⟩ a5 := ⟨_, rfl⟩
  rw [← g5]
  have hp : w6.heap[p]? = some (.cells #[a0, a1, a2, a3, a4, a5, c6] T (0, 0)) := by rw [g5]; exact heap_setCell_same _ _ 5 _ _ a5 hp
  have hb : ∀ B, B ≤ p → Below B w w6 := fun B h1 => by rw [g5]; exact (hb B h1).setCell (p := ⟨p, 5, none⟩) h1 a5
  clear g5
  obtain ⟨w7, g6⟩ : ∃ wz : World, wz = w6.setCell ⟨p, 6, none⟩ a6 := ⟨_, rfl⟩
  rw [← g6]
  have hp : w7.heap[p]? = some (.cells #[a0, a1, a2, a3, a4, a5, a6] T (0, 0)) := by rw [g6]; exact heap_setCell_same _ _ 6 _ _ a6 hp
  have hb : ∀ B, B ≤ p → Below B w w7 := fun B h1 => by rw [g6]; exact (hb B h1).setCell (p := ⟨p, 6, none⟩) h1 a6
  clear g6
  exact ⟨hp, hb⟩

def rowV : Mt.Ln → Value
  | .space x1 x2 x3 => .agg #[.int .i64 0, .int .i32 0, .int .i32 0, .int .i32 0, .int .i64 x1, .int .i64 x2, .int .i64 x3]
  | .hyphen x1 => .agg #[.int .i64 1, .int .i32 x1, .int .i32 0, .int .i32 0, .int .i64 0, .int .i64 0, .int .i64 0]
  | .char x1 x2 x3 x4 => .agg #[.int .i64 2, .int .i32 x1, .int .i32 0, .int .i32 0, .int .i64 x2, .int .i64 x3, .int .i64 x4]
  | .kern x1 x2 x3 => .agg #[.int .i64 3, .int .i32 x1, .int .i32 x2, .int .i32 0, .int .i64 x3, .int .i64 0, .int .i64 0]
  | .lig x1 x2 x3 => .agg #[.int .i64 4, .int .i32 x1, .int .i32 x2, .int .i32 x3, .int .i64 0, .int .i64 0, .int .i64 0]
/-- what row answers -/
def RowPost (s : List UInt8) (w : World) (e : Ending) (w' : World) : Prop := (match Mt.row s with
  | some ln => e = .returned (.tuple #[rowV ln, .bool true])
  | none => ∃ k a b c d f g : Int, e = .returned (.tuple #[.agg #[.int .i64 k, .int .i32 a, .int .i32 b, .int .i32 c, .int .i64 d, .int .i64 f, .int .i64 g], .bool false])) ∧ Below w.heap.size w w'
def kinds5 : List (List UInt8) := [Mt.spaceW, Mt.hyphenW, Mt.charW, Mt.kernW, Mt.ligW]
/-- the place of a word among the lines' first words ahead of place i, or -1 -/
def kd (u : List UInt8) : Nat → Int
  | 0 => -1
  | i + 1 => if kinds5[i]? = some u then i else kd u i
theorem kd_five (u : List UInt8) : (u = Mt.spaceW ∧ kd u 5 = 0) ∨ (u = Mt.hyphenW ∧ kd u 5 = 1) ∨ (u = Mt.charW ∧ kd u 5 = 2) ∨ (u = Mt.kernW ∧ kd u 5 = 3) ∨ (u = Mt.ligW ∧ kd u 5 = 4) ∨ ((u ≠ Mt.spaceW ∧ u ≠ Mt.hyphenW ∧ u ≠ Mt.charW ∧ u ≠ Mt.kernW ∧ u ≠ Mt.ligW) ∧ kd u 5 = -1) := by
  by_cases h0 : u = Mt.spaceW
  · subst h0; exact .inl ⟨rfl, by decide⟩
  by_cases h1 : u = Mt.hyphenW
  · subst h1; exact .inr (.inl ⟨rfl, by decide⟩)
  by_cases h2 : u = Mt.charW
  · subst h2; exact .inr (.inr (.inl ⟨rfl, by decide⟩))
  by_cases h3 : u = Mt.kernW
  · subst h3; exact .inr (.inr (.inr (.inl ⟨rfl, by decide⟩)))
  by_cases h4 : u = Mt.ligW
  · subst h4; exact .inr (.inr (.inr (.inr (.inl ⟨rfl, by decide⟩))))
  refine .inr (.inr (.inr (.inr (.inr ⟨⟨h0, h1, h2, h3, h4⟩, ?_⟩))))
  simp [kd, kinds5, Ne.symm h0, Ne.symm h1, Ne.symm h2, Ne.symm h3, Ne.symm h4]
theorem str_injR {a b : List UInt8} (h : str a = str b) : a = b := by
  have := congrArg (fun x : ByteArray => x.data.toList) h
  simpa [str] using this
theorem parseV_len {l : List UInt8} {n : Int} (h : Mt.lenB l = some n) : parseV l = n := by
  obtain ⟨h1, h2⟩ := Mt.lenB_some h
  subst h1
  unfold parseV
  rw [Sc.parse_print h2]
  rfl
theorem length_ok (l : List UInt8) (hl : l.length ≤ 4294967296) (w : World) : (∀ n, Mt.lenB l = some n → Calls Tryz.prog 54 #[.string (str l)] w (Ret (.tuple #[.int .i64 n, .bool true]) w)) ∧ (Mt.lenB l = none → ∃ n : Int, Calls Tryz.prog 54 #[.string (str l)] w (Ret (.tuple #[.int .i64 n, .bool false]) w)) := by
  have h := length_any (str l) (by rw [str_size]; omega) w
  rw [str_data] at h
  refine ⟨fun n hn => ?_, fun hn => ?_⟩
  · rw [hn, parseV_len hn] at h; exact h
  · rw [hn] at h; exact ⟨_, h⟩
theorem code_ok (l : List UInt8) (hl : l.length ≤ 4294967296) (w : World) : (∀ n, Mt.codeB l = some n → Calls Tryz.prog 53 #[.string (str l)] w (Ret (.tuple #[.int .i32 n, .bool true]) w)) ∧ (Mt.codeB l = none → Calls Tryz.prog 53 #[.string (str l)] w (fun e w' => ∃ n : Int, e = .returned (.tuple #[.int .i32 n, .bool false]) ∧ Below w.heap.size w w')) := by
  have h := code_any (str l) (by rw [str_size]; omega) w
  rw [str_data] at h
  refine ⟨fun n hn => h.mono fun e w' ⟨c, he, hc, hw⟩ => ?_, fun hn => h.mono fun e w' ⟨c, he, hc, hw⟩ => ?_⟩
  · rw [hn] at he
    rw [hc n hn] at he
    exact ⟨he, by rw [hw]; exact Below.refl _ _⟩
  · rw [hn] at he
    exact ⟨c, he, by rw [hw]; exact Below.refl _ _⟩

/-- only the block P turns */ -/
structure Kept (P : Nat) (w w' : World) : Prop where
  size : w.heap.size ≤ w'.heap.size
  far : ∀ (b : Nat) (x : Obj), b ≠ P → w.heap[b]? = some x → w'.heap[b]? = some x
  below : ∀ B, B ≤ P → Below B w w'
theorem Kept.refl (P : Nat) (w : World) : Kept P w w := ⟨Nat.le_refl _, fun _ _ _ h => h, fun B _ => Below.refl B w⟩
theorem Kept.trans {P : Nat} {w w1 w2 : World} (h : Kept P w w1) (g : Kept P w1 w2) : Kept P w w2 := ⟨Nat.le_trans h.size g.size, fun b x h1 h2 => g.far b x h1 (h.far b x h1 h2), fun B hB => (h.below B hB).trans (g.below B hB)⟩
theorem Kept.of {P : Nat} {w w' : World} (h : Below w.heap.size w w') (hP : P ≤ w.heap.size) : Kept P w w' := ⟨h.size, fun b x _ h2 => obj_keptR h h2, fun B hB => h.mono (Nat.le_trans hB hP)⟩
theorem Kept.set (P i : Nat) (v : Value) (w : World) : Kept P w (w.setCell ⟨P, i, none⟩ v) := ⟨((Below.refl 0 w).setCell (p := ⟨P, i, none⟩) (Nat.zero_le _) v).size, fun b x h1 h2 => obj_setR h2 h1, fun B hB => (Below.refl B w).setCell (p := ⟨P, i, none⟩) hB v⟩
theorem Kept.cell {P : Nat} {w w' : World} (h : Kept P w w') {a : Addr} {v : Value} (hne : a.block ≠ P) (hc : w.cell? a = some v) : w'.cell? a = some v := by
  cases hh : w.heap[a.block]? with
  | none => unfold World.cell? at hc; rw [hh] at hc; cases hc
  | some x =>
    have h2 := h.far _ _ hne hh
    have e : w'.cell? a = w.cell? a := by
      unfold World.cell?
      rw [hh, h2]
    rw [e]; exact hc
theorem cell_ltR {w : World} {a : Addr} {v : Value} (hc : w.cell? a = some v) : a.block < w.heap.size := by
  cases hh : w.heap[a.block]? with
  | none => unfold World.cell? at hc; rw [hh] at hc; cases hc
  | some x => exact obj_ltR hh
theorem toL_yes {a b : List UInt8} (h : a = b) : ((str a).toList == (str b).toList) = true := by subst h; exact beq_self_eq_true _
theorem toL_no {a b : List UInt8} (h : a ≠ b) : ((str a).toList == (str b).toList) = false := beq_eq_false_iff_ne.2 fun e => h (by rw [Lib.toList_data, Lib.toList_data, str_data, str_data] at e; exact e)
theorem join_le {c : UInt8} {u : List UInt8} : ∀ {l : List (List UInt8)}, u ∈ l → u.length ≤ (Mt.join c l).length
  | [x], h => by simp at h; subst h; simp [Mt.join]
  | x :: y :: r, h => by
    rw [Mt.join_cons c x (by simp)]
    rcases List.mem_cons.1 h with rfl | h
    · simp
    · have := join_le (c := c) h
      simp only [List.length_append, List.length_cons]
      omega
theorem rowOf_no {u : List UInt8} {r : List (List UInt8)} (h : u ≠ Mt.spaceW ∧ u ≠ Mt.hyphenW ∧ u ≠ Mt.charW ∧ u ≠ Mt.kernW ∧ u ≠ Mt.ligW) : Mt.rowOf (u :: r) = none := by
  obtain ⟨h0, h1, h2, h3, h4⟩ := h
  unfold Mt.rowOf
  split <;> simp_all
theorem rowOf_len0 : ∀ {r : List (List UInt8)}, r.length ≠ 3 → Mt.rowOf (Mt.spaceW :: r) = none
  | [], _ => rfl
  | [a], h => by simp [Mt.rowOf, show ¬ Mt.spaceW = Mt.hyphenW by decide]
  | [a, b], _ => rfl
  | [a, b, c], h => absurd rfl h
  | [a, b, c, d], h => by simp [Mt.rowOf, show ¬ Mt.spaceW = Mt.charW by decide]
  | a :: b :: c :: d :: e :: t, _ => rfl
theorem rowOf_len1 : ∀ {r : List (List UInt8)}, r.length ≠ 1 → Mt.rowOf (Mt.hyphenW :: r) = none
  | [], _ => rfl
  | [a], h => absurd rfl h
  | [a, b], _ => rfl
  | [a, b, c], h => by simp [Mt.rowOf, show ¬ Mt.hyphenW = Mt.spaceW by decide, show ¬ Mt.hyphenW = Mt.kernW by decide, show ¬ Mt.hyphenW = Mt.ligW by decide]
  | [a, b, c, d], h => by simp [Mt.rowOf, show ¬ Mt.hyphenW = Mt.charW by decide]
  | a :: b :: c :: d :: e :: t, _ => rfl
theorem rowOf_len2 : ∀ {r : List (List UInt8)}, r.length ≠ 4 → Mt.rowOf (Mt.charW :: r) = none
  | [], _ => rfl
  | [a], h => by simp [Mt.rowOf, show ¬ Mt.charW = Mt.hyphenW by decide]
  | [a, b], _ => rfl
  | [a, b, c], h => by simp [Mt.rowOf, show ¬ Mt.charW = Mt.spaceW by decide, show ¬ Mt.charW = Mt.kernW by decide, show ¬ Mt.charW = Mt.ligW by decide]
  | [a, b, c, d], h => absurd rfl h
  | a :: b :: c :: d :: e :: t, _ => rfl
theorem rowOf_len3 : ∀ {r : List (List UInt8)}, r.length ≠ 3 → Mt.rowOf (Mt.kernW :: r) = none
  | [], _ => rfl
  | [a], h => by simp [Mt.rowOf, show ¬ Mt.kernW = Mt.hyphenW by decide]
  | [a, b], _ => rfl
  | [a, b, c], h => absurd rfl h
  | [a, b, c, d], h => by simp [Mt.rowOf, show ¬ Mt.kernW = Mt.charW by decide]
  | a :: b :: c :: d :: e :: t, _ => rfl
theorem rowOf_len4 : ∀ {r : List (List UInt8)}, r.length ≠ 3 → Mt.rowOf (Mt.ligW :: r) = none
  | [], _ => rfl
  | [a], h => by simp [Mt.rowOf, show ¬ Mt.ligW = Mt.hyphenW by decide]
  | [a, b], _ => rfl
  | [a, b, c], h => absurd rfl h
  | [a, b, c, d], h => by simp [Mt.rowOf, show ¬ Mt.ligW = Mt.charW by decide]
  | a :: b :: c :: d :: e :: t, _ => rfl

theorem len1R {r : List (List UInt8)} (h : r.length = 1) : ∃ u1, r = [u1] := by
  match r, h with
  | [u1], _ => exact ⟨_, rfl⟩
theorem len3R {r : List (List UInt8)} (h : r.length = 3) : ∃ u1 u2 u3, r = [u1, u2, u3] := by
  match r, h with
  | [u1, u2, u3], _ => exact ⟨_, _, _, rfl⟩
theorem len4R {r : List (List UInt8)} (h : r.length = 4) : ∃ u1 u2 u3 u4, r = [u1, u2, u3, u4] := by
  match r, h with
  | [u1, u2, u3, u4], _ => exact ⟨_, _, _, _, rfl⟩
theorem three_no {α : Type} {f : Int → Int → Int → α} {a b c : Option Int} (h : a = none ∨ b = none ∨ c = none) : Mt.three f a b c = none := by
  rcases h with rfl | rfl | rfl <;> (unfold Mt.three; split <;> simp_all)

set_option maxHeartbeats 16000000 in
set_option maxRecDepth 100000 in
theorem refRow_any (s : ByteArray) (hs : s.size ≤ 4294967296) (w : World) : Calls Tryz.prog 25 #[.string s] w (RowPost s.data.toList w) := by
  obtain ⟨ws, hws⟩ : ∃ l, l = Mt.split 32 s.data.toList := ⟨_, rfl⟩
  have hrow : Mt.row s.data.toList = Mt.rowOf ws := by unfold Mt.row; rw [hws]
  have hne : ws ≠ [] := by rw [hws]; exact Mt.split_ne 32 _
  have hln : ∀ u ∈ ws, u.length ≤ 4294967296 := by
    rw [hws]
    intro u hu
    have h1 : (Mt.join 32 (Mt.split 32 s.data.toList)).length = s.data.toList.length := by rw [Mt.join_split]
    have h2 := join_le (c := 32) hu
    have h3 : s.size = s.data.toList.length := size7 s
    omega
  have cS : Hid (∀ w', Calls Tryz.prog 22 #[.string s, .int .u8 32] w' (fun e w2 => ∃ v, e = .returned v ∧ StrsAt w2 v ws ∧ Below w'.heap.size w' w2)) := Lib.hid (fun w' => (split_any s hs 32 w').mono fun e w2 ⟨v, he, ho, hb⟩ => ⟨v, he, by rw [hws]; exact ho.at, hb⟩)
  have cK := Lib.hid (fun w' => kinds_any w')
  have HNoP : Hid (Mt.rowOf ws = none → ∀ (k a b c d f g : Int) (w' : World), Below w.heap.size w w' → RowPost s.data.toList w (.returned (.tuple #[.agg #[.int .i64 k, .int .i32 a, .int .i32 b, .int .i32 c, .int .i64 d, .int .i64 f, .int .i64 g], .bool false])) w') := Lib.hid (fun h k a b c d f g w' hb => by
    unfold RowPost
    rw [hrow, h]
    exact ⟨⟨_, _, _, _, _, _, _, rfl⟩, hb⟩)
  have HYesP : Hid (∀ ln, Mt.rowOf ws = some ln → ∀ (w' : World), Below w.heap.size w w' → RowPost s.data.toList w (.returned (.tuple #[rowV ln, .bool true])) w') := Lib.hid (fun ln h w' hb => by
    unfold RowPost
    rw [hrow, h]
    exact ⟨rfl, hb⟩)
  have Hne := Lib.hid hne
  have Hln := Lib.hid hln
  obtain ⟨n, hn⟩ : ∃ n, n = ws.length := ⟨_, rfl⟩
  have Hn := Lib.hid hn
  have hnp : 0 < n := by rw [hn]; exact List.length_pos_iff.2 hne
  clear hws hrow hne hln hn
  obtain ⟨u0, hu0⟩ : ∃ u, ws[0]? = some u := ⟨_, List.getElem?_eq_getElem (by rw [← Hn.out]; exact hnp)⟩
  have Hu0 := Lib.hid hu0
  clear hu0
  have HZ0 : Hid ((w.alloc (.cells #[.int .i64 0, .int .i32 0, .int .i32 0, .int .i32 0, .int .i64 0, .int .i64 0, .int .i64 0] 65)).heap[w.heap.size]? = some (.cells #[.int .i64 0, .int .i32 0, .int .i32 0, .int .i32 0, .int .i64 0, .int .i64 0, .int .i64 0] 65 (0, 0))) := Lib.hid (obj_newR w _ rfl _ _)
  have HB0 := Lib.hid (below_alloc w (.cells #[.int .i64 0, .int .i32 0, .int .i32 0, .int .i32 0, .int .i64 0, .int .i64 0, .int .i64 0] 65))
  obtain ⟨W0, hW0⟩ : ∃ W, W = w.alloc (.cells #[.int .i64 0, .int .i32 0, .int .i32 0, .int .i32 0, .int .i64 0, .int .i64 0, .int .i64 0] 65) := ⟨_, rfl⟩
  rw [← hW0] at HZ0 HB0
  go_enter Tryz.func25, Tryz.ntmps25
  go_upto_region 1 with fail
  rw [← hW0]
  clear hW0
  go_wp2_with fail
  refine (cS.out _).mono ?_
  rintro e w1 ⟨v4, rfl, h4, hb1⟩
  obtain ⟨P5, hP5⟩ : ∃ p, p = w1.heap.size := ⟨_, rfl⟩
  obtain ⟨W1, hW1⟩ : ∃ W, W = w1.alloc (.cells #[.int .i64 (-1), .int .i32 0, .int .i32 0, .int .i32 0, .int .i64 0, .int .i64 0, .int .i64 0] 65) := ⟨_, rfl⟩
  have hba : Below w1.heap.size w1 W1 := by rw [hW1]; exact below_alloc _ _
  have HR1 : Hid (W1.heap[P5]? = some (.cells #[.int .i64 (-1), .int .i32 0, .int .i32 0, .int .i32 0, .int .i64 0, .int .i64 0, .int .i64 0] 65 (0, 0))) := Lib.hid (by rw [hW1]; exact obj_newR _ _ hP5.symm _ _)
  have HS1 := Lib.hid (h4.mono hba)
  have HZ1 := Lib.hid (obj_keptR hba (obj_keptR hb1 HZ0.out))
  have HB1 := Lib.hid (below_step HB0.out (below_step hb1 hba))
  have HnZ : Hid (w.heap.size < P5) := Lib.hid (by rw [hP5]; exact obj_ltR (obj_keptR hb1 HZ0.out))
  have hB4 : Hid (∀ a c, v4 = .slice (some a) ws.length c → a.spot = none → a.block ≠ P5) := Lib.hid (fun a c e hsp => by
    obtain ⟨B, o', c', e2, q2⟩ := h4.2.2 (by rw [← Hn.out]; exact hnp)
    rw [e] at e2
    injection e2 with e3 _ _
    injection e3 with e3
    subst e3
    have := cell_ltR (q2 0 u0 Hu0.out)
    rw [hP5]
    exact Nat.ne_of_lt this)
  clear h4 hb1 hba HZ0 HB0
  obtain ⟨⟨a4, c4, rfl, _⟩, _, _⟩ := HS1.out
  obtain ⟨B4, o4, d4, e4, q4⟩ := HS1.out.2.2 (by rw [← Hn.out]; exact hnp)
  replace hB4 := Lib.hid (hB4.out ⟨B4, o4, none⟩ d4 (by rw [e4]) rfl)
  obtain ⟨rfl, rfl⟩ : a4 = some ⟨B4, o4, none⟩ ∧ c4 = d4 := by injection e4 with p1 p2 p3; exact ⟨p1, p3⟩
  rw [← Hn.out] at HS1 ⊢
  have HW1 : Hid (∀ i u, ws[i]? = some u → W1.cell? ⟨B4, o4 + i, none⟩ = some (.string (str u))) := Lib.hid q4
  clear e4 q4
  go_upto_region 3 with fail
  rw [← hW1, ← hP5]
  clear hW1 hP5
  go_wp2_with fail
  refine (cK.out _).mono ?_
  rintro e w2 ⟨v6, rfl, h6, hb2⟩
  have HR2 := Lib.hid (obj_keptR hb2 HR1.out)
  have HZ2 := Lib.hid (obj_keptR hb2 HZ1.out)
  have HB2 := Lib.hid (below_step HB1.out hb2)
  obtain ⟨⟨a6, c6, rfl, _⟩, _, g6⟩ := h6
  obtain ⟨B6, o6, d6, e6, q6⟩ := g6 (by decide)
  obtain ⟨rfl, rfl⟩ : a6 = some ⟨B6, o6, none⟩ ∧ c6 = d6 := by injection e6 with p1 p2 p3; exact ⟨p1, p3⟩
  clear g6
  simp only [List.length_cons, List.length_nil, Nat.zero_add, Nat.reduceAdd] at e6 ⊢
  have H6k : Hid (∀ i u, kinds5[i]? = some u → w2.cell? ⟨B6, o6 + i, none⟩ = some (.string (str u))) := Lib.hid q6
  have HW2 : Hid (∀ i u, ws[i]? = some u → w2.cell? ⟨B4, o4 + i, none⟩ = some (.string (str u))) := Lib.hid (fun i u hu => cell_below hb2 (HW1.out i u hu))
  have hB6 : B6 ≠ P5 := fun e => by
    have h1 := q6 0 _ rfl
    rw [e, Lib.cell_of_heap HR2.out] at h1
    have h2 := Array.mem_of_getElem? h1
    simp at h2
  have hB6' := Lib.hid hB6
  have HL2 := Lib.hid (Nat.le_refl w2.heap.size)
  clear q6 hb2 hB6 HR1 HZ1 HB1 HS1 e6
  have HnP : Hid (P5 ≤ w2.heap.size) := Lib.hid (Nat.le_of_lt (obj_ltR HR2.out))
  go_wp2_with fail
  go_loopw [7] (fun iv wr => ∃ i : Nat, i ≤ 5 ∧ iv = .int .i64 i ∧ Hid (wr.heap[P5]? = some (.cells #[.int .i64 (kd u0 i), .int .i32 0, .int .i32 0, .int .i32 0, .int .i64 0, .int .i64 0, .int .i64 0] 65 (0, 0))) ∧ Hid (Kept P5 w2 wr)) (fun iv _ => 5 - (intOf iv).toNat)
  case atStart => exact ⟨0, by omega, rfl, HR2, Lib.hid (Kept.refl _ _)⟩
  case round =>
    obtain ⟨i, hi, rfl, HR, HK⟩ := hrel
    clear HR2
    by_cases hlt : i < 5
    · obtain ⟨x, hx⟩ : ∃ x, kinds5[i]? = some x := ⟨_, List.getElem?_eq_getElem (by show i < 5; exact hlt)⟩
      have y0 := HK.out.cell (a := ⟨B6, o6 + i, none⟩) hB6'.out (H6k.out i x hx)
      have y1 := HK.out.cell (a := ⟨B4, o4, none⟩) hB4.out (by have h := HW2.out 0 u0 Hu0.out; simpa using h)
      have i0 : (0 : Int) ≤ (i : Int) := by omega
      have il : (i : Int) < 5 := by omega
      have n0 : (0 : Int) < (n : Int) := by omega
      by_cases hxu : x = u0
      · have q := toL_yes hxu
        have HN : Hid (kd u0 (i + 1) = i) := Lib.hid (by unfold kd; rw [hx, hxu]; simp)
        have c0 := Lib.cell_of_heap HR.out 0
        have d0 := Lib.frozen_of_heap HR.out 0
        clear hx hxu
        go_wp2_with fail
        go_quiet (fail)
        go_wp2
        go_roundw
        case rel => exact ⟨i + 1, by omega, by go_num, Lib.hid (by rw [HN.out]; exact heap_setCell_same _ _ 0 _ _ _ HR.out), Lib.hid (HK.out.trans ((Kept.of (below_drew _ _) (Nat.le_trans HnP.out HK.out.size)).trans (Kept.set _ _ _ _)))⟩
        case measure => simp [intOf]; omega
      · have q := toL_no hxu
        have HN : Hid (kd u0 (i + 1) = kd u0 i) := Lib.hid (by unfold kd; rw [hx, if_neg (fun e => hxu (Option.some.inj e))]; cases i <;> rfl)
        clear hx hxu
        go_wp2_with fail
        go_quiet (fail)
        go_wp2
        go_roundw
        case rel => exact ⟨i + 1, by omega, by go_num, Lib.hid (by rw [HN.out]; exact HR.out), Lib.hid (HK.out.trans (Kept.of (below_drew _ _) (Nat.le_trans HnP.out HK.out.size)))⟩
        case measure => simp [intOf]; omega
    · obtain rfl : i = 5 := by omega
      rw [show ((5 : Nat) : Int) = 5 from rfl]
      have HZ := Lib.hid (HK.out.far _ _ (Nat.ne_of_lt HnZ.out) HZ2.out)
      obtain ⟨W3, hW3⟩ : ∃ W, W = wr := ⟨_, rfl⟩
      rw [← hW3] at HR HK HZ ⊢
      clear hW3
      have HB3 := Lib.hid (HB2.out.trans (HK.out.below _ (Nat.le_of_lt HnZ.out)))
      have HW3 : Hid (∀ i u, ws[i]? = some u → W3.cell? ⟨B4, o4 + i, none⟩ = some (.string (str u))) := Lib.hid (fun i u hu => HK.out.cell (a := ⟨B4, o4 + i, none⟩) hB4.out (HW2.out i u hu))
      have HP3 : Hid (P5 ≤ W3.heap.size) := Lib.hid (Nat.le_trans HnP.out HK.out.size)
      clear HK HB2 HW2 HZ2 hi hlt H6k hB6' HnP HL2
      have hAl : ∀ W, W = (W3.alloc (.cells #[.int .i64 0, .int .i64 1, .int .i64 1, .int .i64 2, .int .i64 3] 3)).alloc (.cells #[.int .i64 3, .int .i64 0, .int .i64 3, .int .i64 1, .int .i64 0] 3) →
          Below W3.heap.size W3 W ∧ W.heap[W3.heap.size]? = some (.cells #[.int .i64 0, .int .i64 1, .int .i64 1, .int .i64 2, .int .i64 3] 3 (0, 0)) ∧ W.heap[W3.heap.size + 1]? = some (.cells #[.int .i64 3, .int .i64 0, .int .i64 3, .int .i64 1, .int .i64 0] 3 (0, 0)) := fun W e => by
        subst e
        exact ⟨below_step (below_alloc _ _) (below_alloc _ _), obj_keptR (below_alloc _ _) (obj_newR _ _ rfl _ _), obj_newR _ _ (World.size_alloc _ _) _ _⟩
      have HAl := Lib.hid hAl
      clear hAl
      obtain ⟨rw0, hrw⟩ : ∃ r, ws = u0 :: r := by
        cases hw : ws with
        | nil => exact absurd hw Hne.out
        | cons a r => have h := Hu0.out; rw [hw] at h; simp at h; exact ⟨r, by rw [h]⟩
      have Hrw := Lib.hid hrw
      clear hrw
      rcases kd_five u0 with ⟨hu, hk⟩ | ⟨hu, hk⟩ | ⟨hu, hk⟩ | ⟨hu, hk⟩ | ⟨hu, hk⟩ | ⟨hu, hk⟩
      · rw [hk] at HR
        go_upto_region 10 with fail
        obtain ⟨W4, hW4⟩ : ∃ W, W = (W3.alloc (.cells #[.int .i64 0, .int .i64 1, .int .i64 1, .int .i64 2, .int .i64 3] 3)).alloc (.cells #[.int .i64 3, .int .i64 0, .int .i64 3, .int .i64 1, .int .i64 0] 3) := ⟨_, rfl⟩
        obtain ⟨hb34, hCo, hLe⟩ := HAl.out W4 hW4
        obtain ⟨P8, hP8⟩ : ∃ p, p = W3.heap.size := ⟨_, rfl⟩
        have HP8 : Hid (P5 ≤ P8) := Lib.hid (by rw [hP8]; exact HP3.out)
        rw [← hP8] at hCo hLe
        have HR4 := Lib.hid (obj_keptR hb34 HR.out)
        have HZ4 := Lib.hid (obj_keptR hb34 HZ.out)
        have HB4 := Lib.hid (below_step HB3.out hb34)
        have HW4 : Hid (∀ i u, ws[i]? = some u → W4.cell? ⟨B4, o4 + i, none⟩ = some (.string (str u))) := Lib.hid (fun i u hu => cell_below hb34 (HW3.out i u hu))
        have HCo := Lib.hid hCo
        have HLe := Lib.hid hLe
        have HnP8 : Hid (P8 ≠ P5 ∧ P8 + 1 ≠ P5) := Lib.hid (by
          have h1 := obj_ltR HR.out
          rw [← hP8] at h1
          omega)
        rw [← hW4, ← hP8]
        clear hW4 hP8 hb34 hCo hLe HR HZ HB3 HW3 HAl hk
        have k0 := Lib.cell_of_heap HR4.out 0
        subst hu
        have m0 := Lib.cell_of_heap HCo.out 0
        have m1 := Lib.cell_of_heap HLe.out 0
        by_cases hnT : n = 4
        · have hlen : rw0.length = 3 := by
            have h := Hn.out
            rw [Hrw.out, hnT, List.length_cons] at h
            omega
          obtain ⟨wd1, wd2, wd3, rfl⟩ : ∃ wd1 wd2 wd3, rw0 = [wd1, wd2, wd3] := len3R hlen
          clear hlen
          have HRow : Hid (Mt.rowOf ws = Mt.three .space (Mt.lenB wd1) (Mt.lenB wd2) (Mt.lenB wd3)) := Lib.hid (by rw [Hrw.out]; simp [Mt.rowOf])
          have hl1 : wd1.length ≤ 4294967296 := Hln.out _ (by rw [Hrw.out]; simp)
          have HU1 : Hid (∀ w, (∀ n, Mt.lenB wd1 = some n → Calls Tryz.prog 54 #[.string (str wd1)] w (Ret (.tuple #[.int .i64 n, .bool true]) w)) ∧ (Mt.lenB wd1 = none → ∃ n : Int, Calls Tryz.prog 54 #[.string (str wd1)] w (Ret (.tuple #[.int .i64 n, .bool false]) w))) := Lib.hid (fun w => length_ok wd1 hl1 w)
          have HX1 : Hid (W4.cell? ⟨B4, o4 + 1, none⟩ = some (.string (str wd1))) := Lib.hid (HW4.out 1 wd1 (by rw [Hrw.out]; rfl))
          have hl2 : wd2.length ≤ 4294967296 := Hln.out _ (by rw [Hrw.out]; simp)
          have HU2 : Hid (∀ w, (∀ n, Mt.lenB wd2 = some n → Calls Tryz.prog 54 #[.string (str wd2)] w (Ret (.tuple #[.int .i64 n, .bool true]) w)) ∧ (Mt.lenB wd2 = none → ∃ n : Int, Calls Tryz.prog 54 #[.string (str wd2)] w (Ret (.tuple #[.int .i64 n, .bool false]) w))) := Lib.hid (fun w => length_ok wd2 hl2 w)
          have HX2 : Hid (W4.cell? ⟨B4, o4 + 2, none⟩ = some (.string (str wd2))) := Lib.hid (HW4.out 2 wd2 (by rw [Hrw.out]; rfl))
          have hl3 : wd3.length ≤ 4294967296 := Hln.out _ (by rw [Hrw.out]; simp)
          have HU3 : Hid (∀ w, (∀ n, Mt.lenB wd3 = some n → Calls Tryz.prog 54 #[.string (str wd3)] w (Ret (.tuple #[.int .i64 n, .bool true]) w)) ∧ (Mt.lenB wd3 = none → ∃ n : Int, Calls Tryz.prog 54 #[.string (str wd3)] w (Ret (.tuple #[.int .i64 n, .bool false]) w))) := Lib.hid (fun w => length_ok wd3 hl3 w)
          have HX3 : Hid (W4.cell? ⟨B4, o4 + 3, none⟩ = some (.string (str wd3))) := Lib.hid (HW4.out 3 wd3 (by rw [Hrw.out]; rfl))
          clear hl1 hl2 hl3
          subst hnT
          go_quiet (fail)
          obtain ⟨W5, hW5⟩ : ∃ W, W = W4.drewN nq := ⟨_, rfl⟩
          have HR5 : Hid (W5.heap[P5]? = some (.cells #[.int .i64 0, .int .i32 0, .int .i32 0, .int .i32 0, .int .i64 0, .int .i64 0, .int .i64 0] 65 (0, 0))) := Lib.hid (by rw [hW5]; exact HR4.out)
          have HZ5 : Hid (W5.heap[w.heap.size]? = some (.cells #[.int .i64 0, .int .i32 0, .int .i32 0, .int .i32 0, .int .i64 0, .int .i64 0, .int .i64 0] 65 (0, 0))) := Lib.hid (by rw [hW5]; exact HZ4.out)
          have HB5 : Hid (Below w.heap.size w W5) := Lib.hid (by rw [hW5]; exact below_step HB4.out (below_drew _ _))
          have HC5 : Hid (W5.heap[P8]? = some (.cells #[.int .i64 0, .int .i64 1, .int .i64 1, .int .i64 2, .int .i64 3] 3 (0, 0))) := Lib.hid (by rw [hW5]; exact HCo.out)
          have HY1 : Hid (W5.cell? ⟨B4, o4 + 1, none⟩ = some (.string (str wd1))) := Lib.hid (by rw [hW5]; exact HX1.out)
          have HY2 : Hid (W5.cell? ⟨B4, o4 + 2, none⟩ = some (.string (str wd2))) := Lib.hid (by rw [hW5]; exact HX2.out)
          have HY3 : Hid (W5.cell? ⟨B4, o4 + 3, none⟩ = some (.string (str wd3))) := Lib.hid (by rw [hW5]; exact HX3.out)
          have HP5 : Hid (P5 ≤ W5.heap.size) := Lib.hid (Nat.le_of_lt (obj_ltR HR5.out))
          rw [← hW5]
          clear hW5 k0 m0 m1
          go_wp2_with fail
          go_loopw [10] (fun iv wr => ∃ jj : Nat, iv = .int .i64 (jj : Int) ∧ ((jj = 1 ∧ Hid (wr.heap[P5]? = some (.cells #[.int .i64 0, .int .i32 0, .int .i32 0, .int .i32 0, .int .i64 0, .int .i64 0, .int .i64 0] 65 (0, 0)))) ∨ (jj = 2 ∧ ∃ x1 : Int, Hid (Mt.lenB wd1 = some x1) ∧ Hid (wr.heap[P5]? = some (.cells #[.int .i64 0, .int .i32 0, .int .i32 0, .int .i32 0, .int .i64 x1, .int .i64 0, .int .i64 0] 65 (0, 0)))) ∨ (jj = 3 ∧ ∃ x1 x2 : Int, Hid (Mt.lenB wd1 = some x1) ∧ Hid (Mt.lenB wd2 = some x2) ∧ Hid (wr.heap[P5]? = some (.cells #[.int .i64 0, .int .i32 0, .int .i32 0, .int .i32 0, .int .i64 x1, .int .i64 x2, .int .i64 0] 65 (0, 0)))) ∨ (jj = 4 ∧ ∃ x1 x2 x3 : Int, Hid (Mt.lenB wd1 = some x1) ∧ Hid (Mt.lenB wd2 = some x2) ∧ Hid (Mt.lenB wd3 = some x3) ∧ Hid (wr.heap[P5]? = some (.cells #[.int .i64 0, .int .i32 0, .int .i32 0, .int .i32 0, .int .i64 x1, .int .i64 x2, .int .i64 x3] 65 (0, 0))))) ∧ Hid (Kept P5 W5 wr)) (fun iv _ => 4 - (intOf iv).toNat)
          case atStart => exact ⟨1, rfl, .inl ⟨rfl, HR5⟩, Lib.hid (Kept.refl _ _)⟩
          case round =>
            obtain ⟨jj, rfl, hrel, HK⟩ := hrel
            have HZ := Lib.hid (HK.out.far _ _ (Nat.ne_of_lt HnZ.out) HZ5.out)
            have m0 := Lib.cell_of_heap (HK.out.far _ _ HnP8.out.1 HC5.out) 0
            have HBw := Lib.hid (HB5.out.trans (HK.out.below _ (Nat.le_of_lt HnZ.out)))
            rcases hrel with ⟨rfl, HR⟩ | ⟨rfl, x1, hx1, HR⟩ | ⟨rfl, x1, x2, hx1, hx2, HR⟩ | ⟨rfl, x1, x2, x3, hx1, hx2, hx3, HR⟩
            · have e0 := Lib.cell_of_heap HR.out 0
              have y := HK.out.cell (a := ⟨B4, o4 + 1, none⟩) hB4.out HY1.out
              obtain ⟨oj, hoj⟩ : ∃ oj, oj = Mt.lenB wd1 := ⟨_, rfl⟩
              cases oj with
              | none =>
                have hj := hoj.symm
                clear hoj
                have HNo : Hid (Mt.rowOf ws = none) := Lib.hid (by rw [HRow.out]; exact three_no (.inl hj))
                obtain ⟨c7, hc7⟩ := (HU1.out wr).2 hj
                have HC := Lib.hid hc7
                clear hj hc7
                go_wp2_with fail
                refine HC.out.mono ?_
                rintro e w7 ⟨rfl, hb7⟩
                have HR := Lib.hid (obj_keptR hb7 HR.out)
                have HZ := Lib.hid (obj_keptR hb7 HZ.out)
                have HB7 := Lib.hid (below_step HBw.out hb7)
                clear hb7 e0 y m0
                have e0 := Lib.cell_of_heap HR.out 0
                have e1 := Lib.cell_of_heap HR.out 1
                have e2 := Lib.cell_of_heap HR.out 2
                have e3 := Lib.cell_of_heap HR.out 3
                have e4 := Lib.cell_of_heap HR.out 4
                have e5 := Lib.cell_of_heap HR.out 5
                have e6 := Lib.cell_of_heap HR.out 6
                have c0 := Lib.cell_of_heap HZ.out 0
                have c1 := Lib.cell_of_heap HZ.out 1
                have c2 := Lib.cell_of_heap HZ.out 2
                have c3 := Lib.cell_of_heap HZ.out 3
                have c4 := Lib.cell_of_heap HZ.out 4
                have c5 := Lib.cell_of_heap HZ.out 5
                have c6 := Lib.cell_of_heap HZ.out 6
                have d0 := Lib.frozen_of_heap HZ.out 0
                have d1 := Lib.frozen_of_heap HZ.out 1
                have d2 := Lib.frozen_of_heap HZ.out 2
                have d3 := Lib.frozen_of_heap HZ.out 3
                have d4 := Lib.frozen_of_heap HZ.out 4
                have d5 := Lib.frozen_of_heap HZ.out 5
                have d6 := Lib.frozen_of_heap HZ.out 6
                have HQ := Lib.hid (set7R w7 w.heap.size (.int .i64 0) (.int .i32 0) (.int .i32 0) (.int .i32 0) (.int .i64 0) (.int .i64 0) (.int .i64 0) HZ.out)
                go_wp2
                obtain ⟨Wf, hWf⟩ : ∃ W, W = ((((((w7.setCell ⟨w.heap.size, 0, none⟩ (.int .i64 0)).setCell ⟨w.heap.size, 1, none⟩ (.int .i32 0)).setCell ⟨w.heap.size, 2, none⟩ (.int .i32 0)).setCell ⟨w.heap.size, 3, none⟩ (.int .i32 0)).setCell ⟨w.heap.size, 4, none⟩ (.int .i64 0)).setCell ⟨w.heap.size, 5, none⟩ (.int .i64 0)).setCell ⟨w.heap.size, 6, none⟩ (.int .i64 0) := ⟨_, rfl⟩
                rw [← hWf] at HQ ⊢
                clear hWf
                have s0 := Lib.cell_of_heap HQ.out.1 0
                have s1 := Lib.cell_of_heap HQ.out.1 1
                have s2 := Lib.cell_of_heap HQ.out.1 2
                have s3 := Lib.cell_of_heap HQ.out.1 3
                have s4 := Lib.cell_of_heap HQ.out.1 4
                have s5 := Lib.cell_of_heap HQ.out.1 5
                have s6 := Lib.cell_of_heap HQ.out.1 6
                have hBf : Below w.heap.size w7 Wf := HQ.out.2 _ (Nat.le_refl _)
                exact bodyPost_ret (v := .tuple #[.agg #[.int .i64 0, .int .i32 0, .int .i32 0, .int .i32 0, .int .i64 0, .int .i64 0, .int .i64 0], .bool false]) (by simp [results, Tryz.results25, go_sem, s0, s1, s2, s3, s4, s5, s6]) rfl (HNoP.out HNo.out _ _ _ _ _ _ _ _ (HB7.out.trans hBf))
              | some x1 =>
                have hj := hoj.symm
                clear hoj
                have HC := Lib.hid ((HU1.out wr).1 x1 hj)
                have Hxj := Lib.hid hj
                clear hj
                go_wp2_with fail
                refine HC.out.mono ?_
                rintro e w7 ⟨rfl, hb7⟩
                have HR7 := Lib.hid (obj_keptR hb7 HR.out)
                have HK7 := Lib.hid (HK.out.trans (Kept.of hb7 (Nat.le_trans HP5.out HK.out.size)))
                have m7 := Lib.cell_of_heap (HK7.out.far _ _ HnP8.out.1 HC5.out) 0
                have e7 := Lib.cell_of_heap HR7.out 0
                have c7 := Lib.cell_of_heap HR7.out 4
                have d7 := Lib.frozen_of_heap HR7.out 4
                clear hb7 e0 y m0
                go_wp2
                go_roundw
                case rel => exact ⟨2, by go_num, .inr (.inl ⟨rfl, x1, Hxj, Lib.hid (heap_setCell_same _ _ 4 _ _ _ HR7.out)⟩), Lib.hid (HK7.out.trans (Kept.set _ _ _ _))⟩
                case measure => simp [intOf]
            · have e0 := Lib.cell_of_heap HR.out 0
              have y := HK.out.cell (a := ⟨B4, o4 + 2, none⟩) hB4.out HY2.out
              obtain ⟨oj, hoj⟩ : ∃ oj, oj = Mt.lenB wd2 := ⟨_, rfl⟩
              cases oj with
              | none =>
                have hj := hoj.symm
                clear hoj
                have HNo : Hid (Mt.rowOf ws = none) := Lib.hid (by rw [HRow.out]; exact three_no (.inr (.inl hj)))
                obtain ⟨c7, hc7⟩ := (HU2.out wr).2 hj
                have HC := Lib.hid hc7
                clear hj hc7
                go_wp2_with fail
                refine HC.out.mono ?_
                rintro e w7 ⟨rfl, hb7⟩
                have HR := Lib.hid (obj_keptR hb7 HR.out)
                have HZ := Lib.hid (obj_keptR hb7 HZ.out)
                have HB7 := Lib.hid (below_step HBw.out hb7)
                clear hb7 e0 y m0
                have e0 := Lib.cell_of_heap HR.out 0
                have e1 := Lib.cell_of_heap HR.out 1
                have e2 := Lib.cell_of_heap HR.out 2
                have e3 := Lib.cell_of_heap HR.out 3
                have e4 := Lib.cell_of_heap HR.out 4
                have e5 := Lib.cell_of_heap HR.out 5
                have e6 := Lib.cell_of_heap HR.out 6
                have c0 := Lib.cell_of_heap HZ.out 0
                have c1 := Lib.cell_of_heap HZ.out 1
                have c2 := Lib.cell_of_heap HZ.out 2
                have c3 := Lib.cell_of_heap HZ.out 3
                have c4 := Lib.cell_of_heap HZ.out 4
                have c5 := Lib.cell_of_heap HZ.out 5
                have c6 := Lib.cell_of_heap HZ.out 6
                have d0 := Lib.frozen_of_heap HZ.out 0
                have d1 := Lib.frozen_of_heap HZ.out 1
                have d2 := Lib.frozen_of_heap HZ.out 2
                have d3 := Lib.frozen_of_heap HZ.out 3
                have d4 := Lib.frozen_of_heap HZ.out 4
                have d5 := Lib.frozen_of_heap HZ.out 5
                have d6 := Lib.frozen_of_heap HZ.out 6
                have HQ := Lib.hid (set7R w7 w.heap.size (.int .i64 0) (.int .i32 0) (.int .i32 0) (.int .i32 0) (.int .i64 x1) (.int .i64 0) (.int .i64 0) HZ.out)
                go_wp2
                obtain ⟨Wf, hWf⟩ : ∃ W, W = ((((((w7.setCell ⟨w.heap.size, 0, none⟩ (.int .i64 0)).setCell ⟨w.heap.size, 1, none⟩ (.int .i32 0)).setCell ⟨w.heap.size, 2, none⟩ (.int .i32 0)).setCell ⟨w.heap.size, 3, none⟩ (.int .i32 0)).setCell ⟨w.heap.size, 4, none⟩ (.int .i64 x1)).setCell ⟨w.heap.size, 5, none⟩ (.int .i64 0)).setCell ⟨w.heap.size, 6, none⟩ (.int .i64 0) := ⟨_, rfl⟩
                rw [← hWf] at HQ ⊢
                clear hWf
                have s0 := Lib.cell_of_heap HQ.out.1 0
                have s1 := Lib.cell_of_heap HQ.out.1 1
                have s2 := Lib.cell_of_heap HQ.out.1 2
                have s3 := Lib.cell_of_heap HQ.out.1 3
                have s4 := Lib.cell_of_heap HQ.out.1 4
                have s5 := Lib.cell_of_heap HQ.out.1 5
                have s6 := Lib.cell_of_heap HQ.out.1 6
                have hBf : Below w.heap.size w7 Wf := HQ.out.2 _ (Nat.le_refl _)
                exact bodyPost_ret (v := .tuple #[.agg #[.int .i64 0, .int .i32 0, .int .i32 0, .int .i32 0, .int .i64 x1, .int .i64 0, .int .i64 0], .bool false]) (by simp [results, Tryz.results25, go_sem, s0, s1, s2, s3, s4, s5, s6]) rfl (HNoP.out HNo.out _ _ _ _ _ _ _ _ (HB7.out.trans hBf))
              | some x2 =>
                have hj := hoj.symm
                clear hoj
                have HC := Lib.hid ((HU2.out wr).1 x2 hj)
                have Hxj := Lib.hid hj
                clear hj
                go_wp2_with fail
                refine HC.out.mono ?_
                rintro e w7 ⟨rfl, hb7⟩
                have HR7 := Lib.hid (obj_keptR hb7 HR.out)
                have HK7 := Lib.hid (HK.out.trans (Kept.of hb7 (Nat.le_trans HP5.out HK.out.size)))
                have m7 := Lib.cell_of_heap (HK7.out.far _ _ HnP8.out.1 HC5.out) 0
                have e7 := Lib.cell_of_heap HR7.out 0
                have c7 := Lib.cell_of_heap HR7.out 5
                have d7 := Lib.frozen_of_heap HR7.out 5
                clear hb7 e0 y m0
                go_wp2
                go_roundw
                case rel => exact ⟨3, by go_num, .inr (.inr (.inl ⟨rfl, x1, x2, hx1, Hxj, Lib.hid (heap_setCell_same _ _ 5 _ _ _ HR7.out)⟩)), Lib.hid (HK7.out.trans (Kept.set _ _ _ _))⟩
                case measure => simp [intOf]
            · have e0 := Lib.cell_of_heap HR.out 0
              have y := HK.out.cell (a := ⟨B4, o4 + 3, none⟩) hB4.out HY3.out
              obtain ⟨oj, hoj⟩ : ∃ oj, oj = Mt.lenB wd3 := ⟨_, rfl⟩
              cases oj with
              | none =>
                have hj := hoj.symm
                clear hoj
                have HNo : Hid (Mt.rowOf ws = none) := Lib.hid (by rw [HRow.out]; exact three_no (.inr (.inr hj)))
                obtain ⟨c7, hc7⟩ := (HU3.out wr).2 hj
                have HC := Lib.hid hc7
                clear hj hc7
                go_wp2_with fail
                refine HC.out.mono ?_
                rintro e w7 ⟨rfl, hb7⟩
                have HR := Lib.hid (obj_keptR hb7 HR.out)
                have HZ := Lib.hid (obj_keptR hb7 HZ.out)
                have HB7 := Lib.hid (below_step HBw.out hb7)
                clear hb7 e0 y m0
                have e0 := Lib.cell_of_heap HR.out 0
                have e1 := Lib.cell_of_heap HR.out 1
                have e2 := Lib.cell_of_heap HR.out 2
                have e3 := Lib.cell_of_heap HR.out 3
                have e4 := Lib.cell_of_heap HR.out 4
                have e5 := Lib.cell_of_heap HR.out 5
                have e6 := Lib.cell_of_heap HR.out 6
                have c0 := Lib.cell_of_heap HZ.out 0
                have c1 := Lib.cell_of_heap HZ.out 1
                have c2 := Lib.cell_of_heap HZ.out 2
                have c3 := Lib.cell_of_heap HZ.out 3
                have c4 := Lib.cell_of_heap HZ.out 4
                have c5 := Lib.cell_of_heap HZ.out 5
                have c6 := Lib.cell_of_heap HZ.out 6
                have d0 := Lib.frozen_of_heap HZ.out 0
                have d1 := Lib.frozen_of_heap HZ.out 1
                have d2 := Lib.frozen_of_heap HZ.out 2
                have d3 := Lib.frozen_of_heap HZ.out 3
                have d4 := Lib.frozen_of_heap HZ.out 4
                have d5 := Lib.frozen_of_heap HZ.out 5
                have d6 := Lib.frozen_of_heap HZ.out 6
                have HQ := Lib.hid (set7R w7 w.heap.size (.int .i64 0) (.int .i32 0) (.int .i32 0) (.int .i32 0) (.int .i64 x1) (.int .i64 x2) (.int .i64 0) HZ.out)
                go_wp2
                obtain ⟨Wf, hWf⟩ : ∃ W, W = ((((((w7.setCell ⟨w.heap.size, 0, none⟩ (.int .i64 0)).setCell ⟨w.heap.size, 1, none⟩ (.int .i32 0)).setCell ⟨w.heap.size, 2, none⟩ (.int .i32 0)).setCell ⟨w.heap.size, 3, none⟩ (.int .i32 0)).setCell ⟨w.heap.size, 4, none⟩ (.int .i64 x1)).setCell ⟨w.heap.size, 5, none⟩ (.int .i64 x2)).setCell ⟨w.heap.size, 6, none⟩ (.int .i64 0) := ⟨_, rfl⟩
                rw [← hWf] at HQ ⊢
                clear hWf
                have s0 := Lib.cell_of_heap HQ.out.1 0
                have s1 := Lib.cell_of_heap HQ.out.1 1
                have s2 := Lib.cell_of_heap HQ.out.1 2
                have s3 := Lib.cell_of_heap HQ.out.1 3
                have s4 := Lib.cell_of_heap HQ.out.1 4
                have s5 := Lib.cell_of_heap HQ.out.1 5
                have s6 := Lib.cell_of_heap HQ.out.1 6
                have hBf : Below w.heap.size w7 Wf := HQ.out.2 _ (Nat.le_refl _)
                exact bodyPost_ret (v := .tuple #[.agg #[.int .i64 0, .int .i32 0, .int .i32 0, .int .i32 0, .int .i64 x1, .int .i64 x2, .int .i64 0], .bool false]) (by simp [results, Tryz.results25, go_sem, s0, s1, s2, s3, s4, s5, s6]) rfl (HNoP.out HNo.out _ _ _ _ _ _ _ _ (HB7.out.trans hBf))
              | some x3 =>
                have hj := hoj.symm
                clear hoj
                have HC := Lib.hid ((HU3.out wr).1 x3 hj)
                have Hxj := Lib.hid hj
                clear hj
                go_wp2_with fail
                refine HC.out.mono ?_
                rintro e w7 ⟨rfl, hb7⟩
                have HR7 := Lib.hid (obj_keptR hb7 HR.out)
                have HK7 := Lib.hid (HK.out.trans (Kept.of hb7 (Nat.le_trans HP5.out HK.out.size)))
                have m7 := Lib.cell_of_heap (HK7.out.far _ _ HnP8.out.1 HC5.out) 0
                have e7 := Lib.cell_of_heap HR7.out 0
                have c7 := Lib.cell_of_heap HR7.out 6
                have d7 := Lib.frozen_of_heap HR7.out 6
                clear hb7 e0 y m0
                go_wp2
                go_roundw
                case rel => exact ⟨4, by go_num, .inr (.inr (.inr (⟨rfl, x1, x2, x3, hx1, hx2, Hxj, Lib.hid (heap_setCell_same _ _ 6 _ _ _ HR7.out)⟩))), Lib.hid (HK7.out.trans (Kept.set _ _ _ _))⟩
                case measure => simp [intOf]
            · have HYe : Hid (Mt.rowOf ws = some (.space x1 x2 x3)) := Lib.hid (by rw [HRow.out, hx1.out, hx2.out, hx3.out]; rfl)
              have e0 := Lib.cell_of_heap HR.out 0
              have e1 := Lib.cell_of_heap HR.out 1
              have e2 := Lib.cell_of_heap HR.out 2
              have e3 := Lib.cell_of_heap HR.out 3
              have e4 := Lib.cell_of_heap HR.out 4
              have e5 := Lib.cell_of_heap HR.out 5
              have e6 := Lib.cell_of_heap HR.out 6
              have c0 := Lib.cell_of_heap HZ.out 0
              have c1 := Lib.cell_of_heap HZ.out 1
              have c2 := Lib.cell_of_heap HZ.out 2
              have c3 := Lib.cell_of_heap HZ.out 3
              have c4 := Lib.cell_of_heap HZ.out 4
              have c5 := Lib.cell_of_heap HZ.out 5
              have c6 := Lib.cell_of_heap HZ.out 6
              have d0 := Lib.frozen_of_heap HZ.out 0
              have d1 := Lib.frozen_of_heap HZ.out 1
              have d2 := Lib.frozen_of_heap HZ.out 2
              have d3 := Lib.frozen_of_heap HZ.out 3
              have d4 := Lib.frozen_of_heap HZ.out 4
              have d5 := Lib.frozen_of_heap HZ.out 5
              have d6 := Lib.frozen_of_heap HZ.out 6
              have HQ := Lib.hid (set7R wr w.heap.size (.int .i64 0) (.int .i32 0) (.int .i32 0) (.int .i32 0) (.int .i64 x1) (.int .i64 x2) (.int .i64 x3) HZ.out)
              go_wp2
              obtain ⟨Wf, hWf⟩ : ∃ W, W = ((((((wr.setCell ⟨w.heap.size, 0, none⟩ (.int .i64 0)).setCell ⟨w.heap.size, 1, none⟩ (.int .i32 0)).setCell ⟨w.heap.size, 2, none⟩ (.int .i32 0)).setCell ⟨w.heap.size, 3, none⟩ (.int .i32 0)).setCell ⟨w.heap.size, 4, none⟩ (.int .i64 x1)).setCell ⟨w.heap.size, 5, none⟩ (.int .i64 x2)).setCell ⟨w.heap.size, 6, none⟩ (.int .i64 x3) := ⟨_, rfl⟩
              rw [← hWf] at HQ ⊢
              clear hWf
              have s0 := Lib.cell_of_heap HQ.out.1 0
              have s1 := Lib.cell_of_heap HQ.out.1 1
              have s2 := Lib.cell_of_heap HQ.out.1 2
              have s3 := Lib.cell_of_heap HQ.out.1 3
              have s4 := Lib.cell_of_heap HQ.out.1 4
              have s5 := Lib.cell_of_heap HQ.out.1 5
              have s6 := Lib.cell_of_heap HQ.out.1 6
              have hBf : Below w.heap.size wr Wf := HQ.out.2 _ (Nat.le_refl _)
              exact bodyPost_ret (v := .tuple #[.agg #[.int .i64 0, .int .i32 0, .int .i32 0, .int .i32 0, .int .i64 x1, .int .i64 x2, .int .i64 x3], .bool true]) (by simp [results, Tryz.results25, go_sem, s0, s1, s2, s3, s4, s5, s6]) rfl (HYesP.out _ HYe.out _ (HBw.out.trans hBf))
        · have HNo : Hid (Mt.rowOf ws = none) := Lib.hid (by rw [Hrw.out]; exact rowOf_len0 (by have h := Hn.out; rw [Hrw.out, List.length_cons] at h; omega))
          have hnI : ((n : Int) == 4) = false := beq_eq_false_iff_ne.2 (by omega)
          have hnJ : ((n : Int) != 4) = true := by simp only [bne, hnI]; rfl
          go_quiet (fail)
          obtain ⟨W5, hW5⟩ : ∃ W, W = W4.drewN nq := ⟨_, rfl⟩
          have HR : Hid (W5.heap[P5]? = some (.cells #[.int .i64 0, .int .i32 0, .int .i32 0, .int .i32 0, .int .i64 0, .int .i64 0, .int .i64 0] 65 (0, 0))) := Lib.hid (by rw [hW5]; exact HR4.out)
          have HZ : Hid (W5.heap[w.heap.size]? = some (.cells #[.int .i64 0, .int .i32 0, .int .i32 0, .int .i32 0, .int .i64 0, .int .i64 0, .int .i64 0] 65 (0, 0))) := Lib.hid (by rw [hW5]; exact HZ4.out)
          have HB5 : Hid (Below w.heap.size w W5) := Lib.hid (by rw [hW5]; exact below_step HB4.out (below_drew _ _))
          rw [← hW5]
          clear hW5 k0 m0 m1
          have e0 := Lib.cell_of_heap HR.out 0
          have e1 := Lib.cell_of_heap HR.out 1
          have e2 := Lib.cell_of_heap HR.out 2
          have e3 := Lib.cell_of_heap HR.out 3
          have e4 := Lib.cell_of_heap HR.out 4
          have e5 := Lib.cell_of_heap HR.out 5
          have e6 := Lib.cell_of_heap HR.out 6
          have c0 := Lib.cell_of_heap HZ.out 0
          have c1 := Lib.cell_of_heap HZ.out 1
          have c2 := Lib.cell_of_heap HZ.out 2
          have c3 := Lib.cell_of_heap HZ.out 3
          have c4 := Lib.cell_of_heap HZ.out 4
          have c5 := Lib.cell_of_heap HZ.out 5
          have c6 := Lib.cell_of_heap HZ.out 6
          have d0 := Lib.frozen_of_heap HZ.out 0
          have d1 := Lib.frozen_of_heap HZ.out 1
          have d2 := Lib.frozen_of_heap HZ.out 2
          have d3 := Lib.frozen_of_heap HZ.out 3
          have d4 := Lib.frozen_of_heap HZ.out 4
          have d5 := Lib.frozen_of_heap HZ.out 5
          have d6 := Lib.frozen_of_heap HZ.out 6
          have HQ := Lib.hid (set7R W5 w.heap.size (.int .i64 0) (.int .i32 0) (.int .i32 0) (.int .i32 0) (.int .i64 0) (.int .i64 0) (.int .i64 0) HZ.out)
          go_wp2
          obtain ⟨Wf, hWf⟩ : ∃ W, W = ((((((W5.setCell ⟨w.heap.size, 0, none⟩ (.int .i64 0)).setCell ⟨w.heap.size, 1, none⟩ (.int .i32 0)).setCell ⟨w.heap.size, 2, none⟩ (.int .i32 0)).setCell ⟨w.heap.size, 3, none⟩ (.int .i32 0)).setCell ⟨w.heap.size, 4, none⟩ (.int .i64 0)).setCell ⟨w.heap.size, 5, none⟩ (.int .i64 0)).setCell ⟨w.heap.size, 6, none⟩ (.int .i64 0) := ⟨_, rfl⟩
          rw [← hWf] at HQ ⊢
          clear hWf
          have s0 := Lib.cell_of_heap HQ.out.1 0
          have s1 := Lib.cell_of_heap HQ.out.1 1
          have s2 := Lib.cell_of_heap HQ.out.1 2
          have s3 := Lib.cell_of_heap HQ.out.1 3
          have s4 := Lib.cell_of_heap HQ.out.1 4
          have s5 := Lib.cell_of_heap HQ.out.1 5
          have s6 := Lib.cell_of_heap HQ.out.1 6
          have hBf : Below w.heap.size W5 Wf := HQ.out.2 _ (Nat.le_refl _)
          exact bodyPost_ret (v := .tuple #[.agg #[.int .i64 0, .int .i32 0, .int .i32 0, .int .i32 0, .int .i64 0, .int .i64 0, .int .i64 0], .bool false]) (by simp [results, Tryz.results25, go_sem, s0, s1, s2, s3, s4, s5, s6]) rfl (HNoP.out HNo.out _ _ _ _ _ _ _ _ (HB5.out.trans hBf))
      · rw [hk] at HR
        go_upto_region 10 with fail
        obtain ⟨W4, hW4⟩ : ∃ W, W = (W3.alloc (.cells #[.int .i64 0, .int .i64 1, .int .i64 1, .int .i64 2, .int .i64 3] 3)).alloc (.cells #[.int .i64 3, .int .i64 0, .int .i64 3, .int .i64 1, .int .i64 0] 3) := ⟨_, rfl⟩
        obtain ⟨hb34, hCo, hLe⟩ := HAl.out W4 hW4
        obtain ⟨P8, hP8⟩ : ∃ p, p = W3.heap.size := ⟨_, rfl⟩
        have HP8 : Hid (P5 ≤ P8) := Lib.hid (by rw [hP8]; exact HP3.out)
        rw [← hP8] at hCo hLe
        have HR4 := Lib.hid (obj_keptR hb34 HR.out)
        have HZ4 := Lib.hid (obj_keptR hb34 HZ.out)
        have HB4 := Lib.hid (below_step HB3.out hb34)
        have HW4 : Hid (∀ i u, ws[i]? = some u → W4.cell? ⟨B4, o4 + i, none⟩ = some (.string (str u))) := Lib.hid (fun i u hu => cell_below hb34 (HW3.out i u hu))
        have HCo := Lib.hid hCo
        have HLe := Lib.hid hLe
        have HnP8 : Hid (P8 ≠ P5 ∧ P8 + 1 ≠ P5) := Lib.hid (by
          have h1 := obj_ltR HR.out
          rw [← hP8] at h1
          omega)
        rw [← hW4, ← hP8]
        clear hW4 hP8 hb34 hCo hLe HR HZ HB3 HW3 HAl hk
        have k0 := Lib.cell_of_heap HR4.out 0
        subst hu
        have m0 := Lib.cell_of_heap HCo.out 1
        have m1 := Lib.cell_of_heap HLe.out 1
        by_cases hnT : n = 2
        · have hlen : rw0.length = 1 := by
            have h := Hn.out
            rw [Hrw.out, hnT, List.length_cons] at h
            omega
          obtain ⟨wd1, rfl⟩ : ∃ wd1, rw0 = [wd1] := len1R hlen
          clear hlen
          have HRow : Hid (Mt.rowOf ws = (Mt.codeB wd1).map .hyphen) := Lib.hid (by rw [Hrw.out]; simp [Mt.rowOf])
          have hl1 : wd1.length ≤ 4294967296 := Hln.out _ (by rw [Hrw.out]; simp)
          have HU1 : Hid (∀ w, (∀ n, Mt.codeB wd1 = some n → Calls Tryz.prog 53 #[.string (str wd1)] w (Ret (.tuple #[.int .i32 n, .bool true]) w)) ∧ (Mt.codeB wd1 = none → Calls Tryz.prog 53 #[.string (str wd1)] w (fun e w2 => ∃ n : Int, e = .returned (.tuple #[.int .i32 n, .bool false]) ∧ Below w.heap.size w w2))) := Lib.hid (fun w => code_ok wd1 hl1 w)
          have HX1 : Hid (W4.cell? ⟨B4, o4 + 1, none⟩ = some (.string (str wd1))) := Lib.hid (HW4.out 1 wd1 (by rw [Hrw.out]; rfl))
          clear hl1
          subst hnT
          go_quiet (fail)
          obtain ⟨W5, hW5⟩ : ∃ W, W = W4.drewN nq := ⟨_, rfl⟩
          have HR5 : Hid (W5.heap[P5]? = some (.cells #[.int .i64 1, .int .i32 0, .int .i32 0, .int .i32 0, .int .i64 0, .int .i64 0, .int .i64 0] 65 (0, 0))) := Lib.hid (by rw [hW5]; exact HR4.out)
          have HZ5 : Hid (W5.heap[w.heap.size]? = some (.cells #[.int .i64 0, .int .i32 0, .int .i32 0, .int .i32 0, .int .i64 0, .int .i64 0, .int .i64 0] 65 (0, 0))) := Lib.hid (by rw [hW5]; exact HZ4.out)
          have HB5 : Hid (Below w.heap.size w W5) := Lib.hid (by rw [hW5]; exact below_step HB4.out (below_drew _ _))
          have HC5 : Hid (W5.heap[P8]? = some (.cells #[.int .i64 0, .int .i64 1, .int .i64 1, .int .i64 2, .int .i64 3] 3 (0, 0))) := Lib.hid (by rw [hW5]; exact HCo.out)
          have HY1 : Hid (W5.cell? ⟨B4, o4 + 1, none⟩ = some (.string (str wd1))) := Lib.hid (by rw [hW5]; exact HX1.out)
          have HP5 : Hid (P5 ≤ W5.heap.size) := Lib.hid (Nat.le_of_lt (obj_ltR HR5.out))
          rw [← hW5]
          clear hW5 k0 m0 m1
          go_wp2_with fail
          go_loopw [10] (fun iv wr => ∃ jj : Nat, iv = .int .i64 (jj : Int) ∧ ((jj = 1 ∧ Hid (wr.heap[P5]? = some (.cells #[.int .i64 1, .int .i32 0, .int .i32 0, .int .i32 0, .int .i64 0, .int .i64 0, .int .i64 0] 65 (0, 0)))) ∨ (jj = 2 ∧ ∃ x1 : Int, Hid (Mt.codeB wd1 = some x1) ∧ Hid (wr.heap[P5]? = some (.cells #[.int .i64 1, .int .i32 x1, .int .i32 0, .int .i32 0, .int .i64 0, .int .i64 0, .int .i64 0] 65 (0, 0))))) ∧ Hid (Kept P5 W5 wr)) (fun iv _ => 2 - (intOf iv).toNat)
          case atStart => exact ⟨1, rfl, .inl ⟨rfl, HR5⟩, Lib.hid (Kept.refl _ _)⟩
          case round =>
            obtain ⟨jj, rfl, hrel, HK⟩ := hrel
            have HZ := Lib.hid (HK.out.far _ _ (Nat.ne_of_lt HnZ.out) HZ5.out)
            have m0 := Lib.cell_of_heap (HK.out.far _ _ HnP8.out.1 HC5.out) 1
            have HBw := Lib.hid (HB5.out.trans (HK.out.below _ (Nat.le_of_lt HnZ.out)))
            rcases hrel with ⟨rfl, HR⟩ | ⟨rfl, x1, hx1, HR⟩
            · have e0 := Lib.cell_of_heap HR.out 0
              have y := HK.out.cell (a := ⟨B4, o4 + 1, none⟩) hB4.out HY1.out
              obtain ⟨oj, hoj⟩ : ∃ oj, oj = Mt.codeB wd1 := ⟨_, rfl⟩
              cases oj with
              | none =>
                have hj := hoj.symm
                clear hoj
                have HNo : Hid (Mt.rowOf ws = none) := Lib.hid (by rw [HRow.out, hj]; rfl)
                have HC := Lib.hid ((HU1.out wr).2 hj)
                clear hj
                go_wp2_with fail
                refine HC.out.mono ?_
                rintro e w7 ⟨c7, rfl, hb7⟩
                have HR := Lib.hid (obj_keptR hb7 HR.out)
                have HZ := Lib.hid (obj_keptR hb7 HZ.out)
                have HB7 := Lib.hid (below_step HBw.out hb7)
                clear hb7 e0 y m0
                have e0 := Lib.cell_of_heap HR.out 0
                have e1 := Lib.cell_of_heap HR.out 1
                have e2 := Lib.cell_of_heap HR.out 2
                have e3 := Lib.cell_of_heap HR.out 3
                have e4 := Lib.cell_of_heap HR.out 4
                have e5 := Lib.cell_of_heap HR.out 5
                have e6 := Lib.cell_of_heap HR.out 6
                have c0 := Lib.cell_of_heap HZ.out 0
                have c1 := Lib.cell_of_heap HZ.out 1
                have c2 := Lib.cell_of_heap HZ.out 2
                have c3 := Lib.cell_of_heap HZ.out 3
                have c4 := Lib.cell_of_heap HZ.out 4
                have c5 := Lib.cell_of_heap HZ.out 5
                have c6 := Lib.cell_of_heap HZ.out 6
                have d0 := Lib.frozen_of_heap HZ.out 0
                have d1 := Lib.frozen_of_heap HZ.out 1
                have d2 := Lib.frozen_of_heap HZ.out 2
                have d3 := Lib.frozen_of_heap HZ.out 3
                have d4 := Lib.frozen_of_heap HZ.out 4
                have d5 := Lib.frozen_of_heap HZ.out 5
                have d6 := Lib.frozen_of_heap HZ.out 6
                have HQ := Lib.hid (set7R w7 w.heap.size (.int .i64 1) (.int .i32 0) (.int .i32 0) (.int .i32 0) (.int .i64 0) (.int .i64 0) (.int .i64 0) HZ.out)
                go_wp2
                obtain ⟨Wf, hWf⟩ : ∃ W, W = ((((((w7.setCell ⟨w.heap.size, 0, none⟩ (.int .i64 1)).setCell ⟨w.heap.size, 1, none⟩ (.int .i32 0)).setCell ⟨w.heap.size, 2, none⟩ (.int .i32 0)).setCell ⟨w.heap.size, 3, none⟩ (.int .i32 0)).setCell ⟨w.heap.size, 4, none⟩ (.int .i64 0)).setCell ⟨w.heap.size, 5, none⟩ (.int .i64 0)).setCell ⟨w.heap.size, 6, none⟩ (.int .i64 0) := ⟨_, rfl⟩
                rw [← hWf] at HQ ⊢
                clear hWf
                have s0 := Lib.cell_of_heap HQ.out.1 0
                have s1 := Lib.cell_of_heap HQ.out.1 1
                have s2 := Lib.cell_of_heap HQ.out.1 2
                have s3 := Lib.cell_of_heap HQ.out.1 3
                have s4 := Lib.cell_of_heap HQ.out.1 4
                have s5 := Lib.cell_of_heap HQ.out.1 5
                have s6 := Lib.cell_of_heap HQ.out.1 6
                have hBf : Below w.heap.size w7 Wf := HQ.out.2 _ (Nat.le_refl _)
                exact bodyPost_ret (v := .tuple #[.agg #[.int .i64 1, .int .i32 0, .int .i32 0, .int .i32 0, .int .i64 0, .int .i64 0, .int .i64 0], .bool false]) (by simp [results, Tryz.results25, go_sem, s0, s1, s2, s3, s4, s5, s6]) rfl (HNoP.out HNo.out _ _ _ _ _ _ _ _ (HB7.out.trans hBf))
              | some x1 =>
                have hj := hoj.symm
                clear hoj
                have HC := Lib.hid ((HU1.out wr).1 x1 hj)
                have Hxj := Lib.hid hj
                clear hj
                go_wp2_with fail
                refine HC.out.mono ?_
                rintro e w7 ⟨rfl, hb7⟩
                have HR7 := Lib.hid (obj_keptR hb7 HR.out)
                have HK7 := Lib.hid (HK.out.trans (Kept.of hb7 (Nat.le_trans HP5.out HK.out.size)))
                have m7 := Lib.cell_of_heap (HK7.out.far _ _ HnP8.out.1 HC5.out) 1
                have e7 := Lib.cell_of_heap HR7.out 0
                have c7 := Lib.cell_of_heap HR7.out 1
                have d7 := Lib.frozen_of_heap HR7.out 1
                clear hb7 e0 y m0
                go_wp2
                go_roundw
                case rel => exact ⟨2, by go_num, .inr (⟨rfl, x1, Hxj, Lib.hid (heap_setCell_same _ _ 1 _ _ _ HR7.out)⟩), Lib.hid (HK7.out.trans (Kept.set _ _ _ _))⟩
                case measure => simp [intOf]
            · have HYe : Hid (Mt.rowOf ws = some (.hyphen x1)) := Lib.hid (by rw [HRow.out, hx1.out]; rfl)
              have e0 := Lib.cell_of_heap HR.out 0
              have e1 := Lib.cell_of_heap HR.out 1
              have e2 := Lib.cell_of_heap HR.out 2
              have e3 := Lib.cell_of_heap HR.out 3
              have e4 := Lib.cell_of_heap HR.out 4
              have e5 := Lib.cell_of_heap HR.out 5
              have e6 := Lib.cell_of_heap HR.out 6
              have c0 := Lib.cell_of_heap HZ.out 0
              have c1 := Lib.cell_of_heap HZ.out 1
              have c2 := Lib.cell_of_heap HZ.out 2
              have c3 := Lib.cell_of_heap HZ.out 3
              have c4 := Lib.cell_of_heap HZ.out 4
              have c5 := Lib.cell_of_heap HZ.out 5
              have c6 := Lib.cell_of_heap HZ.out 6
              have d0 := Lib.frozen_of_heap HZ.out 0
              have d1 := Lib.frozen_of_heap HZ.out 1
              have d2 := Lib.frozen_of_heap HZ.out 2
              have d3 := Lib.frozen_of_heap HZ.out 3
              have d4 := Lib.frozen_of_heap HZ.out 4
              have d5 := Lib.frozen_of_heap HZ.out 5
              have d6 := Lib.frozen_of_heap HZ.out 6
              have HQ := Lib.hid (set7R wr w.heap.size (.int .i64 1) (.int .i32 x1) (.int .i32 0) (.int .i32 0) (.int .i64 0) (.int .i64 0) (.int .i64 0) HZ.out)
              go_wp2
              obtain ⟨Wf, hWf⟩ : ∃ W, W = ((((((wr.setCell ⟨w.heap.size, 0, none⟩ (.int .i64 1)).setCell ⟨w.heap.size, 1, none⟩ (.int .i32 x1)).setCell ⟨w.heap.size, 2, none⟩ (.int .i32 0)).setCell ⟨w.heap.size, 3, none⟩ (.int .i32 0)).setCell ⟨w.heap.size, 4, none⟩ (.int .i64 0)).setCell ⟨w.heap.size, 5, none⟩ (.int .i64 0)).setCell ⟨w.heap.size, 6, none⟩ (.int .i64 0) := ⟨_, rfl⟩
              rw [← hWf] at HQ ⊢
              clear hWf
              have s0 := Lib.cell_of_heap HQ.out.1 0
              have s1 := Lib.cell_of_heap HQ.out.1 1
              have s2 := Lib.cell_of_heap HQ.out.1 2
              have s3 := Lib.cell_of_heap HQ.out.1 3
              have s4 := Lib.cell_of_heap HQ.out.1 4
              have s5 := Lib.cell_of_heap HQ.out.1 5
              have s6 := Lib.cell_of_heap HQ.out.1 6
              have hBf : Below w.heap.size wr Wf := HQ.out.2 _ (Nat.le_refl _)
              exact bodyPost_ret (v := .tuple #[.agg #[.int .i64 1, .int .i32 x1, .int .i32 0, .int .i32 0, .int .i64 0, .int .i64 0, .int .i64 0], .bool true]) (by simp [results, Tryz.results25, go_sem, s0, s1, s2, s3, s4, s5, s6]) rfl (HYesP.out _ HYe.out _ (HBw.out.trans hBf))
        · have HNo : Hid (Mt.rowOf ws = none) := Lib.hid (by rw [Hrw.out]; exact rowOf_len1 (by have h := Hn.out; rw [Hrw.out, List.length_cons] at h; omega))
          have hnI : ((n : Int) == 2) = false := beq_eq_false_iff_ne.2 (by omega)
          have hnJ : ((n : Int) != 2) = true := by simp only [bne, hnI]; rfl
          go_quiet (fail)
          obtain ⟨W5, hW5⟩ : ∃ W, W = W4.drewN nq := ⟨_, rfl⟩
          have HR : Hid (W5.heap[P5]? = some (.cells #[.int .i64 1, .int .i32 0, .int .i32 0, .int .i32 0, .int .i64 0, .int .i64 0, .int .i64 0] 65 (0, 0))) := Lib.hid (by rw [hW5]; exact HR4.out)
          have HZ : Hid (W5.heap[w.heap.size]? = some (.cells #[.int .i64 0, .int .i32 0, .int .i32 0, .int .i32 0, .int .i64 0, .int .i64 0, .int .i64 0] 65 (0, 0))) := Lib.hid (by rw [hW5]; exact HZ4.out)
          have HB5 : Hid (Below w.heap.size w W5) := Lib.hid (by rw [hW5]; exact below_step HB4.out (below_drew _ _))
          rw [← hW5]
          clear hW5 k0 m0 m1
          have e0 := Lib.cell_of_heap HR.out 0
          have e1 := Lib.cell_of_heap HR.out 1
          have e2 := Lib.cell_of_heap HR.out 2
          have e3 := Lib.cell_of_heap HR.out 3
          have e4 := Lib.cell_of_heap HR.out 4
          have e5 := Lib.cell_of_heap HR.out 5
          have e6 := Lib.cell_of_heap HR.out 6
          have c0 := Lib.cell_of_heap HZ.out 0
          have c1 := Lib.cell_of_heap HZ.out 1
          have c2 := Lib.cell_of_heap HZ.out 2
          have c3 := Lib.cell_of_heap HZ.out 3
          have c4 := Lib.cell_of_heap HZ.out 4
          have c5 := Lib.cell_of_heap HZ.out 5
          have c6 := Lib.cell_of_heap HZ.out 6
          have d0 := Lib.frozen_of_heap HZ.out 0
          have d1 := Lib.frozen_of_heap HZ.out 1
          have d2 := Lib.frozen_of_heap HZ.out 2
          have d3 := Lib.frozen_of_heap HZ.out 3
          have d4 := Lib.frozen_of_heap HZ.out 4
          have d5 := Lib.frozen_of_heap HZ.out 5
          have d6 := Lib.frozen_of_heap HZ.out 6
          have HQ := Lib.hid (set7R W5 w.heap.size (.int .i64 1) (.int .i32 0) (.int .i32 0) (.int .i32 0) (.int .i64 0) (.int .i64 0) (.int .i64 0) HZ.out)
          go_wp2
          obtain ⟨Wf, hWf⟩ : ∃ W, W = ((((((W5.setCell ⟨w.heap.size, 0, none⟩ (.int .i64 1)).setCell ⟨w.heap.size, 1, none⟩ (.int .i32 0)).setCell ⟨w.heap.size, 2, none⟩ (.int .i32 0)).setCell ⟨w.heap.size, 3, none⟩ (.int .i32 0)).setCell ⟨w.heap.size, 4, none⟩ (.int .i64 0)).setCell ⟨w.heap.size, 5, none⟩ (.int .i64 0)).setCell ⟨w.heap.size, 6, none⟩ (.int .i64 0) := ⟨_, rfl⟩
          rw [← hWf] at HQ ⊢
          clear hWf
          have s0 := Lib.cell_of_heap HQ.out.1 0
          have s1 := Lib.cell_of_heap HQ.out.1 1
          have s2 := Lib.cell_of_heap HQ.out.1 2
          have s3 := Lib.cell_of_heap HQ.out.1 3
          have s4 := Lib.cell_of_heap HQ.out.1 4
          have s5 := Lib.cell_of_heap HQ.out.1 5
          have s6 := Lib.cell_of_heap HQ.out.1 6
          have hBf : Below w.heap.size W5 Wf := HQ.out.2 _ (Nat.le_refl _)
          exact bodyPost_ret (v := .tuple #[.agg #[.int .i64 1, .int .i32 0, .int .i32 0, .int .i32 0, .int .i64 0, .int .i64 0, .int .i64 0], .bool false]) (by simp [results, Tryz.results25, go_sem, s0, s1, s2, s3, s4, s5, s6]) rfl (HNoP.out HNo.out _ _ _ _ _ _ _ _ (HB5.out.trans hBf))
      · rw [hk] at HR
        go_upto_region 10 with fail
        obtain ⟨W4, hW4⟩ : ∃ W, W = (W3.alloc (.cells #[.int .i64 0, .int .i64 1, .int .i64 1, .int .i64 2, .int .i64 3] 3)).alloc (.cells #[.int .i64 3, .int .i64 0, .int .i64 3, .int .i64 1, .int .i64 0] 3) := ⟨_, rfl⟩
        obtain ⟨hb34, hCo, hLe⟩ := HAl.out W4 hW4
        obtain ⟨P8, hP8⟩ : ∃ p, p = W3.heap.size := ⟨_, rfl⟩
        have HP8 : Hid (P5 ≤ P8) := Lib.hid (by rw [hP8]; exact HP3.out)
        rw [← hP8] at hCo hLe
        have HR4 := Lib.hid (obj_keptR hb34 HR.out)
        have HZ4 := Lib.hid (obj_keptR hb34 HZ.out)
        have HB4 := Lib.hid (below_step HB3.out hb34)
        have HW4 : Hid (∀ i u, ws[i]? = some u → W4.cell? ⟨B4, o4 + i, none⟩ = some (.string (str u))) := Lib.hid (fun i u hu => cell_below hb34 (HW3.out i u hu))
        have HCo := Lib.hid hCo
        have HLe := Lib.hid hLe
        have HnP8 : Hid (P8 ≠ P5 ∧ P8 + 1 ≠ P5) := Lib.hid (by
          have h1 := obj_ltR HR.out
          rw [← hP8] at h1
          omega)
        rw [← hW4, ← hP8]
        clear hW4 hP8 hb34 hCo hLe HR HZ HB3 HW3 HAl hk
        have k0 := Lib.cell_of_heap HR4.out 0
        subst hu
        have m0 := Lib.cell_of_heap HCo.out 2
        have m1 := Lib.cell_of_heap HLe.out 2
        by_cases hnT : n = 5
        · have hlen : rw0.length = 4 := by
            have h := Hn.out
            rw [Hrw.out, hnT, List.length_cons] at h
            omega
          obtain ⟨wd1, wd2, wd3, wd4, rfl⟩ : ∃ wd1 wd2 wd3 wd4, rw0 = [wd1, wd2, wd3, wd4] := len4R hlen
          clear hlen
          have HRow : Hid (Mt.rowOf ws = (Mt.codeB wd1).bind fun x => Mt.three (.char x) (Mt.lenB wd2) (Mt.lenB wd3) (Mt.lenB wd4)) := Lib.hid (by rw [Hrw.out]; simp [Mt.rowOf])
          have hl1 : wd1.length ≤ 4294967296 := Hln.out _ (by rw [Hrw.out]; simp)
          have HU1 : Hid (∀ w, (∀ n, Mt.codeB wd1 = some n → Calls Tryz.prog 53 #[.string (str wd1)] w (Ret (.tuple #[.int .i32 n, .bool true]) w)) ∧ (Mt.codeB wd1 = none → Calls Tryz.prog 53 #[.string (str wd1)] w (fun e w2 => ∃ n : Int, e = .returned (.tuple #[.int .i32 n, .bool false]) ∧ Below w.heap.size w w2))) := Lib.hid (fun w => code_ok wd1 hl1 w)
          have HX1 : Hid (W4.cell? ⟨B4, o4 + 1, none⟩ = some (.string (str wd1))) := Lib.hid (HW4.out 1 wd1 (by rw [Hrw.out]; rfl))
          have hl2 : wd2.length ≤ 4294967296 := Hln.out _ (by rw [Hrw.out]; simp)
          have HU2 : Hid (∀ w, (∀ n, Mt.lenB wd2 = some n → Calls Tryz.prog 54 #[.string (str wd2)] w (Ret (.tuple #[.int .i64 n, .bool true]) w)) ∧ (Mt.lenB wd2 = none → ∃ n : Int, Calls Tryz.prog 54 #[.string (str wd2)] w (Ret (.tuple #[.int .i64 n, .bool false]) w))) := Lib.hid (fun w => length_ok wd2 hl2 w)
          have HX2 : Hid (W4.cell? ⟨B4, o4 + 2, none⟩ = some (.string (str wd2))) := Lib.hid (HW4.out 2 wd2 (by rw [Hrw.out]; rfl))
          have hl3 : wd3.length ≤ 4294967296 := Hln.out _ (by rw [Hrw.out]; simp)
          have HU3 : Hid (∀ w, (∀ n, Mt.lenB wd3 = some n → Calls Tryz.prog 54 #[.string (str wd3)] w (Ret (.tuple #[.int .i64 n, .bool true]) w)) ∧ (Mt.lenB wd3 = none → ∃ n : Int, Calls Tryz.prog 54 #[.string (str wd3)] w (Ret (.tuple #[.int .i64 n, .bool false]) w))) := Lib.hid (fun w => length_ok wd3 hl3 w)
          have HX3 : Hid (W4.cell? ⟨B4, o4 + 3, none⟩ = some (.string (str wd3))) := Lib.hid (HW4.out 3 wd3 (by rw [Hrw.out]; rfl))
          have hl4 : wd4.length ≤ 4294967296 := Hln.out _ (by rw [Hrw.out]; simp)
          have HU4 : Hid (∀ w, (∀ n, Mt.lenB wd4 = some n → Calls Tryz.prog 54 #[.string (str wd4)] w (Ret (.tuple #[.int .i64 n, .bool true]) w)) ∧ (Mt.lenB wd4 = none → ∃ n : Int, Calls Tryz.prog 54 #[.string (str wd4)] w (Ret (.tuple #[.int .i64 n, .bool false]) w))) := Lib.hid (fun w => length_ok wd4 hl4 w)
          have HX4 : Hid (W4.cell? ⟨B4, o4 + 4, none⟩ = some (.string (str wd4))) := Lib.hid (HW4.out 4 wd4 (by rw [Hrw.out]; rfl))
          clear hl1 hl2 hl3 hl4
          subst hnT
          go_quiet (fail)
          obtain ⟨W5, hW5⟩ : ∃ W, W = W4.drewN nq := ⟨_, rfl⟩
          have HR5 : Hid (W5.heap[P5]? = some (.cells #[.int .i64 2, .int .i32 0, .int .i32 0, .int .i32 0, .int .i64 0, .int .i64 0, .int .i64 0] 65 (0, 0))) := Lib.hid (by rw [hW5]; exact HR4.out)
          have HZ5 : Hid (W5.heap[w.heap.size]? = some (.cells #[.int .i64 0, .int .i32 0, .int .i32 0, .int .i32 0, .int .i64 0, .int .i64 0, .int .i64 0] 65 (0, 0))) := Lib.hid (by rw [hW5]; exact HZ4.out)
          have HB5 : Hid (Below w.heap.size w W5) := Lib.hid (by rw [hW5]; exact below_step HB4.out (below_drew _ _))
          have HC5 : Hid (W5.heap[P8]? = some (.cells #[.int .i64 0, .int .i64 1, .int .i64 1, .int .i64 2, .int .i64 3] 3 (0, 0))) := Lib.hid (by rw [hW5]; exact HCo.out)
          have HY1 : Hid (W5.cell? ⟨B4, o4 + 1, none⟩ = some (.string (str wd1))) := Lib.hid (by rw [hW5]; exact HX1.out)
          have HY2 : Hid (W5.cell? ⟨B4, o4 + 2, none⟩ = some (.string (str wd2))) := Lib.hid (by rw [hW5]; exact HX2.out)
          have HY3 : Hid (W5.cell? ⟨B4, o4 + 3, none⟩ = some (.string (str wd3))) := Lib.hid (by rw [hW5]; exact HX3.out)
          have HY4 : Hid (W5.cell? ⟨B4, o4 + 4, none⟩ = some (.string (str wd4))) := Lib.hid (by rw [hW5]; exact HX4.out)
          have HP5 : Hid (P5 ≤ W5.heap.size) := Lib.hid (Nat.le_of_lt (obj_ltR HR5.out))
          rw [← hW5]
          clear hW5 k0 m0 m1
          go_wp2_with fail
          go_loopw [10] (fun iv wr => ∃ jj : Nat, iv = .int .i64 (jj : Int) ∧ ((jj = 1 ∧ Hid (wr.heap[P5]? = some (.cells #[.int .i64 2, .int .i32 0, .int .i32 0, .int .i32 0, .int .i64 0, .int .i64 0, .int .i64 0] 65 (0, 0)))) ∨ (jj = 2 ∧ ∃ x1 : Int, Hid (Mt.codeB wd1 = some x1) ∧ Hid (wr.heap[P5]? = some (.cells #[.int .i64 2, .int .i32 x1, .int .i32 0, .int .i32 0, .int .i64 0, .int .i64 0, .int .i64 0] 65 (0, 0)))) ∨ (jj = 3 ∧ ∃ x1 x2 : Int, Hid (Mt.codeB wd1 = some x1) ∧ Hid (Mt.lenB wd2 = some x2) ∧ Hid (wr.heap[P5]? = some (.cells #[.int .i64 2, .int .i32 x1, .int .i32 0, .int .i32 0, .int .i64 x2, .int .i64 0, .int .i64 0] 65 (0, 0)))) ∨ (jj = 4 ∧ ∃ x1 x2 x3 : Int, Hid (Mt.codeB wd1 = some x1) ∧ Hid (Mt.lenB wd2 = some x2) ∧ Hid (Mt.lenB wd3 = some x3) ∧ Hid (wr.heap[P5]? = some (.cells #[.int .i64 2, .int .i32 x1, .int .i32 0, .int .i32 0, .int .i64 x2, .int .i64 x3, .int .i64 0] 65 (0, 0)))) ∨ (jj = 5 ∧ ∃ x1 x2 x3 x4 : Int, Hid (Mt.codeB wd1 = some x1) ∧ Hid (Mt.lenB wd2 = some x2) ∧ Hid (Mt.lenB wd3 = some x3) ∧ Hid (Mt.lenB wd4 = some x4) ∧ Hid (wr.heap[P5]? = some (.cells #[.int .i64 2, .int .i32 x1, .int .i32 0, .int .i32 0, .int .i64 x2, .int .i64 x3, .int .i64 x4] 65 (0, 0))))) ∧ Hid (Kept P5 W5 wr)) (fun iv _ => 5 - (intOf iv).toNat)
          case atStart => exact ⟨1, rfl, .inl ⟨rfl, HR5⟩, Lib.hid (Kept.refl _ _)⟩
          case round =>
            obtain ⟨jj, rfl, hrel, HK⟩ := hrel
            have HZ := Lib.hid (HK.out.far _ _ (Nat.ne_of_lt HnZ.out) HZ5.out)
            have m0 := Lib.cell_of_heap (HK.out.far _ _ HnP8.out.1 HC5.out) 2
            have HBw := Lib.hid (HB5.out.trans (HK.out.below _ (Nat.le_of_lt HnZ.out)))
            rcases hrel with ⟨rfl, HR⟩ | ⟨rfl, x1, hx1, HR⟩ | ⟨rfl, x1, x2, hx1, hx2, HR⟩ | ⟨rfl, x1, x2, x3, hx1, hx2, hx3, HR⟩ | ⟨rfl, x1, x2, x3, x4, hx1, hx2, hx3, hx4, HR⟩
            · have e0 := Lib.cell_of_heap HR.out 0
              have y := HK.out.cell (a := ⟨B4, o4 + 1, none⟩) hB4.out HY1.out
              obtain ⟨oj, hoj⟩ : ∃ oj, oj = Mt.codeB wd1 := ⟨_, rfl⟩
              cases oj with
              | none =>
                have hj := hoj.symm
                clear hoj
                have HNo : Hid (Mt.rowOf ws = none) := Lib.hid (by rw [HRow.out, hj]; rfl)
                have HC := Lib.hid ((HU1.out wr).2 hj)
                clear hj
                go_wp2_with fail
                refine HC.out.mono ?_
                rintro e w7 ⟨c7, rfl, hb7⟩
                have HR := Lib.hid (obj_keptR hb7 HR.out)
                have HZ := Lib.hid (obj_keptR hb7 HZ.out)
                have HB7 := Lib.hid (below_step HBw.out hb7)
                clear hb7 e0 y m0
                have e0 := Lib.cell_of_heap HR.out 0
                have e1 := Lib.cell_of_heap HR.out 1
                have e2 := Lib.cell_of_heap HR.out 2
                have e3 := Lib.cell_of_heap HR.out 3
                have e4 := Lib.cell_of_heap HR.out 4
                have e5 := Lib.cell_of_heap HR.out 5
                have e6 := Lib.cell_of_heap HR.out 6
                have c0 := Lib.cell_of_heap HZ.out 0
                have c1 := Lib.cell_of_heap HZ.out 1
                have c2 := Lib.cell_of_heap HZ.out 2
                have c3 := Lib.cell_of_heap HZ.out 3
                have c4 := Lib.cell_of_heap HZ.out 4
                have c5 := Lib.cell_of_heap HZ.out 5
                have c6 := Lib.cell_of_heap HZ.out 6
                have d0 := Lib.frozen_of_heap HZ.out 0
                have d1 := Lib.frozen_of_heap HZ.out 1
                have d2 := Lib.frozen_of_heap HZ.out 2
                have d3 := Lib.frozen_of_heap HZ.out 3
                have d4 := Lib.frozen_of_heap HZ.out 4
                have d5 := Lib.frozen_of_heap HZ.out 5
                have d6 := Lib.frozen_of_heap HZ.out 6
                have HQ := Lib.hid (set7R w7 w.heap.size (.int .i64 2) (.int .i32 0) (.int .i32 0) (.int .i32 0) (.int .i64 0) (.int .i64 0) (.int .i64 0) HZ.out)
                go_wp2
                obtain ⟨Wf, hWf⟩ : ∃ W, W = ((((((w7.setCell ⟨w.heap.size, 0, none⟩ (.int .i64 2)).setCell ⟨w.heap.size, 1, none⟩ (.int .i32 0)).setCell ⟨w.heap.size, 2, none⟩ (.int .i32 0)).setCell ⟨w.heap.size, 3, none⟩ (.int .i32 0)).setCell ⟨w.heap.size, 4, none⟩ (.int .i64 0)).setCell ⟨w.heap.size, 5, none⟩ (.int .i64 0)).setCell ⟨w.heap.size, 6, none⟩ (.int .i64 0) := ⟨_, rfl⟩
                rw [← hWf] at HQ ⊢
                clear hWf
                have s0 := Lib.cell_of_heap HQ.out.1 0
                have s1 := Lib.cell_of_heap HQ.out.1 1
                have s2 := Lib.cell_of_heap HQ.out.1 2
                have s3 := Lib.cell_of_heap HQ.out.1 3
                have s4 := Lib.cell_of_heap HQ.out.1 4
                have s5 := Lib.cell_of_heap HQ.out.1 5
                have s6 := Lib.cell_of_heap HQ.out.1 6
                have hBf : Below w.heap.size w7 Wf := HQ.out.2 _ (Nat.le_refl _)
                exact bodyPost_ret (v := .tuple #[.agg #[.int .i64 2, .int .i32 0, .int .i32 0, .int .i32 0, .int .i64 0, .int .i64 0, .int .i64 0], .bool false]) (by simp [results, Tryz.results25, go_sem, s0, s1, s2, s3, s4, s5, s6]) rfl (HNoP.out HNo.out _ _ _ _ _ _ _ _ (HB7.out.trans hBf))
              | some x1 =>
                have hj := hoj.symm
                clear hoj
                have HC := Lib.hid ((HU1.out wr).1 x1 hj)
                have Hxj := Lib.hid hj
                clear hj
                go_wp2_with fail
                refine HC.out.mono ?_
                rintro e w7 ⟨rfl, hb7⟩
                have HR7 := Lib.hid (obj_keptR hb7 HR.out)
                have HK7 := Lib.hid (HK.out.trans (Kept.of hb7 (Nat.le_trans HP5.out HK.out.size)))
                have m7 := Lib.cell_of_heap (HK7.out.far _ _ HnP8.out.1 HC5.out) 2
                have e7 := Lib.cell_of_heap HR7.out 0
                have c7 := Lib.cell_of_heap HR7.out 1
                have d7 := Lib.frozen_of_heap HR7.out 1
                clear hb7 e0 y m0
                go_wp2
                go_roundw
                case rel => exact ⟨2, by go_num, .inr (.inl ⟨rfl, x1, Hxj, Lib.hid (heap_setCell_same _ _ 1 _ _ _ HR7.out)⟩), Lib.hid (HK7.out.trans (Kept.set _ _ _ _))⟩
                case measure => simp [intOf]
            · have e0 := Lib.cell_of_heap HR.out 0
              have y := HK.out.cell (a := ⟨B4, o4 + 2, none⟩) hB4.out HY2.out
              obtain ⟨oj, hoj⟩ : ∃ oj, oj = Mt.lenB wd2 := ⟨_, rfl⟩
              cases oj with
              | none =>
                have hj := hoj.symm
                clear hoj
                have HNo : Hid (Mt.rowOf ws = none) := Lib.hid (by rw [HRow.out, hx1.out]; exact three_no (.inl hj))
                obtain ⟨c7, hc7⟩ := (HU2.out wr).2 hj
                have HC := Lib.hid hc7
                clear hj hc7
                go_wp2_with fail
                refine HC.out.mono ?_
                rintro e w7 ⟨rfl, hb7⟩
                have HR := Lib.hid (obj_keptR hb7 HR.out)
                have HZ := Lib.hid (obj_keptR hb7 HZ.out)
                have HB7 := Lib.hid (below_step HBw.out hb7)
                clear hb7 e0 y m0
                have e0 := Lib.cell_of_heap HR.out 0
                have e1 := Lib.cell_of_heap HR.out 1
                have e2 := Lib.cell_of_heap HR.out 2
                have e3 := Lib.cell_of_heap HR.out 3
                have e4 := Lib.cell_of_heap HR.out 4
                have e5 := Lib.cell_of_heap HR.out 5
                have e6 := Lib.cell_of_heap HR.out 6
                have c0 := Lib.cell_of_heap HZ.out 0
                have c1 := Lib.cell_of_heap HZ.out 1
                have c2 := Lib.cell_of_heap HZ.out 2
                have c3 := Lib.cell_of_heap HZ.out 3
                have c4 := Lib.cell_of_heap HZ.out 4
                have c5 := Lib.cell_of_heap HZ.out 5
                have c6 := Lib.cell_of_heap HZ.out 6
                have d0 := Lib.frozen_of_heap HZ.out 0
                have d1 := Lib.frozen_of_heap HZ.out 1
                have d2 := Lib.frozen_of_heap HZ.out 2
                have d3 := Lib.frozen_of_heap HZ.out 3
                have d4 := Lib.frozen_of_heap HZ.out 4
                have d5 := Lib.frozen_of_heap HZ.out 5
                have d6 := Lib.frozen_of_heap HZ.out 6
                have HQ := Lib.hid (set7R w7 w.heap.size (.int .i64 2) (.int .i32 x1) (.int .i32 0) (.int .i32 0) (.int .i64 0) (.int .i64 0) (.int .i64 0) HZ.out)
                go_wp2
                obtain ⟨Wf, hWf⟩ : ∃ W, W = ((((((w7.setCell ⟨w.heap.size, 0, none⟩ (.int .i64 2)).setCell ⟨w.heap.size, 1, none⟩ (.int .i32 x1)).setCell ⟨w.heap.size, 2, none⟩ (.int .i32 0)).setCell ⟨w.heap.size, 3, none⟩ (.int .i32 0)).setCell ⟨w.heap.size, 4, none⟩ (.int .i64 0)).setCell ⟨w.heap.size, 5, none⟩ (.int .i64 0)).setCell ⟨w.heap.size, 6, none⟩ (.int .i64 0) := ⟨_, rfl⟩
                rw [← hWf] at HQ ⊢
                clear hWf
                have s0 := Lib.cell_of_heap HQ.out.1 0
                have s1 := Lib.cell_of_heap HQ.out.1 1
                have s2 := Lib.cell_of_heap HQ.out.1 2
                have s3 := Lib.cell_of_heap HQ.out.1 3
                have s4 := Lib.cell_of_heap HQ.out.1 4
                have s5 := Lib.cell_of_heap HQ.out.1 5
                have s6 := Lib.cell_of_heap HQ.out.1 6
                have hBf : Below w.heap.size w7 Wf := HQ.out.2 _ (Nat.le_refl _)
                exact bodyPost_ret (v := .tuple #[.agg #[.int .i64 2, .int .i32 x1, .int .i32 0, .int .i32 0, .int .i64 0, .int .i64 0, .int .i64 0], .bool false]) (by simp [results, Tryz.results25, go_sem, s0, s1, s2, s3, s4, s5, s6]) rfl (HNoP.out HNo.out _ _ _ _ _ _ _ _ (HB7.out.trans hBf))
              | some x2 =>
                have hj := hoj.symm
                clear hoj
                have HC := Lib.hid ((HU2.out wr).1 x2 hj)
                have Hxj := Lib.hid hj
                clear hj
                go_wp2_with fail
                refine HC.out.mono ?_
                rintro e w7 ⟨rfl, hb7⟩
                have HR7 := Lib.hid (obj_keptR hb7 HR.out)
                have HK7 := Lib.hid (HK.out.trans (Kept.of hb7 (Nat.le_trans HP5.out HK.out.size)))
                have m7 := Lib.cell_of_heap (HK7.out.far _ _ HnP8.out.1 HC5.out) 2
                have e7 := Lib.cell_of_heap HR7.out 0
                have c7 := Lib.cell_of_heap HR7.out 4
                have d7 := Lib.frozen_of_heap HR7.out 4
                clear hb7 e0 y m0
                go_wp2
                go_roundw
                case rel => exact ⟨3, by go_num, .inr (.inr (.inl ⟨rfl, x1, x2, hx1, Hxj, Lib.hid (heap_setCell_same _ _ 4 _ _ _ HR7.out)⟩)), Lib.hid (HK7.out.trans (Kept.set _ _ _ _))⟩
                case measure => simp [intOf]
            · have e0 := Lib.cell_of_heap HR.out 0
              have y := HK.out.cell (a := ⟨B4, o4 + 3, none⟩) hB4.out HY3.out
              obtain ⟨oj, hoj⟩ : ∃ oj, oj = Mt.lenB wd3 := ⟨_, rfl⟩
              cases oj with
              | none =>
                have hj := hoj.symm
                clear hoj
                have HNo : Hid (Mt.rowOf ws = none) := Lib.hid (by rw [HRow.out, hx1.out]; exact three_no (.inr (.inl hj)))
                obtain ⟨c7, hc7⟩ := (HU3.out wr).2 hj
                have HC := Lib.hid hc7
                clear hj hc7
                go_wp2_with fail
                refine HC.out.mono ?_
                rintro e w7 ⟨rfl, hb7⟩
                have HR := Lib.hid (obj_keptR hb7 HR.out)
                have HZ := Lib.hid (obj_keptR hb7 HZ.out)
                have HB7 := Lib.hid (below_step HBw.out hb7)
                clear hb7 e0 y m0
                have e0 := Lib.cell_of_heap HR.out 0
                have e1 := Lib.cell_of_heap HR.out 1
                have e2 := Lib.cell_of_heap HR.out 2
                have e3 := Lib.cell_of_heap HR.out 3
                have e4 := Lib.cell_of_heap HR.out 4
                have e5 := Lib.cell_of_heap HR.out 5
                have e6 := Lib.cell_of_heap HR.out 6
                have c0 := Lib.cell_of_heap HZ.out 0
                have c1 := Lib.cell_of_heap HZ.out 1
                have c2 := Lib.cell_of_heap HZ.out 2
                have c3 := Lib.cell_of_heap HZ.out 3
                have c4 := Lib.cell_of_heap HZ.out 4
                have c5 := Lib.cell_of_heap HZ.out 5
                have c6 := Lib.cell_of_heap HZ.out 6
                have d0 := Lib.frozen_of_heap HZ.out 0
                have d1 := Lib.frozen_of_heap HZ.out 1
                have d2 := Lib.frozen_of_heap HZ.out 2
                have d3 := Lib.frozen_of_heap HZ.out 3
                have d4 := Lib.frozen_of_heap HZ.out 4
                have d5 := Lib.frozen_of_heap HZ.out 5
                have d6 := Lib.frozen_of_heap HZ.out 6
                have HQ := Lib.hid (set7R w7 w.heap.size (.int .i64 2) (.int .i32 x1) (.int .i32 0) (.int .i32 0) (.int .i64 x2) (.int .i64 0) (.int .i64 0) HZ.out)
                go_wp2
                obtain ⟨Wf, hWf⟩ : ∃ W, W = ((((((w7.setCell ⟨w.heap.size, 0, none⟩ (.int .i64 2)).setCell ⟨w.heap.size, 1, none⟩ (.int .i32 x1)).setCell ⟨w.heap.size, 2, none⟩ (.int .i32 0)).setCell ⟨w.heap.size, 3, none⟩ (.int .i32 0)).setCell ⟨w.heap.size, 4, none⟩ (.int .i64 x2)).setCell ⟨w.heap.size, 5, none⟩ (.int .i64 0)).setCell ⟨w.heap.size, 6, none⟩ (.int .i64 0) := ⟨_, rfl⟩
                rw [← hWf] at HQ ⊢
                clear hWf
                have s0 := Lib.cell_of_heap HQ.out.1 0
                have s1 := Lib.cell_of_heap HQ.out.1 1
                have s2 := Lib.cell_of_heap HQ.out.1 2
                have s3 := Lib.cell_of_heap HQ.out.1 3
                have s4 := Lib.cell_of_heap HQ.out.1 4
                have s5 := Lib.cell_of_heap HQ.out.1 5
                have s6 := Lib.cell_of_heap HQ.out.1 6
                have hBf : Below w.heap.size w7 Wf := HQ.out.2 _ (Nat.le_refl _)
                exact bodyPost_ret (v := .tuple #[.agg #[.int .i64 2, .int .i32 x1, .int .i32 0, .int .i32 0, .int .i64 x2, .int .i64 0, .int .i64 0], .bool false]) (by simp [results, Tryz.results25, go_sem, s0, s1, s2, s3, s4, s5, s6]) rfl (HNoP.out HNo.out _ _ _ _ _ _ _ _ (HB7.out.trans hBf))
              | some x3 =>
                have hj := hoj.symm
                clear hoj
                have HC := Lib.hid ((HU3.out wr).1 x3 hj)
                have Hxj := Lib.hid hj
                clear hj
                go_wp2_with fail
                refine HC.out.mono ?_
                rintro e w7 ⟨rfl, hb7⟩
                have HR7 := Lib.hid (obj_keptR hb7 HR.out)
                have HK7 := Lib.hid (HK.out.trans (Kept.of hb7 (Nat.le_trans HP5.out HK.out.size)))
                have m7 := Lib.cell_of_heap (HK7.out.far _ _ HnP8.out.1 HC5.out) 2
                have e7 := Lib.cell_of_heap HR7.out 0
                have c7 := Lib.cell_of_heap HR7.out 5
                have d7 := Lib.frozen_of_heap HR7.out 5
                clear hb7 e0 y m0
                go_wp2
                go_roundw
                case rel => exact ⟨4, by go_num, .inr (.inr (.inr (.inl ⟨rfl, x1, x2, x3, hx1, hx2, Hxj, Lib.hid (heap_setCell_same _ _ 5 _ _ _ HR7.out)⟩))), Lib.hid (HK7.out.trans (Kept.set _ _ _ _))⟩
                case measure => simp [intOf]
            · have e0 := Lib.cell_of_heap HR.out 0
              have y := HK.out.cell (a := ⟨B4, o4 + 4, none⟩) hB4.out HY4.out
              obtain ⟨oj, hoj⟩ : ∃ oj, oj = Mt.lenB wd4 := ⟨_, rfl⟩
              cases oj with
              | none =>
                have hj := hoj.symm
                clear hoj
                have HNo : Hid (Mt.rowOf ws = none) := Lib.hid (by rw [HRow.out, hx1.out]; exact three_no (.inr (.inr hj)))
                obtain ⟨c7, hc7⟩ := (HU4.out wr).2 hj
                have HC := Lib.hid hc7
                clear hj hc7
                go_wp2_with fail
                refine HC.out.mono ?_
                rintro e w7 ⟨rfl, hb7⟩
                have HR := Lib.hid (obj_keptR hb7 HR.out)
                have HZ := Lib.hid (obj_keptR hb7 HZ.out)
                have HB7 := Lib.hid (below_step HBw.out hb7)
                clear hb7 e0 y m0
                have e0 := Lib.cell_of_heap HR.out 0
                have e1 := Lib.cell_of_heap HR.out 1
                have e2 := Lib.cell_of_heap HR.out 2
                have e3 := Lib.cell_of_heap HR.out 3
                have e4 := Lib.cell_of_heap HR.out 4
                have e5 := Lib.cell_of_heap HR.out 5
                have e6 := Lib.cell_of_heap HR.out 6
                have c0 := Lib.cell_of_heap HZ.out 0
                have c1 := Lib.cell_of_heap HZ.out 1
                have c2 := Lib.cell_of_heap HZ.out 2
                have c3 := Lib.cell_of_heap HZ.out 3
                have c4 := Lib.cell_of_heap HZ.out 4
                have c5 := Lib.cell_of_heap HZ.out 5
                have c6 := Lib.cell_of_heap HZ.out 6
                have d0 := Lib.frozen_of_heap HZ.out 0
                have d1 := Lib.frozen_of_heap HZ.out 1
                have d2 := Lib.frozen_of_heap HZ.out 2
                have d3 := Lib.frozen_of_heap HZ.out 3
                have d4 := Lib.frozen_of_heap HZ.out 4
                have d5 := Lib.frozen_of_heap HZ.out 5
                have d6 := Lib.frozen_of_heap HZ.out 6
                have HQ := Lib.hid (set7R w7 w.heap.size (.int .i64 2) (.int .i32 x1) (.int .i32 0) (.int .i32 0) (.int .i64 x2) (.int .i64 x3) (.int .i64 0) HZ.out)
                go_wp2
                obtain ⟨Wf, hWf⟩ : ∃ W, W = ((((((w7.setCell ⟨w.heap.size, 0, none⟩ (.int .i64 2)).setCell ⟨w.heap.size, 1, none⟩ (.int .i32 x1)).setCell ⟨w.heap.size, 2, none⟩ (.int .i32 0)).setCell ⟨w.heap.size, 3, none⟩ (.int .i32 0)).setCell ⟨w.heap.size, 4, none⟩ (.int .i64 x2)).setCell ⟨w.heap.size, 5, none⟩ (.int .i64 x3)).setCell ⟨w.heap.size, 6, none⟩ (.int .i64 0) := ⟨_, rfl⟩
                rw [← hWf] at HQ ⊢
                clear hWf
                have s0 := Lib.cell_of_heap HQ.out.1 0
                have s1 := Lib.cell_of_heap HQ.out.1 1
                have s2 := Lib.cell_of_heap HQ.out.1 2
                have s3 := Lib.cell_of_heap HQ.out.1 3
                have s4 := Lib.cell_of_heap HQ.out.1 4
                have s5 := Lib.cell_of_heap HQ.out.1 5
                have s6 := Lib.cell_of_heap HQ.out.1 6
                have hBf : Below w.heap.size w7 Wf := HQ.out.2 _ (Nat.le_refl _)
                exact bodyPost_ret (v := .tuple #[.agg #[.int .i64 2, .int .i32 x1, .int .i32 0, .int .i32 0, .int .i64 x2, .int .i64 x3, .int .i64 0], .bool false]) (by simp [results, Tryz.results25, go_sem, s0, s1, s2, s3, s4, s5, s6]) rfl (HNoP.out HNo.out _ _ _ _ _ _ _ _ (HB7.out.trans hBf))
              | some x4 =>
                have hj := hoj.symm
                clear hoj
                have HC := Lib.hid ((HU4.out wr).1 x4 hj)
                have Hxj := Lib.hid hj
                clear hj
                go_wp2_with fail
                refine HC.out.mono ?_
                rintro e w7 ⟨rfl, hb7⟩
                have HR7 := Lib.hid (obj_keptR hb7 HR.out)
                have HK7 := Lib.hid (HK.out.trans (Kept.of hb7 (Nat.le_trans HP5.out HK.out.size)))
                have m7 := Lib.cell_of_heap (HK7.out.far _ _ HnP8.out.1 HC5.out) 2
                have e7 := Lib.cell_of_heap HR7.out 0
                have c7 := Lib.cell_of_heap HR7.out 6
                have d7 := Lib.frozen_of_heap HR7.out 6
                clear hb7 e0 y m0
                go_wp2
                go_roundw
                case rel => exact ⟨5, by go_num, .inr (.inr (.inr (.inr (⟨rfl, x1, x2, x3, x4, hx1, hx2, hx3, Hxj, Lib.hid (heap_setCell_same _ _ 6 _ _ _ HR7.out)⟩)))), Lib.hid (HK7.out.trans (Kept.set _ _ _ _))⟩
                case measure => simp [intOf]
            · have HYe : Hid (Mt.rowOf ws = some (.char x1 x2 x3 x4)) := Lib.hid (by rw [HRow.out, hx1.out, hx2.out, hx3.out, hx4.out]; rfl)
              have e0 := Lib.cell_of_heap HR.out 0
              have e1 := Lib.cell_of_heap HR.out 1
              have e2 := Lib.cell_of_heap HR.out 2
              have e3 := Lib.cell_of_heap HR.out 3
              have e4 := Lib.cell_of_heap HR.out 4
              have e5 := Lib.cell_of_heap HR.out 5
              have e6 := Lib.cell_of_heap HR.out 6
              have c0 := Lib.cell_of_heap HZ.out 0
              have c1 := Lib.cell_of_heap HZ.out 1
              have c2 := Lib.cell_of_heap HZ.out 2
              have c3 := Lib.cell_of_heap HZ.out 3
              have c4 := Lib.cell_of_heap HZ.out 4
              have c5 := Lib.cell_of_heap HZ.out 5
              have c6 := Lib.cell_of_heap HZ.out 6
              have d0 := Lib.frozen_of_heap HZ.out 0
              have d1 := Lib.frozen_of_heap HZ.out 1
              have d2 := Lib.frozen_of_heap HZ.out 2
              have d3 := Lib.frozen_of_heap HZ.out 3
              have d4 := Lib.frozen_of_heap HZ.out 4
              have d5 := Lib.frozen_of_heap HZ.out 5
              have d6 := Lib.frozen_of_heap HZ.out 6
              have HQ := Lib.hid (set7R wr w.heap.size (.int .i64 2) (.int .i32 x1) (.int .i32 0) (.int .i32 0) (.int .i64 x2) (.int .i64 x3) (.int .i64 x4) HZ.out)
              go_wp2
              obtain ⟨Wf, hWf⟩ : ∃ W, W = ((((((wr.setCell ⟨w.heap.size, 0, none⟩ (.int .i64 2)).setCell ⟨w.heap.size, 1, none⟩ (.int .i32 x1)).setCell ⟨w.heap.size, 2, none⟩ (.int .i32 0)).setCell ⟨w.heap.size, 3, none⟩ (.int .i32 0)).setCell ⟨w.heap.size, 4, none⟩ (.int .i64 x2)).setCell ⟨w.heap.size, 5, none⟩ (.int .i64 x3)).setCell ⟨w.heap.size, 6, none⟩ (.int .i64 x4) := ⟨_, rfl⟩
              rw [← hWf] at HQ ⊢
              clear hWf
              have s0 := Lib.cell_of_heap HQ.out.1 0
              have s1 := Lib.cell_of_heap HQ.out.1 1
              have s2 := Lib.cell_of_heap HQ.out.1 2
              have s3 := Lib.cell_of_heap HQ.out.1 3
              have s4 := Lib.cell_of_heap HQ.out.1 4
              have s5 := Lib.cell_of_heap HQ.out.1 5
              have s6 := Lib.cell_of_heap HQ.out.1 6
              have hBf : Below w.heap.size wr Wf := HQ.out.2 _ (Nat.le_refl _)
              exact bodyPost_ret (v := .tuple #[.agg #[.int .i64 2, .int .i32 x1, .int .i32 0, .int .i32 0, .int .i64 x2, .int .i64 x3, .int .i64 x4], .bool true]) (by simp [results, Tryz.results25, go_sem, s0, s1, s2, s3, s4, s5, s6]) rfl (HYesP.out _ HYe.out _ (HBw.out.trans hBf))
        · have HNo : Hid (Mt.rowOf ws = none) := Lib.hid (by rw [Hrw.out]; exact rowOf_len2 (by have h := Hn.out; rw [Hrw.out, List.length_cons] at h; omega))
          have hnI : ((n : Int) == 5) = false := beq_eq_false_iff_ne.2 (by omega)
          have hnJ : ((n : Int) != 5) = true := by simp only [bne, hnI]; rfl
          go_quiet (fail)
          obtain ⟨W5, hW5⟩ : ∃ W, W = W4.drewN nq := ⟨_, rfl⟩
          have HR : Hid (W5.heap[P5]? = some (.cells #[.int .i64 2, .int .i32 0, .int .i32 0, .int .i32 0, .int .i64 0, .int .i64 0, .int .i64 0] 65 (0, 0))) := Lib.hid (by rw [hW5]; exact HR4.out)
          have HZ : Hid (W5.heap[w.heap.size]? = some (.cells #[.int .i64 0, .int .i32 0, .int .i32 0, .int .i32 0, .int .i64 0, .int .i64 0, .int .i64 0] 65 (0, 0))) := Lib.hid (by rw [hW5]; exact HZ4.out)
          have HB5 : Hid (Below w.heap.size w W5) := Lib.hid (by rw [hW5]; exact below_step HB4.out (below_drew _ _))
          rw [← hW5]
          clear hW5 k0 m0 m1
          have e0 := Lib.cell_of_heap HR.out 0
          have e1 := Lib.cell_of_heap HR.out 1
          have e2 := Lib.cell_of_heap HR.out 2
          have e3 := Lib.cell_of_heap HR.out 3
          have e4 := Lib.cell_of_heap HR.out 4
          have e5 := Lib.cell_of_heap HR.out 5
          have e6 := Lib.cell_of_heap HR.out 6
          have c0 := Lib.cell_of_heap HZ.out 0
          have c1 := Lib.cell_of_heap HZ.out 1
          have c2 := Lib.cell_of_heap HZ.out 2
          have c3 := Lib.cell_of_heap HZ.out 3
          have c4 := Lib.cell_of_heap HZ.out 4
          have c5 := Lib.cell_of_heap HZ.out 5
          have c6 := Lib.cell_of_heap HZ.out 6
          have d0 := Lib.frozen_of_heap HZ.out 0
          have d1 := Lib.frozen_of_heap HZ.out 1
          have d2 := Lib.frozen_of_heap HZ.out 2
          have d3 := Lib.frozen_of_heap HZ.out 3
          have d4 := Lib.frozen_of_heap HZ.out 4
          have d5 := Lib.frozen_of_heap HZ.out 5
          have d6 := Lib.frozen_of_heap HZ.out 6
          have HQ := Lib.hid (set7R W5 w.heap.size (.int .i64 2) (.int .i32 0) (.int .i32 0) (.int .i32 0) (.int .i64 0) (.int .i64 0) (.int .i64 0) HZ.out)
          go_wp2
          obtain ⟨Wf, hWf⟩ : ∃ W, W = ((((((W5.setCell ⟨w.heap.size, 0, none⟩ (.int .i64 2)).setCell ⟨w.heap.size, 1, none⟩ (.int .i32 0)).setCell ⟨w.heap.size, 2, none⟩ (.int .i32 0)).setCell ⟨w.heap.size, 3, none⟩ (.int .i32 0)).setCell ⟨w.heap.size, 4, none⟩ (.int .i64 0)).setCell ⟨w.heap.size, 5, none⟩ (.int .i64 0)).setCell ⟨w.heap.size, 6, none⟩ (.int .i64 0) := ⟨_, rfl⟩
          rw [← hWf] at HQ ⊢
          clear hWf
          have s0 := Lib.cell_of_heap HQ.out.1 0
          have s1 := Lib.cell_of_heap HQ.out.1 1
          have s2 := Lib.cell_of_heap HQ.out.1 2
          have s3 := Lib.cell_of_heap HQ.out.1 3
          have s4 := Lib.cell_of_heap HQ.out.1 4
          have s5 := Lib.cell_of_heap HQ.out.1 5
          have s6 := Lib.cell_of_heap HQ.out.1 6
          have hBf : Below w.heap.size W5 Wf := HQ.out.2 _ (Nat.le_refl _)
          exact bodyPost_ret (v := .tuple #[.agg #[.int .i64 2, .int .i32 0, .int .i32 0, .int .i32 0, .int .i64 0, .int .i64 0, .int .i64 0], .bool false]) (by simp [results, Tryz.results25, go_sem, s0, s1, s2, s3, s4, s5, s6]) rfl (HNoP.out HNo.out _ _ _ _ _ _ _ _ (HB5.out.trans hBf))
      · rw [hk] at HR
        go_upto_region 10 with fail
        obtain ⟨W4, hW4⟩ : ∃ W, W = (W3.alloc (.cells #[.int .i64 0, .int .i64 1, .int .i64 1, .int .i64 2, .int .i64 3] 3)).alloc (.cells #[.int .i64 3, .int .i64 0, .int .i64 3, .int .i64 1, .int .i64 0] 3) := ⟨_, rfl⟩
        obtain ⟨hb34, hCo, hLe⟩ := HAl.out W4 hW4
        obtain ⟨P8, hP8⟩ : ∃ p, p = W3.heap.size := ⟨_, rfl⟩
        have HP8 : Hid (P5 ≤ P8) := Lib.hid (by rw [hP8]; exact HP3.out)
        rw [← hP8] at hCo hLe
        have HR4 := Lib.hid (obj_keptR hb34 HR.out)
        have HZ4 := Lib.hid (obj_keptR hb34 HZ.out)
        have HB4 := Lib.hid (below_step HB3.out hb34)
        have HW4 : Hid (∀ i u, ws[i]? = some u → W4.cell? ⟨B4, o4 + i, none⟩ = some (.string (str u))) := Lib.hid (fun i u hu => cell_below hb34 (HW3.out i u hu))
        have HCo := Lib.hid hCo
        have HLe := Lib.hid hLe
        have HnP8 : Hid (P8 ≠ P5 ∧ P8 + 1 ≠ P5) := Lib.hid (by
          have h1 := obj_ltR HR.out
          rw [← hP8] at h1
          omega)
        rw [← hW4, ← hP8]
        clear hW4 hP8 hb34 hCo hLe HR HZ HB3 HW3 HAl hk
        have k0 := Lib.cell_of_heap HR4.out 0
        subst hu
        have m0 := Lib.cell_of_heap HCo.out 3
        have m1 := Lib.cell_of_heap HLe.out 3
        by_cases hnT : n = 4
        · have hlen : rw0.length = 3 := by
            have h := Hn.out
            rw [Hrw.out, hnT, List.length_cons] at h
            omega
          obtain ⟨wd1, wd2, wd3, rfl⟩ : ∃ wd1 wd2 wd3, rw0 = [wd1, wd2, wd3] := len3R hlen
          clear hlen
          have HRow : Hid (Mt.rowOf ws = Mt.three .kern (Mt.codeB wd1) (Mt.codeB wd2) (Mt.lenB wd3)) := Lib.hid (by rw [Hrw.out]; simp [Mt.rowOf, show ¬ Mt.kernW = Mt.spaceW by decide])
          have hl1 : wd1.length ≤ 4294967296 := Hln.out _ (by rw [Hrw.out]; simp)
          have HU1 : Hid (∀ w, (∀ n, Mt.codeB wd1 = some n → Calls Tryz.prog 53 #[.string (str wd1)] w (Ret (.tuple #[.int .i32 n, .bool true]) w)) ∧ (Mt.codeB wd1 = none → Calls Tryz.prog 53 #[.string (str wd1)] w (fun e w2 => ∃ n : Int, e = .returned (.tuple #[.int .i32 n, .bool false]) ∧ Below w.heap.size w w2))) := Lib.hid (fun w => code_ok wd1 hl1 w)
          have HX1 : Hid (W4.cell? ⟨B4, o4 + 1, none⟩ = some (.string (str wd1))) := Lib.hid (HW4.out 1 wd1 (by rw [Hrw.out]; rfl))
          have hl2 : wd2.length ≤ 4294967296 := Hln.out _ (by rw [Hrw.out]; simp)
          have HU2 : Hid (∀ w, (∀ n, Mt.codeB wd2 = some n → Calls Tryz.prog 53 #[.string (str wd2)] w (Ret (.tuple #[.int .i32 n, .bool true]) w)) ∧ (Mt.codeB wd2 = none → Calls Tryz.prog 53 #[.string (str wd2)] w (fun e w2 => ∃ n : Int, e = .returned (.tuple #[.int .i32 n, .bool false]) ∧ Below w.heap.size w w2))) := Lib.hid (fun w => code_ok wd2 hl2 w)
          have HX2 : Hid (W4.cell? ⟨B4, o4 + 2, none⟩ = some (.string (str wd2))) := Lib.hid (HW4.out 2 wd2 (by rw [Hrw.out]; rfl))
          have hl3 : wd3.length ≤ 4294967296 := Hln.out _ (by rw [Hrw.out]; simp)
          have HU3 : Hid (∀ w, (∀ n, Mt.lenB wd3 = some n → Calls Tryz.prog 54 #[.string (str wd3)] w (Ret (.tuple #[.int .i64 n, .bool true]) w)) ∧ (Mt.lenB wd3 = none → ∃ n : Int, Calls Tryz.prog 54 #[.string (str wd3)] w (Ret (.tuple #[.int .i64 n, .bool false]) w))) := Lib.hid (fun w => length_ok wd3 hl3 w)
          have HX3 : Hid (W4.cell? ⟨B4, o4 + 3, none⟩ = some (.string (str wd3))) := Lib.hid (HW4.out 3 wd3 (by rw [Hrw.out]; rfl))
          clear hl1 hl2 hl3
          subst hnT
          go_quiet (fail)
          obtain ⟨W5, hW5⟩ : ∃ W, W = W4.drewN nq := ⟨_, rfl⟩
          have HR5 : Hid (W5.heap[P5]? = some (.cells #[.int .i64 3, .int .i32 0, .int .i32 0, .int .i32 0, .int .i64 0, .int .i64 0, .int .i64 0] 65 (0, 0))) := Lib.hid (by rw [hW5]; exact HR4.out)
          have HZ5 : Hid (W5.heap[w.heap.size]? = some (.cells #[.int .i64 0, .int .i32 0, .int .i32 0, .int .i32 0, .int .i64 0, .int .i64 0, .int .i64 0] 65 (0, 0))) := Lib.hid (by rw [hW5]; exact HZ4.out)
          have HB5 : Hid (Below w.heap.size w W5) := Lib.hid (by rw [hW5]; exact below_step HB4.out (below_drew _ _))
          have HC5 : Hid (W5.heap[P8]? = some (.cells #[.int .i64 0, .int .i64 1, .int .i64 1, .int .i64 2, .int .i64 3] 3 (0, 0))) := Lib.hid (by rw [hW5]; exact HCo.out)
          have HY1 : Hid (W5.cell? ⟨B4, o4 + 1, none⟩ = some (.string (str wd1))) := Lib.hid (by rw [hW5]; exact HX1.out)
          have HY2 : Hid (W5.cell? ⟨B4, o4 + 2, none⟩ = some (.string (str wd2))) := Lib.hid (by rw [hW5]; exact HX2.out)
          have HY3 : Hid (W5.cell? ⟨B4, o4 + 3, none⟩ = some (.string (str wd3))) := Lib.hid (by rw [hW5]; exact HX3.out)
          have HP5 : Hid (P5 ≤ W5.heap.size) := Lib.hid (Nat.le_of_lt (obj_ltR HR5.out))
          rw [← hW5]
          clear hW5 k0 m0 m1
          go_wp2_with fail
          go_loopw [10] (fun iv wr => ∃ jj : Nat, iv = .int .i64 (jj : Int) ∧ ((jj = 1 ∧ Hid (wr.heap[P5]? = some (.cells #[.int .i64 3, .int .i32 0, .int .i32 0, .int .i32 0, .int .i64 0, .int .i64 0, .int .i64 0] 65 (0, 0)))) ∨ (jj = 2 ∧ ∃ x1 : Int, Hid (Mt.codeB wd1 = some x1) ∧ Hid (wr.heap[P5]? = some (.cells #[.int .i64 3, .int .i32 x1, .int .i32 0, .int .i32 0, .int .i64 0, .int .i64 0, .int .i64 0] 65 (0, 0)))) ∨ (jj = 3 ∧ ∃ x1 x2 : Int, Hid (Mt.codeB wd1 = some x1) ∧ Hid (Mt.codeB wd2 = some x2) ∧ Hid (wr.heap[P5]? = some (.cells #[.int .i64 3, .int .i32 x1, .int .i32 x2, .int .i32 0, .int .i64 0, .int .i64 0, .int .i64 0] 65 (0, 0)))) ∨ (jj = 4 ∧ ∃ x1 x2 x3 : Int, Hid (Mt.codeB wd1 = some x1) ∧ Hid (Mt.codeB wd2 = some x2) ∧ Hid (Mt.lenB wd3 = some x3) ∧ Hid (wr.heap[P5]? = some (.cells #[.int .i64 3, .int .i32 x1, .int .i32 x2, .int .i32 0, .int .i64 x3, .int .i64 0, .int .i64 0] 65 (0, 0))))) ∧ Hid (Kept P5 W5 wr)) (fun iv _ => 4 - (intOf iv).toNat)
          case atStart => exact ⟨1, rfl, .inl ⟨rfl, HR5⟩, Lib.hid (Kept.refl _ _)⟩
          case round =>
            obtain ⟨jj, rfl, hrel, HK⟩ := hrel
            have HZ := Lib.hid (HK.out.far _ _ (Nat.ne_of_lt HnZ.out) HZ5.out)
            have m0 := Lib.cell_of_heap (HK.out.far _ _ HnP8.out.1 HC5.out) 3
            have HBw := Lib.hid (HB5.out.trans (HK.out.below _ (Nat.le_of_lt HnZ.out)))
            rcases hrel with ⟨rfl, HR⟩ | ⟨rfl, x1, hx1, HR⟩ | ⟨rfl, x1, x2, hx1, hx2, HR⟩ | ⟨rfl, x1, x2, x3, hx1, hx2, hx3, HR⟩
            · have e0 := Lib.cell_of_heap HR.out 0
              have y := HK.out.cell (a := ⟨B4, o4 + 1, none⟩) hB4.out HY1.out
              obtain ⟨oj, hoj⟩ : ∃ oj, oj = Mt.codeB wd1 := ⟨_, rfl⟩
              cases oj with
              | none =>
                have hj := hoj.symm
                clear hoj
                have HNo : Hid (Mt.rowOf ws = none) := Lib.hid (by rw [HRow.out]; exact three_no (.inl hj))
                have HC := Lib.hid ((HU1.out wr).2 hj)
                clear hj
                go_wp2_with fail
                refine HC.out.mono ?_
                rintro e w7 ⟨c7, rfl, hb7⟩
                have HR := Lib.hid (obj_keptR hb7 HR.out)
                have HZ := Lib.hid (obj_keptR hb7 HZ.out)
                have HB7 := Lib.hid (below_step HBw.out hb7)
                clear hb7 e0 y m0
                have e0 := Lib.cell_of_heap HR.out 0
                have e1 := Lib.cell_of_heap HR.out 1
                have e2 := Lib.cell_of_heap HR.out 2
                have e3 := Lib.cell_of_heap HR.out 3
                have e4 := Lib.cell_of_heap HR.out 4
                have e5 := Lib.cell_of_heap HR.out 5
                have e6 := Lib.cell_of_heap HR.out 6
                have c0 := Lib.cell_of_heap HZ.out 0
                have c1 := Lib.cell_of_heap HZ.out 1
                have c2 := Lib.cell_of_heap HZ.out 2
                have c3 := Lib.cell_of_heap HZ.out 3
                have c4 := Lib.cell_of_heap HZ.out 4
                have c5 := Lib.cell_of_heap HZ.out 5
                have c6 := Lib.cell_of_heap HZ.out 6
                have d0 := Lib.frozen_of_heap HZ.out 0
                have d1 := Lib.frozen_of_heap HZ.out 1
                have d2 := Lib.frozen_of_heap HZ.out 2
                have d3 := Lib.frozen_of_heap HZ.out 3
                have d4 := Lib.frozen_of_heap HZ.out 4
                have d5 := Lib.frozen_of_heap HZ.out 5
                have d6 := Lib.frozen_of_heap HZ.out 6
                have HQ := Lib.hid (set7R w7 w.heap.size (.int .i64 3) (.int .i32 0) (.int .i32 0) (.int .i32 0) (.int .i64 0) (.int .i64 0) (.int .i64 0) HZ.out)
                go_wp2
                obtain ⟨Wf, hWf⟩ : ∃ W, W = ((((((w7.setCell ⟨w.heap.size, 0, none⟩ (.int .i64 3)).setCell ⟨w.heap.size, 1, none⟩ (.int .i32 0)).setCell ⟨w.heap.size, 2, none⟩ (.int .i32 0)).setCell ⟨w.heap.size, 3, none⟩ (.int .i32 0)).setCell ⟨w.heap.size, 4, none⟩ (.int .i64 0)).setCell ⟨w.heap.size, 5, none⟩ (.int .i64 0)).setCell ⟨w.heap.size, 6, none⟩ (.int .i64 0) := ⟨_, rfl⟩
                rw [← hWf] at HQ ⊢
                clear hWf
                have s0 := Lib.cell_of_heap HQ.out.1 0
                have s1 := Lib.cell_of_heap HQ.out.1 1
                have s2 := Lib.cell_of_heap HQ.out.1 2
                have s3 := Lib.cell_of_heap HQ.out.1 3
                have s4 := Lib.cell_of_heap HQ.out.1 4
                have s5 := Lib.cell_of_heap HQ.out.1 5
                have s6 := Lib.cell_of_heap HQ.out.1 6
                have hBf : Below w.heap.size w7 Wf := HQ.out.2 _ (Nat.le_refl _)
                exact bodyPost_ret (v := .tuple #[.agg #[.int .i64 3, .int .i32 0, .int .i32 0, .int .i32 0, .int .i64 0, .int .i64 0, .int .i64 0], .bool false]) (by simp [results, Tryz.results25, go_sem, s0, s1, s2, s3, s4, s5, s6]) rfl (HNoP.out HNo.out _ _ _ _ _ _ _ _ (HB7.out.trans hBf))
              | some x1 =>
                have hj := hoj.symm
                clear hoj
                have HC := Lib.hid ((HU1.out wr).1 x1 hj)
                have Hxj := Lib.hid hj
                clear hj
                go_wp2_with fail
                refine HC.out.mono ?_
                rintro e w7 ⟨rfl, hb7⟩
                have HR7 := Lib.hid (obj_keptR hb7 HR.out)
                have HK7 := Lib.hid (HK.out.trans (Kept.of hb7 (Nat.le_trans HP5.out HK.out.size)))
                have m7 := Lib.cell_of_heap (HK7.out.far _ _ HnP8.out.1 HC5.out) 3
                have e7 := Lib.cell_of_heap HR7.out 0
                have c7 := Lib.cell_of_heap HR7.out 1
                have d7 := Lib.frozen_of_heap HR7.out 1
                clear hb7 e0 y m0
                go_wp2
                go_roundw
                case rel => exact ⟨2, by go_num, .inr (.inl ⟨rfl, x1, Hxj, Lib.hid (heap_setCell_same _ _ 1 _ _ _ HR7.out)⟩), Lib.hid (HK7.out.trans (Kept.set _ _ _ _))⟩
                case measure => simp [intOf]
            · have e0 := Lib.cell_of_heap HR.out 0
              have y := HK.out.cell (a := ⟨B4, o4 + 2, none⟩) hB4.out HY2.out
              obtain ⟨oj, hoj⟩ : ∃ oj, oj = Mt.codeB wd2 := ⟨_, rfl⟩
              cases oj with
              | none =>
                have hj := hoj.symm
                clear hoj
                have HNo : Hid (Mt.rowOf ws = none) := Lib.hid (by rw [HRow.out]; exact three_no (.inr (.inl hj)))
                have HC := Lib.hid ((HU2.out wr).2 hj)
                clear hj
                go_wp2_with fail
                refine HC.out.mono ?_
                rintro e w7 ⟨c7, rfl, hb7⟩
                have HR := Lib.hid (obj_keptR hb7 HR.out)
                have HZ := Lib.hid (obj_keptR hb7 HZ.out)
                have HB7 := Lib.hid (below_step HBw.out hb7)
                clear hb7 e0 y m0
                have e0 := Lib.cell_of_heap HR.out 0
                have e1 := Lib.cell_of_heap HR.out 1
                have e2 := Lib.cell_of_heap HR.out 2
                have e3 := Lib.cell_of_heap HR.out 3
                have e4 := Lib.cell_of_heap HR.out 4
                have e5 := Lib.cell_of_heap HR.out 5
                have e6 := Lib.cell_of_heap HR.out 6
                have c0 := Lib.cell_of_heap HZ.out 0
                have c1 := Lib.cell_of_heap HZ.out 1
                have c2 := Lib.cell_of_heap HZ.out 2
                have c3 := Lib.cell_of_heap HZ.out 3
                have c4 := Lib.cell_of_heap HZ.out 4
                have c5 := Lib.cell_of_heap HZ.out 5
                have c6 := Lib.cell_of_heap HZ.out 6
                have d0 := Lib.frozen_of_heap HZ.out 0
                have d1 := Lib.frozen_of_heap HZ.out 1
                have d2 := Lib.frozen_of_heap HZ.out 2
                have d3 := Lib.frozen_of_heap HZ.out 3
                have d4 := Lib.frozen_of_heap HZ.out 4
                have d5 := Lib.frozen_of_heap HZ.out 5
                have d6 := Lib.frozen_of_heap HZ.out 6
                have HQ := Lib.hid (set7R w7 w.heap.size (.int .i64 3) (.int .i32 x1) (.int .i32 0) (.int .i32 0) (.int .i64 0) (.int .i64 0) (.int .i64 0) HZ.out)
                go_wp2
                obtain ⟨Wf, hWf⟩ : ∃ W, W = ((((((w7.setCell ⟨w.heap.size, 0, none⟩ (.int .i64 3)).setCell ⟨w.heap.size, 1, none⟩ (.int .i32 x1)).setCell ⟨w.heap.size, 2, none⟩ (.int .i32 0)).setCell ⟨w.heap.size, 3, none⟩ (.int .i32 0)).setCell ⟨w.heap.size, 4, none⟩ (.int .i64 0)).setCell ⟨w.heap.size, 5, none⟩ (.int .i64 0)).setCell ⟨w.heap.size, 6, none⟩ (.int .i64 0) := ⟨_, rfl⟩
                rw [← hWf] at HQ ⊢
                clear hWf
                have s0 := Lib.cell_of_heap HQ.out.1 0
                have s1 := Lib.cell_of_heap HQ.out.1 1
                have s2 := Lib.cell_of_heap HQ.out.1 2
                have s3 := Lib.cell_of_heap HQ.out.1 3
                have s4 := Lib.cell_of_heap HQ.out.1 4
                have s5 := Lib.cell_of_heap HQ.out.1 5
                have s6 := Lib.cell_of_heap HQ.out.1 6
                have hBf : Below w.heap.size w7 Wf := HQ.out.2 _ (Nat.le_refl _)
                exact bodyPost_ret (v := .tuple #[.agg #[.int .i64 3, .int .i32 x1, .int .i32 0, .int .i32 0, .int .i64 0, .int .i64 0, .int .i64 0], .bool false]) (by simp [results, Tryz.results25, go_sem, s0, s1, s2, s3, s4, s5, s6]) rfl (HNoP.out HNo.out _ _ _ _ _ _ _ _ (HB7.out.trans hBf))
              | some x2 =>
                have hj := hoj.symm
                clear hoj
                have HC := Lib.hid ((HU2.out wr).1 x2 hj)
                have Hxj := Lib.hid hj
                clear hj
                go_wp2_with fail
                refine HC.out.mono ?_
                rintro e w7 ⟨rfl, hb7⟩
                have HR7 := Lib.hid (obj_keptR hb7 HR.out)
                have HK7 := Lib.hid (HK.out.trans (Kept.of hb7 (Nat.le_trans HP5.out HK.out.size)))
                have m7 := Lib.cell_of_heap (HK7.out.far _ _ HnP8.out.1 HC5.out) 3
                have e7 := Lib.cell_of_heap HR7.out 0
                have c7 := Lib.cell_of_heap HR7.out 2
                have d7 := Lib.frozen_of_heap HR7.out 2
                clear hb7 e0 y m0
                go_wp2
                go_roundw
                case rel => exact ⟨3, by go_num, .inr (.inr (.inl ⟨rfl, x1, x2, hx1, Hxj, Lib.hid (heap_setCell_same _ _ 2 _ _ _ HR7.out)⟩)), Lib.hid (HK7.out.trans (Kept.set _ _ _ _))⟩
                case measure => simp [intOf]
            · have e0 := Lib.cell_of_heap HR.out 0
              have y := HK.out.cell (a := ⟨B4, o4 + 3, none⟩) hB4.out HY3.out
              obtain ⟨oj, hoj⟩ : ∃ oj, oj = Mt.lenB wd3 := ⟨_, rfl⟩
              cases oj with
              | none =>
                have hj := hoj.symm
                clear hoj
                have HNo : Hid (Mt.rowOf ws = none) := Lib.hid (by rw [HRow.out]; exact three_no (.inr (.inr hj)))
                obtain ⟨c7, hc7⟩ := (HU3.out wr).2 hj
                have HC := Lib.hid hc7
                clear hj hc7
                go_wp2_with fail
                refine HC.out.mono ?_
                rintro e w7 ⟨rfl, hb7⟩
                have HR := Lib.hid (obj_keptR hb7 HR.out)
                have HZ := Lib.hid (obj_keptR hb7 HZ.out)
                have HB7 := Lib.hid (below_step HBw.out hb7)
                clear hb7 e0 y m0
                have e0 := Lib.cell_of_heap HR.out 0
                have e1 := Lib.cell_of_heap HR.out 1
                have e2 := Lib.cell_of_heap HR.out 2
                have e3 := Lib.cell_of_heap HR.out 3
                have e4 := Lib.cell_of_heap HR.out 4
                have e5 := Lib.cell_of_heap HR.out 5
                have e6 := Lib.cell_of_heap HR.out 6
                have c0 := Lib.cell_of_heap HZ.out 0
                have c1 := Lib.cell_of_heap HZ.out 1
                have c2 := Lib.cell_of_heap HZ.out 2
                have c3 := Lib.cell_of_heap HZ.out 3
                have c4 := Lib.cell_of_heap HZ.out 4
                have c5 := Lib.cell_of_heap HZ.out 5
                have c6 := Lib.cell_of_heap HZ.out 6
                have d0 := Lib.frozen_of_heap HZ.out 0
                have d1 := Lib.frozen_of_heap HZ.out 1
                have d2 := Lib.frozen_of_heap HZ.out 2
                have d3 := Lib.frozen_of_heap HZ.out 3
                have d4 := Lib.frozen_of_heap HZ.out 4
                have d5 := Lib.frozen_of_heap HZ.out 5
                have d6 := Lib.frozen_of_heap HZ.out 6
                have HQ := Lib.hid (set7R w7 w.heap.size (.int .i64 3) (.int .i32 x1) (.int .i32 x2) (.int .i32 0) (.int .i64 0) (.int .i64 0) (.int .i64 0) HZ.out)
                go_wp2
                obtain ⟨Wf, hWf⟩ : ∃ W, W = ((((((w7.setCell ⟨w.heap.size, 0, none⟩ (.int .i64 3)).setCell ⟨w.heap.size, 1, none⟩ (.int .i32 x1)).setCell ⟨w.heap.size, 2, none⟩ (.int .i32 x2)).setCell ⟨w.heap.size, 3, none⟩ (.int .i32 0)).setCell ⟨w.heap.size, 4, none⟩ (.int .i64 0)).setCell ⟨w.heap.size, 5, none⟩ (.int .i64 0)).setCell ⟨w.heap.size, 6, none⟩ (.int .i64 0) := ⟨_, rfl⟩
                rw [← hWf] at HQ ⊢
                clear hWf
                have s0 := Lib.cell_of_heap HQ.out.1 0
                have s1 := Lib.cell_of_heap HQ.out.1 1
                have s2 := Lib.cell_of_heap HQ.out.1 2
                have s3 := Lib.cell_of_heap HQ.out.1 3
                have s4 := Lib.cell_of_heap HQ.out.1 4
                have s5 := Lib.cell_of_heap HQ.out.1 5
                have s6 := Lib.cell_of_heap HQ.out.1 6
                have hBf : Below w.heap.size w7 Wf := HQ.out.2 _ (Nat.le_refl _)
                exact bodyPost_ret (v := .tuple #[.agg #[.int .i64 3, .int .i32 x1, .int .i32 x2, .int .i32 0, .int .i64 0, .int .i64 0, .int .i64 0], .bool false]) (by simp [results, Tryz.results25, go_sem, s0, s1, s2, s3, s4, s5, s6]) rfl (HNoP.out HNo.out _ _ _ _ _ _ _ _ (HB7.out.trans hBf))
              | some x3 =>
                have hj := hoj.symm
                clear hoj
                have HC := Lib.hid ((HU3.out wr).1 x3 hj)
                have Hxj := Lib.hid hj
                clear hj
                go_wp2_with fail
                refine HC.out.mono ?_
                rintro e w7 ⟨rfl, hb7⟩
                have HR7 := Lib.hid (obj_keptR hb7 HR.out)
                have HK7 := Lib.hid (HK.out.trans (Kept.of hb7 (Nat.le_trans HP5.out HK.out.size)))
                have m7 := Lib.cell_of_heap (HK7.out.far _ _ HnP8.out.1 HC5.out) 3
                have e7 := Lib.cell_of_heap HR7.out 0
                have c7 := Lib.cell_of_heap HR7.out 4
                have d7 := Lib.frozen_of_heap HR7.out 4
                clear hb7 e0 y m0
                go_wp2
                go_roundw
                case rel => exact ⟨4, by go_num, .inr (.inr (.inr (⟨rfl, x1, x2, x3, hx1, hx2, Hxj, Lib.hid (heap_setCell_same _ _ 4 _ _ _ HR7.out)⟩))), Lib.hid (HK7.out.trans (Kept.set _ _ _ _))⟩
                case measure => simp [intOf]
            · have HYe : Hid (Mt.rowOf ws = some (.kern x1 x2 x3)) := Lib.hid (by rw [HRow.out, hx1.out, hx2.out, hx3.out]; rfl)
              have e0 := Lib.cell_of_heap HR.out 0
              have e1 := Lib.cell_of_heap HR.out 1
              have e2 := Lib.cell_of_heap HR.out 2
              have e3 := Lib.cell_of_heap HR.out 3
              have e4 := Lib.cell_of_heap HR.out 4
              have e5 := Lib.cell_of_heap HR.out 5
              have e6 := Lib.cell_of_heap HR.out 6
              have c0 := Lib.cell_of_heap HZ.out 0
              have c1 := Lib.cell_of_heap HZ.out 1
              have c2 := Lib.cell_of_heap HZ.out 2
              have c3 := Lib.cell_of_heap HZ.out 3
              have c4 := Lib.cell_of_heap HZ.out 4
              have c5 := Lib.cell_of_heap HZ.out 5
              have c6 := Lib.cell_of_heap HZ.out 6
              have d0 := Lib.frozen_of_heap HZ.out 0
              have d1 := Lib.frozen_of_heap HZ.out 1
              have d2 := Lib.frozen_of_heap HZ.out 2
              have d3 := Lib.frozen_of_heap HZ.out 3
              have d4 := Lib.frozen_of_heap HZ.out 4
              have d5 := Lib.frozen_of_heap HZ.out 5
              have d6 := Lib.frozen_of_heap HZ.out 6
              have HQ := Lib.hid (set7R wr w.heap.size (.int .i64 3) (.int .i32 x1) (.int .i32 x2) (.int .i32 0) (.int .i64 x3) (.int .i64 0) (.int .i64 0) HZ.out)
              go_wp2
              obtain ⟨Wf, hWf⟩ : ∃ W, W = ((((((wr.setCell ⟨w.heap.size, 0, none⟩ (.int .i64 3)).setCell ⟨w.heap.size, 1, none⟩ (.int .i32 x1)).setCell ⟨w.heap.size, 2, none⟩ (.int .i32 x2)).setCell ⟨w.heap.size, 3, none⟩ (.int .i32 0)).setCell ⟨w.heap.size, 4, none⟩ (.int .i64 x3)).setCell ⟨w.heap.size, 5, none⟩ (.int .i64 0)).setCell ⟨w.heap.size, 6, none⟩ (.int .i64 0) := ⟨_, rfl⟩
              rw [← hWf] at HQ ⊢
              clear hWf
              have s0 := Lib.cell_of_heap HQ.out.1 0
              have s1 := Lib.cell_of_heap HQ.out.1 1
              have s2 := Lib.cell_of_heap HQ.out.1 2
              have s3 := Lib.cell_of_heap HQ.out.1 3
              have s4 := Lib.cell_of_heap HQ.out.1 4
              have s5 := Lib.cell_of_heap HQ.out.1 5
              have s6 := Lib.cell_of_heap HQ.out.1 6
              have hBf : Below w.heap.size wr Wf := HQ.out.2 _ (Nat.le_refl _)
              exact bodyPost_ret (v := .tuple #[.agg #[.int .i64 3, .int .i32 x1, .int .i32 x2, .int .i32 0, .int .i64 x3, .int .i64 0, .int .i64 0], .bool true]) (by simp [results, Tryz.results25, go_sem, s0, s1, s2, s3, s4, s5, s6]) rfl (HYesP.out _ HYe.out _ (HBw.out.trans hBf))
        · have HNo : Hid (Mt.rowOf ws = none) := Lib.hid (by rw [Hrw.out]; exact rowOf_len3 (by have h := Hn.out; rw [Hrw.out, List.length_cons] at h; omega))
          have hnI : ((n : Int) == 4) = false := beq_eq_false_iff_ne.2 (by omega)
          have hnJ : ((n : Int) != 4) = true := by simp only [bne, hnI]; rfl
          go_quiet (fail)
          obtain ⟨W5, hW5⟩ : ∃ W, W = W4.drewN nq := ⟨_, rfl⟩
          have HR : Hid (W5.heap[P5]? = some (.cells #[.int .i64 3, .int .i32 0, .int .i32 0, .int .i32 0, .int .i64 0, .int .i64 0, .int .i64 0] 65 (0, 0))) := Lib.hid (by rw [hW5]; exact HR4.out)
          have HZ : Hid (W5.heap[w.heap.size]? = some (.cells #[.int .i64 0, .int .i32 0, .int .i32 0, .int .i32 0, .int .i64 0, .int .i64 0, .int .i64 0] 65 (0, 0))) := Lib.hid (by rw [hW5]; exact HZ4.out)
          have HB5 : Hid (Below w.heap.size w W5) := Lib.hid (by rw [hW5]; exact below_step HB4.out (below_drew _ _))
          rw [← hW5]
          clear hW5 k0 m0 m1
          have e0 := Lib.cell_of_heap HR.out 0
          have e1 := Lib.cell_of_heap HR.out 1
          have e2 := Lib.cell_of_heap HR.out 2
          have e3 := Lib.cell_of_heap HR.out 3
          have e4 := Lib.cell_of_heap HR.out 4
          have e5 := Lib.cell_of_heap HR.out 5
          have e6 := Lib.cell_of_heap HR.out 6
          have c0 := Lib.cell_of_heap HZ.out 0
          have c1 := Lib.cell_of_heap HZ.out 1
          have c2 := Lib.cell_of_heap HZ.out 2
          have c3 := Lib.cell_of_heap HZ.out 3
          have c4 := Lib.cell_of_heap HZ.out 4
          have c5 := Lib.cell_of_heap HZ.out 5
          have c6 := Lib.cell_of_heap HZ.out 6
          have d0 := Lib.frozen_of_heap HZ.out 0
          have d1 := Lib.frozen_of_heap HZ.out 1
          have d2 := Lib.frozen_of_heap HZ.out 2
          have d3 := Lib.frozen_of_heap HZ.out 3
          have d4 := Lib.frozen_of_heap HZ.out 4
          have d5 := Lib.frozen_of_heap HZ.out 5
          have d6 := Lib.frozen_of_heap HZ.out 6
          have HQ := Lib.hid (set7R W5 w.heap.size (.int .i64 3) (.int .i32 0) (.int .i32 0) (.int .i32 0) (.int .i64 0) (.int .i64 0) (.int .i64 0) HZ.out)
          go_wp2
          obtain ⟨Wf, hWf⟩ : ∃ W, W = ((((((W5.setCell ⟨w.heap.size, 0, none⟩ (.int .i64 3)).setCell ⟨w.heap.size, 1, none⟩ (.int .i32 0)).setCell ⟨w.heap.size, 2, none⟩ (.int .i32 0)).setCell ⟨w.heap.size, 3, none⟩ (.int .i32 0)).setCell ⟨w.heap.size, 4, none⟩ (.int .i64 0)).setCell ⟨w.heap.size, 5, none⟩ (.int .i64 0)).setCell ⟨w.heap.size, 6, none⟩ (.int .i64 0) := ⟨_, rfl⟩
          rw [← hWf] at HQ ⊢
          clear hWf
          have s0 := Lib.cell_of_heap HQ.out.1 0
          have s1 := Lib.cell_of_heap HQ.out.1 1
          have s2 := Lib.cell_of_heap HQ.out.1 2
          have s3 := Lib.cell_of_heap HQ.out.1 3
          have s4 := Lib.cell_of_heap HQ.out.1 4
          have s5 := Lib.cell_of_heap HQ.out.1 5
          have s6 := Lib.cell_of_heap HQ.out.1 6
          have hBf : Below w.heap.size W5 Wf := HQ.out.2 _ (Nat.le_refl _)
          exact bodyPost_ret (v := .tuple #[.agg #[.int .i64 3, .int .i32 0, .int .i32 0, .int .i32 0, .int .i64 0, .int .i64 0, .int .i64 0], .bool false]) (by simp [results, Tryz.results25, go_sem, s0, s1, s2, s3, s4, s5, s6]) rfl (HNoP.out HNo.out _ _ _ _ _ _ _ _ (HB5.out.trans hBf))
      · rw [hk] at HR
        go_upto_region 10 with fail
        obtain ⟨W4, hW4⟩ : ∃ W, W = (W3.alloc (.cells #[.int .i64 0, .int .i64 1, .int .i64 1, .int .i64 2, .int .i64 3] 3)).alloc (.cells #[.int .i64 3, .int .i64 0, .int .i64 3, .int .i64 1, .int .i64 0] 3) := ⟨_, rfl⟩
        obtain ⟨hb34, hCo, hLe⟩ := HAl.out W4 hW4
        obtain ⟨P8, hP8⟩ : ∃ p, p = W3.heap.size := ⟨_, rfl⟩
        have HP8 : Hid (P5 ≤ P8) := Lib.hid (by rw [hP8]; exact HP3.out)
        rw [← hP8] at hCo hLe
        have HR4 := Lib.hid (obj_keptR hb34 HR.out)
        have HZ4 := Lib.hid (obj_keptR hb34 HZ.out)
        have HB4 := Lib.hid (below_step HB3.out hb34)
        have HW4 : Hid (∀ i u, ws[i]? = some u → W4.cell? ⟨B4, o4 + i, none⟩ = some (.string (str u))) := Lib.hid (fun i u hu => cell_below hb34 (HW3.out i u hu))
        have HCo := Lib.hid hCo
        have HLe := Lib.hid hLe
        have HnP8 : Hid (P8 ≠ P5 ∧ P8 + 1 ≠ P5) := Lib.hid (by
          have h1 := obj_ltR HR.out
          rw [← hP8] at h1
          omega)
        rw [← hW4, ← hP8]
        clear hW4 hP8 hb34 hCo hLe HR HZ HB3 HW3 HAl hk
        have k0 := Lib.cell_of_heap HR4.out 0
        subst hu
        have m0 := Lib.cell_of_heap HCo.out 4
        have m1 := Lib.cell_of_heap HLe.out 4
        by_cases hnT : n = 4
        · have hlen : rw0.length = 3 := by
            have h := Hn.out
            rw [Hrw.out, hnT, List.length_cons] at h
            omega
          obtain ⟨wd1, wd2, wd3, rfl⟩ : ∃ wd1 wd2 wd3, rw0 = [wd1, wd2, wd3] := len3R hlen
          clear hlen
          have HRow : Hid (Mt.rowOf ws = Mt.three .lig (Mt.codeB wd1) (Mt.codeB wd2) (Mt.codeB wd3)) := Lib.hid (by rw [Hrw.out]; simp [Mt.rowOf, show ¬ Mt.ligW = Mt.spaceW by decide, show ¬ Mt.ligW = Mt.kernW by decide])
          have hl1 : wd1.length ≤ 4294967296 := Hln.out _ (by rw [Hrw.out]; simp)
          have HU1 : Hid (∀ w, (∀ n, Mt.codeB wd1 = some n → Calls Tryz.prog 53 #[.string (str wd1)] w (Ret (.tuple #[.int .i32 n, .bool true]) w)) ∧ (Mt.codeB wd1 = none → Calls Tryz.prog 53 #[.string (str wd1)] w (fun e w2 => ∃ n : Int, e = .returned (.tuple #[.int .i32 n, .bool false]) ∧ Below w.heap.size w w2))) := Lib.hid (fun w => code_ok wd1 hl1 w)
          have HX1 : Hid (W4.cell? ⟨B4, o4 + 1, none⟩ = some (.string (str wd1))) := Lib.hid (HW4.out 1 wd1 (by rw [Hrw.out]; rfl))
          have hl2 : wd2.length ≤ 4294967296 := Hln.out _ (by rw [Hrw.out]; simp)
          have HU2 : Hid (∀ w, (∀ n, Mt.codeB wd2 = some n → Calls Tryz.prog 53 #[.string (str wd2)] w (Ret (.tuple #[.int .i32 n, .bool true]) w)) ∧ (Mt.codeB wd2 = none → Calls Tryz.prog 53 #[.string (str wd2)] w (fun e w2 => ∃ n : Int, e = .returned (.tuple #[.int .i32 n, .bool false]) ∧ Below w.heap.size w w2))) := Lib.hid (fun w => code_ok wd2 hl2 w)
          have HX2 : Hid (W4.cell? ⟨B4, o4 + 2, none⟩ = some (.string (str wd2))) := Lib.hid (HW4.out 2 wd2 (by rw [Hrw.out]; rfl))
          have hl3 : wd3.length ≤ 4294967296 := Hln.out _ (by rw [Hrw.out]; simp)
          have HU3 : Hid (∀ w, (∀ n, Mt.codeB wd3 = some n → Calls Tryz.prog 53 #[.string (str wd3)] w (Ret (.tuple #[.int .i32 n, .bool true]) w)) ∧ (Mt.codeB wd3 = none → Calls Tryz.prog 53 #[.string (str wd3)] w (fun e w2 => ∃ n : Int, e = .returned (.tuple #[.int .i32 n, .bool false]) ∧ Below w.heap.size w w2))) := Lib.hid (fun w => code_ok wd3 hl3 w)
          have HX3 : Hid (W4.cell? ⟨B4, o4 + 3, none⟩ = some (.string (str wd3))) := Lib.hid (HW4.out 3 wd3 (by rw [Hrw.out]; rfl))
          clear hl1 hl2 hl3
          subst hnT
          go_quiet (fail)
          obtain ⟨W5, hW5⟩ : ∃ W, W = W4.drewN nq := ⟨_, rfl⟩
          have HR5 : Hid (W5.heap[P5]? = some (.cells #[.int .i64 4, .int .i32 0, .int .i32 0, .int .i32 0, .int .i64 0, .int .i64 0, .int .i64 0] 65 (0, 0))) := Lib.hid (by rw [hW5]; exact HR4.out)
          have HZ5 : Hid (W5.heap[w.heap.size]? = some (.cells #[.int .i64 0, .int .i32 0, .int .i32 0, .int .i32 0, .int .i64 0, .int .i64 0, .int .i64 0] 65 (0, 0))) := Lib.hid (by rw [hW5]; exact HZ4.out)
          have HB5 : Hid (Below w.heap.size w W5) := Lib.hid (by rw [hW5]; exact below_step HB4.out (below_drew _ _))
          have HC5 : Hid (W5.heap[P8]? = some (.cells #[.int .i64 0, .int .i64 1, .int .i64 1, .int .i64 2, .int .i64 3] 3 (0, 0))) := Lib.hid (by rw [hW5]; exact HCo.out)
          have HY1 : Hid (W5.cell? ⟨B4, o4 + 1, none⟩ = some (.string (str wd1))) := Lib.hid (by rw [hW5]; exact HX1.out)
          have HY2 : Hid (W5.cell? ⟨B4, o4 + 2, none⟩ = some (.string (str wd2))) := Lib.hid (by rw [hW5]; exact HX2.out)
          have HY3 : Hid (W5.cell? ⟨B4, o4 + 3, none⟩ = some (.string (str wd3))) := Lib.hid (by rw [hW5]; exact HX3.out)
          have HP5 : Hid (P5 ≤ W5.heap.size) := Lib.hid (Nat.le_of_lt (obj_ltR HR5.out))
          rw [← hW5]
          clear hW5 k0 m0 m1
          go_wp2_with fail
          go_loopw [10] (fun iv wr => ∃ jj : Nat, iv = .int .i64 (jj : Int) ∧ ((jj = 1 ∧ Hid (wr.heap[P5]? = some (.cells #[.int .i64 4, .int .i32 0, .int .i32 0, .int .i32 0, .int .i64 0, .int .i64 0, .int .i64 0] 65 (0, 0)))) ∨ (jj = 2 ∧ ∃ x1 : Int, Hid (Mt.codeB wd1 = some x1) ∧ Hid (wr.heap[P5]? = some (.cells #[.int .i64 4, .int .i32 x1, .int .i32 0, .int .i32 0, .int .i64 0, .int .i64 0, .int .i64 0] 65 (0, 0)))) ∨ (jj = 3 ∧ ∃ x1 x2 : Int, Hid (Mt.codeB wd1 = some x1) ∧ Hid (Mt.codeB wd2 = some x2) ∧ Hid (wr.heap[P5]? = some (.cells #[.int .i64 4, .int .i32 x1, .int .i32 x2, .int .i32 0, .int .i64 0, .int .i64 0, .int .i64 0] 65 (0, 0)))) ∨ (jj = 4 ∧ ∃ x1 x2 x3 : Int, Hid (Mt.codeB wd1 = some x1) ∧ Hid (Mt.codeB wd2 = some x2) ∧ Hid (Mt.codeB wd3 = some x3) ∧ Hid (wr.heap[P5]? = some (.cells #[.int .i64 4, .int .i32 x1, .int .i32 x2, .int .i32 x3, .int .i64 0, .int .i64 0, .int .i64 0] 65 (0, 0))))) ∧ Hid (Kept P5 W5 wr)) (fun iv _ => 4 - (intOf iv).toNat)
          case atStart => exact ⟨1, rfl, .inl ⟨rfl, HR5⟩, Lib.hid (Kept.refl _ _)⟩
          case round =>
            obtain ⟨jj, rfl, hrel, HK⟩ := hrel
            have HZ := Lib.hid (HK.out.far _ _ (Nat.ne_of_lt HnZ.out) HZ5.out)
            have m0 := Lib.cell_of_heap (HK.out.far _ _ HnP8.out.1 HC5.out) 4
            have HBw := Lib.hid (HB5.out.trans (HK.out.below _ (Nat.le_of_lt HnZ.out)))
            rcases hrel with ⟨rfl, HR⟩ | ⟨rfl, x1, hx1, HR⟩ | ⟨rfl, x1, x2, hx1, hx2, HR⟩ | ⟨rfl, x1, x2, x3, hx1, hx2, hx3, HR⟩
            · have e0 := Lib.cell_of_heap HR.out 0
              have y := HK.out.cell (a := ⟨B4, o4 + 1, none⟩) hB4.out HY1.out
              obtain ⟨oj, hoj⟩ : ∃ oj, oj = Mt.codeB wd1 := ⟨_, rfl⟩
              cases oj with
              | none =>
                have hj := hoj.symm
                clear hoj
                have HNo : Hid (Mt.rowOf ws = none) := Lib.hid (by rw [HRow.out]; exact three_no (.inl hj))
                have HC := Lib.hid ((HU1.out wr).2 hj)
                clear hj
                go_wp2_with fail
                refine HC.out.mono ?_
                rintro e w7 ⟨c7, rfl, hb7⟩
                have HR := Lib.hid (obj_keptR hb7 HR.out)
                have HZ := Lib.hid (obj_keptR hb7 HZ.out)
                have HB7 := Lib.hid (below_step HBw.out hb7)
                clear hb7 e0 y m0
                have e0 := Lib.cell_of_heap HR.out 0
                have e1 := Lib.cell_of_heap HR.out 1
                have e2 := Lib.cell_of_heap HR.out 2
                have e3 := Lib.cell_of_heap HR.out 3
                have e4 := Lib.cell_of_heap HR.out 4
                have e5 := Lib.cell_of_heap HR.out 5
                have e6 := Lib.cell_of_heap HR.out 6
                have c0 := Lib.cell_of_heap HZ.out 0
                have c1 := Lib.cell_of_heap HZ.out 1
                have c2 := Lib.cell_of_heap HZ.out 2
                have c3 := Lib.cell_of_heap HZ.out 3
                have c4 := Lib.cell_of_heap HZ.out 4
                have c5 := Lib.cell_of_heap HZ.out 5
                have c6 := Lib.cell_of_heap HZ.out 6
                have d0 := Lib.frozen_of_heap HZ.out 0
                have d1 := Lib.frozen_of_heap HZ.out 1
                have d2 := Lib.frozen_of_heap HZ.out 2
                have d3 := Lib.frozen_of_heap HZ.out 3
                have d4 := Lib.frozen_of_heap HZ.out 4
                have d5 := Lib.frozen_of_heap HZ.out 5
                have d6 := Lib.frozen_of_heap HZ.out 6
                have HQ := Lib.hid (set7R w7 w.heap.size (.int .i64 4) (.int .i32 0) (.int .i32 0) (.int .i32 0) (.int .i64 0) (.int .i64 0) (.int .i64 0) HZ.out)
                go_wp2
                obtain ⟨Wf, hWf⟩ : ∃ W, W = ((((((w7.setCell ⟨w.heap.size, 0, none⟩ (.int .i64 4)).setCell ⟨w.heap.size, 1, none⟩ (.int .i32 0)).setCell ⟨w.heap.size, 2, none⟩ (.int .i32 0)).setCell ⟨w.heap.size, 3, none⟩ (.int .i32 0)).setCell ⟨w.heap.size, 4, none⟩ (.int .i64 0)).setCell ⟨w.heap.size, 5, none⟩ (.int .i64 0)).setCell ⟨w.heap.size, 6, none⟩ (.int .i64 0) := ⟨_, rfl⟩
                rw [← hWf] at HQ ⊢
                clear hWf
                have s0 := Lib.cell_of_heap HQ.out.1 0
                have s1 := Lib.cell_of_heap HQ.out.1 1
                have s2 := Lib.cell_of_heap HQ.out.1 2
                have s3 := Lib.cell_of_heap HQ.out.1 3
                have s4 := Lib.cell_of_heap HQ.out.1 4
                have s5 := Lib.cell_of_heap HQ.out.1 5
                have s6 := Lib.cell_of_heap HQ.out.1 6
                have hBf : Below w.heap.size w7 Wf := HQ.out.2 _ (Nat.le_refl _)
                exact bodyPost_ret (v := .tuple #[.agg #[.int .i64 4, .int .i32 0, .int .i32 0, .int .i32 0, .int .i64 0, .int .i64 0, .int .i64 0], .bool false]) (by simp [results, Tryz.results25, go_sem, s0, s1, s2, s3, s4, s5, s6]) rfl (HNoP.out HNo.out _ _ _ _ _ _ _ _ (HB7.out.trans hBf))
              | some x1 =>
                have hj := hoj.symm
                clear hoj
                have HC := Lib.hid ((HU1.out wr).1 x1 hj)
                have Hxj := Lib.hid hj
                clear hj
                go_wp2_with fail
                refine HC.out.mono ?_
                rintro e w7 ⟨rfl, hb7⟩
                have HR7 := Lib.hid (obj_keptR hb7 HR.out)
                have HK7 := Lib.hid (HK.out.trans (Kept.of hb7 (Nat.le_trans HP5.out HK.out.size)))
                have m7 := Lib.cell_of_heap (HK7.out.far _ _ HnP8.out.1 HC5.out) 4
                have e7 := Lib.cell_of_heap HR7.out 0
                have c7 := Lib.cell_of_heap HR7.out 1
                have d7 := Lib.frozen_of_heap HR7.out 1
                clear hb7 e0 y m0
                go_wp2
                go_roundw
                case rel => exact ⟨2, by go_num, .inr (.inl ⟨rfl, x1, Hxj, Lib.hid (heap_setCell_same _ _ 1 _ _ _ HR7.out)⟩), Lib.hid (HK7.out.trans (Kept.set _ _ _ _))⟩
                case measure => simp [intOf]
            · have e0 := Lib.cell_of_heap HR.out 0
              have y := HK.out.cell (a := ⟨B4, o4 + 2, none⟩) hB4.out HY2.out
              obtain ⟨oj, hoj⟩ : ∃ oj, oj = Mt.codeB wd2 := ⟨_, rfl⟩
              cases oj with
              | none =>
                have hj := hoj.symm
                clear hoj
                have HNo : Hid (Mt.rowOf ws = none) := Lib.hid (by rw [HRow.out]; exact three_no (.inr (.inl hj)))
                have HC := Lib.hid ((HU2.out wr).2 hj)
                clear hj
                go_wp2_with fail
                refine HC.out.mono ?_
                rintro e w7 ⟨c7, rfl, hb7⟩
                have HR := Lib.hid (obj_keptR hb7 HR.out)
                have HZ := Lib.hid (obj_keptR hb7 HZ.out)
                have HB7 := Lib.hid (below_step HBw.out hb7)
                clear hb7 e0 y m0
                have e0 := Lib.cell_of_heap HR.out 0
                have e1 := Lib.cell_of_heap HR.out 1
                have e2 := Lib.cell_of_heap HR.out 2
                have e3 := Lib.cell_of_heap HR.out 3
                have e4 := Lib.cell_of_heap HR.out 4
                have e5 := Lib.cell_of_heap HR.out 5
                have e6 := Lib.cell_of_heap HR.out 6
                have c0 := Lib.cell_of_heap HZ.out 0
                have c1 := Lib.cell_of_heap HZ.out 1
                have c2 := Lib.cell_of_heap HZ.out 2
                have c3 := Lib.cell_of_heap HZ.out 3
                have c4 := Lib.cell_of_heap HZ.out 4
                have c5 := Lib.cell_of_heap HZ.out 5
                have c6 := Lib.cell_of_heap HZ.out 6
                have d0 := Lib.frozen_of_heap HZ.out 0
                have d1 := Lib.frozen_of_heap HZ.out 1
                have d2 := Lib.frozen_of_heap HZ.out 2
                have d3 := Lib.frozen_of_heap HZ.out 3
                have d4 := Lib.frozen_of_heap HZ.out 4
                have d5 := Lib.frozen_of_heap HZ.out 5
                have d6 := Lib.frozen_of_heap HZ.out 6
                have HQ := Lib.hid (set7R w7 w.heap.size (.int .i64 4) (.int .i32 x1) (.int .i32 0) (.int .i32 0) (.int .i64 0) (.int .i64 0) (.int .i64 0) HZ.out)
                go_wp2
                obtain ⟨Wf, hWf⟩ : ∃ W, W = ((((((w7.setCell ⟨w.heap.size, 0, none⟩ (.int .i64 4)).setCell ⟨w.heap.size, 1, none⟩ (.int .i32 x1)).setCell ⟨w.heap.size, 2, none⟩ (.int .i32 0)).setCell ⟨w.heap.size, 3, none⟩ (.int .i32 0)).setCell ⟨w.heap.size, 4, none⟩ (.int .i64 0)).setCell ⟨w.heap.size, 5, none⟩ (.int .i64 0)).setCell ⟨w.heap.size, 6, none⟩ (.int .i64 0) := ⟨_, rfl⟩
                rw [← hWf] at HQ ⊢
                clear hWf
                have s0 := Lib.cell_of_heap HQ.out.1 0
                have s1 := Lib.cell_of_heap HQ.out.1 1
                have s2 := Lib.cell_of_heap HQ.out.1 2
                have s3 := Lib.cell_of_heap HQ.out.1 3
                have s4 := Lib.cell_of_heap HQ.out.1 4
                have s5 := Lib.cell_of_heap HQ.out.1 5
                have s6 := Lib.cell_of_heap HQ.out.1 6
                have hBf : Below w.heap.size w7 Wf := HQ.out.2 _ (Nat.le_refl _)
                exact bodyPost_ret (v := .tuple #[.agg #[.int .i64 4, .int .i32 x1, .int .i32 0, .int .i32 0, .int .i64 0, .int .i64 0, .int .i64 0], .bool false]) (by simp [results, Tryz.results25, go_sem, s0, s1, s2, s3, s4, s5, s6]) rfl (HNoP.out HNo.out _ _ _ _ _ _ _ _ (HB7.out.trans hBf))
              | some x2 =>
                have hj := hoj.symm
                clear hoj
                have HC := Lib.hid ((HU2.out wr).1 x2 hj)
                have Hxj := Lib.hid hj
                clear hj
                go_wp2_with fail
                refine HC.out.mono ?_
                rintro e w7 ⟨rfl, hb7⟩
                have HR7 := Lib.hid (obj_keptR hb7 HR.out)
                have HK7 := Lib.hid (HK.out.trans (Kept.of hb7 (Nat.le_trans HP5.out HK.out.size)))
                have m7 := Lib.cell_of_heap (HK7.out.far _ _ HnP8.out.1 HC5.out) 4
                have e7 := Lib.cell_of_heap HR7.out 0
                have c7 := Lib.cell_of_heap HR7.out 2
                have d7 := Lib.frozen_of_heap HR7.out 2
                clear hb7 e0 y m0
                go_wp2
                go_roundw
                case rel => exact ⟨3, by go_num, .inr (.inr (.inl ⟨rfl, x1, x2, hx1, Hxj, Lib.hid (heap_setCell_same _ _ 2 _ _ _ HR7.out)⟩)), Lib.hid (HK7.out.trans (Kept.set _ _ _ _))⟩
                case measure => simp [intOf]
            · have e0 := Lib.cell_of_heap HR.out 0
              have y := HK.out.cell (a := ⟨B4, o4 + 3, none⟩) hB4.out HY3.out
              obtain ⟨oj, hoj⟩ : ∃ oj, oj = Mt.codeB wd3 := ⟨_, rfl⟩
              cases oj with
              | none =>
                have hj := hoj.symm
                clear hoj
                have HNo : Hid (Mt.rowOf ws = none) := Lib.hid (by rw [HRow.out]; exact three_no (.inr (.inr hj)))
                have HC := Lib.hid ((HU3.out wr).2 hj)
                clear hj
                go_wp2_with fail
                refine HC.out.mono ?_
                rintro e w7 ⟨c7, rfl, hb7⟩
                have HR := Lib.hid (obj_keptR hb7 HR.out)
                have HZ := Lib.hid (obj_keptR hb7 HZ.out)
                have HB7 := Lib.hid (below_step HBw.out hb7)
                clear hb7 e0 y m0
                have e0 := Lib.cell_of_heap HR.out 0
                have e1 := Lib.cell_of_heap HR.out 1
                have e2 := Lib.cell_of_heap HR.out 2
                have e3 := Lib.cell_of_heap HR.out 3
                have e4 := Lib.cell_of_heap HR.out 4
                have e5 := Lib.cell_of_heap HR.out 5
                have e6 := Lib.cell_of_heap HR.out 6
                have c0 := Lib.cell_of_heap HZ.out 0
                have c1 := Lib.cell_of_heap HZ.out 1
                have c2 := Lib.cell_of_heap HZ.out 2
                have c3 := Lib.cell_of_heap HZ.out 3
                have c4 := Lib.cell_of_heap HZ.out 4
                have c5 := Lib.cell_of_heap HZ.out 5
                have c6 := Lib.cell_of_heap HZ.out 6
                have d0 := Lib.frozen_of_heap HZ.out 0
                have d1 := Lib.frozen_of_heap HZ.out 1
                have d2 := Lib.frozen_of_heap HZ.out 2
                have d3 := Lib.frozen_of_heap HZ.out 3
                have d4 := Lib.frozen_of_heap HZ.out 4
                have d5 := Lib.frozen_of_heap HZ.out 5
                have d6 := Lib.frozen_of_heap HZ.out 6
                have HQ := Lib.hid (set7R w7 w.heap.size (.int .i64 4) (.int .i32 x1) (.int .i32 x2) (.int .i32 0) (.int .i64 0) (.int .i64 0) (.int .i64 0) HZ.out)
                go_wp2
                obtain ⟨Wf, hWf⟩ : ∃ W, W = ((((((w7.setCell ⟨w.heap.size, 0, none⟩ (.int .i64 4)).setCell ⟨w.heap.size, 1, none⟩ (.int .i32 x1)).setCell ⟨w.heap.size, 2, none⟩ (.int .i32 x2)).setCell ⟨w.heap.size, 3, none⟩ (.int .i32 0)).setCell ⟨w.heap.size, 4, none⟩ (.int .i64 0)).setCell ⟨w.heap.size, 5, none⟩ (.int .i64 0)).setCell ⟨w.heap.size, 6, none⟩ (.int .i64 0) := ⟨_, rfl⟩
                rw [← hWf] at HQ ⊢
                clear hWf
                have s0 := Lib.cell_of_heap HQ.out.1 0
                have s1 := Lib.cell_of_heap HQ.out.1 1
                have s2 := Lib.cell_of_heap HQ.out.1 2
                have s3 := Lib.cell_of_heap HQ.out.1 3
                have s4 := Lib.cell_of_heap HQ.out.1 4
                have s5 := Lib.cell_of_heap HQ.out.1 5
                have s6 := Lib.cell_of_heap HQ.out.1 6
                have hBf : Below w.heap.size w7 Wf := HQ.out.2 _ (Nat.le_refl _)
                exact bodyPost_ret (v := .tuple #[.agg #[.int .i64 4, .int .i32 x1, .int .i32 x2, .int .i32 0, .int .i64 0, .int .i64 0, .int .i64 0], .bool false]) (by simp [results, Tryz.results25, go_sem, s0, s1, s2, s3, s4, s5, s6]) rfl (HNoP.out HNo.out _ _ _ _ _ _ _ _ (HB7.out.trans hBf))
              | some x3 =>
                have hj := hoj.symm
                clear hoj
                have HC := Lib.hid ((HU3.out wr).1 x3 hj)
                have Hxj := Lib.hid hj
                clear hj
                go_wp2_with fail
                refine HC.out.mono ?_
                rintro e w7 ⟨rfl, hb7⟩
                have HR7 := Lib.hid (obj_keptR hb7 HR.out)
                have HK7 := Lib.hid (HK.out.trans (Kept.of hb7 (Nat.le_trans HP5.out HK.out.size)))
                have m7 := Lib.cell_of_heap (HK7.out.far _ _ HnP8.out.1 HC5.out) 4
                have e7 := Lib.cell_of_heap HR7.out 0
                have c7 := Lib.cell_of_heap HR7.out 3
                have d7 := Lib.frozen_of_heap HR7.out 3
                clear hb7 e0 y m0
                go_wp2
                go_roundw
                case rel => exact ⟨4, by go_num, .inr (.inr (.inr (⟨rfl, x1, x2, x3, hx1, hx2, Hxj, Lib.hid (heap_setCell_same _ _ 3 _ _ _ HR7.out)⟩))), Lib.hid (HK7.out.trans (Kept.set _ _ _ _))⟩
                case measure => simp [intOf]
            · have HYe : Hid (Mt.rowOf ws = some (.lig x1 x2 x3)) := Lib.hid (by rw [HRow.out, hx1.out, hx2.out, hx3.out]; rfl)
              have e0 := Lib.cell_of_heap HR.out 0
              have e1 := Lib.cell_of_heap HR.out 1
              have e2 := Lib.cell_of_heap HR.out 2
              have e3 := Lib.cell_of_heap HR.out 3
              have e4 := Lib.cell_of_heap HR.out 4
              have e5 := Lib.cell_of_heap HR.out 5
              have e6 := Lib.cell_of_heap HR.out 6
              have c0 := Lib.cell_of_heap HZ.out 0
              have c1 := Lib.cell_of_heap HZ.out 1
              have c2 := Lib.cell_of_heap HZ.out 2
              have c3 := Lib.cell_of_heap HZ.out 3
              have c4 := Lib.cell_of_heap HZ.out 4
              have c5 := Lib.cell_of_heap HZ.out 5
              have c6 := Lib.cell_of_heap HZ.out 6
              have d0 := Lib.frozen_of_heap HZ.out 0
              have d1 := Lib.frozen_of_heap HZ.out 1
              have d2 := Lib.frozen_of_heap HZ.out 2
              have d3 := Lib.frozen_of_heap HZ.out 3
              have d4 := Lib.frozen_of_heap HZ.out 4
              have d5 := Lib.frozen_of_heap HZ.out 5
              have d6 := Lib.frozen_of_heap HZ.out 6
              have HQ := Lib.hid (set7R wr w.heap.size (.int .i64 4) (.int .i32 x1) (.int .i32 x2) (.int .i32 x3) (.int .i64 0) (.int .i64 0) (.int .i64 0) HZ.out)
              go_wp2
              obtain ⟨Wf, hWf⟩ : ∃ W, W = ((((((wr.setCell ⟨w.heap.size, 0, none⟩ (.int .i64 4)).setCell ⟨w.heap.size, 1, none⟩ (.int .i32 x1)).setCell ⟨w.heap.size, 2, none⟩ (.int .i32 x2)).setCell ⟨w.heap.size, 3, none⟩ (.int .i32 x3)).setCell ⟨w.heap.size, 4, none⟩ (.int .i64 0)).setCell ⟨w.heap.size, 5, none⟩ (.int .i64 0)).setCell ⟨w.heap.size, 6, none⟩ (.int .i64 0) := ⟨_, rfl⟩
              rw [← hWf] at HQ ⊢
              clear hWf
              have s0 := Lib.cell_of_heap HQ.out.1 0
              have s1 := Lib.cell_of_heap HQ.out.1 1
              have s2 := Lib.cell_of_heap HQ.out.1 2
              have s3 := Lib.cell_of_heap HQ.out.1 3
              have s4 := Lib.cell_of_heap HQ.out.1 4
              have s5 := Lib.cell_of_heap HQ.out.1 5
              have s6 := Lib.cell_of_heap HQ.out.1 6
              have hBf : Below w.heap.size wr Wf := HQ.out.2 _ (Nat.le_refl _)
              exact bodyPost_ret (v := .tuple #[.agg #[.int .i64 4, .int .i32 x1, .int .i32 x2, .int .i32 x3, .int .i64 0, .int .i64 0, .int .i64 0], .bool true]) (by simp [results, Tryz.results25, go_sem, s0, s1, s2, s3, s4, s5, s6]) rfl (HYesP.out _ HYe.out _ (HBw.out.trans hBf))
        · have HNo : Hid (Mt.rowOf ws = none) := Lib.hid (by rw [Hrw.out]; exact rowOf_len4 (by have h := Hn.out; rw [Hrw.out, List.length_cons] at h; omega))
          have hnI : ((n : Int) == 4) = false := beq_eq_false_iff_ne.2 (by omega)
          have hnJ : ((n : Int) != 4) = true := by simp only [bne, hnI]; rfl
          go_quiet (fail)
          obtain ⟨W5, hW5⟩ : ∃ W, W = W4.drewN nq := ⟨_, rfl⟩
          have HR : Hid (W5.heap[P5]? = some (.cells #[.int .i64 4, .int .i32 0, .int .i32 0, .int .i32 0, .int .i64 0, .int .i64 0, .int .i64 0] 65 (0, 0))) := Lib.hid (by rw [hW5]; exact HR4.out)
          have HZ : Hid (W5.heap[w.heap.size]? = some (.cells #[.int .i64 0, .int .i32 0, .int .i32 0, .int .i32 0, .int .i64 0, .int .i64 0, .int .i64 0] 65 (0, 0))) := Lib.hid (by rw [hW5]; exact HZ4.out)
          have HB5 : Hid (Below w.heap.size w W5) := Lib.hid (by rw [hW5]; exact below_step HB4.out (below_drew _ _))
          rw [← hW5]
          clear hW5 k0 m0 m1
          have e0 := Lib.cell_of_heap HR.out 0
          have e1 := Lib.cell_of_heap HR.out 1
          have e2 := Lib.cell_of_heap HR.out 2
          have e3 := Lib.cell_of_heap HR.out 3
          have e4 := Lib.cell_of_heap HR.out 4
          have e5 := Lib.cell_of_heap HR.out 5
          have e6 := Lib.cell_of_heap HR.out 6
          have c0 := Lib.cell_of_heap HZ.out 0
          have c1 := Lib.cell_of_heap HZ.out 1
          have c2 := Lib.cell_of_heap HZ.out 2
          have c3 := Lib.cell_of_heap HZ.out 3
          have c4 := Lib.cell_of_heap HZ.out 4
          have c5 := Lib.cell_of_heap HZ.out 5
          have c6 := Lib.cell_of_heap HZ.out 6
          have d0 := Lib.frozen_of_heap HZ.out 0
          have d1 := Lib.frozen_of_heap HZ.out 1
          have d2 := Lib.frozen_of_heap HZ.out 2
          have d3 := Lib.frozen_of_heap HZ.out 3
          have d4 := Lib.frozen_of_heap HZ.out 4
          have d5 := Lib.frozen_of_heap HZ.out 5
          have d6 := Lib.frozen_of_heap HZ.out 6
          have HQ := Lib.hid (set7R W5 w.heap.size (.int .i64 4) (.int .i32 0) (.int .i32 0) (.int .i32 0) (.int .i64 0) (.int .i64 0) (.int .i64 0) HZ.out)
          go_wp2
          obtain ⟨Wf, hWf⟩ : ∃ W, W = ((((((W5.setCell ⟨w.heap.size, 0, none⟩ (.int .i64 4)).setCell ⟨w.heap.size, 1, none⟩ (.int .i32 0)).setCell ⟨w.heap.size, 2, none⟩ (.int .i32 0)).setCell ⟨w.heap.size, 3, none⟩ (.int .i32 0)).setCell ⟨w.heap.size, 4, none⟩ (.int .i64 0)).setCell ⟨w.heap.size, 5, none⟩ (.int .i64 0)).setCell ⟨w.heap.size, 6, none⟩ (.int .i64 0) := ⟨_, rfl⟩
          rw [← hWf] at HQ ⊢
          clear hWf
          have s0 := Lib.cell_of_heap HQ.out.1 0
          have s1 := Lib.cell_of_heap HQ.out.1 1
          have s2 := Lib.cell_of_heap HQ.out.1 2
          have s3 := Lib.cell_of_heap HQ.out.1 3
          have s4 := Lib.cell_of_heap HQ.out.1 4
          have s5 := Lib.cell_of_heap HQ.out.1 5
          have s6 := Lib.cell_of_heap HQ.out.1 6
          have hBf : Below w.heap.size W5 Wf := HQ.out.2 _ (Nat.le_refl _)
          exact bodyPost_ret (v := .tuple #[.agg #[.int .i64 4, .int .i32 0, .int .i32 0, .int .i32 0, .int .i64 0, .int .i64 0, .int .i64 0], .bool false]) (by simp [results, Tryz.results25, go_sem, s0, s1, s2, s3, s4, s5, s6]) rfl (HNoP.out HNo.out _ _ _ _ _ _ _ _ (HB5.out.trans hBf))
      · rw [hk] at HR
        go_upto_region 10 with fail
        obtain ⟨W4, hW4⟩ : ∃ W, W = (W3.alloc (.cells #[.int .i64 0, .int .i64 1, .int .i64 1, .int .i64 2, .int .i64 3] 3)).alloc (.cells #[.int .i64 3, .int .i64 0, .int .i64 3, .int .i64 1, .int .i64 0] 3) := ⟨_, rfl⟩
        obtain ⟨hb34, hCo, hLe⟩ := HAl.out W4 hW4
        obtain ⟨P8, hP8⟩ : ∃ p, p = W3.heap.size := ⟨_, rfl⟩
        have HP8 : Hid (P5 ≤ P8) := Lib.hid (by rw [hP8]; exact HP3.out)
        rw [← hP8] at hCo hLe
        have HR4 := Lib.hid (obj_keptR hb34 HR.out)
        have HZ4 := Lib.hid (obj_keptR hb34 HZ.out)
        have HB4 := Lib.hid (below_step HB3.out hb34)
        have HW4 : Hid (∀ i u, ws[i]? = some u → W4.cell? ⟨B4, o4 + i, none⟩ = some (.string (str u))) := Lib.hid (fun i u hu => cell_below hb34 (HW3.out i u hu))
        have HCo := Lib.hid hCo
        have HLe := Lib.hid hLe
        have HnP8 : Hid (P8 ≠ P5 ∧ P8 + 1 ≠ P5) := Lib.hid (by
          have h1 := obj_ltR HR.out
          rw [← hP8] at h1
          omega)
        rw [← hW4, ← hP8]
        clear hW4 hP8 hb34 hCo hLe HR HZ HB3 HW3 HAl hk
        have k0 := Lib.cell_of_heap HR4.out 0
        have HNo : Hid (Mt.rowOf ws = none) := Lib.hid (by rw [Hrw.out]; exact rowOf_no hu)
        go_quiet (fail)
        obtain ⟨W5, hW5⟩ : ∃ W, W = W4.drewN nq := ⟨_, rfl⟩
        have HR : Hid (W5.heap[P5]? = some (.cells #[.int .i64 (-1), .int .i32 0, .int .i32 0, .int .i32 0, .int .i64 0, .int .i64 0, .int .i64 0] 65 (0, 0))) := Lib.hid (by rw [hW5]; exact HR4.out)
        have HZ : Hid (W5.heap[w.heap.size]? = some (.cells #[.int .i64 0, .int .i32 0, .int .i32 0, .int .i32 0, .int .i64 0, .int .i64 0, .int .i64 0] 65 (0, 0))) := Lib.hid (by rw [hW5]; exact HZ4.out)
        have HB5 : Hid (Below w.heap.size w W5) := Lib.hid (by rw [hW5]; exact below_step HB4.out (below_drew _ _))
        rw [← hW5]
        clear hW5 k0
        have e0 := Lib.cell_of_heap HR.out 0
        have e1 := Lib.cell_of_heap HR.out 1
        have e2 := Lib.cell_of_heap HR.out 2
        have e3 := Lib.cell_of_heap HR.out 3
        have e4 := Lib.cell_of_heap HR.out 4
        have e5 := Lib.cell_of_heap HR.out 5
        have e6 := Lib.cell_of_heap HR.out 6
        have c0 := Lib.cell_of_heap HZ.out 0
        have c1 := Lib.cell_of_heap HZ.out 1
        have c2 := Lib.cell_of_heap HZ.out 2
        have c3 := Lib.cell_of_heap HZ.out 3
        have c4 := Lib.cell_of_heap HZ.out 4
        have c5 := Lib.cell_of_heap HZ.out 5
        have c6 := Lib.cell_of_heap HZ.out 6
        have d0 := Lib.frozen_of_heap HZ.out 0
        have d1 := Lib.frozen_of_heap HZ.out 1
        have d2 := Lib.frozen_of_heap HZ.out 2
        have d3 := Lib.frozen_of_heap HZ.out 3
        have d4 := Lib.frozen_of_heap HZ.out 4
        have d5 := Lib.frozen_of_heap HZ.out 5
        have d6 := Lib.frozen_of_heap HZ.out 6
        have HQ := Lib.hid (set7R W5 w.heap.size (.int .i64 (-1)) (.int .i32 0) (.int .i32 0) (.int .i32 0) (.int .i64 0) (.int .i64 0) (.int .i64 0) HZ.out)
        go_wp2
        obtain ⟨Wf, hWf⟩ : ∃ W, W = ((((((W5.setCell ⟨w.heap.size, 0, none⟩ (.int .i64 (-1))).setCell ⟨w.heap.size, 1, none⟩ (.int .i32 0)).setCell ⟨w.heap.size, 2, none⟩ (.int .i32 0)).setCell ⟨w.heap.size, 3, none⟩ (.int .i32 0)).setCell ⟨w.heap.size, 4, none⟩ (.int .i64 0)).setCell ⟨w.heap.size, 5, none⟩ (.int .i64 0)).setCell ⟨w.heap.size, 6, none⟩ (.int .i64 0) := ⟨_, rfl⟩
        rw [← hWf] at HQ ⊢
        clear hWf
        have s0 := Lib.cell_of_heap HQ.out.1 0
        have s1 := Lib.cell_of_heap HQ.out.1 1
        have s2 := Lib.cell_of_heap HQ.out.1 2
        have s3 := Lib.cell_of_heap HQ.out.1 3
        have s4 := Lib.cell_of_heap HQ.out.1 4
        have s5 := Lib.cell_of_heap HQ.out.1 5
        have s6 := Lib.cell_of_heap HQ.out.1 6
        have hBf : Below w.heap.size W5 Wf := HQ.out.2 _ (Nat.le_refl _)
        exact bodyPost_ret (v := .tuple #[.agg #[.int .i64 (-1), .int .i32 0, .int .i32 0, .int .i32 0, .int .i64 0, .int .i64 0, .int .i64 0], .bool false]) (by simp [results, Tryz.results25, go_sem, s0, s1, s2, s3, s4, s5, s6]) rfl (HNoP.out HNo.out _ _ _ _ _ _ _ _ (HB5.out.trans hBf))
end Go.Proofs.YtmehldekebphfaaGreatDoor
