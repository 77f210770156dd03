/-
  PROVED: the law MetricTells at every argument: whether any table may be, its text, and what it tells of letters, is as the document says.
  Conditions: none.
-/
import Derived.Test.YtmehldekebphfaaGreatDoorNum
import Derived.Test.YtmehldekebphfaaGreatDoorPrint
import Derived.Test.YtmehldekebphfaaGreatDoorRefFind7
import Derived.Test.YtmehldekebphfaaGreatDoorLen7
import Derived.Deep.RegionLaw
import Derived.Deep.RegionHeld3
import Derived.Deep.DeepCutAuto
import Derived.Test.YtmehldekebphfaaGreatDoorMRefMay7
import Derived.Test.YtmehldekebphfaaGreatDoorFixedW7
import Derived.Test.YtmehldekebphfaaGreatDoorFrameM7
set_option linter.unusedVariables false
set_option linter.unusedSimpArgs false
namespace Go.Proofs.YtmehldekebphfaaGreatDoor
open Go.RowKit

theorem dec_big (k : Nat) (h : ¬ k < 10) : Lib.decDigits k = Lib.decDigits (k / 10) ++ [UInt8.ofNat (48 + k % 10)] := by
  rw [Lib.decDigits, dif_neg h]
def tens : ByteArray := ⟨#[48, 49, 50, 51, 52, 53, 54, 55, 56, 57]⟩
theorem tens_at (d : Nat) (h : d < 10) : (tens.extract d (d + 1)).data.toList = [UInt8.ofNat (48 + d)] := by
  have : ∀ d : Fin 10, (tens.extract d.val (d.val + 1)).data.toList = [UInt8.ofNat (48 + d.val)] := by decide +kernel
  exact this ⟨d, h⟩

set_option maxHeartbeats 1000000 in
set_option maxRecDepth 100000 in
theorem digits_any (N : Nat) (hN : N ≤ 18446744073709551615) (w : World) :
    Calls Tryz.prog 77 #[.int .u64 N] w fun e w' => e = .returned (.string ⟨(Lib.decDigits N).toArray⟩) ∧ w' = w := by
  have hlen := dec_len N hN
  go_enter Tryz.func77, Tryz.ntmps77
  go_wp2
  go_loop [0, 3] (fun n s => ∃ (k : Nat) (l : ByteArray), k ≤ 18446744073709551615 ∧ n = .int .u64 k ∧ s = .string l ∧ Hid (Lib.decDigits N = Lib.decDigits k ++ l.data.toList)) (fun n _ => (intOf n).toNat)
  case atStart => exact ⟨N, ByteArray.empty, hN, rfl, rfl, by show _ = _; simp⟩
  case round =>
    obtain ⟨k, l, hk, rfl, rfl, H⟩ := hrel
    have hl : l.size + (Lib.decDigits k).length ≤ 20 := by
      have := congrArg List.length H.out
      rw [List.length_append] at this
      rw [Lib.size_eq]; omega
    by_cases hk9 : k < 10
    · go_wp2
      go_ret
      refine ⟨ret_str ?_, rfl⟩
      show (tens.extract k (k + 1) ++ l).data.toList = Lib.decDigits N
      rw [H.out, ByteArray.data_append, Array.toList_append, tens_at k hk9, Lib.decDigits_one hk9]
    · go_wp2
      go_round
      case rel =>
        refine ⟨k / 10, tens.extract (k % 10) (k % 10 + 1) ++ l, by omega, by simp, rfl, ?_⟩
        show _ = _
        rw [H.out, ByteArray.data_append, Array.toList_append, tens_at (k % 10) (by omega), dec_big k hk9]
        simp
      case measure => simp [intOf]; omega

theorem digits_int (x : Int) (h0 : 0 ≤ x) (h1 : x ≤ 18446744073709551615) (w : World) :
    Calls Tryz.prog 77 #[.int .u64 x] w fun e w' => e = .returned (.string ⟨(Lib.decDigits x.toNat).toArray⟩) ∧ w' = w := by
  have h := digits_any x.toNat (by omega) w
  rw [Int.toNat_of_nonneg h0] at h
  exact h

theorem signed_str (n : Int) (h : n < 0) (x : Int) (hx : x = -n) : (⟨#[45]⟩ ++ (⟨(Lib.decDigits x.toNat).toArray⟩ : ByteArray) : ByteArray).data.toList = Lib.itoa n := by
  unfold Lib.itoa
  rw [if_pos h, ByteArray.data_append, Array.toList_append]
  have : x.toNat = n.natAbs := by omega
  rw [this]
  rfl

set_option maxHeartbeats 1000000 in
set_option maxRecDepth 100000 in
theorem signed_any (n : Int) (h0 : -9223372036854775808 ≤ n) (h1 : n ≤ 9223372036854775807) (w : World) :
    Calls Tryz.prog 78 #[.int .i64 n] w fun e w' => e = .returned (.string ⟨(Lib.itoa n).toArray⟩) ∧ w' = w := by
  by_cases hn : n < 0
  · have hdl : ¬ 9223372036854775807 < 1 + (Lib.decDigits (-(n + 1) + 1).toNat).length := by
      have := dec_len (-(n + 1) + 1).toNat (by omega)
      omega
    go_enter Tryz.func78, Tryz.ntmps78
    go_wp2_with (go_at_call 77; refine (digits_int _ (by omega) (by omega) _).mono ?_; rintro e w' ⟨rfl, rfl⟩)
    go_ret
    exact ⟨ret_str (signed_str n hn _ (by omega)), rfl⟩
  · go_enter Tryz.func78, Tryz.ntmps78
    go_wp2_with (go_at_call 77; refine (digits_int _ (by omega) (by omega) _).mono ?_; rintro e w' ⟨rfl, rfl⟩)
    go_ret
    refine ⟨ret_str ?_, rfl⟩
    unfold Lib.itoa
    rw [if_neg (by omega)]

/-! ### Number -/
def dg8 (c : UInt8) : Int := (c.toNat : Int) - 48
/-- what the loop of Number makes of digits, within a uint64 -/
def mspell (acc : Int) : List UInt8 → Int
  | [] => acc
  | c :: r => mspell (IntKind.u64.wrap (IntKind.u64.wrap (10 * acc) + dg8 c)) r
theorem mspell_snoc (l : List UInt8) (c : UInt8) : ∀ acc, mspell acc (l ++ [c]) = IntKind.u64.wrap (IntKind.u64.wrap (10 * mspell acc l) + dg8 c) := by
  induction l with
  | nil => intro acc; rfl
  | cons x r ih => intro acc; exact ih _
theorem wrap_u64_eq (x : Int) : IntKind.u64.wrap x = x % 18446744073709551616 := by
  unfold IntKind.wrap
  simp [IntKind.signed, IntKind.bits]
theorem wrap_i64_eq (x : Int) : IntKind.i64.wrap x = if 9223372036854775808 ≤ x % 18446744073709551616 then x % 18446744073709551616 - 18446744073709551616 else x % 18446744073709551616 := by
  unfold IntKind.wrap
  simp [IntKind.signed, IntKind.bits]
theorem wrap_u64 (x : Int) (h0 : 0 ≤ x) (h1 : x ≤ 18446744073709551615) : IntKind.u64.wrap x = x := by
  rw [wrap_u64_eq]
  omega
theorem mspell_eq (l : List UInt8) : ∀ acc : Nat, (∀ c ∈ l, 48 ≤ c.toNat ∧ c.toNat ≤ 57) → Fm.spell acc l ≤ 18446744073709551615 → mspell acc l = Fm.spell acc l := by
  induction l with
  | nil => intro acc _ _; rfl
  | cons c r ih =>
    intro acc hd hs
    have hc := hd c (List.mem_cons_self ..)
    have h1 := Fm.spell_ge r (acc * 10 + (c.toNat - 48))
    have hs' : Fm.spell (acc * 10 + (c.toNat - 48)) r ≤ 18446744073709551615 := hs
    have hi := ih (acc * 10 + (c.toNat - 48)) (fun x hx => hd x (List.mem_cons_of_mem _ hx)) hs'
    have e1 : IntKind.u64.wrap (10 * (acc : Int)) = 10 * (acc : Int) := wrap_u64 _ (by omega) (by omega)
    have e2 : IntKind.u64.wrap (10 * (acc : Int) + dg8 c) = 10 * (acc : Int) + dg8 c := wrap_u64 _ (by unfold dg8; omega) (by unfold dg8; omega)
    show mspell (IntKind.u64.wrap (IntKind.u64.wrap (10 * (acc : Int)) + dg8 c)) r = ((Fm.spell (acc * 10 + (c.toNat - 48)) r : Nat) : Int)
    rw [e1, e2, ← hi]
    congr 1
    unfold dg8
    omega
theorem mspell_dec (u : Nat) (h : u ≤ 18446744073709551615) : mspell 0 (Lib.decDigits u) = u := by
  have := mspell_eq (Lib.decDigits u) 0 (Fm.decDigits_dig u) (by rw [Fm.spell_dec]; exact h)
  rw [Fm.spell_dec] at this
  exact this
theorem wrap_is (x : Int) : wrap64 x = IntKind.i64.wrap x := by
  rw [wrap_i64_eq]
  unfold wrap64
  split <;> omega
theorem wrap_i64_range (x : Int) : -9223372036854775808 ≤ IntKind.i64.wrap x ∧ IntKind.i64.wrap x ≤ 9223372036854775807 := by
  rw [wrap_i64_eq]
  split <;> omega
theorem wrap_u64_range (x : Int) : 0 ≤ IntKind.u64.wrap x ∧ IntKind.u64.wrap x ≤ 18446744073709551615 := by
  rw [wrap_u64_eq]
  omega
theorem wrap_neg (n : Int) (h0 : 0 ≤ n) (h1 : n ≤ 9223372036854775808) : IntKind.i64.wrap (IntKind.u64.wrap (0 - n)) = -n := by
  rw [wrap_i64_eq, wrap_u64_eq]
  split <;> omega
theorem wrap_pos (n : Int) (h0 : 0 ≤ n) (h1 : n ≤ 9223372036854775807) : IntKind.i64.wrap n = n := by
  rw [wrap_i64_eq]
  split <;> omega

/-- what Number answers: is the text a numeral, and, if so, of which number -/
def NumberPost (l : List UInt8) (w : World) (e : Ending) (w' : World) : Prop :=
  ∃ k : Int, e = .returned (.tuple #[.int .i64 k, .bool (Fm.num l).isSome]) ∧ (∀ v, Fm.num l = some v → k = v) ∧ w' = w
theorem number_done (l : List UInt8) (k : Int) (hk : -9223372036854775808 ≤ k ∧ k ≤ 9223372036854775807) (hv : ∀ v, Fm.num l = some v → k = v) :
    decide (Lib.itoa k = l) = (Fm.num l).isSome := by
  by_cases h : Lib.itoa k = l
  · rw [decide_eq_true h, ← h, Fm.num_itoa k hk.1 hk.2]; rfl
  · rw [decide_eq_false h]
    cases hn : Fm.num l with
    | none => rfl
    | some v => exact absurd ((hv v hn) ▸ (Fm.num_some hn).symm) h
/-- a numeral's bytes behind its sign are digits, and spell its amount -/
theorem num_neg {l : List UInt8} {v : Int} (h : Fm.num l = some v) (hs : l.head? = some 45) : v < 0 ∧ l.drop 1 = Lib.decDigits v.natAbs := by
  have e := Fm.num_some h
  unfold Lib.itoa at e
  split at e
  · rename_i hv; exact ⟨hv, by rw [e]; rfl⟩
  · rw [e] at hs
    cases hd : Lib.decDigits v.toNat with
    | nil => rw [hd] at hs; cases hs
    | cons c r =>
      rw [hd] at hs
      simp only [List.head?_cons, Option.some.injEq] at hs
      have := Fm.decDigits_dig v.toNat c (by rw [hd]; exact List.mem_cons_self ..)
      rw [hs] at this
      exact absurd this.1 (by decide)
theorem num_pos {l : List UInt8} {v : Int} (h : Fm.num l = some v) (hs : l.head? ≠ some 45) : 0 ≤ v ∧ l = Lib.decDigits v.natAbs := by
  have e := Fm.num_some h
  unfold Lib.itoa at e
  split at e
  · rw [e] at hs; exact absurd rfl hs
  · rename_i hv
    exact ⟨by omega, by rw [e]; congr 1; omega⟩


/-- digits up to place k of L, then a byte that is none: no numeral -/
theorem number_bad {l : List UInt8} {f k : Nat} {c : UInt8} (hf : f = if l.head? = some 45 then 1 else 0) (hk : f ≤ k) (hc : l[k]? = some c) (hd : ¬ (48 ≤ c.toNat ∧ c.toNat ≤ 57)) : Fm.num l = none := by
  cases hn : Fm.num l with
  | none => rfl
  | some v =>
    exfalso
    apply hd
    by_cases h : l.head? = some 45
    · rw [if_pos h] at hf
      have e := (num_neg hn h).2
      have : c ∈ l.drop 1 := by
        refine List.mem_of_getElem? (i := k - 1) ?_
        rw [List.getElem?_drop, show 1 + (k - 1) = k by omega]; exact hc
      rw [e] at this
      exact Fm.decDigits_dig _ c this
    · have e := (num_pos hn h).2
      have : c ∈ l := List.mem_of_getElem? hc
      rw [e] at this
      exact Fm.decDigits_dig _ c this
/-- the loop's end: k bytes behind the sign are digits; k is all of them, or 22 with it -/
theorem number_end {l : List UInt8} {f k : Nat} {v : Int} (hf : f = if l.head? = some 45 then 1 else 0) (hk : f ≤ k) (hend : k = l.length ∨ k = 22) (hn : Fm.num l = some v) :
    mspell 0 ((l.drop f).take (k - f)) = v.natAbs ∧ (f = 1 → v < 0) ∧ (f = 0 → 0 ≤ v) := by
  have h20 := num_len hn
  have hr := Fm.num_range hn
  by_cases h : l.head? = some 45
  · rw [if_pos h] at hf
    obtain ⟨h1, h2⟩ := num_neg hn h
    subst hf
    refine ⟨?_, fun _ => h1, fun h => by omega⟩
    rw [List.take_of_length_le (by rw [List.length_drop]; omega), h2]
    exact mspell_dec _ (by omega)
  · rw [if_neg h] at hf
    obtain ⟨h1, h2⟩ := num_pos hn h
    subst hf
    refine ⟨?_, fun h => by omega, fun _ => h1⟩
    rw [List.drop_zero, List.take_of_length_le (by omega)]
    conv => lhs; rw [h2]
    exact mspell_dec _ (by omega)
theorem mspell_range (l : List UInt8) : 0 ≤ mspell 0 l ∧ mspell 0 l ≤ 18446744073709551615 := by
  rcases List.eq_nil_or_concat l with rfl | ⟨r, c, rfl⟩
  · exact ⟨Int.le_refl _, by unfold mspell; omega⟩
  · rw [List.concat_eq_append, mspell_snoc]; exact wrap_u64_range _

/-- the bytes behind the first one, up to place k -/
def behind (l : List UInt8) (k : Nat) : List UInt8 := (l.drop 1).take (k - 1)
theorem behind_next (l : List UInt8) (k : Nat) (c : UInt8) (hk : 1 ≤ k) (h : l[k]? = some c) : behind l (k + 1) = behind l k ++ [c] := by
  unfold behind
  rw [show k + 1 - 1 = k - 1 + 1 by omega]
  exact take_next (l.drop 1) (k - 1) c (by rw [List.getElem?_drop, show 1 + (k - 1) = k by omega]; exact h)
def OkNum (l : List UInt8) (k : Int) : Prop := (-9223372036854775808 ≤ k ∧ k ≤ 9223372036854775807) ∧ ∀ v, Fm.num l = some v → k = v
theorem okNum_pos {l : List UInt8} {k : Nat} (hh : l.head? ≠ some 45) (hend : k = l.length ∨ k = 22) : OkNum l (wrap64 (mspell 0 (l.take k))) := by
  rw [wrap_is]
  refine ⟨wrap_i64_range _, fun v hv => ?_⟩
  have h := number_end (f := 0) (k := k) (by rw [if_neg hh]) (Nat.zero_le _) hend hv
  have hr := Fm.num_range hv
  have h2 := h.2.2 rfl
  have e : mspell 0 (l.take k) = v.natAbs := h.1
  rw [e, wrap_pos _ (by omega) (by omega)]; omega
theorem okNum_neg {l : List UInt8} {k : Nat} (hh : l.head? = some 45) (hk : 1 ≤ k) (hend : k = l.length ∨ k = 22) : OkNum l (wrap64 (IntKind.u64.wrap (-mspell 0 (behind l k)))) := by
  rw [wrap_is, show (-mspell 0 (behind l k)) = 0 - mspell 0 ((l.drop 1).take (k - 1)) by unfold behind; omega]
  refine ⟨wrap_i64_range _, fun v hv => ?_⟩
  have h := number_end (f := 1) (k := k) (by rw [if_pos hh]) hk hend hv
  have hr := Fm.num_range hv
  have h2 := h.2.1 rfl
  rw [h.1, wrap_neg _ (by omega) (by omega)]; omega
theorem signed_wrap (x : Int) (w : World) : Calls Tryz.prog 78 #[.int .i64 (wrap64 x)] w fun e w' => e = .returned (.string ⟨(Lib.itoa (wrap64 x)).toArray⟩) ∧ w' = w := by
  have h := wrap_i64_range x
  rw [← wrap_is] at h
  exact signed_any _ h.1 h.2 w
theorem number_post {l : List UInt8} {k : Int} {b : Bool} {e : Ending} {w : World} (ho : OkNum l k) (hb : b = decide (Lib.itoa k = l)) (he : e = .returned (.tuple #[.int .i64 k, .bool b])) : NumberPost l w e w := by
  refine ⟨k, ?_, ho.2, rfl⟩
  rw [he, hb, number_done l k ho.1 ho.2]


theorem num_beq (x : Int) (s : ByteArray) : decide (Lib.itoa x = s.data.toList) = (Lib.itoa x == s.toList) := by
  rw [Lib.toList_data]
  by_cases h : Lib.itoa x = s.data.toList
  · simp [h]
  · rw [decide_eq_false h, beq_eq_false_iff_ne.2 h]

set_option maxHeartbeats 4000000 in
set_option maxRecDepth 100000 in
theorem number_plus (s : ByteArray) (hs : s.size ≤ 9223372036854775807) (h0 : 0 < s.size) (hm : ((s[0].toNat : Int) == 45) = false) (hh : s.data.toList.head? ≠ some 45) (w : World) :
    Calls Tryz.prog 83 #[.string s] w (NumberPost s.data.toList w) := by
  have HH := Lib.hid hh
  clear hh
  go_enter Tryz.func83, Tryz.ntmps83
  go_wp2
  go_loop [5, 6] (fun n i => ∃ k : Nat, 0 ≤ k ∧ k ≤ s.size ∧ k ≤ 22 ∧ i = .int .i64 k ∧ n = .int .u64 (mspell 0 (s.data.toList.take k))) (fun _ i => s.size - (intOf i).toNat)
  case atStart => exact ⟨0, by omega, by omega, by omega, rfl, rfl⟩
  case round =>
    obtain ⟨k, hk1, hk, hk2, rfl, rfl⟩ := hrel
    have hr := mspell_range (s.data.toList.take k)
    by_cases hlt : k < s.size
    · by_cases h22 : k < 22
      · by_cases hd : 48 ≤ (s[k].toNat : Int) ∧ (s[k].toNat : Int) ≤ 57
        · obtain ⟨hd1, hd2⟩ := hd
          have HS := Lib.hid (mspell_snoc (s.data.toList.take k) s[k] 0)
          have HT := Lib.hid (take_next _ _ _ (byte_at s k hlt))
          go_wp2
          go_round
          case rel => exact ⟨k + 1, by omega, by omega, by omega, by go_num, by rw [HT.out, HS.out]; rfl⟩
          case measure => simp [intOf]; omega
        · have hbad := Lib.hid (number_bad (f := 0) (by rw [if_neg HH.out]) hk1 (byte_at s k hlt) (by omega))
          go_wp2
          all_goals go_ret2
          all_goals exact ⟨0, by rw [hbad.out]; rfl, (fun v hv => by rw [hbad.out] at hv; cases hv), rfl⟩
      · have ho := Lib.hid (okNum_pos HH.out (Or.inr (show k = 22 by omega)))
        go_wp2_with (go_at_call 78; refine (signed_wrap _ _).mono ?_; rintro e w' ⟨rfl, rfl⟩)
        go_ret2
        exact number_post ho.out rfl (by rw [num_beq]; rfl)
    · have ho := Lib.hid (okNum_pos HH.out (Or.inl (show k = s.data.toList.length by rw [← Lib.size_eq]; omega)))
      go_wp2_with (go_at_call 78; refine (signed_wrap _ _).mono ?_; rintro e w' ⟨rfl, rfl⟩)
      go_ret2
      exact number_post ho.out rfl (by rw [num_beq]; rfl)

set_option maxHeartbeats 4000000 in
set_option maxRecDepth 100000 in
theorem number_minus (s : ByteArray) (hs : s.size ≤ 9223372036854775807) (h0 : 0 < s.size) (hm : ((s[0].toNat : Int) == 45) = true) (hh : s.data.toList.head? = some 45) (w : World) :
    Calls Tryz.prog 83 #[.string s] w (NumberPost s.data.toList w) := by
  have HH := Lib.hid hh
  clear hh
  go_enter Tryz.func83, Tryz.ntmps83
  go_wp2
  go_loop [5, 6] (fun n i => ∃ k : Nat, 1 ≤ k ∧ k ≤ s.size ∧ k ≤ 22 ∧ i = .int .i64 k ∧ n = .int .u64 (mspell 0 (behind s.data.toList k))) (fun _ i => s.size - (intOf i).toNat)
  case atStart => exact ⟨1, by omega, by omega, by omega, rfl, rfl⟩
  case round =>
    obtain ⟨k, hk1, hk, hk2, rfl, rfl⟩ := hrel
    have hr := mspell_range (behind s.data.toList k)
    by_cases hlt : k < s.size
    · by_cases h22 : k < 22
      · by_cases hd : 48 ≤ (s[k].toNat : Int) ∧ (s[k].toNat : Int) ≤ 57
        · obtain ⟨hd1, hd2⟩ := hd
          have HS := Lib.hid (mspell_snoc (behind s.data.toList k) s[k] 0)
          have HT := Lib.hid (behind_next _ _ _ hk1 (byte_at s k hlt))
          go_wp2
          go_round
          case rel => exact ⟨k + 1, by omega, by omega, by omega, by go_num, by rw [HT.out, HS.out]; rfl⟩
          case measure => simp [intOf]; omega
        · have hbad := Lib.hid (number_bad (f := 1) (by rw [if_pos HH.out]) hk1 (byte_at s k hlt) (by omega))
          go_wp2
          all_goals go_ret2
          all_goals exact ⟨0, by rw [hbad.out]; rfl, (fun v hv => by rw [hbad.out] at hv; cases hv), rfl⟩
      · have ho := Lib.hid (okNum_neg HH.out hk1 (Or.inr (show k = 22 by omega)))
        go_wp2_with (go_at_call 78; refine (signed_wrap _ _).mono ?_; rintro e w' ⟨rfl, rfl⟩)
        go_ret2
        exact number_post ho.out rfl (by rw [num_beq]; rfl)
    · have ho := Lib.hid (okNum_neg HH.out hk1 (Or.inl (show k = s.data.toList.length by rw [← Lib.size_eq]; omega)))
      go_wp2_with (go_at_call 78; refine (signed_wrap _ _).mono ?_; rintro e w' ⟨rfl, rfl⟩)
      go_ret2
      exact number_post ho.out rfl (by rw [num_beq]; rfl)

set_option maxHeartbeats 4000000 in
set_option maxRecDepth 100000 in
theorem number_empty (w : World) :
    Calls Tryz.prog 83 #[.string ⟨#[]⟩] w (NumberPost [] w) := by
  go_enter Tryz.func83, Tryz.ntmps83
  go_wp2
  refine wp_loop_rounds 1 ?_
  rw [rounds_succ]
  go_wp2_with (go_at_call 78; refine (signed_any 0 (by decide) (by decide) _).mono ?_; rintro e w' ⟨rfl, rfl⟩)
  go_ret2
  refine number_post (k := 0) (b := (Lib.itoa 0).isEmpty) ⟨by decide, fun v hv => ?_⟩ (by decide +kernel) ?_
  · have : Fm.num [] = none := by decide +kernel
    rw [this] at hv; cases hv
  · rfl

/-- Number, at every text. -/
theorem number_any (s : ByteArray) (hs : s.size ≤ 9223372036854775807) (w : World) :
    Calls Tryz.prog 83 #[.string s] w (NumberPost s.data.toList w) := by
  rcases Nat.eq_zero_or_pos s.size with h0 | h0
  · have : s = ⟨#[]⟩ := by
      obtain ⟨⟨l⟩⟩ := s
      have : l = [] := by
        rw [Lib.size_eq] at h0
        exact List.eq_nil_of_length_eq_zero h0
      rw [this]
    subst this
    exact number_empty w
  · have hb := byte_at s 0 h0
    have hh : s.data.toList.head? = some s[0] := by rw [← hb, List.head?_eq_getElem?]
    by_cases h : s[0] = 45
    · exact number_minus s hs h0 (by rw [h]; rfl) (by rw [hh, h]) w
    · have hne : ¬ (s[0].toNat : Int) = 45 := fun e => h (UInt8.toNat_inj.1 (by rw [show (45 : UInt8).toNat = 45 from rfl]; omega))
      exact number_plus s hs h0 (by simpa using hne) (by rw [hh]; intro e; injection e with e; exact h e) w
end Go.Proofs.YtmehldekebphfaaGreatDoor

namespace Go.Proofs.YtmehldekebphfaaGreatDoor
open Go.RowKit

end Go.Proofs.YtmehldekebphfaaGreatDoor

namespace Go.Proofs.YtmehldekebphfaaGreatDoor
open Go.RowKit

theorem digits_is (x : Int) (h0 : 0 ≤ x) (h1 : x ≤ 18446744073709551615) (w : World) : Calls Tryz.prog 77 #[.int .u64 x] w (Is (.string ⟨(Lib.decDigits x.toNat).toArray⟩) w) :=
  (digits_int x h0 h1 w).mono fun _ _ h => ⟨h.1, h.2.symm⟩
/-- what is written so far: what stands ahead of the digits, and the digits 'done' -/
structure Out (pre : List UInt8) (done : List Nat) (u : ByteArray) : Prop where
  text : u.data.toList = pre ++ Sc.bytesOf done
  short : pre.length ≤ 7
  few : done.length ≤ 5
theorem out_size {pre : List UInt8} {done : List Nat} {u : ByteArray} (h : Out pre done u) : u.size ≤ 12 := by
  rw [Lib.size_eq, h.text, List.length_append]
  have := h.short
  have := h.few
  unfold Sc.bytesOf
  rw [List.length_map]
  omega
theorem out_snoc {pre : List UInt8} {done : List Nat} {u : ByteArray} {q : Int} (h : Out pre done u) (q0 : 0 ≤ q) (q9 : q ≤ 9) : (u ++ ⟨(Lib.decDigits q.toNat).toArray⟩ : ByteArray).data.toList = pre ++ Sc.bytesOf (done ++ [q.toNat]) := by
  rw [ByteArray.data_append, Array.toList_append, h.text, Lib.decDigits_one (by omega), Sc.bytesOf_append, List.append_assoc]
  rfl
theorem out_next {pre : List UInt8} {done : List Nat} {u : ByteArray} (hl : done.length < 5) {q : Int} (h : Out pre done u) (q0 : 0 ≤ q) (q9 : q ≤ 9) : Out pre (done ++ [q.toNat]) (u ++ ⟨(Lib.decDigits q.toNat).toArray⟩) :=
  ⟨out_snoc h q0 q9, h.short, by rw [List.length_append, List.length_cons, List.length_nil]; omega⟩

set_option maxHeartbeats 600000 in
set_option maxRecDepth 100000 in
theorem refPrint_minus (m : Int) (hf : Sc.fits (-m) = true) (hm0 : 0 < m) (w : World) : Calls Tryz.prog 42 #[.int .i64 (-m)] w (Ret (.string ⟨(Sc.print (-m)).toArray⟩) w) := by
  have ⟨b0, b1⟩ := Sc.fits_yes hf
  have a0 : m ≤ 1073741823 := by omega
  have hneg : -m < 0 := by omega
  have es : Sc.size (-m) = m := by unfold Sc.size; rw [if_pos hneg]; omega
  have hp := print_yes hf
  rw [es, if_pos hneg] at hp
  have q0' : 0 ≤ (m) / 65536 := by omega
  have q1' : (m) / 65536 ≤ 16383 := by omega
  have m0' : 0 ≤ (m) % 65536 := by omega
  have m1' : (m) % 65536 < 65536 := by omega
  have l1 := dec_short ((m) / 65536).toNat (by omega)
  obtain ⟨all, hall⟩ : ∃ all, all = Sc.fracDs ((m) % 65536).toNat := ⟨_, rfl⟩
  obtain ⟨_, _, h9, _, _⟩ := Sc.fracDs_ok ((m) % 65536).toNat (by omega)
  have hst := stand_start m0' m1'
  obtain ⟨pre, hpre⟩ : ∃ pre, pre = [45] ++ (Lib.decDigits ((m) / 65536).toNat ++ [46]) := ⟨_, rfl⟩
  have hpl : pre.length ≤ 7 := by rw [hpre]; simp; omega
  rw [← hall] at h9 hst hp
  have HP : Hid (Sc.print (-m) = pre ++ Sc.bytesOf all) := Lib.hid (by rw [hp, hpre]; simp)
  have H9 := Lib.hid h9
  have HST := Lib.hid hst
  have HPre := Lib.hid hpre
  have HPL := Lib.hid hpl
  have HF := Lib.hid hf
  have n0 : ¬ 9223372036854775807 < (Lib.decDigits ((m) / 65536).toNat).length + 1 := by omega
  have n1 : ¬ 9223372036854775807 < 0 + ((Lib.decDigits ((m) / 65536).toNat).length + 1) := by omega
  have n2 : ¬ 9223372036854775807 < 1 + ((Lib.decDigits ((m) / 65536).toNat).length + 1) := by omega
  clear h9 hst hall hp hpre hpl hf es hneg b0 b1
  go_enter Tryz.func42, Tryz.ntmps42
  go_wp2_with fail
  refine (refFits_any _ _ HF.out _).mono ?_
  rintro e w' ⟨rfl, rfl⟩
  go_wp2_with fail
  refine (digits_is _ q0' (by omega) _).mono ?_
  rintro e w' ⟨rfl, rfl⟩
  go_wp2_with fail
  clear q0' q1' l1 n0 n1 n2
  go_loopg [3, 4, 5] 5 (fun k ov sv dv wr => ∃ (u : ByteArray) (s d : Int) (done : List Nat), ov = .string u ∧ sv = .int .i64 s ∧ dv = .int .i64 d ∧ Hid (Stand all k s d done) ∧ Hid (Out pre done u) ∧ Hid (Below w.heap.size w wr))
  case atStart => exact ⟨_, 10 * ((m) % 65536) + 5, 10, [], rfl, rfl, rfl, HST, Lib.hid ⟨by rw [HPre.out]; simp [Sc.bytesOf], HPL.out, by simp⟩, Lib.hid (Below.refl _ _)⟩
  case round =>
    obtain ⟨u, s, d, done, rfl, rfl, rfl, HS, HO, HB⟩ := hrel
    clear m0' m1'
    by_cases hD : 65536 < d
    · have NX := HS.out.next (s' := s - 17232) H9.out (by rw [if_pos hD])
      obtain ⟨hlow, hs0, HNX0⟩ := NX
      have HNX := Lib.hid HNX0
      have hs1 : s - 17232 ≤ 655360 := by have := HS.out.s1; omega
      have hd0 := HS.out.d0
      have hd1 := HS.out.d1
      have hlow := hlow hD
      have hsm := HS.out.s1
      have q0 : 0 ≤ (s - 17232) / 65536 := by omega
      have q9 : (s - 17232) / 65536 ≤ 9 := by have := HNX0.dig; omega
      have m0 : 0 ≤ (s - 17232) % 65536 := by omega
      have m1 : (s - 17232) % 65536 < 65536 := by omega
      have HO3 := Lib.hid (out_next HNX0.len (q := (s - 17232) / 65536) HO.out q0 q9)
      have l1 : (Lib.decDigits ((s - 17232) / 65536).toNat).length = 1 := by rw [Lib.decDigits_one (by omega)]; rfl
      have n1 : ¬ 9223372036854775807 < u.size + (Lib.decDigits ((s - 17232) / 65536).toNat).length := by have := HNX0.len; have := out_size HO.out; omega

      clear HNX0 l1
      by_cases hle : 10 * ((s - 17232) % 65536) ≤ 10 * d
      · go_wp2_with fail
        refine (digits_is _ q0 (by omega) _).mono ?_
        rintro e w1 ⟨rfl, rfl⟩
        go_wp2_with fail
        go_ret
        refine ⟨ret_strL ?_, HB.out⟩
        have hx := HO3.out.text
        rw [HNX.out.last hle] at hx
        rw [hx, HP.out]
      · exfalso; omega
    · have NX := HS.out.next (s' := s) H9.out (by rw [if_neg hD])
      obtain ⟨hlow, hs0, HNX0⟩ := NX
      have HNX := Lib.hid HNX0
      have hs1 : s ≤ 655360 := by have := HS.out.s1; omega
      have hd0 := HS.out.d0
      have hd1 := HS.out.d1
      clear hlow
      have hD1 : d ≤ 65536 := by omega
      have q0 : 0 ≤ (s) / 65536 := by omega
      have q9 : (s) / 65536 ≤ 9 := by have := HNX0.dig; omega
      have m0 : 0 ≤ (s) % 65536 := by omega
      have m1 : (s) % 65536 < 65536 := by omega
      have HO3 := Lib.hid (out_next HNX0.len (q := (s) / 65536) HO.out q0 q9)
      have l1 : (Lib.decDigits ((s) / 65536).toNat).length = 1 := by rw [Lib.decDigits_one (by omega)]; rfl
      have n1 : ¬ 9223372036854775807 < u.size + (Lib.decDigits ((s) / 65536).toNat).length := by have := HNX0.len; have := out_size HO.out; omega
      clear hD
      clear HNX0 l1
      by_cases hle : 10 * ((s) % 65536) ≤ 10 * d
      · go_wp2_with fail
        refine (digits_is _ q0 (by omega) _).mono ?_
        rintro e w1 ⟨rfl, rfl⟩
        go_wp2_with fail
        go_ret
        refine ⟨ret_strL ?_, HB.out⟩
        have hx := HO3.out.text
        rw [HNX.out.last hle] at hx
        rw [hx, HP.out]
      · obtain ⟨f', hf', hst'⟩ := HNX.out.more (by omega)
        have HF := Lib.hid hf'
        have HST' := Lib.hid hst'
        have hle2 : 10 * d < 10 * ((s) % 65536) := by omega
        clear hf' hst' hle
        go_wp2_with fail
        refine (digits_is _ q0 (by omega) _).mono ?_
        rintro e w1 ⟨rfl, rfl⟩
        go_wp2_with fail
        go_roundg f'
        case measure => have := HF.out; omega
        case rel => exact ⟨_, _, _, _, rfl, rfl, rfl, HST', HO3, HB⟩

set_option maxHeartbeats 600000 in
set_option maxRecDepth 100000 in
theorem refPrint_pos (n : Int) (hf : Sc.fits n = true) (hneg : 0 ≤ n) (w : World) : Calls Tryz.prog 42 #[.int .i64 n] w (Ret (.string ⟨(Sc.print n).toArray⟩) w) := by
  have ⟨a0, a1⟩ := Sc.fits_yes hf
  have es : Sc.size n = n := by unfold Sc.size; rw [if_neg (by omega)]
  have hp := print_yes hf
  rw [es, if_neg (show ¬ n < 0 by omega)] at hp
  have q0' : 0 ≤ (n) / 65536 := by omega
  have q1' : (n) / 65536 ≤ 16383 := by omega
  have m0' : 0 ≤ (n) % 65536 := by omega
  have m1' : (n) % 65536 < 65536 := by omega
  have l1 := dec_short ((n) / 65536).toNat (by omega)
  obtain ⟨all, hall⟩ : ∃ all, all = Sc.fracDs ((n) % 65536).toNat := ⟨_, rfl⟩
  obtain ⟨_, _, h9, _, _⟩ := Sc.fracDs_ok ((n) % 65536).toNat (by omega)
  have hst := stand_start m0' m1'
  obtain ⟨pre, hpre⟩ : ∃ pre, pre = (Lib.decDigits ((n) / 65536).toNat ++ [46]) := ⟨_, rfl⟩
  have hpl : pre.length ≤ 7 := by rw [hpre]; simp; omega
  rw [← hall] at h9 hst hp
  have HP : Hid (Sc.print n = pre ++ Sc.bytesOf all) := Lib.hid (by rw [hp, hpre]; simp)
  have H9 := Lib.hid h9
  have HST := Lib.hid hst
  have HPre := Lib.hid hpre
  have HPL := Lib.hid hpl
  have HF := Lib.hid hf
  have n0 : ¬ 9223372036854775807 < (Lib.decDigits ((n) / 65536).toNat).length + 1 := by omega
  have n1 : ¬ 9223372036854775807 < 0 + ((Lib.decDigits ((n) / 65536).toNat).length + 1) := by omega
  have n2 : ¬ 9223372036854775807 < 1 + ((Lib.decDigits ((n) / 65536).toNat).length + 1) := by omega
  clear h9 hst hall hp hpre hpl hf es
  go_enter Tryz.func42, Tryz.ntmps42
  go_wp2_with fail
  refine (refFits_any _ _ HF.out _).mono ?_
  rintro e w' ⟨rfl, rfl⟩
  go_wp2_with fail
  refine (digits_is _ q0' (by omega) _).mono ?_
  rintro e w' ⟨rfl, rfl⟩
  go_wp2_with fail
  clear q0' q1' l1 n0 n1 n2
  go_loopg [3, 4, 5] 5 (fun k ov sv dv wr => ∃ (u : ByteArray) (s d : Int) (done : List Nat), ov = .string u ∧ sv = .int .i64 s ∧ dv = .int .i64 d ∧ Hid (Stand all k s d done) ∧ Hid (Out pre done u) ∧ Hid (Below w.heap.size w wr))
  case atStart => exact ⟨_, 10 * ((n) % 65536) + 5, 10, [], rfl, rfl, rfl, HST, Lib.hid ⟨by rw [HPre.out]; simp [Sc.bytesOf], HPL.out, by simp⟩, Lib.hid (Below.refl _ _)⟩
  case round =>
    obtain ⟨u, s, d, done, rfl, rfl, rfl, HS, HO, HB⟩ := hrel
    clear m0' m1'
    by_cases hD : 65536 < d
    · have NX := HS.out.next (s' := s - 17232) H9.out (by rw [if_pos hD])
      obtain ⟨hlow, hs0, HNX0⟩ := NX
      have HNX := Lib.hid HNX0
      have hs1 : s - 17232 ≤ 655360 := by have := HS.out.s1; omega
      have hd0 := HS.out.d0
      have hd1 := HS.out.d1
      have hlow := hlow hD
      have hsm := HS.out.s1
      have q0 : 0 ≤ (s - 17232) / 65536 := by omega
      have q9 : (s - 17232) / 65536 ≤ 9 := by have := HNX0.dig; omega
      have m0 : 0 ≤ (s - 17232) % 65536 := by omega
      have m1 : (s - 17232) % 65536 < 65536 := by omega
      have HO3 := Lib.hid (out_next HNX0.len (q := (s - 17232) / 65536) HO.out q0 q9)
      have l1 : (Lib.decDigits ((s - 17232) / 65536).toNat).length = 1 := by rw [Lib.decDigits_one (by omega)]; rfl
      have n1 : ¬ 9223372036854775807 < u.size + (Lib.decDigits ((s - 17232) / 65536).toNat).length := by have := HNX0.len; have := out_size HO.out; omega

      clear HNX0 l1
      by_cases hle : 10 * ((s - 17232) % 65536) ≤ 10 * d
      · go_wp2_with fail
        refine (digits_is _ q0 (by omega) _).mono ?_
        rintro e w1 ⟨rfl, rfl⟩
        go_wp2_with fail
        go_ret
        refine ⟨ret_strL ?_, HB.out⟩
        have hx := HO3.out.text
        rw [HNX.out.last hle] at hx
        rw [hx, HP.out]
      · exfalso; omega
    · have NX := HS.out.next (s' := s) H9.out (by rw [if_neg hD])
      obtain ⟨hlow, hs0, HNX0⟩ := NX
      have HNX := Lib.hid HNX0
      have hs1 : s ≤ 655360 := by have := HS.out.s1; omega
      have hd0 := HS.out.d0
      have hd1 := HS.out.d1
      clear hlow
      have hD1 : d ≤ 65536 := by omega
      have q0 : 0 ≤ (s) / 65536 := by omega
      have q9 : (s) / 65536 ≤ 9 := by have := HNX0.dig; omega
      have m0 : 0 ≤ (s) % 65536 := by omega
      have m1 : (s) % 65536 < 65536 := by omega
      have HO3 := Lib.hid (out_next HNX0.len (q := (s) / 65536) HO.out q0 q9)
      have l1 : (Lib.decDigits ((s) / 65536).toNat).length = 1 := by rw [Lib.decDigits_one (by omega)]; rfl
      have n1 : ¬ 9223372036854775807 < u.size + (Lib.decDigits ((s) / 65536).toNat).length := by have := HNX0.len; have := out_size HO.out; omega
      clear hD
      clear HNX0 l1
      by_cases hle : 10 * ((s) % 65536) ≤ 10 * d
      · go_wp2_with fail
        refine (digits_is _ q0 (by omega) _).mono ?_
        rintro e w1 ⟨rfl, rfl⟩
        go_wp2_with fail
        go_ret
        refine ⟨ret_strL ?_, HB.out⟩
        have hx := HO3.out.text
        rw [HNX.out.last hle] at hx
        rw [hx, HP.out]
      · obtain ⟨f', hf', hst'⟩ := HNX.out.more (by omega)
        have HF := Lib.hid hf'
        have HST' := Lib.hid hst'
        have hle2 : 10 * d < 10 * ((s) % 65536) := by omega
        clear hf' hst' hle
        go_wp2_with fail
        refine (digits_is _ q0 (by omega) _).mono ?_
        rintro e w1 ⟨rfl, rfl⟩
        go_wp2_with fail
        go_roundg f'
        case measure => have := HF.out; omega
        case rel => exact ⟨_, _, _, _, rfl, rfl, rfl, HST', HO3, HB⟩

set_option maxHeartbeats 1000000 in
set_option maxRecDepth 100000 in
theorem refPrint_no (n : Int) (hf : Sc.fits n = false) (w : World) : Calls Tryz.prog 42 #[.int .i64 n] w (Ret (.string ⟨(Sc.print n).toArray⟩) w) := by
  rw [Sc.print_no hf]
  have HF := Lib.hid hf
  clear hf
  go_enter Tryz.func42, Tryz.ntmps42
  go_wp2_with fail
  refine (refFits_any _ _ HF.out _).mono ?_
  rintro e w' ⟨rfl, rfl⟩
  go_wp2_with fail
  go_ret
  exact ⟨rfl, Below.refl _ _⟩
theorem refPrint_any (n : Int) (w : World) : Calls Tryz.prog 42 #[.int .i64 n] w (Ret (.string ⟨(Sc.print n).toArray⟩) w) := by
  cases hf : Sc.fits n with
  | false => exact refPrint_no n hf w
  | true =>
    by_cases h : n < 0
    · have h1 : Sc.fits (-(-n)) = true := by rw [Int.neg_neg]; exact hf
      have h2 := refPrint_minus (-n) h1 (by omega) w
      rw [Int.neg_neg] at h2
      exact h2
    · exact refPrint_pos n hf (by omega) w
end Go.Proofs.YtmehldekebphfaaGreatDoor

namespace Go.Proofs.YtmehldekebphfaaGreatDoor
open Go.RowKit

theorem undrew7p {w w' : World} (h : Below w.drew.heap.size w.drew w') : Below w.heap.size w w' := ⟨h.os, h.tape, h.output, h.size, h.block⟩
/-- a sum of two texts -/
theorem sum_str (a b c : List UInt8) (hl : a.length + b.length ≤ 9223372036854775807) (hc : c = a ++ b) (wx : World) : (Op.stringOp .add (str a) (str b)).run Tryz.prog wx = .ok (.string (str c)) wx := by
  rw [run_string_add_sum wx (str a) (str b) (by rw [str_size, str_size]; exact hl), hc]
  congr 2
set_option maxHeartbeats 4000000 in
theorem code_is (c : Int) (hc : In32 c) (w : World) : Calls Tryz.prog 43 #[.int .i32 c] w (Ret (.string (str (32 :: Lib.itoa c))) w) := by
  unfold In32 at hc
  have HS := Lib.hid (fun w => signed_any c (by omega) (by omega) w)
  have hl := Lib.itoa_length_le c (by omega) (by omega)
  have HE : Hid ((⟨#[32]⟩ : ByteArray) ++ ⟨(Lib.itoa c).toArray⟩ = str (32 :: Lib.itoa c)) := Lib.hid (by
    apply ByteArray.ext
    simp [str])
  have e1 : ∀ wx, (Op.stringOp .add ⟨#[32]⟩ ⟨(Lib.itoa c).toArray⟩).run Tryz.prog wx = .ok (.string ((⟨#[32]⟩ : ByteArray) ++ ⟨(Lib.itoa c).toArray⟩)) wx := fun wx => by
    apply run_string_add_sum
    show 1 + (Lib.itoa c).toArray.size ≤ _
    simp only [List.size_toArray]
    omega
  go_enter Tryz.func43, Tryz.ntmps43
  go_wp2_with fail
  refine (HS.out _).mono ?_
  rintro e w1 ⟨rfl, hb1⟩
  go_wp2
  go_ret
  exact ⟨by rw [← HE.out]; rfl, by first | exact hb1 | (subst hb1; exact Below.refl _ _)⟩
theorem len_is (n : Int) (w : World) : Calls Tryz.prog 42 #[.int .i64 n] w (Ret (.string (str (Sc.print n))) w) := refPrint_any n w
namespace Mt
theorem body_snoc (l : List Ln) (x : Ln) : body (l ++ [x]) = body l ++ (text x ++ [10]) := by
  unfold body
  rw [List.flatMap_append]
  simp
/-- a table's text, up to a line -/
def acc (m : Tab) (j : Nat) : List UInt8 := body ((lines m).take j)
theorem acc_next {m : Tab} {j : Nat} {x : Ln} (h : (lines m)[j]? = some x) : acc m (j + 1) = acc m j ++ (text x ++ [10]) := by
  unfold acc
  rw [List.take_add_one, h]
  exact body_snoc _ _
theorem acc_len {m : Tab} (hm : may m = true) (j : Nat) : (acc m j).length ≤ 1048576 := by
  have h := print_small m
  unfold print at h
  rw [if_pos hm] at h
  have e : body (lines m) = acc m j ++ body ((lines m).drop j) := by
    unfold acc body
    rw [← List.flatMap_append, List.take_append_drop]
  rw [e, List.length_append] at h
  omega
theorem acc_end {m : Tab} (hm : may m = true) : acc m (2 + (m.chars.length + (m.kerns.length + m.ligs.length))) = print m := by
  unfold acc print
  rw [if_pos hm, List.take_of_length_le (by simp [lines]; omega)]
theorem line_char {m : Tab} {k : Nat} {c : Ch} (h : m.chars[k]? = some c) : (lines m)[2 + k]? = some (lnC c) := by
  unfold lines
  rw [show 2 + k = k + 1 + 1 by omega, List.getElem?_cons_succ, List.getElem?_cons_succ, List.getElem?_append_left (by rw [List.length_map]; exact (List.getElem?_eq_some_iff.1 h).1), List.getElem?_map, h]
  rfl
theorem line_kern {m : Tab} {k : Nat} {c : Kn} (h : m.kerns[k]? = some c) : (lines m)[2 + (m.chars.length + k)]? = some (lnK c) := by
  unfold lines
  rw [show 2 + (m.chars.length + k) = m.chars.length + k + 1 + 1 by omega, List.getElem?_cons_succ, List.getElem?_cons_succ, List.getElem?_append_right (by rw [List.length_map]; omega), List.length_map, Nat.add_sub_cancel_left,
    List.getElem?_append_left (by rw [List.length_map]; exact (List.getElem?_eq_some_iff.1 h).1), List.getElem?_map, h]
  rfl
theorem line_lig {m : Tab} {k : Nat} {c : Lg} (h : m.ligs[k]? = some c) : (lines m)[2 + (m.chars.length + (m.kerns.length + k))]? = some (lnL c) := by
  unfold lines
  rw [show 2 + (m.chars.length + (m.kerns.length + k)) = m.chars.length + (m.kerns.length + k) + 1 + 1 by omega, List.getElem?_cons_succ, List.getElem?_cons_succ, List.getElem?_append_right (by rw [List.length_map]; omega), List.length_map, Nat.add_sub_cancel_left,
    List.getElem?_append_right (by rw [List.length_map]; omega), List.length_map, Nat.add_sub_cancel_left, List.getElem?_map, h]
  rfl
theorem line_len {m : Tab} (hm : may m = true) {j : Nat} {x : Ln} (h : (lines m)[j]? = some x) : (text x).length ≤ 110 := text_len (lines_ok hm x (List.mem_of_getElem? h))
end Mt

def MayC7 : Prop := ∀ (v : Value) (m : Mt.Tab) (w : World), MetAt w v m → Calls Tryz.prog 27 #[v] w (Ret (.bool (Mt.may m)) w)
set_option maxHeartbeats 16000000 in
set_option maxRecDepth 100000 in
theorem refMetPrint_of (HC : MayC7) (v : Value) (m : Mt.Tab) (w : World) (h : MetAt w v m) : Calls Tryz.prog 19 #[v] w (Ret (.string (str (Mt.print m))) w) := by
  have hmet := h
  obtain ⟨cv, kv, lv, rfl, a1, b1, c1⟩ := hmet
  obtain ⟨⟨pc, cc, rfl, _⟩, ma, _⟩ := (⟨a1.1, a1.2⟩ : SlcAt chC 4 w cv m.chars)
  obtain ⟨⟨pk, ck, rfl, _⟩, mb, _⟩ := (⟨b1.1, b1.2⟩ : SlcAt knC 3 w kv m.kerns)
  obtain ⟨⟨pl, cl, rfl, _⟩, mc, _⟩ := (⟨c1.1, c1.2⟩ : SlcAt lgC 3 w lv m.ligs)
  unfold metV at h ⊢
  have hza : m.chars.length ≤ 9223372036854775807 := by unfold maxLen at ma; omega
  have hzb : m.kerns.length ≤ 9223372036854775807 := by unfold maxLen at mb; omega
  have hzc : m.ligs.length ≤ 9223372036854775807 := by unfold maxLen at mc; omega
  obtain ⟨na, hna⟩ : ∃ n, n = m.chars.length := ⟨_, rfl⟩
  obtain ⟨nb, hnb⟩ : ∃ n, n = m.kerns.length := ⟨_, rfl⟩
  obtain ⟨nc, hnc⟩ : ∃ n, n = m.ligs.length := ⟨_, rfl⟩
  have Hna := Lib.hid hna
  have Hnb := Lib.hid hnb
  have Hnc := Lib.hid hnc
  rw [← hna, ← hnb, ← hnc] at h ⊢
  rw [← hna] at hza
  rw [← hnb] at hzb
  rw [← hnc] at hzc
  have HA := Lib.hid a1
  have HK := Lib.hid b1
  have HG := Lib.hid c1
  have HMd := Lib.hid (h.mono (below_alloc w (.cells #[.int .i64 m.sw, .int .i64 m.st, .int .i64 m.sk, .int .i64 m.order, .int .i32 m.hyph, .slice pc na cc, .slice pk nb ck, .slice pl nc cl] 28)))
  have HL := Lib.hid (laid_one w #[.int .i64 m.sw, .int .i64 m.st, .int .i64 m.sk, .int .i64 m.order, .int .i32 m.hyph, .slice pc na cc, .slice pk nb ck, .slice pl nc cl] 28)
  have HB := Lib.hid (below_alloc w (.cells #[.int .i64 m.sw, .int .i64 m.st, .int .i64 m.sk, .int .i64 m.order, .int .i32 m.hyph, .slice pc na cc, .slice pk nb ck, .slice pl nc cl] 28))
  have HCm : Hid (∀ W, MetAt W (.agg #[.int .i64 m.sw, .int .i64 m.st, .int .i64 m.sk, .int .i64 m.order, .int .i32 m.hyph, .slice pc na cc, .slice pk nb ck, .slice pl nc cl]) m → Calls Tryz.prog 27 #[.agg #[.int .i64 m.sw, .int .i64 m.st, .int .i64 m.sk, .int .i64 m.order, .int .i32 m.hyph, .slice pc na cc, .slice pk nb ck, .slice pl nc cl]] W (Ret (.bool (Mt.may m)) W)) := Lib.hid (fun W h => HC _ m W h)
  have hp0 := Mt.print_not (m := m)
  have hp1 := Mt.acc_end (m := m)
  clear h ma mb mc a1 b1 c1 hna hnb hnc HC
  cases hmay : Mt.may m with
  | false =>
    rw [hmay] at HCm
    have HP := Lib.hid (hp0 hmay)
    clear hp0 hp1 hmay
    go_enter Tryz.func19, Tryz.ntmps19
    go_upto_region 1 with fail
    obtain ⟨W1, hW1⟩ : ∃ W1, W1 = w.alloc (.cells #[.int .i64 m.sw, .int .i64 m.st, .int .i64 m.sk, .int .i64 m.order, .int .i32 m.hyph, .slice pc na cc, .slice pk nb ck, .slice pl nc cl] 28) := ⟨_, rfl⟩
    rw [← hW1] at HMd HL HB ⊢
    clear hW1
    have y0 := HL.out.at_ 0 _ rfl
    have y1 := HL.out.at_ 1 _ rfl
    have y2 := HL.out.at_ 2 _ rfl
    have y3 := HL.out.at_ 3 _ rfl
    have y4 := HL.out.at_ 4 _ rfl
    have y5 := HL.out.at_ 5 _ rfl
    have y6 := HL.out.at_ 6 _ rfl
    have y7 := HL.out.at_ 7 _ rfl
    have HX := Lib.hid (HCm.out _ HMd.out)
    go_wp2_with fail
    refine HX.out.mono ?_
    rintro e w2 ⟨rfl, hb2⟩
    have HB2 := Lib.hid (below_step HB.out hb2)
    clear hb2
    go_wp2
    go_ret
    rw [HP.out]
    exact ⟨rfl, HB2.out⟩
  | true =>
    rw [hmay] at HCm
    have HMay := Lib.hid hmay
    have HIn := Lib.hid (tabIn_may hmay)
    have e0 : (Mt.lines m)[0]? = some (.space m.sw m.st m.sk) := rfl
    have e1 : (Mt.lines m)[1]? = some (.hyphen m.hyph) := rfl
    have hN1 : Mt.acc m 1 = Mt.text (.space m.sw m.st m.sk) ++ [10] := by rw [Mt.acc_next e0]; rfl
    have hN2 : Mt.acc m 2 = Mt.text (.space m.sw m.st m.sk) ++ [10] ++ (Mt.text (.hyphen m.hyph) ++ [10]) := by rw [Mt.acc_next e1, hN1]
    have hT2 : Mt.text (.space m.sw m.st m.sk) ++ [10] ++ (Mt.text (.hyphen m.hyph) ++ [10]) = [115, 112, 97, 99, 101, 32] ++ ((Sc.print m.sw) ++ ([32] ++ ((Sc.print m.st) ++ ([32] ++ ((Sc.print m.sk) ++ ([10, 104, 121, 112, 104, 101, 110] ++ ((32 :: Lib.itoa m.hyph) ++ ([10])))))))) := by simp [Mt.text, Mt.wordsOf, Mt.join, Mt.spaceW, Mt.hyphenW]
    have hl2 := Mt.acc_len hmay 2
    rw [hT2] at hN2
    rw [hN2] at hl2
    obtain ⟨A', hA'⟩ : ∃ l, l = Sc.print m.sw := ⟨_, rfl⟩
    obtain ⟨B', hB'⟩ : ∃ l, l = Sc.print m.st := ⟨_, rfl⟩
    obtain ⟨C', hC'⟩ : ∃ l, l = Sc.print m.sk := ⟨_, rfl⟩
    obtain ⟨D', hD'⟩ : ∃ l, l = 32 :: Lib.itoa m.hyph := ⟨_, rfl⟩
    have cA : Hid (∀ W, Calls Tryz.prog 42 #[.int .i64 m.sw] W (Ret (.string (str A')) W)) := Lib.hid (fun W => by rw [hA']; exact len_is _ W)
    have cB : Hid (∀ W, Calls Tryz.prog 42 #[.int .i64 m.st] W (Ret (.string (str B')) W)) := Lib.hid (fun W => by rw [hB']; exact len_is _ W)
    have cC : Hid (∀ W, Calls Tryz.prog 42 #[.int .i64 m.sk] W (Ret (.string (str C')) W)) := Lib.hid (fun W => by rw [hC']; exact len_is _ W)
    have cD : Hid (∀ W, Calls Tryz.prog 43 #[.int .i32 m.hyph] W (Ret (.string (str D')) W)) := Lib.hid (fun W => by rw [hD']; exact code_is _ HIn.out.hyph W)
    rw [← hA', ← hB', ← hC', ← hD'] at hN2 hl2
    simp only [List.length_append, List.length_cons, List.length_nil] at hl2
    obtain ⟨L1, hL1⟩ : ∃ l, l = [115, 112, 97, 99, 101, 32] ++ A' := ⟨_, rfl⟩
    have s1 : ∀ wx, (Op.stringOp .add ⟨#[115, 112, 97, 99, 101, 32]⟩ (str A')).run Tryz.prog wx = .ok (.string (str L1)) wx := fun wx => sum_str [115, 112, 97, 99, 101, 32] A' L1 (by (try simp only [List.length_append, List.length_cons, List.length_nil]); omega) hL1 wx
    obtain ⟨L2, hL2⟩ : ∃ l, l = L1 ++ [32] := ⟨_, rfl⟩
    have s2 : ∀ wx, (Op.stringOp .add (str L1) ⟨#[32]⟩).run Tryz.prog wx = .ok (.string (str L2)) wx := fun wx => sum_str L1 [32] L2 (by (try simp only [hL1, List.length_append, List.length_cons, List.length_nil]); omega) hL2 wx
    obtain ⟨L3, hL3⟩ : ∃ l, l = L2 ++ B' := ⟨_, rfl⟩
    have s3 : ∀ wx, (Op.stringOp .add (str L2) (str B')).run Tryz.prog wx = .ok (.string (str L3)) wx := fun wx => sum_str L2 B' L3 (by (try simp only [hL2, hL1, List.length_append, List.length_cons, List.length_nil]); omega) hL3 wx
    obtain ⟨L4, hL4⟩ : ∃ l, l = L3 ++ [32] := ⟨_, rfl⟩
    have s4 : ∀ wx, (Op.stringOp .add (str L3) ⟨#[32]⟩).run Tryz.prog wx = .ok (.string (str L4)) wx := fun wx => sum_str L3 [32] L4 (by (try simp only [hL3, hL2, hL1, List.length_append, List.length_cons, List.length_nil]); omega) hL4 wx
    obtain ⟨L5, hL5⟩ : ∃ l, l = L4 ++ C' := ⟨_, rfl⟩
    have s5 : ∀ wx, (Op.stringOp .add (str L4) (str C')).run Tryz.prog wx = .ok (.string (str L5)) wx := fun wx => sum_str L4 C' L5 (by (try simp only [hL4, hL3, hL2, hL1, List.length_append, List.length_cons, List.length_nil]); omega) hL5 wx
    obtain ⟨L6, hL6⟩ : ∃ l, l = L5 ++ [10, 104, 121, 112, 104, 101, 110] := ⟨_, rfl⟩
    have s6 : ∀ wx, (Op.stringOp .add (str L5) ⟨#[10, 104, 121, 112, 104, 101, 110]⟩).run Tryz.prog wx = .ok (.string (str L6)) wx := fun wx => sum_str L5 [10, 104, 121, 112, 104, 101, 110] L6 (by (try simp only [hL5, hL4, hL3, hL2, hL1, List.length_append, List.length_cons, List.length_nil]); omega) hL6 wx
    obtain ⟨L7, hL7⟩ : ∃ l, l = L6 ++ D' := ⟨_, rfl⟩
    have s7 : ∀ wx, (Op.stringOp .add (str L6) (str D')).run Tryz.prog wx = .ok (.string (str L7)) wx := fun wx => sum_str L6 D' L7 (by (try simp only [hL6, hL5, hL4, hL3, hL2, hL1, List.length_append, List.length_cons, List.length_nil]); omega) hL7 wx
    obtain ⟨L8, hL8⟩ : ∃ l, l = L7 ++ [10] := ⟨_, rfl⟩
    have s8 : ∀ wx, (Op.stringOp .add (str L7) ⟨#[10]⟩).run Tryz.prog wx = .ok (.string (str L8)) wx := fun wx => sum_str L7 [10] L8 (by (try simp only [hL7, hL6, hL5, hL4, hL3, hL2, hL1, List.length_append, List.length_cons, List.length_nil]); omega) hL8 wx
    have HT2 : Hid (Mt.acc m 2 = L8) := Lib.hid (by rw [hN2, hL8, hL7, hL6, hL5, hL4, hL3, hL2, hL1]; simp [List.append_assoc])
    clear hp0 hp1 hmay e0 e1 hN1 hN2 hT2 hl2 hL1 hL2 hL3 hL4 hL5 hL6 hL7 hL8 hA' hB' hC' hD'
    go_enter Tryz.func19, Tryz.ntmps19
    go_upto_region 1 with fail
    obtain ⟨W0, hW0⟩ : ∃ W1, W1 = w.alloc (.cells #[.int .i64 m.sw, .int .i64 m.st, .int .i64 m.sk, .int .i64 m.order, .int .i32 m.hyph, .slice pc na cc, .slice pk nb ck, .slice pl nc cl] 28) := ⟨_, rfl⟩
    rw [← hW0] at HMd HL HB ⊢
    clear hW0
    have y0 := HL.out.at_ 0 _ rfl
    have y1 := HL.out.at_ 1 _ rfl
    have y2 := HL.out.at_ 2 _ rfl
    have y3 := HL.out.at_ 3 _ rfl
    have y4 := HL.out.at_ 4 _ rfl
    have y5 := HL.out.at_ 5 _ rfl
    have y6 := HL.out.at_ 6 _ rfl
    have y7 := HL.out.at_ 7 _ rfl
    have HX := Lib.hid (HCm.out _ HMd.out)
    go_wp2_with fail
    refine HX.out.mono ?_
    rintro e W2 ⟨rfl, hb2⟩
    have HL2 := Lib.hid (HL.out.mono hb2)
    have HB2 := Lib.hid (below_step HB.out hb2)
    have hS : W2.cell? ⟨w.heap.size, 0, none⟩ = some (.int .i64 m.sw) ∧ W2.cell? ⟨w.heap.size, 1, none⟩ = some (.int .i64 m.st) ∧ W2.cell? ⟨w.heap.size, 2, none⟩ = some (.int .i64 m.sk) ∧ W2.cell? ⟨w.heap.size, 4, none⟩ = some (.int .i32 m.hyph) := ⟨HL2.out.at_ 0 _ rfl, HL2.out.at_ 1 _ rfl, HL2.out.at_ 2 _ rfl, HL2.out.at_ 4 _ rfl⟩
    clear hb2 y0 y1 y2 y3 y4 y5 y6 y7 HL HB HX HMd
    go_wp2_with fail
    go_region_held3 (fun w' => w'.cell? ⟨w.heap.size, 0, none⟩ = some (.int .i64 m.sw) ∧ w'.cell? ⟨w.heap.size, 1, none⟩ = some (.int .i64 m.st) ∧ w'.cell? ⟨w.heap.size, 2, none⟩ = some (.int .i64 m.sk) ∧ w'.cell? ⟨w.heap.size, 4, none⟩ = some (.int .i32 m.hyph)) (first | go_keep | exact hS) (first | (go_at_call 42; (with_reducible refine (cA.out _).mono ?_); rintro e w7 ⟨rfl, hb70⟩; have hb7 := undrew7p hb70; have hS : w7.cell? ⟨w.heap.size, 0, none⟩ = some (.int .i64 m.sw) ∧ w7.cell? ⟨w.heap.size, 1, none⟩ = some (.int .i64 m.st) ∧ w7.cell? ⟨w.heap.size, 2, none⟩ = some (.int .i64 m.sk) ∧ w7.cell? ⟨w.heap.size, 4, none⟩ = some (.int .i32 m.hyph) := ⟨cell_below hb7 hS.1, cell_below hb7 hS.2.1, cell_below hb7 hS.2.2.1, cell_below hb7 hS.2.2.2⟩; clear hb70) | (go_at_call 42; (with_reducible refine (cB.out _).mono ?_); rintro e w8 ⟨rfl, hb80⟩; have hb8 := below_step hb7 hb80; have hS : w8.cell? ⟨w.heap.size, 0, none⟩ = some (.int .i64 m.sw) ∧ w8.cell? ⟨w.heap.size, 1, none⟩ = some (.int .i64 m.st) ∧ w8.cell? ⟨w.heap.size, 2, none⟩ = some (.int .i64 m.sk) ∧ w8.cell? ⟨w.heap.size, 4, none⟩ = some (.int .i32 m.hyph) := ⟨cell_below hb80 hS.1, cell_below hb80 hS.2.1, cell_below hb80 hS.2.2.1, cell_below hb80 hS.2.2.2⟩; clear hb80) | (go_at_call 42; (with_reducible refine (cC.out _).mono ?_); rintro e w9 ⟨rfl, hb90⟩; have hb9 := below_step hb8 hb90; have hS : w9.cell? ⟨w.heap.size, 0, none⟩ = some (.int .i64 m.sw) ∧ w9.cell? ⟨w.heap.size, 1, none⟩ = some (.int .i64 m.st) ∧ w9.cell? ⟨w.heap.size, 2, none⟩ = some (.int .i64 m.sk) ∧ w9.cell? ⟨w.heap.size, 4, none⟩ = some (.int .i32 m.hyph) := ⟨cell_below hb90 hS.1, cell_below hb90 hS.2.1, cell_below hb90 hS.2.2.1, cell_below hb90 hS.2.2.2⟩; clear hb90) | (go_at_call 43; (with_reducible refine (cD.out _).mono ?_); rintro e w10 ⟨rfl, hb100⟩; have hb10 := below_step hb9 hb100; have hS : w10.cell? ⟨w.heap.size, 0, none⟩ = some (.int .i64 m.sw) ∧ w10.cell? ⟨w.heap.size, 1, none⟩ = some (.int .i64 m.st) ∧ w10.cell? ⟨w.heap.size, 2, none⟩ = some (.int .i64 m.sk) ∧ w10.cell? ⟨w.heap.size, 4, none⟩ = some (.int .i32 m.hyph) := ⟨cell_below hb100 hS.1, cell_below hb100 hS.2.1, cell_below hb100 hS.2.2.1, cell_below hb100 hS.2.2.2⟩; clear hb100))
    have HLr := Lib.hid (HL2.out.mono hb10)
    have HBw := Lib.hid (below_step HB2.out hb10)
    obtain ⟨W1, hW1⟩ : ∃ W, W = w10 := ⟨_, rfl⟩
    rw [← hW1] at HLr HBw ⊢
    clear hb10 hS hW1 s1 s2 s3 s4 s5 s6 s7 s8
    rw [← HT2.out]
    go_wp2_with fail
    go_loopw [3, 4] (fun ov iv wr2 => ∃ k : Nat, k ≤ na ∧ iv = .int .i64 k ∧ ov = .string (str (Mt.acc m (2 + k))) ∧ Hid (Below W1.heap.size W1 wr2)) (fun _ iv _ => na - (intOf iv).toNat)
    case atStart => exact ⟨0, Nat.zero_le _, rfl, rfl, Lib.hid (Below.refl _ _)⟩
    case round =>
      obtain ⟨k, hk, rfl, rfl, HBs⟩ := hrel
      have HLs := Lib.hid (HLr.out.mono HBs.out)
      have HBv := Lib.hid (below_step HBw.out HBs.out)
      have y5 := HLs.out.at_ 5 _ rfl
      by_cases hlt : k < na
      · obtain ⟨b1, o1, d1, e1, r1⟩ := HA.out.2.2 (by rw [← Hna.out]; omega)
        obtain ⟨rfl, rfl⟩ : pc = some ⟨b1, o1, none⟩ ∧ cc = d1 := by injection e1 with a1 a2 a3; exact ⟨a1, a3⟩
        obtain ⟨c, hc⟩ : ∃ c, m.chars[k]? = some c := ⟨_, List.getElem?_eq_getElem (by rw [← Hna.out]; exact hlt)⟩
        obtain ⟨z0, z1, z2, z3⟩ := ch_cells ((r1 k c hc).mono HBv.out)
        have k0 : (0 : Int) ≤ (k : Int) := by omega
        have kl : (k : Int) < (na : Int) := by omega
        clear r1 e1
        have hX : Mt.text (Mt.lnC c) ++ [10] = [99, 104, 97, 114] ++ ((32 :: Lib.itoa c.code) ++ ([32] ++ ((Sc.print c.w) ++ ([32] ++ ((Sc.print c.h) ++ ([32] ++ ((Sc.print c.d) ++ ([10])))))))) := by simp [Mt.text, Mt.lnC, Mt.lnK, Mt.lnL, Mt.wordsOf, Mt.join, Mt.charW, Mt.kernW, Mt.ligW]
        have hXl := Mt.line_len HMay.out (Mt.line_char hc)
        have hN := Mt.acc_next (Mt.line_char hc)
        have hSl := Mt.acc_len HMay.out (2 + k)
        obtain ⟨A', hA'⟩ : ∃ l, l = (32 :: Lib.itoa c.code) := ⟨_, rfl⟩
        have cA : Hid (∀ W, Calls Tryz.prog 43 #[.int .i32 c.code] W (Ret (.string (str A')) W)) := Lib.hid (fun W => by rw [hA']; exact code_is _ (by exact (HIn.out.chars c (List.mem_of_getElem? hc)).1) W)
        obtain ⟨B', hB'⟩ : ∃ l, l = (Sc.print c.w) := ⟨_, rfl⟩
        have cB : Hid (∀ W, Calls Tryz.prog 42 #[.int .i64 c.w] W (Ret (.string (str B')) W)) := Lib.hid (fun W => by rw [hB']; exact len_is _ W)
        obtain ⟨C', hC'⟩ : ∃ l, l = (Sc.print c.h) := ⟨_, rfl⟩
        have cC : Hid (∀ W, Calls Tryz.prog 42 #[.int .i64 c.h] W (Ret (.string (str C')) W)) := Lib.hid (fun W => by rw [hC']; exact len_is _ W)
        obtain ⟨D', hD'⟩ : ∃ l, l = (Sc.print c.d) := ⟨_, rfl⟩
        have cD : Hid (∀ W, Calls Tryz.prog 42 #[.int .i64 c.d] W (Ret (.string (str D')) W)) := Lib.hid (fun W => by rw [hD']; exact len_is _ W)
        rw [hX] at hN
        have hXl2 := congrArg List.length hX
        rw [List.length_append] at hXl2
        rw [← hA', ← hB', ← hC', ← hD'] at hN hXl2
        simp only [List.length_append, List.length_cons, List.length_nil] at hXl2
        obtain ⟨L1, hL1⟩ : ∃ l, l = [99, 104, 97, 114] ++ A' := ⟨_, rfl⟩
        have s1 : ∀ wx, (Op.stringOp .add ⟨#[99, 104, 97, 114]⟩ (str A')).run Tryz.prog wx = .ok (.string (str L1)) wx := fun wx => sum_str [99, 104, 97, 114] A' L1 (by (try simp only [List.length_append, List.length_cons, List.length_nil]); omega) hL1 wx
        obtain ⟨L2, hL2⟩ : ∃ l, l = L1 ++ [32] := ⟨_, rfl⟩
        have s2 : ∀ wx, (Op.stringOp .add (str L1) ⟨#[32]⟩).run Tryz.prog wx = .ok (.string (str L2)) wx := fun wx => sum_str L1 [32] L2 (by (try simp only [hL1, List.length_append, List.length_cons, List.length_nil]); omega) hL2 wx
        obtain ⟨L3, hL3⟩ : ∃ l, l = L2 ++ B' := ⟨_, rfl⟩
        have s3 : ∀ wx, (Op.stringOp .add (str L2) (str B')).run Tryz.prog wx = .ok (.string (str L3)) wx := fun wx => sum_str L2 B' L3 (by (try simp only [hL2, hL1, List.length_append, List.length_cons, List.length_nil]); omega) hL3 wx
        obtain ⟨L4, hL4⟩ : ∃ l, l = L3 ++ [32] := ⟨_, rfl⟩
        have s4 : ∀ wx, (Op.stringOp .add (str L3) ⟨#[32]⟩).run Tryz.prog wx = .ok (.string (str L4)) wx := fun wx => sum_str L3 [32] L4 (by (try simp only [hL3, hL2, hL1, List.length_append, List.length_cons, List.length_nil]); omega) hL4 wx
        obtain ⟨L5, hL5⟩ : ∃ l, l = L4 ++ C' := ⟨_, rfl⟩
        have s5 : ∀ wx, (Op.stringOp .add (str L4) (str C')).run Tryz.prog wx = .ok (.string (str L5)) wx := fun wx => sum_str L4 C' L5 (by (try simp only [hL4, hL3, hL2, hL1, List.length_append, List.length_cons, List.length_nil]); omega) hL5 wx
        obtain ⟨L6, hL6⟩ : ∃ l, l = L5 ++ [32] := ⟨_, rfl⟩
        have s6 : ∀ wx, (Op.stringOp .add (str L5) ⟨#[32]⟩).run Tryz.prog wx = .ok (.string (str L6)) wx := fun wx => sum_str L5 [32] L6 (by (try simp only [hL5, hL4, hL3, hL2, hL1, List.length_append, List.length_cons, List.length_nil]); omega) hL6 wx
        obtain ⟨L7, hL7⟩ : ∃ l, l = L6 ++ D' := ⟨_, rfl⟩
        have s7 : ∀ wx, (Op.stringOp .add (str L6) (str D')).run Tryz.prog wx = .ok (.string (str L7)) wx := fun wx => sum_str L6 D' L7 (by (try simp only [hL6, hL5, hL4, hL3, hL2, hL1, List.length_append, List.length_cons, List.length_nil]); omega) hL7 wx
        obtain ⟨L8, hL8⟩ : ∃ l, l = L7 ++ [10] := ⟨_, rfl⟩
        have s8 : ∀ wx, (Op.stringOp .add (str L7) ⟨#[10]⟩).run Tryz.prog wx = .ok (.string (str L8)) wx := fun wx => sum_str L7 [10] L8 (by (try simp only [hL7, hL6, hL5, hL4, hL3, hL2, hL1, List.length_append, List.length_cons, List.length_nil]); omega) hL8 wx
        obtain ⟨S1, hS1⟩ : ∃ l, l = Mt.acc m (2 + k) ++ L8 := ⟨_, rfl⟩
        have hN2 : Mt.acc m (2 + k + 1) = S1 := by rw [hN, hS1, hL8, hL7, hL6, hL5, hL4, hL3, hL2, hL1]; simp [List.append_assoc]
        obtain ⟨S0, hS0⟩ : ∃ l, l = Mt.acc m (2 + k) := ⟨_, rfl⟩
        rw [← hS0] at hS1 hSl ⊢
        have s0 : ∀ wx, (Op.stringOp .add (str S0) (str L8)).run Tryz.prog wx = .ok (.string (str S1)) wx := fun wx => sum_str S0 L8 S1 (by (try simp only [hL8, hL7, hL6, hL5, hL4, hL3, hL2, hL1, List.length_append, List.length_cons, List.length_nil]); omega) hS1 wx
        have HN2 := Lib.hid hN2
        clear hX hXl hN hSl hXl2 hN2 hS0 hS1 hL1 hL2 hL3 hL4 hL5 hL6 hL7 hL8 hA' hB' hC' hD'
        go_upto_region 8 with fail
        clear y5
        obtain ⟨PB, hPB⟩ : ∃ P, P = wr.heap.size := ⟨_, rfl⟩
        obtain ⟨WA, hWA⟩ : ∃ W, W = wr.alloc (.cells #[.int .i32 c.code, .int .i64 c.w, .int .i64 c.h, .int .i64 c.d] 38) := ⟨_, rfl⟩
        have hbA : Below wr.heap.size wr WA := by rw [hWA]; exact below_alloc _ _
        have HBA := Lib.hid hbA
        have hoA : WA.heap[PB]? = some (.cells #[.int .i32 c.code, .int .i64 c.w, .int .i64 c.h, .int .i64 c.d] 38 (0, 0)) := by rw [hWA]; subst hPB; exact heap_alloc_new _ _
        have hS : WA.cell? ⟨PB, 0, none⟩ = some (.int .i32 c.code) ∧ WA.cell? ⟨PB, 1, none⟩ = some (.int .i64 c.w) ∧ WA.cell? ⟨PB, 2, none⟩ = some (.int .i64 c.h) ∧ WA.cell? ⟨PB, 3, none⟩ = some (.int .i64 c.d) := ⟨Lib.cell_of_heap hoA 0, Lib.cell_of_heap hoA 1, Lib.cell_of_heap hoA 2, Lib.cell_of_heap hoA 3⟩
        rw [← hWA, ← hPB]
        clear hWA hPB hbA hoA z0 z1 z2 z3
        go_region_held3 (fun w' => w'.cell? ⟨PB, 0, none⟩ = some (.int .i32 c.code) ∧ w'.cell? ⟨PB, 1, none⟩ = some (.int .i64 c.w) ∧ w'.cell? ⟨PB, 2, none⟩ = some (.int .i64 c.h) ∧ w'.cell? ⟨PB, 3, none⟩ = some (.int .i64 c.d)) (first | go_keep | exact hS) (first | (go_at_call 43; (with_reducible refine (cA.out _).mono ?_); rintro e w7 ⟨rfl, hb70⟩; have hb7 := undrew7p hb70; have hS : w7.cell? ⟨PB, 0, none⟩ = some (.int .i32 c.code) ∧ w7.cell? ⟨PB, 1, none⟩ = some (.int .i64 c.w) ∧ w7.cell? ⟨PB, 2, none⟩ = some (.int .i64 c.h) ∧ w7.cell? ⟨PB, 3, none⟩ = some (.int .i64 c.d) := ⟨cell_below hb7 hS.1, cell_below hb7 hS.2.1, cell_below hb7 hS.2.2.1, cell_below hb7 hS.2.2.2⟩; clear hb70) | (go_at_call 42; (with_reducible refine (cB.out _).mono ?_); rintro e w8 ⟨rfl, hb80⟩; have hb8 := below_step hb7 hb80; have hS : w8.cell? ⟨PB, 0, none⟩ = some (.int .i32 c.code) ∧ w8.cell? ⟨PB, 1, none⟩ = some (.int .i64 c.w) ∧ w8.cell? ⟨PB, 2, none⟩ = some (.int .i64 c.h) ∧ w8.cell? ⟨PB, 3, none⟩ = some (.int .i64 c.d) := ⟨cell_below hb80 hS.1, cell_below hb80 hS.2.1, cell_below hb80 hS.2.2.1, cell_below hb80 hS.2.2.2⟩; clear hb80) | (go_at_call 42; (with_reducible refine (cC.out _).mono ?_); rintro e w9 ⟨rfl, hb90⟩; have hb9 := below_step hb8 hb90; have hS : w9.cell? ⟨PB, 0, none⟩ = some (.int .i32 c.code) ∧ w9.cell? ⟨PB, 1, none⟩ = some (.int .i64 c.w) ∧ w9.cell? ⟨PB, 2, none⟩ = some (.int .i64 c.h) ∧ w9.cell? ⟨PB, 3, none⟩ = some (.int .i64 c.d) := ⟨cell_below hb90 hS.1, cell_below hb90 hS.2.1, cell_below hb90 hS.2.2.1, cell_below hb90 hS.2.2.2⟩; clear hb90) | (go_at_call 42; (with_reducible refine (cD.out _).mono ?_); rintro e w10 ⟨rfl, hb100⟩; have hb10 := below_step hb9 hb100; have hS : w10.cell? ⟨PB, 0, none⟩ = some (.int .i32 c.code) ∧ w10.cell? ⟨PB, 1, none⟩ = some (.int .i64 c.w) ∧ w10.cell? ⟨PB, 2, none⟩ = some (.int .i64 c.h) ∧ w10.cell? ⟨PB, 3, none⟩ = some (.int .i64 c.d) := ⟨cell_below hb100 hS.1, cell_below hb100 hS.2.1, cell_below hb100 hS.2.2.1, cell_below hb100 hS.2.2.2⟩; clear hb100))
        go_wp2
        go_roundw
        case rel => exact ⟨k + 1, by omega, by go_num, by rw [show 2 + (k + 1) = 2 + k + 1 by omega, HN2.out], Lib.hid (below_step (below_step HBs.out HBA.out) hb10)⟩
        case measure => simp [intOf]; omega
      · obtain rfl : na = k := by omega
        have HLr := HLs
        have HBw := HBv
        clear HLs HBv HBs hlt hk
        go_wp2_with fail
        clear y5
        obtain ⟨W2, hW2⟩ : ∃ W, W = wr := ⟨_, rfl⟩
        rw [← hW2] at HLr HBw ⊢
        clear hW2
        go_loopw [3, 6] (fun ov iv wr2 => ∃ k : Nat, k ≤ nb ∧ iv = .int .i64 k ∧ ov = .string (str (Mt.acc m (2 + (na + k)))) ∧ Hid (Below W2.heap.size W2 wr2)) (fun _ iv _ => nb - (intOf iv).toNat)
        case atStart => exact ⟨0, Nat.zero_le _, rfl, rfl, Lib.hid (Below.refl _ _)⟩
        case round =>
          obtain ⟨k, hk, rfl, rfl, HBs⟩ := hrel
          have HLs := Lib.hid (HLr.out.mono HBs.out)
          have HBv := Lib.hid (below_step HBw.out HBs.out)
          have y6 := HLs.out.at_ 6 _ rfl
          by_cases hlt : k < nb
          · obtain ⟨b1, o1, d1, e1, r1⟩ := HK.out.2.2 (by rw [← Hnb.out]; omega)
            obtain ⟨rfl, rfl⟩ : pk = some ⟨b1, o1, none⟩ ∧ ck = d1 := by injection e1 with a1 a2 a3; exact ⟨a1, a3⟩
            obtain ⟨c, hc⟩ : ∃ c, m.kerns[k]? = some c := ⟨_, List.getElem?_eq_getElem (by rw [← Hnb.out]; exact hlt)⟩
            obtain ⟨z0, z1, z2⟩ := kn_cells ((r1 k c hc).mono HBv.out)
            have k0 : (0 : Int) ≤ (k : Int) := by omega
            have kl : (k : Int) < (nb : Int) := by omega
            clear r1 e1
            have hX : Mt.text (Mt.lnK c) ++ [10] = [107, 101, 114, 110] ++ ((32 :: Lib.itoa c.a) ++ ((32 :: Lib.itoa c.b) ++ ([32] ++ ((Sc.print c.w) ++ ([10]))))) := by simp [Mt.text, Mt.lnC, Mt.lnK, Mt.lnL, Mt.wordsOf, Mt.join, Mt.charW, Mt.kernW, Mt.ligW]
            have hXl := Mt.line_len HMay.out (by have h := Mt.line_kern hc; rw [← Hna.out] at h; exact h)
            have hN := Mt.acc_next (by have h := Mt.line_kern hc; rw [← Hna.out] at h; exact h)
            have hSl := Mt.acc_len HMay.out (2 + (na + k))
            obtain ⟨A', hA'⟩ : ∃ l, l = (32 :: Lib.itoa c.a) := ⟨_, rfl⟩
            have cA : Hid (∀ W, Calls Tryz.prog 43 #[.int .i32 c.a] W (Ret (.string (str A')) W)) := Lib.hid (fun W => by rw [hA']; exact code_is _ (by exact (HIn.out.kerns c (List.mem_of_getElem? hc)).1) W)
            obtain ⟨B', hB'⟩ : ∃ l, l = (32 :: Lib.itoa c.b) := ⟨_, rfl⟩
            have cB : Hid (∀ W, Calls Tryz.prog 43 #[.int .i32 c.b] W (Ret (.string (str B')) W)) := Lib.hid (fun W => by rw [hB']; exact code_is _ (by exact (HIn.out.kerns c (List.mem_of_getElem? hc)).2.1) W)
            obtain ⟨C', hC'⟩ : ∃ l, l = (Sc.print c.w) := ⟨_, rfl⟩
            have cC : Hid (∀ W, Calls Tryz.prog 42 #[.int .i64 c.w] W (Ret (.string (str C')) W)) := Lib.hid (fun W => by rw [hC']; exact len_is _ W)
            rw [hX] at hN
            have hXl2 := congrArg List.length hX
            rw [List.length_append] at hXl2
            rw [← hA', ← hB', ← hC'] at hN hXl2
            simp only [List.length_append, List.length_cons, List.length_nil] at hXl2
            obtain ⟨L1, hL1⟩ : ∃ l, l = [107, 101, 114, 110] ++ A' := ⟨_, rfl⟩
            have s1 : ∀ wx, (Op.stringOp .add ⟨#[107, 101, 114, 110]⟩ (str A')).run Tryz.prog wx = .ok (.string (str L1)) wx := fun wx => sum_str [107, 101, 114, 110] A' L1 (by (try simp only [List.length_append, List.length_cons, List.length_nil]); omega) hL1 wx
            obtain ⟨L2, hL2⟩ : ∃ l, l = L1 ++ B' := ⟨_, rfl⟩
            have s2 : ∀ wx, (Op.stringOp .add (str L1) (str B')).run Tryz.prog wx = .ok (.string (str L2)) wx := fun wx => sum_str L1 B' L2 (by (try simp only [hL1, List.length_append, List.length_cons, List.length_nil]); omega) hL2 wx
            obtain ⟨L3, hL3⟩ : ∃ l, l = L2 ++ [32] := ⟨_, rfl⟩
            have s3 : ∀ wx, (Op.stringOp .add (str L2) ⟨#[32]⟩).run Tryz.prog wx = .ok (.string (str L3)) wx := fun wx => sum_str L2 [32] L3 (by (try simp only [hL2, hL1, List.length_append, List.length_cons, List.length_nil]); omega) hL3 wx
            obtain ⟨L4, hL4⟩ : ∃ l, l = L3 ++ C' := ⟨_, rfl⟩
            have s4 : ∀ wx, (Op.stringOp .add (str L3) (str C')).run Tryz.prog wx = .ok (.string (str L4)) wx := fun wx => sum_str L3 C' L4 (by (try simp only [hL3, hL2, hL1, List.length_append, List.length_cons, List.length_nil]); omega) hL4 wx
            obtain ⟨L5, hL5⟩ : ∃ l, l = L4 ++ [10] := ⟨_, rfl⟩
            have s5 : ∀ wx, (Op.stringOp .add (str L4) ⟨#[10]⟩).run Tryz.prog wx = .ok (.string (str L5)) wx := fun wx => sum_str L4 [10] L5 (by (try simp only [hL4, hL3, hL2, hL1, List.length_append, List.length_cons, List.length_nil]); omega) hL5 wx
            obtain ⟨S1, hS1⟩ : ∃ l, l = Mt.acc m (2 + (na + k)) ++ L5 := ⟨_, rfl⟩
            have hN2 : Mt.acc m (2 + (na + k) + 1) = S1 := by rw [hN, hS1, hL5, hL4, hL3, hL2, hL1]; simp [List.append_assoc]
            obtain ⟨S0, hS0⟩ : ∃ l, l = Mt.acc m (2 + (na + k)) := ⟨_, rfl⟩
            rw [← hS0] at hS1 hSl ⊢
            have s0 : ∀ wx, (Op.stringOp .add (str S0) (str L5)).run Tryz.prog wx = .ok (.string (str S1)) wx := fun wx => sum_str S0 L5 S1 (by (try simp only [hL5, hL4, hL3, hL2, hL1, List.length_append, List.length_cons, List.length_nil]); omega) hS1 wx
            have HN2 := Lib.hid hN2
            clear hX hXl hN hSl hXl2 hN2 hS0 hS1 hL1 hL2 hL3 hL4 hL5 hA' hB' hC'
            obtain ⟨WA, hWA⟩ : ∃ W, W = wr := ⟨_, rfl⟩
            have hS : WA.cell? ⟨w.heap.size, 6, none⟩ = some (.slice (some ⟨b1, o1, none⟩) nb ck) ∧ WA.cell? ⟨b1, o1 + k * 3, none⟩ = some (.int .i32 c.a) ∧ WA.cell? ⟨b1, o1 + k * 3 + 1, none⟩ = some (.int .i32 c.b) ∧ WA.cell? ⟨b1, o1 + k * 3 + 2, none⟩ = some (.int .i64 c.w) := by rw [hWA]; exact ⟨y6, z0, z1, z2⟩
            rw [← hWA] at HBs
            have HBA : Hid (Below WA.heap.size WA WA) := Lib.hid (Below.refl _ _)
            go_upto_region 12 with fail
            rw [← hWA]
            clear hWA y6 z0 z1 z2
            go_region_held3 (fun w' => w'.cell? ⟨w.heap.size, 6, none⟩ = some (.slice (some ⟨b1, o1, none⟩) nb ck) ∧ w'.cell? ⟨b1, o1 + k * 3, none⟩ = some (.int .i32 c.a) ∧ w'.cell? ⟨b1, o1 + k * 3 + 1, none⟩ = some (.int .i32 c.b) ∧ w'.cell? ⟨b1, o1 + k * 3 + 2, none⟩ = some (.int .i64 c.w)) (first | go_keep | exact hS) (first | (go_at_call 43; (with_reducible refine (cA.out _).mono ?_); rintro e w7 ⟨rfl, hb70⟩; have hb7 := undrew7p hb70; have hS : w7.cell? ⟨w.heap.size, 6, none⟩ = some (.slice (some ⟨b1, o1, none⟩) nb ck) ∧ w7.cell? ⟨b1, o1 + k * 3, none⟩ = some (.int .i32 c.a) ∧ w7.cell? ⟨b1, o1 + k * 3 + 1, none⟩ = some (.int .i32 c.b) ∧ w7.cell? ⟨b1, o1 + k * 3 + 2, none⟩ = some (.int .i64 c.w) := ⟨cell_below hb7 hS.1, cell_below hb7 hS.2.1, cell_below hb7 hS.2.2.1, cell_below hb7 hS.2.2.2⟩; clear hb70) | (go_at_call 43; (with_reducible refine (cB.out _).mono ?_); rintro e w8 ⟨rfl, hb80⟩; have hb8 := below_step hb7 hb80; have hS : w8.cell? ⟨w.heap.size, 6, none⟩ = some (.slice (some ⟨b1, o1, none⟩) nb ck) ∧ w8.cell? ⟨b1, o1 + k * 3, none⟩ = some (.int .i32 c.a) ∧ w8.cell? ⟨b1, o1 + k * 3 + 1, none⟩ = some (.int .i32 c.b) ∧ w8.cell? ⟨b1, o1 + k * 3 + 2, none⟩ = some (.int .i64 c.w) := ⟨cell_below hb80 hS.1, cell_below hb80 hS.2.1, cell_below hb80 hS.2.2.1, cell_below hb80 hS.2.2.2⟩; clear hb80) | (go_at_call 42; (with_reducible refine (cC.out _).mono ?_); rintro e w9 ⟨rfl, hb90⟩; have hb9 := below_step hb8 hb90; have hS : w9.cell? ⟨w.heap.size, 6, none⟩ = some (.slice (some ⟨b1, o1, none⟩) nb ck) ∧ w9.cell? ⟨b1, o1 + k * 3, none⟩ = some (.int .i32 c.a) ∧ w9.cell? ⟨b1, o1 + k * 3 + 1, none⟩ = some (.int .i32 c.b) ∧ w9.cell? ⟨b1, o1 + k * 3 + 2, none⟩ = some (.int .i64 c.w) := ⟨cell_below hb90 hS.1, cell_below hb90 hS.2.1, cell_below hb90 hS.2.2.1, cell_below hb90 hS.2.2.2⟩; clear hb90))
            go_wp2
            go_roundw
            case rel => exact ⟨k + 1, by omega, by go_num, by rw [show 2 + (na + (k + 1)) = 2 + (na + k) + 1 by omega, HN2.out], Lib.hid (below_step HBs.out hb9)⟩
            case measure => simp [intOf]; omega
          · obtain rfl : nb = k := by omega
            have HLr := HLs
            have HBw := HBv
            clear HLs HBv HBs hlt hk
            go_wp2_with fail
            clear y6
            obtain ⟨W3, hW3⟩ : ∃ W, W = wr := ⟨_, rfl⟩
            rw [← hW3] at HLr HBw ⊢
            clear hW3
            go_loopw [3, 7] (fun ov iv wr2 => ∃ k : Nat, k ≤ nc ∧ iv = .int .i64 k ∧ ov = .string (str (Mt.acc m (2 + (na + (nb + k))))) ∧ Hid (Below W3.heap.size W3 wr2)) (fun _ iv _ => nc - (intOf iv).toNat)
            case atStart => exact ⟨0, Nat.zero_le _, rfl, rfl, Lib.hid (Below.refl _ _)⟩
            case round =>
              obtain ⟨k, hk, rfl, rfl, HBs⟩ := hrel
              have HLs := Lib.hid (HLr.out.mono HBs.out)
              have HBv := Lib.hid (below_step HBw.out HBs.out)
              have y7 := HLs.out.at_ 7 _ rfl
              by_cases hlt : k < nc
              · obtain ⟨b1, o1, d1, e1, r1⟩ := HG.out.2.2 (by rw [← Hnc.out]; omega)
                obtain ⟨rfl, rfl⟩ : pl = some ⟨b1, o1, none⟩ ∧ cl = d1 := by injection e1 with a1 a2 a3; exact ⟨a1, a3⟩
                obtain ⟨c, hc⟩ : ∃ c, m.ligs[k]? = some c := ⟨_, List.getElem?_eq_getElem (by rw [← Hnc.out]; exact hlt)⟩
                obtain ⟨z0, z1, z2⟩ := lg_cells ((r1 k c hc).mono HBv.out)
                have k0 : (0 : Int) ≤ (k : Int) := by omega
                have kl : (k : Int) < (nc : Int) := by omega
                clear r1 e1
                have hX : Mt.text (Mt.lnL c) ++ [10] = [108, 105, 103] ++ ((32 :: Lib.itoa c.a) ++ ((32 :: Lib.itoa c.b) ++ ((32 :: Lib.itoa c.to) ++ ([10])))) := by simp [Mt.text, Mt.lnC, Mt.lnK, Mt.lnL, Mt.wordsOf, Mt.join, Mt.charW, Mt.kernW, Mt.ligW]
                have hXl := Mt.line_len HMay.out (by have h := Mt.line_lig hc; rw [← Hna.out, ← Hnb.out] at h; exact h)
                have hN := Mt.acc_next (by have h := Mt.line_lig hc; rw [← Hna.out, ← Hnb.out] at h; exact h)
                have hSl := Mt.acc_len HMay.out (2 + (na + (nb + k)))
                obtain ⟨A', hA'⟩ : ∃ l, l = (32 :: Lib.itoa c.a) := ⟨_, rfl⟩
                have cA : Hid (∀ W, Calls Tryz.prog 43 #[.int .i32 c.a] W (Ret (.string (str A')) W)) := Lib.hid (fun W => by rw [hA']; exact code_is _ (by exact (HIn.out.ligs c (List.mem_of_getElem? hc)).1) W)
                obtain ⟨B', hB'⟩ : ∃ l, l = (32 :: Lib.itoa c.b) := ⟨_, rfl⟩
                have cB : Hid (∀ W, Calls Tryz.prog 43 #[.int .i32 c.b] W (Ret (.string (str B')) W)) := Lib.hid (fun W => by rw [hB']; exact code_is _ (by exact (HIn.out.ligs c (List.mem_of_getElem? hc)).2.1) W)
                obtain ⟨C', hC'⟩ : ∃ l, l = (32 :: Lib.itoa c.to) := ⟨_, rfl⟩
                have cC : Hid (∀ W, Calls Tryz.prog 43 #[.int .i32 c.to] W (Ret (.string (str C')) W)) := Lib.hid (fun W => by rw [hC']; exact code_is _ (by exact (HIn.out.ligs c (List.mem_of_getElem? hc)).2.2) W)
                rw [hX] at hN
                have hXl2 := congrArg List.length hX
                rw [List.length_append] at hXl2
                rw [← hA', ← hB', ← hC'] at hN hXl2
                simp only [List.length_append, List.length_cons, List.length_nil] at hXl2
                obtain ⟨L1, hL1⟩ : ∃ l, l = [108, 105, 103] ++ A' := ⟨_, rfl⟩
                have s1 : ∀ wx, (Op.stringOp .add ⟨#[108, 105, 103]⟩ (str A')).run Tryz.prog wx = .ok (.string (str L1)) wx := fun wx => sum_str [108, 105, 103] A' L1 (by (try simp only [List.length_append, List.length_cons, List.length_nil]); omega) hL1 wx
                obtain ⟨L2, hL2⟩ : ∃ l, l = L1 ++ B' := ⟨_, rfl⟩
                have s2 : ∀ wx, (Op.stringOp .add (str L1) (str B')).run Tryz.prog wx = .ok (.string (str L2)) wx := fun wx => sum_str L1 B' L2 (by (try simp only [hL1, List.length_append, List.length_cons, List.length_nil]); omega) hL2 wx
                obtain ⟨L3, hL3⟩ : ∃ l, l = L2 ++ C' := ⟨_, rfl⟩
                have s3 : ∀ wx, (Op.stringOp .add (str L2) (str C')).run Tryz.prog wx = .ok (.string (str L3)) wx := fun wx => sum_str L2 C' L3 (by (try simp only [hL2, hL1, List.length_append, List.length_cons, List.length_nil]); omega) hL3 wx
                obtain ⟨L4, hL4⟩ : ∃ l, l = L3 ++ [10] := ⟨_, rfl⟩
                have s4 : ∀ wx, (Op.stringOp .add (str L3) ⟨#[10]⟩).run Tryz.prog wx = .ok (.string (str L4)) wx := fun wx => sum_str L3 [10] L4 (by (try simp only [hL3, hL2, hL1, List.length_append, List.length_cons, List.length_nil]); omega) hL4 wx
                obtain ⟨S1, hS1⟩ : ∃ l, l = Mt.acc m (2 + (na + (nb + k))) ++ L4 := ⟨_, rfl⟩
                have hN2 : Mt.acc m (2 + (na + (nb + k)) + 1) = S1 := by rw [hN, hS1, hL4, hL3, hL2, hL1]; simp [List.append_assoc]
                obtain ⟨S0, hS0⟩ : ∃ l, l = Mt.acc m (2 + (na + (nb + k))) := ⟨_, rfl⟩
                rw [← hS0] at hS1 hSl ⊢
                have s0 : ∀ wx, (Op.stringOp .add (str S0) (str L4)).run Tryz.prog wx = .ok (.string (str S1)) wx := fun wx => sum_str S0 L4 S1 (by (try simp only [hL4, hL3, hL2, hL1, List.length_append, List.length_cons, List.length_nil]); omega) hS1 wx
                have HN2 := Lib.hid hN2
                clear hX hXl hN hSl hXl2 hN2 hS0 hS1 hL1 hL2 hL3 hL4 hA' hB' hC'
                obtain ⟨WA, hWA⟩ : ∃ W, W = wr := ⟨_, rfl⟩
                have hS : WA.cell? ⟨w.heap.size, 7, none⟩ = some (.slice (some ⟨b1, o1, none⟩) nc cl) ∧ WA.cell? ⟨b1, o1 + k * 3, none⟩ = some (.int .i32 c.a) ∧ WA.cell? ⟨b1, o1 + k * 3 + 1, none⟩ = some (.int .i32 c.b) ∧ WA.cell? ⟨b1, o1 + k * 3 + 2, none⟩ = some (.int .i32 c.to) := by rw [hWA]; exact ⟨y7, z0, z1, z2⟩
                rw [← hWA] at HBs
                have HBA : Hid (Below WA.heap.size WA WA) := Lib.hid (Below.refl _ _)
                go_upto_region 16 with fail
                rw [← hWA]
                clear hWA y7 z0 z1 z2
                go_region_held3 (fun w' => w'.cell? ⟨w.heap.size, 7, none⟩ = some (.slice (some ⟨b1, o1, none⟩) nc cl) ∧ w'.cell? ⟨b1, o1 + k * 3, none⟩ = some (.int .i32 c.a) ∧ w'.cell? ⟨b1, o1 + k * 3 + 1, none⟩ = some (.int .i32 c.b) ∧ w'.cell? ⟨b1, o1 + k * 3 + 2, none⟩ = some (.int .i32 c.to)) (first | go_keep | exact hS) (first | (go_at_call 43; (with_reducible refine (cA.out _).mono ?_); rintro e w7 ⟨rfl, hb70⟩; have hb7 := undrew7p hb70; have hS : w7.cell? ⟨w.heap.size, 7, none⟩ = some (.slice (some ⟨b1, o1, none⟩) nc cl) ∧ w7.cell? ⟨b1, o1 + k * 3, none⟩ = some (.int .i32 c.a) ∧ w7.cell? ⟨b1, o1 + k * 3 + 1, none⟩ = some (.int .i32 c.b) ∧ w7.cell? ⟨b1, o1 + k * 3 + 2, none⟩ = some (.int .i32 c.to) := ⟨cell_below hb7 hS.1, cell_below hb7 hS.2.1, cell_below hb7 hS.2.2.1, cell_below hb7 hS.2.2.2⟩; clear hb70) | (go_at_call 43; (with_reducible refine (cB.out _).mono ?_); rintro e w8 ⟨rfl, hb80⟩; have hb8 := below_step hb7 hb80; have hS : w8.cell? ⟨w.heap.size, 7, none⟩ = some (.slice (some ⟨b1, o1, none⟩) nc cl) ∧ w8.cell? ⟨b1, o1 + k * 3, none⟩ = some (.int .i32 c.a) ∧ w8.cell? ⟨b1, o1 + k * 3 + 1, none⟩ = some (.int .i32 c.b) ∧ w8.cell? ⟨b1, o1 + k * 3 + 2, none⟩ = some (.int .i32 c.to) := ⟨cell_below hb80 hS.1, cell_below hb80 hS.2.1, cell_below hb80 hS.2.2.1, cell_below hb80 hS.2.2.2⟩; clear hb80) | (go_at_call 43; (with_reducible refine (cC.out _).mono ?_); rintro e w9 ⟨rfl, hb90⟩; have hb9 := below_step hb8 hb90; have hS : w9.cell? ⟨w.heap.size, 7, none⟩ = some (.slice (some ⟨b1, o1, none⟩) nc cl) ∧ w9.cell? ⟨b1, o1 + k * 3, none⟩ = some (.int .i32 c.a) ∧ w9.cell? ⟨b1, o1 + k * 3 + 1, none⟩ = some (.int .i32 c.b) ∧ w9.cell? ⟨b1, o1 + k * 3 + 2, none⟩ = some (.int .i32 c.to) := ⟨cell_below hb90 hS.1, cell_below hb90 hS.2.1, cell_below hb90 hS.2.2.1, cell_below hb90 hS.2.2.2⟩; clear hb90))
                go_wp2
                go_roundw
                case rel => exact ⟨k + 1, by omega, by go_num, by rw [show 2 + (na + (nb + (k + 1))) = 2 + (na + (nb + k)) + 1 by omega, HN2.out], Lib.hid (below_step HBs.out hb9)⟩
                case measure => simp [intOf]; omega
              · obtain rfl : nc = k := by omega
                have HEnd := Lib.hid (Mt.acc_end HMay.out)
                rw [← Hna.out, ← Hnb.out, ← Hnc.out] at HEnd
                go_wp2
                go_ret
                rw [HEnd.out]
                exact ⟨rfl, HBv.out⟩
end Go.Proofs.YtmehldekebphfaaGreatDoor

namespace Go.Proofs.YtmehldekebphfaaGreatDoor
open Go.RowKit

theorem refMetPrint_any (v : Value) (m : Mt.Tab) (w : World) (h : MetAt w v m) : Calls Tryz.prog 19 #[v] w (Ret (.string (str (Mt.print m))) w) := refMetPrint_of (fun v m w h => refMay_any v m w h) v m w h
set_option maxHeartbeats 4000000 in
set_option maxRecDepth 100000 in
theorem refMetCheck_any (v : Value) (m : Mt.Tab) (w : World) (h : MetAt w v m) : Calls Tryz.prog 17 #[v] w (Ret (.int .i64 (if Mt.may m then 0 else 71)) w) := by
  have hmet := h
  obtain ⟨cv, kv, lv, rfl, a1, b1, c1⟩ := hmet
  unfold metV at h ⊢
  have HM := Lib.hid (h.mono (below_alloc w (.cells #[.int .i64 m.sw, .int .i64 m.st, .int .i64 m.sk, .int .i64 m.order, .int .i32 m.hyph, cv, kv, lv] 28)))
  have HX := Lib.hid (refMay_any _ m _ HM.out)
  obtain ⟨⟨pc, cc, rfl, _⟩, ma, _⟩ := (⟨a1.1, a1.2⟩ : SlcAt chC 4 w cv m.chars)
  obtain ⟨⟨pk, ck, rfl, _⟩, mb, _⟩ := (⟨b1.1, b1.2⟩ : SlcAt knC 3 w kv m.kerns)
  obtain ⟨⟨pl, cl, rfl, _⟩, mc, _⟩ := (⟨c1.1, c1.2⟩ : SlcAt lgC 3 w lv m.ligs)
  have HB := Lib.hid (below_alloc w (.cells #[.int .i64 m.sw, .int .i64 m.st, .int .i64 m.sk, .int .i64 m.order, .int .i32 m.hyph, .slice pc m.chars.length cc, .slice pk m.kerns.length ck, .slice pl m.ligs.length cl] 28))
  clear h ma mb mc a1 b1 c1
  cases hmay : Mt.may m with
  | false =>
    rw [hmay] at HX
    go_enter Tryz.func17, Tryz.ntmps17
    go_wp2_with fail
    refine HX.out.mono ?_
    rintro e w1 ⟨rfl, hb1⟩
    have HB1 := Lib.hid (below_step HB.out hb1)
    clear hb1
    go_wp2
    go_ret
    exact ⟨rfl, HB1.out⟩
  | true =>
    rw [hmay] at HX
    go_enter Tryz.func17, Tryz.ntmps17
    go_wp2_with fail
    refine HX.out.mono ?_
    rintro e w1 ⟨rfl, hb1⟩
    have HB1 := Lib.hid (below_step HB.out hb1)
    clear hb1
    go_wp2
    go_ret
    exact ⟨rfl, HB1.out⟩
theorem undrew7t {w w' : World} (h : Below w.drew.heap.size w.drew w') : Below w.heap.size w w' := ⟨h.os, h.tape, h.output, h.size, h.block⟩
theorem find_form (o : Option Mt.Ch) : ∃ (q0 q1 q2 q3 : Int) (q : Bool), findV o = .tuple #[.agg #[.int .i32 q0, .int .i64 q1, .int .i64 q2, .int .i64 q3], .bool q] := by
  cases o with
  | none => exact ⟨_, _, _, _, _, rfl⟩
  | some c => exact ⟨_, _, _, _, _, rfl⟩
theorem lig_form (o : Option Int) : ∃ (q0 : Int) (q : Bool), ligV o = .tuple #[.int .i32 q0, .bool q] := by
  cases o with
  | none => exact ⟨_, _, rfl⟩
  | some c => exact ⟨_, _, rfl⟩

theorem obj_kept7 {w w' : World} {b : Nat} {x : Obj} (hb : Below w.heap.size w w') (h : w.heap[b]? = some x) : w'.heap[b]? = some x := by
  have hl : b < w.heap.size := by
    rcases Nat.lt_or_ge b w.heap.size with h' | h'
    · exact h'
    · rw [Array.getElem?_eq_none h'] at h; cases h
  rw [hb.block _ hl]; exact h
theorem below_drew1t (w : World) : Below w.heap.size w w.drew := ⟨rfl, rfl, rfl, Nat.le_refl _, fun _ _ => rfl⟩
set_option maxHeartbeats 16000000 in
set_option maxRecDepth 100000 in
theorem lawTells7 {W0 : World} (C : MetW W0) (v : Value) (m : Mt.Tab) (a b : Int) (w : World) (hw : Below W0.heap.size W0 w) (h : MetAt w v m) : Calls Tryz.prog 4 #[v, .int .i32 a, .int .i32 b] w (Ret (.bool true) w) := by
  have HFx := Lib.hid (fun w' (hb : Below w.heap.size w w') => fixedW7 C w' (below_step hw hb))
  have hmet := h
  obtain ⟨cv, kv, lv, rfl, a1, b1, c1⟩ := hmet
  obtain ⟨⟨pc, cc, rfl, _⟩, ma, _⟩ := (⟨a1.1, a1.2⟩ : SlcAt chC 4 w cv m.chars)
  obtain ⟨⟨pk, ck, rfl, _⟩, mb, _⟩ := (⟨b1.1, b1.2⟩ : SlcAt knC 3 w kv m.kerns)
  obtain ⟨⟨pl, cl, rfl, _⟩, mc, _⟩ := (⟨c1.1, c1.2⟩ : SlcAt lgC 3 w lv m.ligs)
  unfold metV at h ⊢
  obtain ⟨na, hna⟩ : ∃ n, n = m.chars.length := ⟨_, rfl⟩
  obtain ⟨nb, hnb⟩ : ∃ n, n = m.kerns.length := ⟨_, rfl⟩
  obtain ⟨nc, hnc⟩ : ∃ n, n = m.ligs.length := ⟨_, rfl⟩
  obtain ⟨sw, hsw⟩ : ∃ n, n = m.sw := ⟨_, rfl⟩
  obtain ⟨st, hst⟩ : ∃ n, n = m.st := ⟨_, rfl⟩
  obtain ⟨sk, hsk⟩ : ∃ n, n = m.sk := ⟨_, rfl⟩
  obtain ⟨so, hso⟩ : ∃ n, n = m.order := ⟨_, rfl⟩
  obtain ⟨hy, hhy⟩ : ∃ n, n = m.hyph := ⟨_, rfl⟩
  rw [← hna, ← hnb, ← hnc, ← hsw, ← hst, ← hsk, ← hso, ← hhy] at h ⊢
  have HM := Lib.hid (h.mono (below_alloc w (.cells #[.int .i64 sw, .int .i64 st, .int .i64 sk, .int .i64 so, .int .i32 hy, .slice pc na cc, .slice pk nb ck, .slice pl nc cl] 28)))
  have HL := Lib.hid (laid_one w #[.int .i64 sw, .int .i64 st, .int .i64 sk, .int .i64 so, .int .i32 hy, .slice pc na cc, .slice pk nb ck, .slice pl nc cl] 28)
  have HB := Lib.hid (below_alloc w (.cells #[.int .i64 sw, .int .i64 st, .int .i64 sk, .int .i64 so, .int .i32 hy, .slice pc na cc, .slice pk nb ck, .slice pl nc cl] 28))
  have hbe : ∀ (q : Bool) (w : World), (binOp .eql 4 (.bool q) (.bool q)).run Tryz.prog w = .ok (.bool true) w := fun q w => by
    cases q <;> rfl
  obtain ⟨q0, q1, q2, q3, q, hq⟩ := find_form (Mt.find m a)
  obtain ⟨l0, l, hl⟩ := lig_form (Mt.lig m a b)
  have hce : ∀ (w : World), (binOp .eql 38 (.agg #[.int .i32 q0, .int .i64 q1, .int .i64 q2, .int .i64 q3]) (.agg #[.int .i32 q0, .int .i64 q1, .int .i64 q2, .int .i64 q3])).run Tryz.prog w = .ok (.bool true) w := fun w => by exact (same_ch ⟨q0, q1, q2, q3⟩ w).1
  have cFi : Hid (∀ W, MetAt W (.agg #[.int .i64 sw, .int .i64 st, .int .i64 sk, .int .i64 so, .int .i32 hy, .slice pc na cc, .slice pk nb ck, .slice pl nc cl]) m → Calls Tryz.prog 12 #[(.agg #[.int .i64 sw, .int .i64 st, .int .i64 sk, .int .i64 so, .int .i32 hy, .slice pc na cc, .slice pk nb ck, .slice pl nc cl]), .int .i32 a] W (Ret (.tuple #[.agg #[.int .i32 q0, .int .i64 q1, .int .i64 q2, .int .i64 q3], .bool q]) W)) := Lib.hid (fun W h => by rw [← hq]; exact C.find _ m a W h)
  have cRF : Hid (∀ W, MetAt W (.agg #[.int .i64 sw, .int .i64 st, .int .i64 sk, .int .i64 so, .int .i32 hy, .slice pc na cc, .slice pk nb ck, .slice pl nc cl]) m → Calls Tryz.prog 13 #[(.agg #[.int .i64 sw, .int .i64 st, .int .i64 sk, .int .i64 so, .int .i32 hy, .slice pc na cc, .slice pk nb ck, .slice pl nc cl]), .int .i32 a] W (Ret (.tuple #[.agg #[.int .i32 q0, .int .i64 q1, .int .i64 q2, .int .i64 q3], .bool q]) W)) := Lib.hid (fun W h => by rw [← hq]; exact refFind_any _ m a W h)
  have cLi : Hid (∀ W, MetAt W (.agg #[.int .i64 sw, .int .i64 st, .int .i64 sk, .int .i64 so, .int .i32 hy, .slice pc na cc, .slice pk nb ck, .slice pl nc cl]) m → Calls Tryz.prog 14 #[(.agg #[.int .i64 sw, .int .i64 st, .int .i64 sk, .int .i64 so, .int .i32 hy, .slice pc na cc, .slice pk nb ck, .slice pl nc cl]), .int .i32 a, .int .i32 b] W (Ret (.tuple #[.int .i32 l0, .bool l]) W)) := Lib.hid (fun W h => by rw [← hl]; exact C.lig _ m a b W h)
  have cRL : Hid (∀ W, MetAt W (.agg #[.int .i64 sw, .int .i64 st, .int .i64 sk, .int .i64 so, .int .i32 hy, .slice pc na cc, .slice pk nb ck, .slice pl nc cl]) m → Calls Tryz.prog 15 #[(.agg #[.int .i64 sw, .int .i64 st, .int .i64 sk, .int .i64 so, .int .i32 hy, .slice pc na cc, .slice pk nb ck, .slice pl nc cl]), .int .i32 a, .int .i32 b] W (Ret (.tuple #[.int .i32 l0, .bool l]) W)) := Lib.hid (fun W h => by rw [← hl]; exact refLig_any _ m a b W h)
  obtain ⟨kk, hkk⟩ : ∃ k, k = Mt.kern m a b := ⟨_, rfl⟩
  have cKn : Hid (∀ W, MetAt W (.agg #[.int .i64 sw, .int .i64 st, .int .i64 sk, .int .i64 so, .int .i32 hy, .slice pc na cc, .slice pk nb ck, .slice pl nc cl]) m → Calls Tryz.prog 20 #[(.agg #[.int .i64 sw, .int .i64 st, .int .i64 sk, .int .i64 so, .int .i32 hy, .slice pc na cc, .slice pk nb ck, .slice pl nc cl]), .int .i32 a, .int .i32 b] W (Ret (.int .i64 kk) W)) := Lib.hid (fun W h => by rw [hkk]; exact C.kern _ m a b W h)
  have cRK : Hid (∀ W, MetAt W (.agg #[.int .i64 sw, .int .i64 st, .int .i64 sk, .int .i64 so, .int .i32 hy, .slice pc na cc, .slice pk nb ck, .slice pl nc cl]) m → Calls Tryz.prog 21 #[(.agg #[.int .i64 sw, .int .i64 st, .int .i64 sk, .int .i64 so, .int .i32 hy, .slice pc na cc, .slice pk nb ck, .slice pl nc cl]), .int .i32 a, .int .i32 b] W (Ret (.int .i64 kk) W)) := Lib.hid (fun W h => by rw [hkk]; exact refKern_any _ m a b W h)
  obtain ⟨cc0, hcc⟩ : ∃ k : Int, k = if Mt.may m then 0 else 71 := ⟨_, rfl⟩
  have cCh : Hid (∀ W, MetAt W (.agg #[.int .i64 sw, .int .i64 st, .int .i64 sk, .int .i64 so, .int .i32 hy, .slice pc na cc, .slice pk nb ck, .slice pl nc cl]) m → Calls Tryz.prog 16 #[(.agg #[.int .i64 sw, .int .i64 st, .int .i64 sk, .int .i64 so, .int .i32 hy, .slice pc na cc, .slice pk nb ck, .slice pl nc cl])] W (Ret (.int .i64 cc0) W)) := Lib.hid (fun W h => by rw [hcc]; exact C.check _ m W h)
  have cRC : Hid (∀ W, MetAt W (.agg #[.int .i64 sw, .int .i64 st, .int .i64 sk, .int .i64 so, .int .i32 hy, .slice pc na cc, .slice pk nb ck, .slice pl nc cl]) m → Calls Tryz.prog 17 #[(.agg #[.int .i64 sw, .int .i64 st, .int .i64 sk, .int .i64 so, .int .i32 hy, .slice pc na cc, .slice pk nb ck, .slice pl nc cl])] W (Ret (.int .i64 cc0) W)) := Lib.hid (fun W h => by rw [hcc]; exact refMetCheck_any _ m W h)
  obtain ⟨P, hP⟩ : ∃ k, k = str (Mt.print m) := ⟨_, rfl⟩
  have cPr : Hid (∀ W, Below w.heap.size w W → MetAt W (.agg #[.int .i64 sw, .int .i64 st, .int .i64 sk, .int .i64 so, .int .i32 hy, .slice pc na cc, .slice pk nb ck, .slice pl nc cl]) m → Calls Tryz.prog 18 #[(.agg #[.int .i64 sw, .int .i64 st, .int .i64 sk, .int .i64 so, .int .i32 hy, .slice pc na cc, .slice pk nb ck, .slice pl nc cl])] W (Ret (.string P) W)) := Lib.hid (fun W hb h => by rw [hP]; exact C.print _ m W (below_step hw hb) h)
  have cRP : Hid (∀ W, MetAt W (.agg #[.int .i64 sw, .int .i64 st, .int .i64 sk, .int .i64 so, .int .i32 hy, .slice pc na cc, .slice pk nb ck, .slice pl nc cl]) m → Calls Tryz.prog 19 #[(.agg #[.int .i64 sw, .int .i64 st, .int .i64 sk, .int .i64 so, .int .i32 hy, .slice pc na cc, .slice pk nb ck, .slice pl nc cl])] W (Ret (.string P) W)) := Lib.hid (fun W h => by rw [hP]; exact refMetPrint_any _ m W h)
  clear C h hw ma mb mc a1 b1 c1 hna hnb hnc hsw hst hsk hso hhy hq hl hkk hcc hP
  by_cases z1 : 300 < na
  · have z1' : (300 : Int) < (na : Int) := by omega
    go_enter Tryz.func4, Tryz.ntmps4
    go_wp2_with fail
    refine (HFx.out _ HB.out).mono ?_
    rintro e w1 ⟨rfl, hb1⟩
    have HB1 := Lib.hid (below_step HB.out hb1)
    clear hb1
    go_wp2
    go_ret
    exact ⟨rfl, HB1.out⟩
  by_cases z2 : 1100 < nb
  · have z1' : ¬ ((300 : Int) < (na : Int)) := by omega
    have z2' : (1100 : Int) < (nb : Int) := by omega
    go_enter Tryz.func4, Tryz.ntmps4
    go_wp2_with fail
    refine (HFx.out _ HB.out).mono ?_
    rintro e w1 ⟨rfl, hb1⟩
    have HB1 := Lib.hid (below_step HB.out hb1)
    clear hb1
    go_wp2
    go_ret
    exact ⟨rfl, HB1.out⟩
  by_cases z3 : 1100 < nc
  · have z1' : ¬ ((300 : Int) < (na : Int)) := by omega
    have z2' : ¬ ((1100 : Int) < (nb : Int)) := by omega
    have z3' : (1100 : Int) < (nc : Int) := by omega
    go_enter Tryz.func4, Tryz.ntmps4
    go_wp2_with fail
    refine (HFx.out _ HB.out).mono ?_
    rintro e w1 ⟨rfl, hb1⟩
    have HB1 := Lib.hid (below_step HB.out hb1)
    clear hb1
    go_wp2
    go_ret
    exact ⟨rfl, HB1.out⟩
  have z1' : ¬ ((300 : Int) < (na : Int)) := by omega
  have z2' : ¬ ((1100 : Int) < (nb : Int)) := by omega
  have z3' : ¬ ((1100 : Int) < (nc : Int)) := by omega
  go_enter Tryz.func4, Tryz.ntmps4
  go_upto_region 3 with fail
  obtain ⟨W1, hW1⟩ : ∃ W1, W1 = w.alloc (.cells #[.int .i64 sw, .int .i64 st, .int .i64 sk, .int .i64 so, .int .i32 hy, .slice pc na cc, .slice pk nb ck, .slice pl nc cl] 28) := ⟨_, rfl⟩
  rw [← hW1] at HM HL HB ⊢
  clear hW1 z1 z2 z3 z1' z2' z3'
  have y0 := HL.out.at_ 0 _ rfl
  have y1 := HL.out.at_ 1 _ rfl
  have y2 := HL.out.at_ 2 _ rfl
  have y3 := HL.out.at_ 3 _ rfl
  have y4 := HL.out.at_ 4 _ rfl
  have y5 := HL.out.at_ 5 _ rfl
  have y6 := HL.out.at_ 6 _ rfl
  have y7 := HL.out.at_ 7 _ rfl
  have HX := Lib.hid (cFi.out _ HM.out)
  go_wp2_with fail
  refine HX.out.mono ?_
  rintro e w1 ⟨rfl, hb1⟩
  obtain ⟨r1, hr1⟩ : ∃ r, r = w1.heap.size := ⟨_, rfl⟩
  obtain ⟨Wa, hWa⟩ : ∃ W, W = w1.alloc (.cells #[.int .i32 q0, .int .i64 q1, .int .i64 q2, .int .i64 q3] 38) := ⟨_, rfl⟩
  have hba : Below w1.heap.size w1 Wa := by rw [hWa]; exact below_alloc _ _
  have HOa : Hid (Wa.heap[r1]? = some (.cells #[.int .i32 q0, .int .i64 q1, .int .i64 q2, .int .i64 q3] 38 (0, 0))) := Lib.hid (by rw [hWa]; subst hr1; exact heap_alloc_new _ _)
  have hb1' := below_step hb1 hba
  have HMa := Lib.hid (HM.out.mono hb1')
  have HLa := Lib.hid (HL.out.mono hb1')
  have HBa := Lib.hid (below_step HB.out hb1')
  clear hb1 hb1' hba y0 y1 y2 y3 y4 y5 y6 y7 HX HM HL HB
  go_upto_region 4 with fail
  rw [← hWa, ← hr1]
  clear hWa hr1
  have y0 := HLa.out.at_ 0 _ rfl
  have y1 := HLa.out.at_ 1 _ rfl
  have y2 := HLa.out.at_ 2 _ rfl
  have y3 := HLa.out.at_ 3 _ rfl
  have y4 := HLa.out.at_ 4 _ rfl
  have y5 := HLa.out.at_ 5 _ rfl
  have y6 := HLa.out.at_ 6 _ rfl
  have y7 := HLa.out.at_ 7 _ rfl
  have HX := Lib.hid (cRF.out _ HMa.out)
  go_wp2_with fail
  refine HX.out.mono ?_
  rintro e w2 ⟨rfl, hb2⟩
  obtain ⟨r2, hr2⟩ : ∃ r, r = w2.heap.size := ⟨_, rfl⟩
  obtain ⟨Wb, hWb⟩ : ∃ W, W = w2.alloc (.cells #[.int .i32 q0, .int .i64 q1, .int .i64 q2, .int .i64 q3] 38) := ⟨_, rfl⟩
  have hbb : Below w2.heap.size w2 Wb := by rw [hWb]; exact below_alloc _ _
  have HOb : Hid (Wb.heap[r2]? = some (.cells #[.int .i32 q0, .int .i64 q1, .int .i64 q2, .int .i64 q3] 38 (0, 0))) := Lib.hid (by rw [hWb]; subst hr2; exact heap_alloc_new _ _)
  have hb2' := below_step hb2 hbb
  have HMb := Lib.hid (HMa.out.mono hb2')
  have HLb := Lib.hid (HLa.out.mono hb2')
  have HBb := Lib.hid (below_step HBa.out hb2')
  have HOa2 := Lib.hid (obj_kept7 hb2' HOa.out)
  clear hb2 hb2' hbb y0 y1 y2 y3 y4 y5 y6 y7 HX HMa HLa HBa HOa
  go_upto_region 5 with fail
  rw [← hWb, ← hr2]
  clear hWb hr2
  have y0 := HLb.out.at_ 0 _ rfl
  have y1 := HLb.out.at_ 1 _ rfl
  have y2 := HLb.out.at_ 2 _ rfl
  have y3 := HLb.out.at_ 3 _ rfl
  have y4 := HLb.out.at_ 4 _ rfl
  have y5 := HLb.out.at_ 5 _ rfl
  have y6 := HLb.out.at_ 6 _ rfl
  have y7 := HLb.out.at_ 7 _ rfl
  have HX := Lib.hid (cLi.out _ HMb.out)
  go_wp2_with fail
  refine HX.out.mono ?_
  rintro e w3 ⟨rfl, hb3⟩
  have HM3 := Lib.hid (HMb.out.mono hb3)
  have HL3 := Lib.hid (HLb.out.mono hb3)
  have HB3 := Lib.hid (below_step HBb.out hb3)
  have HOa3 := Lib.hid (obj_kept7 hb3 HOa2.out)
  have HOb3 := Lib.hid (obj_kept7 hb3 HOb.out)
  clear hb3 y0 y1 y2 y3 y4 y5 y6 y7 HX HMb HLb HBb HOa2 HOb
  have y0 := HL3.out.at_ 0 _ rfl
  have y1 := HL3.out.at_ 1 _ rfl
  have y2 := HL3.out.at_ 2 _ rfl
  have y3 := HL3.out.at_ 3 _ rfl
  have y4 := HL3.out.at_ 4 _ rfl
  have y5 := HL3.out.at_ 5 _ rfl
  have y6 := HL3.out.at_ 6 _ rfl
  have y7 := HL3.out.at_ 7 _ rfl
  have HX := Lib.hid (cRL.out _ HM3.out)
  go_wp2_with fail
  refine HX.out.mono ?_
  rintro e w4 ⟨rfl, hb4⟩
  have HM4 := Lib.hid (HM3.out.mono hb4)
  have HL4 := Lib.hid (HL3.out.mono hb4)
  have HB4 := Lib.hid (below_step HB3.out hb4)
  have hoa := obj_kept7 hb4 HOa3.out
  have hob := obj_kept7 hb4 HOb3.out
  clear hb4 y0 y1 y2 y3 y4 y5 y6 y7 HX HM3 HL3 HB3 HOa3 HOb3
  have hS : w4.cell? ⟨w.heap.size, 0, none⟩ = some (.int .i64 sw) ∧ w4.cell? ⟨w.heap.size, 1, none⟩ = some (.int .i64 st) ∧ w4.cell? ⟨w.heap.size, 2, none⟩ = some (.int .i64 sk) ∧ w4.cell? ⟨w.heap.size, 3, none⟩ = some (.int .i64 so) ∧ w4.cell? ⟨w.heap.size, 4, none⟩ = some (.int .i32 hy) ∧ w4.cell? ⟨w.heap.size, 5, none⟩ = some (.slice pc na cc) ∧ w4.cell? ⟨w.heap.size, 6, none⟩ = some (.slice pk nb ck) ∧ w4.cell? ⟨w.heap.size, 7, none⟩ = some (.slice pl nc cl) ∧ w4.cell? ⟨r1, 0, none⟩ = some (.int .i32 q0) ∧ w4.cell? ⟨r1, 1, none⟩ = some (.int .i64 q1) ∧ w4.cell? ⟨r1, 2, none⟩ = some (.int .i64 q2) ∧ w4.cell? ⟨r1, 3, none⟩ = some (.int .i64 q3) ∧ w4.cell? ⟨r2, 0, none⟩ = some (.int .i32 q0) ∧ w4.cell? ⟨r2, 1, none⟩ = some (.int .i64 q1) ∧ w4.cell? ⟨r2, 2, none⟩ = some (.int .i64 q2) ∧ w4.cell? ⟨r2, 3, none⟩ = some (.int .i64 q3) := ⟨HL4.out.at_ 0 _ rfl, HL4.out.at_ 1 _ rfl, HL4.out.at_ 2 _ rfl, HL4.out.at_ 3 _ rfl, HL4.out.at_ 4 _ rfl, HL4.out.at_ 5 _ rfl, HL4.out.at_ 6 _ rfl, HL4.out.at_ 7 _ rfl, Lib.cell_of_heap hoa 0, Lib.cell_of_heap hoa 1, Lib.cell_of_heap hoa 2, Lib.cell_of_heap hoa 3, Lib.cell_of_heap hob 0, Lib.cell_of_heap hob 1, Lib.cell_of_heap hob 2, Lib.cell_of_heap hob 3⟩
  clear hoa hob HL4
  go_upto_region 7 with fail
  go_region_held3 (fun w' => w'.cell? ⟨w.heap.size, 0, none⟩ = some (.int .i64 sw) ∧ w'.cell? ⟨w.heap.size, 1, none⟩ = some (.int .i64 st) ∧ w'.cell? ⟨w.heap.size, 2, none⟩ = some (.int .i64 sk) ∧ w'.cell? ⟨w.heap.size, 3, none⟩ = some (.int .i64 so) ∧ w'.cell? ⟨w.heap.size, 4, none⟩ = some (.int .i32 hy) ∧ w'.cell? ⟨w.heap.size, 5, none⟩ = some (.slice pc na cc) ∧ w'.cell? ⟨w.heap.size, 6, none⟩ = some (.slice pk nb ck) ∧ w'.cell? ⟨w.heap.size, 7, none⟩ = some (.slice pl nc cl) ∧ w'.cell? ⟨r1, 0, none⟩ = some (.int .i32 q0) ∧ w'.cell? ⟨r1, 1, none⟩ = some (.int .i64 q1) ∧ w'.cell? ⟨r1, 2, none⟩ = some (.int .i64 q2) ∧ w'.cell? ⟨r1, 3, none⟩ = some (.int .i64 q3) ∧ w'.cell? ⟨r2, 0, none⟩ = some (.int .i32 q0) ∧ w'.cell? ⟨r2, 1, none⟩ = some (.int .i64 q1) ∧ w'.cell? ⟨r2, 2, none⟩ = some (.int .i64 q2) ∧ w'.cell? ⟨r2, 3, none⟩ = some (.int .i64 q3)) (first | go_keep | exact hS) (first | (go_at_call 10; (with_reducible refine (HFx.out _ (below_step HB4.out (below_drew1t w4))).mono ?_); rintro e w5 ⟨rfl, hb50⟩; have hb5 := undrew7t hb50; have hM5 := HM4.out.mono hb5; have hS : w5.cell? ⟨w.heap.size, 0, none⟩ = some (.int .i64 sw) ∧ w5.cell? ⟨w.heap.size, 1, none⟩ = some (.int .i64 st) ∧ w5.cell? ⟨w.heap.size, 2, none⟩ = some (.int .i64 sk) ∧ w5.cell? ⟨w.heap.size, 3, none⟩ = some (.int .i64 so) ∧ w5.cell? ⟨w.heap.size, 4, none⟩ = some (.int .i32 hy) ∧ w5.cell? ⟨w.heap.size, 5, none⟩ = some (.slice pc na cc) ∧ w5.cell? ⟨w.heap.size, 6, none⟩ = some (.slice pk nb ck) ∧ w5.cell? ⟨w.heap.size, 7, none⟩ = some (.slice pl nc cl) ∧ w5.cell? ⟨r1, 0, none⟩ = some (.int .i32 q0) ∧ w5.cell? ⟨r1, 1, none⟩ = some (.int .i64 q1) ∧ w5.cell? ⟨r1, 2, none⟩ = some (.int .i64 q2) ∧ w5.cell? ⟨r1, 3, none⟩ = some (.int .i64 q3) ∧ w5.cell? ⟨r2, 0, none⟩ = some (.int .i32 q0) ∧ w5.cell? ⟨r2, 1, none⟩ = some (.int .i64 q1) ∧ w5.cell? ⟨r2, 2, none⟩ = some (.int .i64 q2) ∧ w5.cell? ⟨r2, 3, none⟩ = some (.int .i64 q3) := ⟨cell_below hb5 hS.1, cell_below hb5 hS.2.1, cell_below hb5 hS.2.2.1, cell_below hb5 hS.2.2.2.1, cell_below hb5 hS.2.2.2.2.1, cell_below hb5 hS.2.2.2.2.2.1, cell_below hb5 hS.2.2.2.2.2.2.1, cell_below hb5 hS.2.2.2.2.2.2.2.1, cell_below hb5 hS.2.2.2.2.2.2.2.2.1, cell_below hb5 hS.2.2.2.2.2.2.2.2.2.1, cell_below hb5 hS.2.2.2.2.2.2.2.2.2.2.1, cell_below hb5 hS.2.2.2.2.2.2.2.2.2.2.2.1, cell_below hb5 hS.2.2.2.2.2.2.2.2.2.2.2.2.1, cell_below hb5 hS.2.2.2.2.2.2.2.2.2.2.2.2.2.1, cell_below hb5 hS.2.2.2.2.2.2.2.2.2.2.2.2.2.2.1, cell_below hb5 hS.2.2.2.2.2.2.2.2.2.2.2.2.2.2.2⟩; clear hb50) | (go_at_call 16; (with_reducible refine (cCh.out _ hM5).mono ?_); rintro e w6 ⟨rfl, hb60⟩; have hb6 := below_step hb5 hb60; have hM6 := hM5.mono hb60; have hS : w6.cell? ⟨w.heap.size, 0, none⟩ = some (.int .i64 sw) ∧ w6.cell? ⟨w.heap.size, 1, none⟩ = some (.int .i64 st) ∧ w6.cell? ⟨w.heap.size, 2, none⟩ = some (.int .i64 sk) ∧ w6.cell? ⟨w.heap.size, 3, none⟩ = some (.int .i64 so) ∧ w6.cell? ⟨w.heap.size, 4, none⟩ = some (.int .i32 hy) ∧ w6.cell? ⟨w.heap.size, 5, none⟩ = some (.slice pc na cc) ∧ w6.cell? ⟨w.heap.size, 6, none⟩ = some (.slice pk nb ck) ∧ w6.cell? ⟨w.heap.size, 7, none⟩ = some (.slice pl nc cl) ∧ w6.cell? ⟨r1, 0, none⟩ = some (.int .i32 q0) ∧ w6.cell? ⟨r1, 1, none⟩ = some (.int .i64 q1) ∧ w6.cell? ⟨r1, 2, none⟩ = some (.int .i64 q2) ∧ w6.cell? ⟨r1, 3, none⟩ = some (.int .i64 q3) ∧ w6.cell? ⟨r2, 0, none⟩ = some (.int .i32 q0) ∧ w6.cell? ⟨r2, 1, none⟩ = some (.int .i64 q1) ∧ w6.cell? ⟨r2, 2, none⟩ = some (.int .i64 q2) ∧ w6.cell? ⟨r2, 3, none⟩ = some (.int .i64 q3) := ⟨cell_below hb60 hS.1, cell_below hb60 hS.2.1, cell_below hb60 hS.2.2.1, cell_below hb60 hS.2.2.2.1, cell_below hb60 hS.2.2.2.2.1, cell_below hb60 hS.2.2.2.2.2.1, cell_below hb60 hS.2.2.2.2.2.2.1, cell_below hb60 hS.2.2.2.2.2.2.2.1, cell_below hb60 hS.2.2.2.2.2.2.2.2.1, cell_below hb60 hS.2.2.2.2.2.2.2.2.2.1, cell_below hb60 hS.2.2.2.2.2.2.2.2.2.2.1, cell_below hb60 hS.2.2.2.2.2.2.2.2.2.2.2.1, cell_below hb60 hS.2.2.2.2.2.2.2.2.2.2.2.2.1, cell_below hb60 hS.2.2.2.2.2.2.2.2.2.2.2.2.2.1, cell_below hb60 hS.2.2.2.2.2.2.2.2.2.2.2.2.2.2.1, cell_below hb60 hS.2.2.2.2.2.2.2.2.2.2.2.2.2.2.2⟩; clear hb60) | (go_at_call 17; (with_reducible refine (cRC.out _ hM6).mono ?_); rintro e w7 ⟨rfl, hb70⟩; have hb7 := below_step hb6 hb70; have hM7 := hM6.mono hb70; have hS : w7.cell? ⟨w.heap.size, 0, none⟩ = some (.int .i64 sw) ∧ w7.cell? ⟨w.heap.size, 1, none⟩ = some (.int .i64 st) ∧ w7.cell? ⟨w.heap.size, 2, none⟩ = some (.int .i64 sk) ∧ w7.cell? ⟨w.heap.size, 3, none⟩ = some (.int .i64 so) ∧ w7.cell? ⟨w.heap.size, 4, none⟩ = some (.int .i32 hy) ∧ w7.cell? ⟨w.heap.size, 5, none⟩ = some (.slice pc na cc) ∧ w7.cell? ⟨w.heap.size, 6, none⟩ = some (.slice pk nb ck) ∧ w7.cell? ⟨w.heap.size, 7, none⟩ = some (.slice pl nc cl) ∧ w7.cell? ⟨r1, 0, none⟩ = some (.int .i32 q0) ∧ w7.cell? ⟨r1, 1, none⟩ = some (.int .i64 q1) ∧ w7.cell? ⟨r1, 2, none⟩ = some (.int .i64 q2) ∧ w7.cell? ⟨r1, 3, none⟩ = some (.int .i64 q3) ∧ w7.cell? ⟨r2, 0, none⟩ = some (.int .i32 q0) ∧ w7.cell? ⟨r2, 1, none⟩ = some (.int .i64 q1) ∧ w7.cell? ⟨r2, 2, none⟩ = some (.int .i64 q2) ∧ w7.cell? ⟨r2, 3, none⟩ = some (.int .i64 q3) := ⟨cell_below hb70 hS.1, cell_below hb70 hS.2.1, cell_below hb70 hS.2.2.1, cell_below hb70 hS.2.2.2.1, cell_below hb70 hS.2.2.2.2.1, cell_below hb70 hS.2.2.2.2.2.1, cell_below hb70 hS.2.2.2.2.2.2.1, cell_below hb70 hS.2.2.2.2.2.2.2.1, cell_below hb70 hS.2.2.2.2.2.2.2.2.1, cell_below hb70 hS.2.2.2.2.2.2.2.2.2.1, cell_below hb70 hS.2.2.2.2.2.2.2.2.2.2.1, cell_below hb70 hS.2.2.2.2.2.2.2.2.2.2.2.1, cell_below hb70 hS.2.2.2.2.2.2.2.2.2.2.2.2.1, cell_below hb70 hS.2.2.2.2.2.2.2.2.2.2.2.2.2.1, cell_below hb70 hS.2.2.2.2.2.2.2.2.2.2.2.2.2.2.1, cell_below hb70 hS.2.2.2.2.2.2.2.2.2.2.2.2.2.2.2⟩; clear hb70) | (go_at_call 18; (with_reducible refine (cPr.out _ (below_step HB4.out hb7) hM7).mono ?_); rintro e w8 ⟨rfl, hb80⟩; have hb8 := below_step hb7 hb80; have hM8 := hM7.mono hb80; have hS : w8.cell? ⟨w.heap.size, 0, none⟩ = some (.int .i64 sw) ∧ w8.cell? ⟨w.heap.size, 1, none⟩ = some (.int .i64 st) ∧ w8.cell? ⟨w.heap.size, 2, none⟩ = some (.int .i64 sk) ∧ w8.cell? ⟨w.heap.size, 3, none⟩ = some (.int .i64 so) ∧ w8.cell? ⟨w.heap.size, 4, none⟩ = some (.int .i32 hy) ∧ w8.cell? ⟨w.heap.size, 5, none⟩ = some (.slice pc na cc) ∧ w8.cell? ⟨w.heap.size, 6, none⟩ = some (.slice pk nb ck) ∧ w8.cell? ⟨w.heap.size, 7, none⟩ = some (.slice pl nc cl) ∧ w8.cell? ⟨r1, 0, none⟩ = some (.int .i32 q0) ∧ w8.cell? ⟨r1, 1, none⟩ = some (.int .i64 q1) ∧ w8.cell? ⟨r1, 2, none⟩ = some (.int .i64 q2) ∧ w8.cell? ⟨r1, 3, none⟩ = some (.int .i64 q3) ∧ w8.cell? ⟨r2, 0, none⟩ = some (.int .i32 q0) ∧ w8.cell? ⟨r2, 1, none⟩ = some (.int .i64 q1) ∧ w8.cell? ⟨r2, 2, none⟩ = some (.int .i64 q2) ∧ w8.cell? ⟨r2, 3, none⟩ = some (.int .i64 q3) := ⟨cell_below hb80 hS.1, cell_below hb80 hS.2.1, cell_below hb80 hS.2.2.1, cell_below hb80 hS.2.2.2.1, cell_below hb80 hS.2.2.2.2.1, cell_below hb80 hS.2.2.2.2.2.1, cell_below hb80 hS.2.2.2.2.2.2.1, cell_below hb80 hS.2.2.2.2.2.2.2.1, cell_below hb80 hS.2.2.2.2.2.2.2.2.1, cell_below hb80 hS.2.2.2.2.2.2.2.2.2.1, cell_below hb80 hS.2.2.2.2.2.2.2.2.2.2.1, cell_below hb80 hS.2.2.2.2.2.2.2.2.2.2.2.1, cell_below hb80 hS.2.2.2.2.2.2.2.2.2.2.2.2.1, cell_below hb80 hS.2.2.2.2.2.2.2.2.2.2.2.2.2.1, cell_below hb80 hS.2.2.2.2.2.2.2.2.2.2.2.2.2.2.1, cell_below hb80 hS.2.2.2.2.2.2.2.2.2.2.2.2.2.2.2⟩; clear hb80) | (go_at_call 19; (with_reducible refine (cRP.out _ hM8).mono ?_); rintro e w9 ⟨rfl, hb90⟩; have hb9 := below_step hb8 hb90; have hM9 := hM8.mono hb90; have hS : w9.cell? ⟨w.heap.size, 0, none⟩ = some (.int .i64 sw) ∧ w9.cell? ⟨w.heap.size, 1, none⟩ = some (.int .i64 st) ∧ w9.cell? ⟨w.heap.size, 2, none⟩ = some (.int .i64 sk) ∧ w9.cell? ⟨w.heap.size, 3, none⟩ = some (.int .i64 so) ∧ w9.cell? ⟨w.heap.size, 4, none⟩ = some (.int .i32 hy) ∧ w9.cell? ⟨w.heap.size, 5, none⟩ = some (.slice pc na cc) ∧ w9.cell? ⟨w.heap.size, 6, none⟩ = some (.slice pk nb ck) ∧ w9.cell? ⟨w.heap.size, 7, none⟩ = some (.slice pl nc cl) ∧ w9.cell? ⟨r1, 0, none⟩ = some (.int .i32 q0) ∧ w9.cell? ⟨r1, 1, none⟩ = some (.int .i64 q1) ∧ w9.cell? ⟨r1, 2, none⟩ = some (.int .i64 q2) ∧ w9.cell? ⟨r1, 3, none⟩ = some (.int .i64 q3) ∧ w9.cell? ⟨r2, 0, none⟩ = some (.int .i32 q0) ∧ w9.cell? ⟨r2, 1, none⟩ = some (.int .i64 q1) ∧ w9.cell? ⟨r2, 2, none⟩ = some (.int .i64 q2) ∧ w9.cell? ⟨r2, 3, none⟩ = some (.int .i64 q3) := ⟨cell_below hb90 hS.1, cell_below hb90 hS.2.1, cell_below hb90 hS.2.2.1, cell_below hb90 hS.2.2.2.1, cell_below hb90 hS.2.2.2.2.1, cell_below hb90 hS.2.2.2.2.2.1, cell_below hb90 hS.2.2.2.2.2.2.1, cell_below hb90 hS.2.2.2.2.2.2.2.1, cell_below hb90 hS.2.2.2.2.2.2.2.2.1, cell_below hb90 hS.2.2.2.2.2.2.2.2.2.1, cell_below hb90 hS.2.2.2.2.2.2.2.2.2.2.1, cell_below hb90 hS.2.2.2.2.2.2.2.2.2.2.2.1, cell_below hb90 hS.2.2.2.2.2.2.2.2.2.2.2.2.1, cell_below hb90 hS.2.2.2.2.2.2.2.2.2.2.2.2.2.1, cell_below hb90 hS.2.2.2.2.2.2.2.2.2.2.2.2.2.2.1, cell_below hb90 hS.2.2.2.2.2.2.2.2.2.2.2.2.2.2.2⟩; clear hb90) | (go_at_call 20; (with_reducible refine (cKn.out _ hM9).mono ?_); rintro e w10 ⟨rfl, hb100⟩; have hb10 := below_step hb9 hb100; have hM10 := hM9.mono hb100; have hS : w10.cell? ⟨w.heap.size, 0, none⟩ = some (.int .i64 sw) ∧ w10.cell? ⟨w.heap.size, 1, none⟩ = some (.int .i64 st) ∧ w10.cell? ⟨w.heap.size, 2, none⟩ = some (.int .i64 sk) ∧ w10.cell? ⟨w.heap.size, 3, none⟩ = some (.int .i64 so) ∧ w10.cell? ⟨w.heap.size, 4, none⟩ = some (.int .i32 hy) ∧ w10.cell? ⟨w.heap.size, 5, none⟩ = some (.slice pc na cc) ∧ w10.cell? ⟨w.heap.size, 6, none⟩ = some (.slice pk nb ck) ∧ w10.cell? ⟨w.heap.size, 7, none⟩ = some (.slice pl nc cl) ∧ w10.cell? ⟨r1, 0, none⟩ = some (.int .i32 q0) ∧ w10.cell? ⟨r1, 1, none⟩ = some (.int .i64 q1) ∧ w10.cell? ⟨r1, 2, none⟩ = some (.int .i64 q2) ∧ w10.cell? ⟨r1, 3, none⟩ = some (.int .i64 q3) ∧ w10.cell? ⟨r2, 0, none⟩ = some (.int .i32 q0) ∧ w10.cell? ⟨r2, 1, none⟩ = some (.int .i64 q1) ∧ w10.cell? ⟨r2, 2, none⟩ = some (.int .i64 q2) ∧ w10.cell? ⟨r2, 3, none⟩ = some (.int .i64 q3) := ⟨cell_below hb100 hS.1, cell_below hb100 hS.2.1, cell_below hb100 hS.2.2.1, cell_below hb100 hS.2.2.2.1, cell_below hb100 hS.2.2.2.2.1, cell_below hb100 hS.2.2.2.2.2.1, cell_below hb100 hS.2.2.2.2.2.2.1, cell_below hb100 hS.2.2.2.2.2.2.2.1, cell_below hb100 hS.2.2.2.2.2.2.2.2.1, cell_below hb100 hS.2.2.2.2.2.2.2.2.2.1, cell_below hb100 hS.2.2.2.2.2.2.2.2.2.2.1, cell_below hb100 hS.2.2.2.2.2.2.2.2.2.2.2.1, cell_below hb100 hS.2.2.2.2.2.2.2.2.2.2.2.2.1, cell_below hb100 hS.2.2.2.2.2.2.2.2.2.2.2.2.2.1, cell_below hb100 hS.2.2.2.2.2.2.2.2.2.2.2.2.2.2.1, cell_below hb100 hS.2.2.2.2.2.2.2.2.2.2.2.2.2.2.2⟩; clear hb100) | (go_at_call 21; (with_reducible refine (cRK.out _ hM10).mono ?_); rintro e w11 ⟨rfl, hb110⟩; have hb11 := below_step hb10 hb110; have hM11 := hM10.mono hb110; have hS : w11.cell? ⟨w.heap.size, 0, none⟩ = some (.int .i64 sw) ∧ w11.cell? ⟨w.heap.size, 1, none⟩ = some (.int .i64 st) ∧ w11.cell? ⟨w.heap.size, 2, none⟩ = some (.int .i64 sk) ∧ w11.cell? ⟨w.heap.size, 3, none⟩ = some (.int .i64 so) ∧ w11.cell? ⟨w.heap.size, 4, none⟩ = some (.int .i32 hy) ∧ w11.cell? ⟨w.heap.size, 5, none⟩ = some (.slice pc na cc) ∧ w11.cell? ⟨w.heap.size, 6, none⟩ = some (.slice pk nb ck) ∧ w11.cell? ⟨w.heap.size, 7, none⟩ = some (.slice pl nc cl) ∧ w11.cell? ⟨r1, 0, none⟩ = some (.int .i32 q0) ∧ w11.cell? ⟨r1, 1, none⟩ = some (.int .i64 q1) ∧ w11.cell? ⟨r1, 2, none⟩ = some (.int .i64 q2) ∧ w11.cell? ⟨r1, 3, none⟩ = some (.int .i64 q3) ∧ w11.cell? ⟨r2, 0, none⟩ = some (.int .i32 q0) ∧ w11.cell? ⟨r2, 1, none⟩ = some (.int .i64 q1) ∧ w11.cell? ⟨r2, 2, none⟩ = some (.int .i64 q2) ∧ w11.cell? ⟨r2, 3, none⟩ = some (.int .i64 q3) := ⟨cell_below hb110 hS.1, cell_below hb110 hS.2.1, cell_below hb110 hS.2.2.1, cell_below hb110 hS.2.2.2.1, cell_below hb110 hS.2.2.2.2.1, cell_below hb110 hS.2.2.2.2.2.1, cell_below hb110 hS.2.2.2.2.2.2.1, cell_below hb110 hS.2.2.2.2.2.2.2.1, cell_below hb110 hS.2.2.2.2.2.2.2.2.1, cell_below hb110 hS.2.2.2.2.2.2.2.2.2.1, cell_below hb110 hS.2.2.2.2.2.2.2.2.2.2.1, cell_below hb110 hS.2.2.2.2.2.2.2.2.2.2.2.1, cell_below hb110 hS.2.2.2.2.2.2.2.2.2.2.2.2.1, cell_below hb110 hS.2.2.2.2.2.2.2.2.2.2.2.2.2.1, cell_below hb110 hS.2.2.2.2.2.2.2.2.2.2.2.2.2.2.1, cell_below hb110 hS.2.2.2.2.2.2.2.2.2.2.2.2.2.2.2⟩; clear hb110))
  go_wp2
  go_ret
  exact ⟨rfl, below_step HB4.out hb11⟩
end Go.Proofs.YtmehldekebphfaaGreatDoor

namespace Go.Proofs.YtmehldekebphfaaGreatDoor
open Go.ChangeShapes Go.WideShapes Go.ChangeAt Go.RowKit

set_option maxRecDepth 100000 in
/-- WHAT THE WALK GIVES, FOR EVERY ARGUMENT OF SUCH A BULK AND EVERY WORLD. -/
theorem metricTellsF_contract (H : Type) (enc : TypeId × Value → H) (W : World) (base : Nat) (args : Array Value) (ds gs : List (DataW H)) (before : List MemPlace)
    (hval : ∀ (j : Nat) t v, Tryz.f4.params[j]? = some t → args[j]? = some v → Value.okWide Tryz.prog W .any base t v)
    (hW : DataW.Whole enc Tryz.prog Tryz.f4.params.toList Rows.metricTellsSpec.vars false W args.toList ds gs before) (C : MetW W) :
    Calls Tryz.prog 4 args W fun e W' => ∃ v, e = .returned v ∧ Rows.metricTellsSpec.post enc Tryz.prog Tryz.f4 false true false false W args v W' := by
  have hW' := hW
  have hlt : ∀ x ∈ before, x.block < W.heap.size := fun x hx => hW'.lt x hx
  obtain ⟨p, q, hA0, hV, hbe, hfz, hnd⟩ := hW
  have hA : DataW.TrodAll enc Tryz.prog W 0 (fun _ => true) true Tryz.f4.params.toList args.toList ds p := hA0
  rw [Tryz.params4] at hA hval
  have hAk := hA
  obtain ⟨v0, vs0, d0, ds0, p0, q0, hargs, rfl, rfl, h0, r0⟩ := trodAll_cons hA
  obtain ⟨v1, vs1, d1, ds1, p1, q1, rfl, rfl, rfl, h1, r1⟩ := trodAll_cons r0
  obtain ⟨v2, vs2, d2, ds2, p2, q2, rfl, rfl, rfl, h2, r2⟩ := trodAll_cons r1
  obtain ⟨rfl, rfl, rfl⟩ := trodAll_nil r2
  obtain rfl : args = #[v0, v1, v2] := by cases args; simp_all
  obtain ⟨rfl, rfl⟩ := trodVars_none hV
  obtain ⟨cs0, hv0, _⟩ := okWide_struct uMt7 (hval 0 _ v0 rfl rfl)
  obtain ⟨m0, hm0, hT0, hbulk0⟩ := met_in h0 hv0
  obtain ⟨x1, rfl⟩ := okWide_int Tryz.underlying21 (hval 1 _ v1 rfl rfl)
  obtain ⟨x2, rfl⟩ := okWide_int Tryz.underlying21 (hval 2 _ v2 rfl rfl)
  refine (lawTells7 C v0 m0 x1 x2 W (Below.refl _ _) hm0).mono fun e W' ⟨he, hb⟩ => ?_
  subst he
  have e1 : Rows.metricTellsSpec.fn H ([d0, d1, d2] ++ []) = { results := [.lit (.bool true)], args := [d0, d1, d2] } := rfl
  refine ⟨_, rfl, [d0, d1, d2], [], before, [], p0 ++ (p1 ++ (p2 ++ [])), [], hW', ?_, ?_, ?_, hb.frame _, fun h => by cases h⟩
  · rw [e1]; exact trodAll_mk1 (shut_bool Tryz.underlying4 true)
  · rw [e1, Tryz.params4]
    exact args_kept laidOut hb _ _ _ _ (by
      intro t ht
      have : t = 28 ∨ t = 21 := by simpa using ht
      rcases this with rfl | rfl
      all_goals exact ⟨by kernel_rfl, of_decide_eq_true (by kernel_rfl)⟩) hAk (fun x hx => hlt x (by rw [hbe]; exact List.mem_append_left _ hx))
  · rw [e1]; rfl

theorem metricTellsF_laid_met (os : Os) : laidMet Tryz.prog Rows.metricTellsRow.laid ((World.laidAll Tryz.prog os laidList).forCall (fun _ _ => 0) ⟨#[], #[.agg #[.int .i64 0, .int .i64 0, .int .i64 0, .int .i64 0, .int .i32 0, .slice none 0 0, .slice none 0 0, .slice none 0 0], .int .i32 0, .int .i32 0], []⟩).memory :=
  laidMet_laidAll _ (by kernel_rfl) (by kernel_rfl)
theorem metricTellsF_reads (os : Os) {H : Type} (enc : TypeId × Value → H) : ∃ places, DataW.whole enc Tryz.prog ((World.laidAll Tryz.prog os laidList).forCall (fun _ _ => 0) ⟨#[], #[.agg #[.int .i64 0, .int .i64 0, .int .i64 0, .int .i64 0, .int .i32 0, .slice none 0 0, .slice none 0 0, .slice none 0 0], .int .i32 0, .int .i32 0], []⟩).memory Tryz.f4.params.toList Rows.metricTellsSpec.vars false #[Value.agg #[.int .i64 0, .int .i64 0, .int .i64 0, .int .i64 0, .int .i32 0, .slice none 0 0, .slice none 0 0, .slice none 0 0], .int .i32 0, .int .i32 0].toList 8 = some ([.agg [.agg [.lit (.int .i64 0), .lit (.int .i64 0), .lit (.int .i64 0), .lit (.int .i64 0)], .lit (.int .i32 0), .nil, .nil, .nil], .lit (.int .i32 0), .lit (.int .i32 0)], [], places) :=
  ⟨[], by kernel_rfl⟩

set_option maxRecDepth 100000 in
theorem metricTellsF_lifted (os : Os) (started : os.Started) (H : Type) (enc : TypeId × Value → H) (F : Stop.Interp) :
    ReturnsInHanded {} Tryz.checked os 4 .any ((OpenSpec.ofChange Rows.metricTellsSpec).preRow enc Tryz.prog Tryz.f4 Rows.metricTellsRow.domain false Rows.metricTellsRow.laid) (((OpenSpec.ofChange Rows.metricTellsSpec).at F).post enc Tryz.prog Tryz.f4 false true false false) := by
  obtain ⟨places, hx⟩ := metricTellsF_reads os enc
  refine returnsInHanded_of_row (C := Tryz.checked) (s := OpenSpec.ofChange Rows.metricTellsSpec) own started (by kernel_rfl) Tryz.func4
    (witness_row_atRef (enc := enc) (C := Tryz.checked) false (World.laidAll Tryz.prog os laidList) #[.agg #[.int .i64 0, .int .i64 0, .int .i64 0, .int .i64 0, .int .i32 0, .slice none 0 0, .slice none 0 0, .slice none 0 0], .int .i32 0, .int .i32 0] (World.laidAll_os _ _ _) (by kernel_rfl) (by kernel_rfl) (by kernel_rfl)
      (OpenSpec.preRow_of_cond 8 hx (by kernel_rfl) (fun k hk => by cases hk) (by kernel_rfl) (metricTellsF_laid_met os))) ?_
  intro W base args ds gs before hval hW _ _ _ hL hsh _
  exact metricTellsF_contract H enc W base args ds gs before hval hW (metW_of_laid hL hsh)

theorem metricTellsF_said : Rows.MetricTellsSaid :=
  OpenClaim.holds_of_cond 4 Tryz.f4 rfl rfl rfl rfl rfl rfl rfl ⟨rfl, rfl, rfl, rfl, rfl⟩ rfl rfl rfl rfl rfl (by kernel_rfl) Tryz.func4 (by kernel_rfl)
    (of_decide_eq_true (by kernel_rfl)) (by unfold Func.isWrapper; first | (rw [if_pos (by decide +kernel)]; kernel_rfl) | (rw [if_neg (by decide +kernel)]; exact ⟨rfl, rfl⟩))
    (fun os started H enc _ F => by rw [OpenClaim.pre_eq_preRow]; exact metricTellsF_lifted os started H enc F)

/-- No parameter wants a stand-in; what the program's own reckoning says of looks: what the card asks. -/
theorem metricTellsF_plain (f : FuncId) (fn : Func) (hf : Tryz.pinned.checked.prog.funcNamed "variorum/variorumlaw07.MetricTells" = some f) (hfn : Tryz.pinned.checked.prog.funcs[f]? = some fn) :
    true = Tryz.pinned.checked.prog.looks [] ∧ ∀ (j : Nat) t, fn.params[j]? = some t → Tryz.pinned.checked.prog.wantsStandIn t = false := by
  obtain rfl : f = 4 := Option.some.inj ((show Tryz.prog.funcNamed "variorum/variorumlaw07.MetricTells" = some 4 by kernel_rfl).symm.trans hf) |>.symm
  obtain rfl : fn = Tryz.f4 := (Option.some.inj (Tryz.func4.symm.trans hfn)).symm
  refine ⟨by kernel_rfl, fun j t ht => ?_⟩
  rw [Tryz.params4] at ht
  have : t = 28 ∨ t = 21 := by simpa using Array.mem_of_getElem? ht
  rcases this with rfl | rfl
  · exact (show Tryz.prog.wantsStandIn 28 = false by kernel_rfl)
  · exact (show Tryz.prog.wantsStandIn 21 = false by kernel_rfl)

/-- THE CARD. -/
theorem metricTellsF_card : Rows.MetricTellsCardSaid :=
  Claim7.holds_tied_plain_at .later [] _ _ _ _ metricTellsF_said (fun _ h => by cases h) (by kernel_rfl) (fun _ h => by cases h) metricTells_row_tie rfl ⟨rfl, rfl⟩ (by kernel_rfl) rfl metricTellsF_plain (by kernel_rfl)
end Go.Proofs.YtmehldekebphfaaGreatDoor
