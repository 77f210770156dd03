/-
  What the program's Letter and Encode answer: Letter asks the library's ValidRune, Encode writes rune by rune into a strings.Builder.
-/
import Derived.Test.YtacghcpkkfhfhaaDoorBuild4
import Derived.Test.YtacghcpkkfhfhaaDoorRefEncode
set_option linter.unusedVariables false
set_option linter.unusedSimpArgs false
namespace Go.Proofs.YtacghcpkkfhfhaaDoor
open Go.RowKit

theorem valid_letter (c : Int) : Lib.validRune c = Ut.letter c := by
  unfold Lib.validRune Ut.letter
  rw [Bool.eq_iff_iff, decide_eq_true_iff, decide_eq_true_iff]
  omega
set_option maxHeartbeats 1000000 in
set_option maxRecDepth 100000 in
theorem letter_any (c : Int) (w : World) : Calls Tryd.prog 17 #[.int .i32 c] w (Ret (.bool (Ut.letter c)) w) := by
  rw [← valid_letter]
  go_enter Tryd.func17, Tryd.ntmps17
  go_wp2_with fail
  refine (Tryd.utf8_ValidRune _ _).mono ?_
  rintro e w' ⟨rfl, rfl⟩
  go_wp2_with fail
  go_ret
  exact ⟨rfl, Below.refl _ _⟩

theorem encs_le (xs : List Int) (k : Nat) : (Ut.encs (nats (xs.take k))).length ≤ 4 * k := by
  have h2 := (Ut.encs_len (nats (xs.take k))).2
  have h3 : (nats (xs.take k)).length ≤ k := by unfold nats; rw [List.length_map]; exact List.length_take_le _ _
  omega
theorem below_new {w0 : Nat} {w wr : World} (hb : Below w.heap.size (w) wr) : w.heap.size ≤ wr.heap.size := hb.size

set_option maxHeartbeats 1000000 in
set_option maxRecDepth 100000 in
theorem encode_nil (p : Option Addr) (cap : Nat) (w : World) : Calls Tryd.prog 15 #[.slice p 0 cap] w (Ret (.tuple #[.string ⟨(encV []).toArray⟩, .bool (encB [])]) w) := by
  have HB0 := Lib.hid (below_alloc w (.cells #[.pointer none, .slice none 0 0] 50))
  have HBL := Lib.hid (bld_fresh w)
  go_enter Tryd.func15, Tryd.ntmps15
  go_wp2
  refine wp_loop_rounds 1 ?_
  rw [rounds_succ]
  go_wp2_with fail
  refine (string_bld w.heap.size w.heap.size _ _ HBL.out HB0.out.size).mono ?_
  rintro e w1 ⟨rfl, hb1⟩
  have HB1 := Lib.hid (HB0.out.trans hb1)
  clear hb1
  go_wp2_with fail
  go_ret2
  exact ⟨rfl, HB1.out⟩

set_option maxHeartbeats 4000000 in
set_option maxRecDepth 100000 in
theorem encode_some (b o cap : Nat) (xs : List Int) (hn : 4 * xs.length ≤ 140737488355328) (w : World) (hc : ∀ i s, xs[i]? = some s → w.cell? ⟨b, o + i, none⟩ = some (.int .i32 s)) :
    Calls Tryd.prog 15 #[.slice (some ⟨b, o, none⟩) xs.length cap] w (Ret (.tuple #[.string ⟨(encV xs).toArray⟩, .bool (encB xs)]) w) := by
  have HC := Lib.hid hc
  have hn1 : xs.length ≤ 9223372036854775807 := by omega
  have HN := Lib.hid hn
  have HB0 := Lib.hid (below_alloc w (.cells #[.pointer none, .slice none 0 0] 50))
  have HBL0 := Lib.hid (bld_fresh w)
  clear hc hn
  go_enter Tryd.func15, Tryd.ntmps15
  go_wp2
  go_loopw [9] (fun iv wr => ∃ k : Nat, k ≤ xs.length ∧ iv = .int .i64 k ∧ Hid (Bld w.heap.size w.heap.size (Ut.encs (nats (xs.take k))) wr) ∧ Hid (encB (xs.take k) = true) ∧ Hid (Below w.heap.size w wr)) (fun iv _ => xs.length - (intOf iv).toNat)
  case atStart => exact ⟨0, Nat.zero_le _, rfl, HBL0, Lib.hid rfl, HB0⟩
  case round =>
    obtain ⟨k, hk, rfl, HU, HA, HB⟩ := hrel
    clear HBL0 HB0
    by_cases hlt : k < xs.length
    · obtain ⟨x, hx⟩ : ∃ x, xs[k]? = some x := ⟨_, List.getElem?_eq_getElem hlt⟩
      have d1 := cell_below HB.out (HC.out k x hx)
      have k0 : (0 : Int) ≤ (k : Int) := by omega
      have k1 : (k : Int) < (xs.length : Int) := by omega
      have HX := Lib.hid hx
      clear hx
      cases hL : Ut.letter x with
      | false =>
        have HO := Lib.hid (enc_bad HX.out hL)
        have cL : Hid (∀ w, Calls Tryd.prog 17 #[.int .i32 x] w (Ret (.bool false) w)) := Lib.hid (fun w => by rw [← hL]; exact letter_any x w)
        clear hL
        go_wp2_with fail
        refine (cL.out _).mono ?_
        rintro e w1 ⟨rfl, hb1⟩
        have HB1 := Lib.hid (below_step HB.out hb1)
        clear hb1
        go_wp2_with fail
        go_ret2
        exact ⟨ret_enc HO.out (by rw [enc_no HO.out]), HB1.out⟩
      | true =>
        have HAN := Lib.hid (all_take_next HX.out hL HA.out)
        have HUN := Lib.hid (nats_take_next HX.out)
        have cL : Hid (∀ w, Calls Tryd.prog 17 #[.int .i32 x] w (Ret (.bool true) w)) := Lib.hid (fun w => by rw [← hL]; exact letter_any x w)
        have HLe := Lib.hid (encs_le xs k)
        have HL := Lib.hid hL
        clear hL
        go_wp2_with fail
        refine (cL.out _).mono ?_
        rintro e w1 ⟨rfl, hb1⟩
        have HB1 := Lib.hid (below_step HB.out hb1)
        have HU1 := Lib.hid (bld_kept HU.out hb1)
        clear hb1
        go_wp2_with fail
        refine (write_bld w.heap.size w.heap.size _ x HL.out _ HU1.out (by have := HLe.out; have := HN.out; omega) HB1.out.size).mono ?_
        rintro e w2 ⟨⟨q, rfl⟩, hu2, hb2⟩
        have HU2 := Lib.hid hu2
        have HB2 := Lib.hid (HB1.out.trans hb2)
        clear hu2 hb2
        go_wp2_with fail
        go_roundw
        case rel => exact ⟨k + 1, by omega, by go_num, Lib.hid (by rw [HUN.out]; exact HU2.out), HAN, HB2⟩
        case measure => simp [intOf]; omega
    · have HT : Hid (xs.take k = xs) := Lib.hid (List.take_of_length_le (by omega))
      go_wp2_with fail
      refine (string_bld w.heap.size w.heap.size _ _ HU.out HB.out.size).mono ?_
      rintro e w1 ⟨rfl, hb1⟩
      have HB1 := Lib.hid (HB.out.trans hb1)
      clear hb1
      go_wp2_with fail
      go_ret2
      have h1 : encB xs = true := by rw [← HT.out]; exact HA.out
      exact ⟨ret_enc h1 (by rw [enc_yes h1, HT.out]), HB1.out⟩

/-- The program's Encode, at every list of numbers that takes fewer than 2^47 bytes. -/
theorem encode_any (v : Value) (xs : List Int) (hn : 4 * xs.length ≤ 140737488355328) (w : World) (h : IntsAt .i32 w v xs) : Calls Tryd.prog 15 #[v] w (Ret (.tuple #[.string ⟨(encV xs).toArray⟩, .bool (encB xs)]) w) := by
  obtain ⟨⟨p, c, rfl, _⟩, m, k⟩ := h
  rcases Nat.eq_zero_or_pos xs.length with h0 | h0
  · obtain rfl : xs = [] := List.eq_nil_of_length_eq_zero h0
    exact encode_nil p c w
  · obtain ⟨b, o, d, e, q⟩ := k h0
    obtain ⟨rfl, rfl⟩ : p = some ⟨b, o, none⟩ ∧ c = d := by injection e with a1 a2 a3; exact ⟨a1, a3⟩
    exact encode_some b o _ xs hn w q
end Go.Proofs.YtacghcpkkfhfhaaDoor
