/-
  The reference's Encode: the bytes of letters.
-/
import Derived.Test.YtacghcpkkfhfhaaDoorRefBytes
import Derived.Test.YtacghcpkkfhfhaaDoorRefLists
set_option linter.unusedVariables false
set_option linter.unusedSimpArgs false
namespace Go.Proofs.YtacghcpkkfhfhaaDoor
open Go.RowKit

/-- are all of them letters? -/
def encB (xs : List Int) : Bool := xs.all Ut.letter
/-- letters as naturals -/
def nats (xs : List Int) : List Nat := xs.map Int.toNat
def encV (xs : List Int) : List UInt8 := if encB xs then Ut.encs (nats xs) else []
theorem enc_yes {xs : List Int} (h : encB xs = true) : encV xs = Ut.encs (nats xs) := by unfold encV; rw [if_pos h]
theorem enc_no {xs : List Int} (h : encB xs = false) : encV xs = [] := by unfold encV; rw [h]; rfl
theorem nats_take_next {xs : List Int} {k : Nat} {x : Int} (h : xs[k]? = some x) : Ut.encs (nats (xs.take (k + 1))) = Ut.encs (nats (xs.take k)) ++ Ut.enc x.toNat := by
  rw [List.take_add_one, h]
  unfold nats
  rw [List.map_append]
  exact Ut.encs_snoc _ _
theorem all_take_next {xs : List Int} {k : Nat} {x : Int} (h : xs[k]? = some x) (hx : Ut.letter x = true) (ha : encB (xs.take k) = true) : encB (xs.take (k + 1)) = true := by
  rw [List.take_add_one, h]
  unfold encB at *
  rw [List.all_append, ha]
  simp [hx]
theorem enc_bad {xs : List Int} {k : Nat} {x : Int} (h : xs[k]? = some x) (hx : Ut.letter x = false) : encB xs = false := by
  unfold encB
  rw [List.all_eq_false]
  exact ⟨x, List.mem_of_getElem? h, by rw [hx]; decide⟩
theorem ret_enc {a : ByteArray} {b : Bool} {xs : List Int} (hb : encB xs = b) (ha : a.data.toList = encV xs) : Ending.returned (.tuple #[.string a, .bool b]) = .returned (.tuple #[.string ⟨(encV xs).toArray⟩, .bool (encB xs)]) := by
  rw [hb, ← ha]

set_option maxHeartbeats 2000000 in
set_option maxRecDepth 100000 in
theorem refEncode_nil (p : Option Addr) (c : Nat) (w : World) : Calls Tryd.prog 16 #[.slice p 0 c] w (Ret (.tuple #[.string ⟨(encV []).toArray⟩, .bool (encB [])]) w) := by
  go_enter Tryd.func16, Tryd.ntmps16
  go_wp2
  refine wp_loop_rounds 1 ?_
  rw [rounds_succ]
  go_wp2
  go_ret2
  exact ⟨ret_enc rfl rfl, Below.refl _ _⟩

set_option maxHeartbeats 4000000 in
set_option maxRecDepth 100000 in
theorem refEncode_some (b o cap : Nat) (xs : List Int) (hn : 4 * xs.length ≤ 9223372036854775807) (w : World) (hc : ∀ i s, xs[i]? = some s → w.cell? ⟨b, o + i, none⟩ = some (.int .i32 s)) :
    Calls Tryd.prog 16 #[.slice (some ⟨b, o, none⟩) xs.length cap] w (Ret (.tuple #[.string ⟨(encV xs).toArray⟩, .bool (encB xs)]) w) := by
  have HC := Lib.hid hc
  have hn1 : xs.length ≤ 9223372036854775807 := by omega
  have HN := Lib.hid hn
  clear hc hn
  go_enter Tryd.func16, Tryd.ntmps16
  go_wp2
  go_loopw [4, 5] (fun sv iv wr => ∃ (k : Nat) (u : ByteArray), k ≤ xs.length ∧ iv = .int .i64 k ∧ sv = .string u ∧ Hid (u.data.toList = Ut.encs (nats (xs.take k))) ∧ Hid (encB (xs.take k) = true) ∧ Hid (Below w.heap.size w wr)) (fun _ iv _ => xs.length - (intOf iv).toNat)
  case atStart => exact ⟨0, ByteArray.empty, Nat.zero_le _, rfl, rfl, Lib.hid rfl, Lib.hid rfl, Lib.hid (Below.refl _ _)⟩
  case round =>
    obtain ⟨k, u, hk, rfl, rfl, HU, HA, HB⟩ := hrel
    by_cases hlt : k < xs.length
    · obtain ⟨x, hx⟩ : ∃ x, xs[k]? = some x := ⟨_, List.getElem?_eq_getElem hlt⟩
      have d1 := cell_below HB.out (HC.out k x hx)
      have k0 : (0 : Int) ≤ (k : Int) := by omega
      have k1 : (k : Int) < (xs.length : Int) := by omega
      have HX := Lib.hid hx
      clear hx
      cases hL : Ut.letter x with
      | false =>
        have HO := Lib.hid (enc_bad HX.out hL)
        have cL : Hid (∀ w, Calls Tryd.prog 18 #[.int .i32 x] w (Is (.bool false) w)) := Lib.hid (fun w => by rw [← hL]; exact refLetter_any x w)
        clear hL
        go_wp2_with fail
        refine (cL.out _).mono ?_
        rintro e w' ⟨rfl, rfl⟩
        go_wp2_with fail
        go_ret2
        exact ⟨ret_enc HO.out (by rw [enc_no HO.out]), HB.out⟩
      | true =>
        have hp := Ut.letter_pos hL
        have HAN := Lib.hid (all_take_next HX.out hL HA.out)
        have HUN := Lib.hid (nats_take_next HX.out)
        have cL : Hid (∀ w, Calls Tryd.prog 18 #[.int .i32 x] w (Is (.bool true) w)) := Lib.hid (fun w => by rw [← hL]; exact refLetter_any x w)
        have hsz : ¬ 9223372036854775807 < u.size + (Ut.enc x.toNat).length := by
          have h1 := (Ut.enc_len x.toNat).2
          have h2 := (Ut.encs_len (nats (xs.take k))).2
          have h3 : (nats (xs.take k)).length ≤ k := by unfold nats; rw [List.length_map]; exact List.length_take_le _ _
          have h4 := HN.out
          rw [Lib.size_eq, HU.out]
          omega
        have HPos := Lib.hid hp
        clear hL hp
        go_wp2_with fail
        refine (cL.out _).mono ?_
        rintro e w' ⟨rfl, rfl⟩
        go_wp2_with fail
        refine (bytes_any x HPos.out.1 HPos.out.2 _).mono ?_
        rintro e w1 ⟨rfl, hb1⟩
        have HB1 := Lib.hid (below_step HB.out hb1)
        clear hb1
        go_wp2_with fail
        go_roundw
        case rel => exact ⟨k + 1, _, by omega, by go_num, rfl, Lib.hid (by rw [HUN.out, ← HU.out]; simp), HAN, HB1⟩
        case measure => simp [intOf]; omega
    · have HT : Hid (xs.take k = xs) := Lib.hid (List.take_of_length_le (by omega))
      go_wp2_with fail
      go_ret2
      have h1 : encB xs = true := by rw [← HT.out]; exact HA.out
      exact ⟨ret_enc h1 (by rw [enc_yes h1, HU.out, HT.out]), HB.out⟩

/-- The reference's Encode, at every list of numbers. -/
theorem refEncode_any (v : Value) (xs : List Int) (hn : 4 * xs.length ≤ 9223372036854775807) (w : World) (h : IntsAt .i32 w v xs) : Calls Tryd.prog 16 #[v] w (Ret (.tuple #[.string ⟨(encV xs).toArray⟩, .bool (encB xs)]) w) := by
  obtain ⟨⟨p, c, rfl, _⟩, m, k⟩ := h
  rcases Nat.eq_zero_or_pos xs.length with h0 | h0
  · obtain rfl : xs = [] := List.eq_nil_of_length_eq_zero h0
    exact refEncode_nil p c w
  · obtain ⟨b, o, d, e, q⟩ := k h0
    obtain ⟨rfl, rfl⟩ : p = some ⟨b, o, none⟩ ∧ c = d := by injection e with a1 a2 a3; exact ⟨a1, a3⟩
    exact refEncode_some b o _ xs hn w q
end Go.Proofs.YtacghcpkkfhfhaaDoor
