/-
  What the program's May and Print answer, at any slice of tokens.
-/
import Derived.Test.YtjlnffdklhmonaaDoorCallMay5
import Derived.Test.YtjlnffdklhmonaaDoorEscape5
import Derived.Test.YtjlnffdklhmonaaDoorRefPrint
set_option linter.unusedVariables false
set_option linter.unusedSimpArgs false
namespace Go.Proofs.YtjlnffdklhmonaaDoor
open Go.RowKit

set_option maxHeartbeats 1000000 in
set_option maxRecDepth 100000 in
theorem may_nil (p : Option Addr) (cap : Nat) (w : World) : Calls Tryd.prog 14 #[.slice p 0 cap] w (Ret (.bool true) w) := by
  go_enter Tryd.func14, Tryd.ntmps14
  go_wp2
  refine wp_loop_rounds 1 ?_
  rw [rounds_succ]
  go_wp2
  go_ret
  exact ⟨rfl, Below.refl _ _⟩

set_option maxHeartbeats 4000000 in
set_option maxRecDepth 100000 in
theorem may_some (b o cap : Nat) (ts : List Tok) (hn : ts.length ≤ 9223372036854775807) (hx : ∀ t ∈ ts, t.text.length * 8 ≤ 140737488355328) (w : World) (hT : Tabs w) (hc : ∀ i t, ts[i]? = some t → TokAt w b (o + i * 3) t) :
    Calls Tryd.prog 14 #[.slice (some ⟨b, o, none⟩) ts.length cap] w (Ret (.bool (Lx.may ts)) w) := by
  have HC := Lib.hid hc
  have HX := Lib.hid hx
  have HT := Lib.hid hT
  clear hc hx hT
  go_enter Tryd.func14, Tryd.ntmps14
  go_wp2
  go_loopw [7] (fun iv wr => ∃ k : Nat, k ≤ ts.length ∧ iv = .int .i64 k ∧ Hid (Lx.may (ts.take k) = true) ∧ Hid (Below w.heap.size w wr)) (fun iv _ => ts.length - (intOf iv).toNat)
  case atStart => exact ⟨0, Nat.zero_le _, rfl, Lib.hid rfl, Lib.hid (Below.refl _ _)⟩
  case round =>
    obtain ⟨k, hk, rfl, HA, HB⟩ := hrel
    by_cases hlt : k < ts.length
    · obtain ⟨t, ht⟩ : ∃ t, ts[k]? = some t := ⟨_, List.getElem?_eq_getElem hlt⟩
      have cV := Lib.hid (fun w hT => valid_any t (HX.out _ (List.mem_of_getElem? ht)) w hT)
      have DT := HC.out k _ ht
      obtain ⟨K, S, A⟩ := t
      have d1 := cell_below HB.out DT.k
      have d2 := cell_below HB.out DT.s
      have d3 := cell_below HB.out DT.a
      unfold tokV at cV
      simp only [] at d1 d2 d3 cV
      have k0 : (0 : Int) ≤ (k : Int) := by omega
      have k1 : (k : Int) < (ts.length : Int) := by omega
      have HB1 := Lib.hid (HB.out.alloc HB.out.size (.cells #[.int .i64 K, .string (str S), .int .i64 A] 38))
      have HT1 := Lib.hid (HT.out.mono HB1.out)
      cases hm : Lx.mayT ⟨K, S, A⟩ with
      | false =>
        have HO := Lib.hid (may_bad ht hm)
        rw [hm] at cV
        clear hm ht DT
        go_wp2_with fail
        refine (cV.out _ HT1.out).mono ?_
        rintro e w1 ⟨rfl, hb1⟩
        have HB2 := Lib.hid (below_step HB1.out hb1)
        clear hb1
        go_wp2_with fail
        go_ret
        exact ⟨ret_bool HO.out.symm, HB2.out⟩
      | true =>
        have HM := Lib.hid (may_next ht hm HA.out)
        rw [hm] at cV
        clear hm ht DT
        go_wp2_with fail
        refine (cV.out _ HT1.out).mono ?_
        rintro e w1 ⟨rfl, hb1⟩
        have HB2 := Lib.hid (below_step HB1.out hb1)
        clear hb1
        go_wp2_with fail
        go_roundw
        case rel => exact ⟨k + 1, by omega, by go_num, HM, HB2⟩
        case measure => simp [intOf]; omega
    · have HO : Hid (Lx.may ts = true) := Lib.hid (by have h := HA.out; rwa [List.take_of_length_le (by omega)] at h)
      go_wp2_with fail
      go_ret
      exact ⟨ret_bool HO.out.symm, HB.out⟩

/-- The program's May, at every slice of tokens whose texts are not too long. -/
theorem may_any (v : Value) (ts : List Tok) (hr : Lx.room ts ≤ 17592186044416) (w : World) (hT : Tabs w) (h : ToksAt w v ts) : Calls Tryd.prog 14 #[v] w (Ret (.bool (Lx.may ts)) w) := by
  obtain ⟨⟨p, c, rfl, _⟩, m, k⟩ := h
  have hm : ts.length ≤ 9223372036854775807 := by unfold maxLen at m; omega
  rcases Nat.eq_zero_or_pos ts.length with h0 | h0
  · obtain rfl : ts = [] := List.eq_nil_of_length_eq_zero h0
    exact may_nil p c w
  · obtain ⟨b, o, d, e, q⟩ := k h0
    obtain ⟨rfl, rfl⟩ : p = some ⟨b, o, none⟩ ∧ c = d := by injection e with a1 a2 a3; exact ⟨a1, a3⟩
    exact may_some b o _ ts hm (fun t ht => by have := Lx.text_room ht; omega) w hT q

/-- what one token is printed as -/
def prT (t : Tok) : List UInt8 := if t.kind = 1 then 92 :: t.text else if t.kind = 2 then [123] else if t.kind = 3 then [125] else Lx.escape t.text
theorem escape_lit (S : List UInt8) (h : S.length ≤ 17592186044416) (w : World) (hT : Tabs w) : Calls Tryd.prog 18 #[.string (str S)] w (Ret (.string (str (Lx.escape S))) w) := by
  have h1 := escape_any (str S) (by rw [str_size]; exact h) w hT
  rw [str_data] at h1
  exact h1

set_option maxHeartbeats 2000000 in
set_option maxRecDepth 100000 in
theorem printed_any (t : Tok) (hs : t.text.length ≤ 17592186044416) (w : World) (hT : Tabs w) : Calls Tryd.prog 36 #[tokV t] w (Ret (.string (str (prT t))) w) := by
  obtain ⟨K, S, A⟩ := t
  unfold tokV prT
  simp only [] at hs ⊢
  have HB0 := Lib.hid (below_alloc w (.cells #[.int .i64 K, .string (str S), .int .i64 A] 38))
  have HT0 := Lib.hid (hT.mono HB0.out)
  by_cases hK1 : K = 1
  · subst hK1
    have hz : (str S).size = S.length := str_size S
    have hb : ¬ 9223372036854775807 < 1 + (str S).size := by omega
    rw [if_pos rfl]
    clear hs hT hz
    go_enter Tryd.func36, Tryd.ntmps36
    go_wp2_with fail
    go_ret
    exact ⟨ret_str (by rw [cat_text, str_data, str_data]; rfl), HB0.out⟩
  · rw [if_neg hK1]
    have e1 := bne0 hK1
    by_cases hK2 : K = 2
    · subst hK2
      rw [if_pos rfl]
      clear hs hT hK1 e1
      go_enter Tryd.func36, Tryd.ntmps36
      go_wp2_with fail
      go_ret
      exact ⟨rfl, HB0.out⟩
    · rw [if_neg hK2]
      have e2 := bne0 hK2
      by_cases hK3 : K = 3
      · subst hK3
        rw [if_pos rfl]
        clear hs hT hK1 hK2 e1 e2
        go_enter Tryd.func36, Tryd.ntmps36
        go_wp2_with fail
        go_ret
        exact ⟨rfl, HB0.out⟩
      · rw [if_neg hK3]
        have e3 := bne0 hK3
        have cE := Lib.hid (fun w hT => escape_lit S hs w hT)
        clear hs hT hK1 hK2 hK3
        go_enter Tryd.func36, Tryd.ntmps36
        go_wp2_with fail
        refine (cE.out _ HT0.out).mono ?_
        rintro e w1 ⟨rfl, hb1⟩
        have HB1 := Lib.hid (below_step HB0.out hb1)
        clear hb1
        go_wp2_with fail
        go_ret
        exact ⟨rfl, HB1.out⟩

theorem prT_len (t : Tok) : (prT t).length ≤ 2 * t.text.length + 1 := by
  unfold prT
  split
  · simp; omega
  · split
    · simp
    · split
      · simp
      · have := escape_len t.text.length t.text (Nat.le_refl _); omega
theorem prT_is {t : Tok} (h : Lx.mayT t = true) : (Lx.pcT t).1 = prT t := by
  unfold prT Lx.pcT
  rcases Lx.may_cases h with ⟨h1, _⟩ | ⟨h1, _⟩ | ⟨h1, _⟩ | ⟨h1, _⟩ <;> simp [h1]

set_option maxHeartbeats 1000000 in
set_option maxRecDepth 100000 in
theorem print_bad (v : Value) (ts : List Tok) (hr : Lx.room ts ≤ 17592186044416) (hm : Lx.may ts = false) (w : World) (hT : Tabs w) (h : ToksAt w v ts) : Calls Tryd.prog 16 #[v] w (Ret (.string (str (Lx.print ts))) w) := by
  have HM := Lib.hid (may_any v ts hr w hT h)
  rw [hm] at HM
  rw [print_no hm]
  clear hm h hr hT
  go_enter Tryd.func16, Tryd.ntmps16
  go_wp2_with fail
  refine HM.out.mono ?_
  rintro e w1 ⟨rfl, hb1⟩
  have HB := Lib.hid hb1
  clear hb1
  go_wp2_with fail
  go_ret
  exact ⟨rfl, HB.out⟩

theorem tok_kept {w w' : World} {b0 : Nat} {K A : Int} {S : ByteArray} (h : Lib.OthersKept 5 (some b0) (w.alloc (.cells #[.int .i64 K, .string S, .int .i64 A] 38)) w') (hn : w.heap.size ≠ b0) :
    w'.cell? ⟨w.heap.size, 0, none⟩ = some (.int .i64 K) ∧ w'.cell? ⟨w.heap.size, 1, none⟩ = some (.string S) ∧ w'.cell? ⟨w.heap.size, 2, none⟩ = some (.int .i64 A) := by
  have h1 := h w.heap.size (.cells #[.int .i64 K, .string S, .int .i64 A] 38 (0, 0)) (by show (w.heap.push _)[w.heap.size]? = _; simp) (by simpa using hn) (by intro c fz e; injection e with _ e2 _; exact absurd e2 (by decide))
  exact ⟨by rw [Lib.cell_of_heap h1]; rfl, by rw [Lib.cell_of_heap h1]; rfl, by rw [Lib.cell_of_heap h1]; rfl⟩
theorem bld_lt {B b0 : Nat} {l : List UInt8} {w : World} (h : Bld B b0 l w) : b0 < w.heap.size := by
  have one : ∀ p, Lib.BuilderAtF 54 5 B b0 p (Lib.byteCells l) w → b0 < w.heap.size := by
    rintro p ⟨hB, v, hbk, hown, hne⟩
    rcases Nat.lt_or_ge b0 w.heap.size with h' | h'
    · exact h'
    · rw [Array.getElem?_eq_none h'] at hbk; cases hbk
  rcases h with h | h
  · exact one _ h
  · exact one _ h

set_option maxHeartbeats 8000000 in
set_option maxRecDepth 100000 in
theorem print_good (a0 : Option Addr) (cap : Nat) (ts : List Tok) (hr : Lx.room ts ≤ 17592186044416) (hm : Lx.may ts = true) (w : World) (hT : Tabs w) (h : ToksAt w (.slice a0 ts.length cap) ts) : Calls Tryd.prog 16 #[.slice a0 ts.length cap] w (Ret (.string (str (Lx.print ts))) w) := by
  have HM := Lib.hid (may_any _ ts hr w hT h)
  rw [hm] at HM
  rw [print_yes hm]
  have HRo := Lib.hid hr
  have HMy := Lib.hid hm
  have HT := Lib.hid hT
  have H := Lib.hid h
  have hn1 : ts.length ≤ 9223372036854775807 := by have := h.2.1; unfold maxLen at this; omega
  clear hm h hr hT
  go_enter Tryd.func16, Tryd.ntmps16
  go_wp2_with fail
  refine HM.out.mono ?_
  rintro e w1 ⟨rfl, hb1⟩
  have HB1 : Hid (Below w.heap.size w (w1.alloc (.cells #[.pointer none, .slice none 0 0] 54))) := Lib.hid (below_step hb1 (below_alloc _ _))
  have HBL0 := Lib.hid (bld_fresh w1)
  have HW1 : Hid (w.heap.size ≤ w1.heap.size) := Lib.hid hb1.size
  have HBb : Hid (Below w1.heap.size w1 (w1.alloc (.cells #[.pointer none, .slice none 0 0] 54))) := Lib.hid (below_alloc _ _)
  have HC1 := Lib.hid hb1
  clear hb1
  go_wp2_with fail
  go_loopw [11] (fun iv wr => ∃ (k : Nat) (u : List UInt8), k ≤ ts.length ∧ iv = .int .i64 k ∧ Hid (u = Lx.prs (ts.take k)) ∧ Hid (Bld w1.heap.size w1.heap.size u wr) ∧ Hid (Below w1.heap.size w1 wr)) (fun iv _ => ts.length - (intOf iv).toNat)
  case atStart => exact ⟨0, [], Nat.zero_le _, rfl, Lib.hid rfl, HBL0, HBb⟩
  case round =>
    obtain ⟨k, u, hk, rfl, HU, HL, HB⟩ := hrel
    clear HBL0 HBb HB1
    by_cases hlt : k < ts.length
    · obtain ⟨t, ht⟩ : ∃ t, ts[k]? = some t := ⟨_, List.getElem?_eq_getElem hlt⟩
      obtain ⟨b, o, cp, ec, hq⟩ := H.out.2.2 (by omega)
      obtain ⟨rfl, rfl⟩ : a0 = some ⟨b, o, none⟩ ∧ cap = cp := by injection ec with a1 a2 a3; exact ⟨a1, a3⟩
      have HRm := Lib.hid (Lx.text_room (List.mem_of_getElem? ht))
      have HP := Lib.hid (Lx.prs_take ht)
      have HPc := Lib.hid (prT_is (may_all HMy.out ht))
      have HPl := Lib.hid (prT_len t)
      have HUl : Hid (u.length ≤ Lx.room ts) := Lib.hid (by
        have h1 := Lx.prs_len (ts.take k)
        have h2 := Lx.room_take ts k
        rw [HU.out]
        omega)
      have cP := Lib.hid (fun w hT => printed_any t (by have h := HRm.out; have h3 := HRo.out; omega) w hT)
      have DT := hq k _ ht
      obtain ⟨P, hP⟩ : ∃ P, P = str (prT t) := ⟨_, rfl⟩
      have HPd : Hid (P.data.toList = prT t) := Lib.hid (by rw [hP, str_data])
      have HPs : Hid (P.size ≤ 2 * t.text.length + 1) := Lib.hid (by rw [Lib.size_eq, HPd.out]; exact HPl.out)
      rw [← hP] at cP
      obtain ⟨K, S, A⟩ := t
      have HB9 := Lib.hid (HC1.out.trans (HB.out.mono HW1.out))
      have d1 := cell_below HB9.out DT.k
      have d2 := cell_below HB9.out DT.s
      have d3 := cell_below HB9.out DT.a
      unfold tokV at cP
      simp only [] at d1 d2 d3 cP
      have k0 : (0 : Int) ≤ (k : Int) := by omega
      have k1 : (k : Int) < (ts.length : Int) := by omega
      have HA9 := Lib.hid (below_alloc wr (.cells #[.int .i64 K, .string (str S), .int .i64 A] 38))
      have HT9 := Lib.hid (HT.out.mono HB9.out)
      have HB2 := Lib.hid (HB.out.alloc HB.out.size (.cells #[.int .i64 K, .string (str S), .int .i64 A] 38))
      have HL2 := Lib.hid (bld_kept HL.out HA9.out)
      have HT2 := Lib.hid (HT9.out.mono HA9.out)
      have HNe : Hid (w1.heap.size < wr.heap.size) := Lib.hid (bld_lt HL.out)
      clear hq ec DT ht hP
      by_cases hk0 : k = 0
      · have hki : ¬ (0 : Int) < (k : Int) := by omega
        have HK0 := Lib.hid hk0
        clear hk0
        go_wp2_with fail
        refine (cP.out _ HT2.out).mono ?_
        rintro e w3 ⟨rfl, hb3⟩
        have HL3 := Lib.hid (bld_kept HL2.out hb3)
        have HB3 := Lib.hid (HB2.out.trans (hb3.mono HB2.out.size))
        clear hb3
        go_wp2_with fail
        refine (text_bld w1.heap.size w1.heap.size _ P _ HL3.out (by have h1 := HUl.out; have h2 := HRm.out; have h3 := HRo.out; have h4 := HPs.out; omega) HB3.out.size).mono ?_
        rintro e w4 ⟨rfl, hl4, hb4⟩
        have HL4 := Lib.hid hl4
        have HB4 := Lib.hid (HB3.out.trans hb4)
        clear hl4 hb4
        go_wp2_with fail
        go_roundw
        case rel => exact ⟨k + 1, _, by omega, by go_num, Lib.hid (by rw [HP.out, if_pos HK0.out, List.append_nil, ← HU.out, HPd.out, ← HPc.out]; rfl), HL4, HB4⟩
        case measure => simp [intOf]; omega
      · have hki : (0 : Int) < (k : Int) := by omega
        have HK0 := Lib.hid hk0
        clear hk0
        go_wp2_with fail
        refine (byte_bld_k w1.heap.size w1.heap.size _ 32 _ HL2.out (by have h1 := HUl.out; have h3 := HRo.out; omega) HB2.out.size).mono ?_
        rintro e w5 ⟨rfl, hl5, hb5, hk5⟩
        have HL5 := Lib.hid hl5
        have HB5 := Lib.hid (HB2.out.trans hb5)
        have HT5 := Lib.hid (HT.out.mono (HC1.out.trans (HB5.out.mono HW1.out)))
        have hbk := tok_kept hk5 (by have := HNe.out; omega)
        have n0 := hbk.1
        have n1 := hbk.2.1
        have n2 := hbk.2.2
        clear hl5 hb5 hk5 hbk
        go_wp2_with fail
        refine (cP.out _ HT5.out).mono ?_
        rintro e w3 ⟨rfl, hb3⟩
        have HL3 := Lib.hid (bld_kept HL5.out hb3)
        have HB3 := Lib.hid (HB5.out.trans (hb3.mono HB5.out.size))
        clear hb3
        go_wp2_with fail
        refine (text_bld w1.heap.size w1.heap.size _ P _ HL3.out (by have h1 := HUl.out; have h2 := HRm.out; have h3 := HRo.out; have h4 := HPs.out; rw [List.length_append, List.length_singleton]; omega) HB3.out.size).mono ?_
        rintro e w4 ⟨rfl, hl4, hb4⟩
        have HL4 := Lib.hid hl4
        have HB4 := Lib.hid (HB3.out.trans hb4)
        clear hl4 hb4
        go_wp2_with fail
        go_roundw
        case rel => exact ⟨k + 1, _, by omega, by go_num, Lib.hid (by rw [HP.out, if_neg HK0.out, ← HU.out, HPd.out, ← HPc.out]; rfl), HL4, HB4⟩
        case measure => simp [intOf]; omega
    · have HTk : Hid (ts.take k = ts) := Lib.hid (List.take_of_length_le (by omega))
      go_wp2_with fail
      refine (string_bld w1.heap.size w1.heap.size _ _ HL.out HB.out.size).mono ?_
      rintro e w2 ⟨rfl, hb2⟩
      have HB2 := Lib.hid (HC1.out.trans ((HB.out.trans hb2).mono HW1.out))
      clear hb2
      go_wp2_with fail
      go_ret
      exact ⟨ret_str (by rw [str_data, ← HTk.out, ← HU.out]), HB2.out⟩

/-- The program's Print, at every slice of tokens whose texts are not too long. -/
theorem print_any (v : Value) (ts : List Tok) (hr : Lx.room ts ≤ 17592186044416) (w : World) (hT : Tabs w) (h : ToksAt w v ts) : Calls Tryd.prog 16 #[v] w (Ret (.string (str (Lx.print ts))) w) := by
  cases hm : Lx.may ts with
  | false => exact print_bad v ts hr hm w hT h
  | true =>
    obtain ⟨a, c, e, _⟩ := h.1
    subst e
    exact print_good a c ts hr hm w hT h
end Go.Proofs.YtjlnffdklhmonaaDoor
