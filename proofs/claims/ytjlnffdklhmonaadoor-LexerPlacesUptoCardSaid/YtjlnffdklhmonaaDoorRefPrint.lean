/-
  The reference's Print: tokens that may be, one behind the other, with single blanks between them.
-/
import Derived.Test.YtjlnffdklhmonaaDoorRefMay
import Derived.Test.YtjlnffdklhmonaaDoorRefEscape
import Derived.Test.YtjlnffdklhmonaaDoorPrints
set_option linter.unusedVariables false
set_option linter.unusedSimpArgs false
namespace Go.Proofs.YtjlnffdklhmonaaDoor
open Go.RowKit

theorem escape_str (S : List UInt8) (h : S.length ≤ 70368744177664) (w : World) : Calls Tryd.prog 19 #[.string (str S)] w (Is (.string (str (Lx.escape S))) w) := by
  have h1 := refEscapeAll_any (str S) (by rw [str_size]; exact h) w
  rw [str_data] at h1
  exact h1
theorem out_one (u X : ByteArray) (l : List UInt8) (h : X.data.toList = l) : (u ++ X).data.toList = u.data.toList ++ l := by rw [cat_text, h]
theorem out_two (u X : ByteArray) (l : List UInt8) (h : X.data.toList = l) : (u ++ ⟨#[32]⟩ ++ X).data.toList = u.data.toList ++ [32] ++ l := by rw [cat_text, cat_text, h]
theorem may_all {ts : List Tok} (h : Lx.may ts = true) {k : Nat} {t : Tok} (ht : ts[k]? = some t) : Lx.mayT t = true := List.all_eq_true.1 h t (List.mem_of_getElem? ht)
theorem print_no {ts : List Tok} (h : Lx.may ts = false) : Lx.print ts = [] := by unfold Lx.print; rw [h]; rfl
theorem print_yes {ts : List Tok} (h : Lx.may ts = true) : Lx.print ts = Lx.prs ts := by unfold Lx.print; rw [if_pos h]

set_option maxHeartbeats 1000000 in
set_option maxRecDepth 100000 in
theorem refPrint_bad (v : Value) (ts : List Tok) (hr : Lx.room ts ≤ 17592186044416) (hm : Lx.may ts = false) (w : World) (h : ToksAt w v ts) : Calls Tryd.prog 17 #[v] w (Ret (.string (str (Lx.print ts))) w) := by
  have HM := Lib.hid (refMay_any v ts (fun t ht => by have := Lx.text_room ht; omega) w h)
  rw [hm] at HM
  rw [print_no hm]
  clear hm h hr
  go_enter Tryd.func17, Tryd.ntmps17
  go_wp2_with fail
  refine HM.out.mono ?_
  rintro e w1 ⟨rfl, hb1⟩
  have HB := Lib.hid hb1
  clear hb1
  go_wp2_with fail
  go_ret
  exact ⟨rfl, HB.out⟩

set_option maxHeartbeats 8000000 in
set_option maxRecDepth 100000 in
theorem refPrint_good (a0 : Option Addr) (cap : Nat) (ts : List Tok) (hr : Lx.room ts ≤ 17592186044416) (hm : Lx.may ts = true) (w : World) (h : ToksAt w (.slice a0 ts.length cap) ts) : Calls Tryd.prog 17 #[.slice a0 ts.length cap] w (Ret (.string (str (Lx.print ts))) w) := by
  have HM := Lib.hid (refMay_any _ ts (fun t ht => by have := Lx.text_room ht; omega) w h)
  rw [hm] at HM
  rw [print_yes hm]
  have HRo := Lib.hid hr
  have HMy := Lib.hid hm
  have H := Lib.hid h
  have hn1 : ts.length ≤ 9223372036854775807 := by have := h.2.1; unfold maxLen at this; omega
  clear hm h hr
  go_enter Tryd.func17, Tryd.ntmps17
  go_wp2_with fail
  refine HM.out.mono ?_
  rintro e w1 ⟨rfl, hb1⟩
  have HB1 := Lib.hid hb1
  clear hb1
  go_wp2_with fail
  go_loopw [3, 4] (fun ov iv wr => ∃ (k : Nat) (u : ByteArray), k ≤ ts.length ∧ iv = .int .i64 k ∧ ov = .string u ∧ Hid (u.data.toList = Lx.prs (ts.take k)) ∧ Hid (Below w.heap.size w wr)) (fun _ iv _ => ts.length - (intOf iv).toNat)
  case atStart => exact ⟨0, ByteArray.empty, Nat.zero_le _, rfl, rfl, Lib.hid rfl, HB1⟩
  case round =>
    obtain ⟨k, u, hk, rfl, rfl, HU, HB⟩ := hrel
    by_cases hlt : k < ts.length
    · obtain ⟨⟨K, S, A⟩, ht⟩ : ∃ t, ts[k]? = some t := ⟨_, List.getElem?_eq_getElem hlt⟩
      obtain ⟨b, o, cp, ec, hq⟩ := H.out.2.2 (by omega)
      obtain ⟨rfl, rfl⟩ : a0 = some ⟨b, o, none⟩ ∧ cap = cp := by injection ec with a1 a2 a3; exact ⟨a1, a3⟩
      have DT := hq k _ ht
      have d1 := cell_below HB.out DT.k
      have d2 := cell_below HB.out DT.s
      simp only [] at d1 d2
      have k0 : (0 : Int) ≤ (k : Int) := by omega
      have k1 : (k : Int) < (ts.length : Int) := by omega
      have HP := Lib.hid (Lx.prs_take ht)
      have HRm := Lib.hid (Lx.text_room (List.mem_of_getElem? ht))
      have HUl : Hid (u.size ≤ Lx.room ts) := Lib.hid (by
        have h1 := Lx.prs_len (ts.take k)
        have h2 := Lx.room_take ts k
        rw [Lib.size_eq, HU.out]
        omega)
      have hm := Lx.may_cases (may_all HMy.out ht)
      simp only [] at hm
      clear hq ec DT ht
      by_cases hk0 : k = 0
      · have hki : ¬ (0 : Int) < (k : Int) := by omega
        have HK0 := Lib.hid hk0
        clear hk0
        rcases hm with ⟨rfl, _, _, _⟩ | ⟨rfl, _, _⟩ | ⟨rfl, hS⟩ | ⟨rfl, hS⟩
        · have cE := Lib.hid (fun w => escape_str S (by have h := HRm.out; have h3 := HRo.out; simp only [] at h; omega) w)
          have hb1 : ¬ 9223372036854775807 < u.size + (str (Lx.escape S)).size := by
            have h1 := HUl.out
            have h2 := HRm.out
            have h3 := HRo.out
            have h4 := Lx.esc_len S.length S (Nat.le_refl _)
            rw [str_size]
            simp only [] at h2
            omega
          go_wp2_with fail
          refine (cE.out _).mono ?_
          rintro e w4 ⟨rfl, rfl⟩
          go_wp2_with fail
          go_roundw
          case rel => exact ⟨k + 1, _, by omega, by go_num, rfl, Lib.hid (by rw [HP.out, if_pos HK0.out, List.append_nil, ← HU.out]; exact out_one u _ _ (by rw [str_data]; rfl)), HB⟩
          case measure => simp [intOf]; omega
        · have hb1 : ¬ 9223372036854775807 < u.size + (1 + (str S).size) := by
            have h1 := HUl.out
            have h2 := HRm.out
            have h3 := HRo.out
            rw [str_size]
            simp only [] at h2
            omega
          have hb2 : ¬ 9223372036854775807 < 1 + (str S).size := by
            have h2 := HRm.out
            have h3 := HRo.out
            rw [str_size]
            simp only [] at h2
            omega
          go_wp2_with fail
          go_roundw
          case rel => exact ⟨k + 1, _, by omega, by go_num, rfl, Lib.hid (by rw [HP.out, if_pos HK0.out, List.append_nil, ← HU.out]; exact out_one u _ _ (by rw [cat_text, str_data]; rfl)), HB⟩
          case measure => simp [intOf]; omega
        · have hb1 : ¬ 9223372036854775807 < u.size + 1 := by
            have h1 := HUl.out
            have h2 := HRm.out
            have h3 := HRo.out
            omega
          go_wp2_with fail
          go_roundw
          case rel => exact ⟨k + 1, _, by omega, by go_num, rfl, Lib.hid (by rw [HP.out, if_pos HK0.out, List.append_nil, ← HU.out]; exact out_one u _ _ (by rfl)), HB⟩
          case measure => simp [intOf]; omega
        · have hb1 : ¬ 9223372036854775807 < u.size + 1 := by
            have h1 := HUl.out
            have h2 := HRm.out
            have h3 := HRo.out
            omega
          go_wp2_with fail
          go_roundw
          case rel => exact ⟨k + 1, _, by omega, by go_num, rfl, Lib.hid (by rw [HP.out, if_pos HK0.out, List.append_nil, ← HU.out]; exact out_one u _ _ (by rfl)), HB⟩
          case measure => simp [intOf]; omega
      · have hki : (0 : Int) < (k : Int) := by omega
        have hb0 : ¬ 9223372036854775807 < u.size + 1 := by have h1 := HUl.out; have h3 := HRo.out; omega
        rcases hm with ⟨rfl, _, _, _⟩ | ⟨rfl, _, _⟩ | ⟨rfl, hS⟩ | ⟨rfl, hS⟩
        · have cE := Lib.hid (fun w => escape_str S (by have h := HRm.out; have h3 := HRo.out; simp only [] at h; omega) w)
          have hb1 : ¬ 9223372036854775807 < u.size + 1 + (str (Lx.escape S)).size := by
            have h1 := HUl.out
            have h2 := HRm.out
            have h3 := HRo.out
            have h4 := Lx.esc_len S.length S (Nat.le_refl _)
            rw [str_size]
            simp only [] at h2
            omega
          go_wp2_with fail
          refine (cE.out _).mono ?_
          rintro e w4 ⟨rfl, rfl⟩
          go_wp2_with fail
          go_roundw
          case rel => exact ⟨k + 1, _, by omega, by go_num, rfl, Lib.hid (by rw [HP.out, if_neg hk0, ← HU.out]; exact out_two u _ _ (by rw [str_data]; rfl)), HB⟩
          case measure => simp [intOf]; omega
        · have hb1 : ¬ 9223372036854775807 < u.size + 1 + (1 + (str S).size) := by
            have h1 := HUl.out
            have h2 := HRm.out
            have h3 := HRo.out
            rw [str_size]
            simp only [] at h2
            omega
          have hb2 : ¬ 9223372036854775807 < 1 + (str S).size := by
            have h2 := HRm.out
            have h3 := HRo.out
            rw [str_size]
            simp only [] at h2
            omega
          go_wp2_with fail
          go_roundw
          case rel => exact ⟨k + 1, _, by omega, by go_num, rfl, Lib.hid (by rw [HP.out, if_neg hk0, ← HU.out]; exact out_two u _ _ (by rw [cat_text, str_data]; rfl)), HB⟩
          case measure => simp [intOf]; omega
        · have hb1 : ¬ 9223372036854775807 < u.size + 1 + 1 := by
            have h1 := HUl.out
            have h2 := HRm.out
            have h3 := HRo.out
            omega
          go_wp2_with fail
          go_roundw
          case rel => exact ⟨k + 1, _, by omega, by go_num, rfl, Lib.hid (by rw [HP.out, if_neg hk0, ← HU.out]; exact out_two u _ _ (by rfl)), HB⟩
          case measure => simp [intOf]; omega
        · have hb1 : ¬ 9223372036854775807 < u.size + 1 + 1 := by
            have h1 := HUl.out
            have h2 := HRm.out
            have h3 := HRo.out
            omega
          go_wp2_with fail
          go_roundw
          case rel => exact ⟨k + 1, _, by omega, by go_num, rfl, Lib.hid (by rw [HP.out, if_neg hk0, ← HU.out]; exact out_two u _ _ (by rfl)), HB⟩
          case measure => simp [intOf]; omega
    · have HT : Hid (ts.take k = ts) := Lib.hid (List.take_of_length_le (by omega))
      go_wp2_with fail
      go_ret
      exact ⟨ret_str (by rw [str_data, HU.out, HT.out]), HB.out⟩

/-- The reference's Print, at every slice of tokens whose texts are not too long. -/
theorem refPrint_any (v : Value) (ts : List Tok) (hr : Lx.room ts ≤ 17592186044416) (w : World) (h : ToksAt w v ts) : Calls Tryd.prog 17 #[v] w (Ret (.string (str (Lx.print ts))) w) := by
  cases hm : Lx.may ts with
  | false => exact refPrint_bad v ts hr hm w h
  | true =>
    obtain ⟨a, c, e, _⟩ := h.1
    subst e
    exact refPrint_good a c ts hr hm w h
end Go.Proofs.YtjlnffdklhmonaaDoor
