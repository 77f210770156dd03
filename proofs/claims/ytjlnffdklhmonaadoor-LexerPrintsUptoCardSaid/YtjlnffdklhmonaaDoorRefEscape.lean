/-
  The reference's Escape: a text escaped.
-/
import Derived.Test.YtjlnffdklhmonaaDoorRefWord
import Derived.Test.YtjlnffdklhmonaaDoorToks
set_option linter.unusedVariables false
set_option linter.unusedSimpArgs false
namespace Go.Proofs.YtjlnffdklhmonaaDoor
open Go.RowKit

theorem escape_len : ∀ (k : Nat) (l : List UInt8), l.length ≤ k → (Lx.escape l).length ≤ 2 * l.length
  | _, [], _ => Nat.le_refl _
  | 0, _ :: _, h => by simp at h
  | k + 1, [c], _ => by rw [Lx.escape_one]; split <;> simp
  | k + 1, c :: d :: r, h => by
    simp only [List.length_cons] at h
    rw [Lx.escape_two]
    split
    · have := escape_len k r (by omega)
      simp only [List.length_cons]
      omega
    · have := escape_len k (d :: r) (by simp; omega)
      simp only [List.length_append, List.length_cons] at this ⊢
      split <;> simp <;> omega
theorem cat_two (u a b : ByteArray) (x y : UInt8) (ha : a.data.toList = [x]) (hb : b.data.toList = [y]) : (u ++ a ++ b).data.toList = u.data.toList ++ [x, y] := by
  rw [cat_text, cat_text, ha, hb, List.append_assoc]; rfl
theorem escape_next (c : UInt8) (r : List UInt8) (h : ∀ d q, r = d :: q → Lx.soft c d = false) : Lx.escape (c :: r) = (if Lx.special c then [92, c] else [c]) ++ Lx.escape r := by
  cases r with
  | nil => rw [Lx.escape_one]; show _ = _ ++ []; rw [List.append_nil]
  | cons d q => rw [Lx.escape_two, h d q rfl]; rfl
def Eread (l u m : List UInt8) : Prop := Lx.escape l = u ++ Lx.escape m
theorem Eread.next {l u u' t m m' : List UInt8} (h : Eread l u m) (hw : Lx.escape m = t ++ Lx.escape m') (hu : u' = u ++ t) : Eread l u' m' := by
  unfold Eread at h ⊢
  rw [h, hw, hu, List.append_assoc]

set_option maxHeartbeats 2000000 in
set_option maxRecDepth 100000 in
theorem refEscapeAll_any (s : ByteArray) (hs : s.size ≤ 70368744177664) (w : World) :
    Calls Tryd.prog 19 #[.string s] w (Is (.string (str (Lx.escape s.data.toList))) w) := by
  have HLe : Hid ((Lx.escape s.data.toList).length ≤ 2 * s.size) := Lib.hid (by have h := escape_len s.data.toList.length s.data.toList (Nat.le_refl _); rw [← Lib.size_eq] at h; exact h)
  have HS := Lib.hid hs
  go_enter Tryd.func19, Tryd.ntmps19
  go_wp2_with fail
  go_loopw [3, 4] (fun ov av wr => ∃ (j : Nat) (u : ByteArray), av = .int .i64 j ∧ ov = .string u ∧ j ≤ s.size ∧ Hid (Eread s.data.toList u.data.toList (s.data.toList.drop j)) ∧ wr = w) (fun _ av _ => s.size - (intOf av).toNat)
  case atStart => exact ⟨0, ByteArray.empty, rfl, rfl, Nat.zero_le _, Lib.hid (by show _ = _; simp), rfl⟩
  case round =>
    obtain ⟨j, u, rfl, rfl, hj, HW, rfl⟩ := hrel
    have HUl : Hid (u.size ≤ 2 * s.size) := Lib.hid (by
      have h1 := HLe.out
      have h2 := HW.out
      unfold Eread at h2
      rw [h2, List.length_append] at h1
      rw [Lib.size_eq]
      omega)
    by_cases hlt : j < s.size
    · have hd := drop_head s j hlt
      have j0 : (0 : Int) ≤ (j : Int) := by omega
      have j1 : (j : Int) < (s.size : Int) := by omega
      have hbig : ¬ 9223372036854775807 < u.size + 2 := by have := HUl.out; omega
      have hbig1 : ¬ 9223372036854775807 < u.size + 1 := by omega
      have hsz1 : (s.extract j (j + 1)).size = 1 := by rw [Lib.size_eq, slice_one s j hlt]; rfl
      have hbig2 : ¬ 9223372036854775807 < u.size + (s.extract j (j + 1)).size := by rw [hsz1]; omega
      have hbig3 : ¬ 9223372036854775807 < u.size + 1 + (s.extract j (j + 1)).size := by rw [hsz1]; omega
      have HE := Lib.hid (slice_one s j hlt)
      have cS := Lib.hid (fun w => refSpecial_any s[j] w)
      clear hsz1
      by_cases h2 : j + 1 < s.size
      · have j2 : (j : Int) + 1 < (s.size : Int) := by omega
        have hd2 := drop_head s (j + 1) h2
        by_cases hc : s[j].toNat = 194
        · have hci : (s[j].toNat : Int) = 194 := by omega
          by_cases hq : s[j + 1].toNat = 173
          · have hqi : (s[j + 1].toNat : Int) = 173 := by omega
            have HN : Hid (Lx.escape (s.data.toList.drop j) = [92, 45] ++ Lx.escape (s.data.toList.drop (j + 2))) := Lib.hid (by rw [hd, hd2, Lx.escape_two, if_pos (by unfold Lx.soft; exact decide_eq_true ⟨hc, hq⟩)]; rfl)
            clear hc hq hd hd2 cS
            go_wp2_with fail
            go_roundw
            case rel => exact ⟨j + 2, _, by go_num, rfl, by omega, Lib.hid (HW.out.next HN.out (cat_text _ _)), by trivial⟩
            case measure => simp [intOf]; omega
          · have hqi : ((s[j + 1].toNat : Int) == 173) = false := bne0 (by omega)
            have HN : Hid (Lx.escape (s.data.toList.drop j) = (if Lx.special s[j] then [92, s[j]] else [s[j]]) ++ Lx.escape (s.data.toList.drop (j + 1))) := Lib.hid (by
              rw [hd]
              refine escape_next _ _ (fun d q e => ?_)
              rw [hd2] at e
              injection e with e _
              subst e
              exact decide_eq_false (fun h => hq h.2))
            have hsp : Lx.special s[j] = false := decide_eq_false (by omega)
            have HN2 : Hid (Lx.escape (s.data.toList.drop j) = [s[j]] ++ Lx.escape (s.data.toList.drop (j + 1))) := Lib.hid (by rw [HN.out, hsp]; rfl)
            have cS' : Hid (∀ w, Calls Tryd.prog 40 #[.int .u8 194] w (Is (.bool false) w)) := Lib.hid (fun w => by have h := cS.out w; rw [hsp, hci] at h; exact h)
            clear hc hq hd hd2 hsp cS
            go_wp2_with fail
            refine (cS'.out _).mono ?_
            rintro e w1 ⟨rfl, rfl⟩
            go_wp2_with fail
            go_roundw
            case rel => exact ⟨j + 1, _, by go_num, rfl, by omega, Lib.hid (HW.out.next (t := [s[j]]) HN2.out (by rw [cat_text, HE.out])), by trivial⟩
            case measure => simp [intOf]; omega
        · have hci : ((s[j].toNat : Int) == 194) = false := bne0 (by omega)
          have HN : Hid (Lx.escape (s.data.toList.drop j) = (if Lx.special s[j] then [92, s[j]] else [s[j]]) ++ Lx.escape (s.data.toList.drop (j + 1))) := Lib.hid (by
            rw [hd]
            exact escape_next _ _ (fun d q e => decide_eq_false (fun h => hc h.1)))
          clear hc hd hd2
          cases hsp : Lx.special s[j] with
          | true =>
            have HN2 : Hid (Lx.escape (s.data.toList.drop j) = [92, s[j]] ++ Lx.escape (s.data.toList.drop (j + 1))) := Lib.hid (by rw [HN.out, hsp]; rfl)
            rw [hsp] at cS
            clear hsp
            go_wp2_with fail
            refine (cS.out _).mono ?_
            rintro e w1 ⟨rfl, rfl⟩
            go_wp2_with fail
            go_roundw
            case rel => exact ⟨j + 1, _, by go_num, rfl, by omega, Lib.hid (HW.out.next (t := [92, s[j]]) HN2.out (cat_two u ⟨#[92]⟩ _ _ _ rfl HE.out)), by trivial⟩
            case measure => simp [intOf]; omega
          | false =>
            have HN2 : Hid (Lx.escape (s.data.toList.drop j) = [s[j]] ++ Lx.escape (s.data.toList.drop (j + 1))) := Lib.hid (by rw [HN.out, hsp]; rfl)
            rw [hsp] at cS
            clear hsp
            go_wp2_with fail
            refine (cS.out _).mono ?_
            rintro e w1 ⟨rfl, rfl⟩
            go_wp2_with fail
            go_roundw
            case rel => exact ⟨j + 1, _, by go_num, rfl, by omega, Lib.hid (HW.out.next (t := [s[j]]) HN2.out (by rw [cat_text, HE.out])), by trivial⟩
            case measure => simp [intOf]; omega
      · have j2 : ¬ ((j : Int) + 1 < (s.size : Int)) := by omega
        have HN : Hid (Lx.escape (s.data.toList.drop j) = (if Lx.special s[j] then [92, s[j]] else [s[j]]) ++ Lx.escape (s.data.toList.drop (j + 1))) := Lib.hid (by
          rw [hd]
          refine escape_next _ _ (fun d q e => ?_)
          rw [drop_end s (j + 1) (by omega)] at e
          cases e)
        clear hd
        cases hsp : Lx.special s[j] with
        | true =>
          have HN2 : Hid (Lx.escape (s.data.toList.drop j) = [92, s[j]] ++ Lx.escape (s.data.toList.drop (j + 1))) := Lib.hid (by rw [HN.out, hsp]; rfl)
          rw [hsp] at cS
          clear hsp
          go_wp2_with fail
          refine (cS.out _).mono ?_
          rintro e w1 ⟨rfl, rfl⟩
          go_wp2_with fail
          go_roundw
          case rel => exact ⟨j + 1, _, by go_num, rfl, by omega, Lib.hid (HW.out.next (t := [92, s[j]]) HN2.out (cat_two u ⟨#[92]⟩ _ _ _ rfl HE.out)), by trivial⟩
          case measure => simp [intOf]; omega
        | false =>
          have HN2 : Hid (Lx.escape (s.data.toList.drop j) = [s[j]] ++ Lx.escape (s.data.toList.drop (j + 1))) := Lib.hid (by rw [HN.out, hsp]; rfl)
          rw [hsp] at cS
          clear hsp
          go_wp2_with fail
          refine (cS.out _).mono ?_
          rintro e w1 ⟨rfl, rfl⟩
          go_wp2_with fail
          go_roundw
          case rel => exact ⟨j + 1, _, by go_num, rfl, by omega, Lib.hid (HW.out.next (t := [s[j]]) HN2.out (by rw [cat_text, HE.out])), by trivial⟩
          case measure => simp [intOf]; omega
    · have HEnd : Hid (s.data.toList.drop j = []) := Lib.hid (drop_end s j (by omega))
      go_wp2_with fail
      go_ret
      have h := HW.out
      unfold Eread at h
      rw [HEnd.out] at h
      exact ⟨ret_str (by rw [str_data, h]; show _ = u.data.toList ++ []; rw [List.append_nil]), rfl⟩
end Go.Proofs.YtjlnffdklhmonaaDoor
