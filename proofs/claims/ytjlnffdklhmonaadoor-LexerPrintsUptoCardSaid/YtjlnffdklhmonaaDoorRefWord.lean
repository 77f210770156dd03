/-
  The reference's word: what a word's bytes stand for, and where it ends.
-/
import Derived.Test.YtjlnffdklhmonaaDoorBytes5
set_option linter.unusedVariables false
set_option linter.unusedSimpArgs false
namespace Go.Proofs.YtjlnffdklhmonaaDoor
open Go.RowKit

theorem word_len : ∀ (k : Nat) (l : List UInt8), l.length ≤ k → (Lx.word l).1.length ≤ (Lx.word l).2
  | _, [], _ => Nat.le_refl _
  | 0, _ :: _, h => by simp at h
  | k + 1, [c], _ => by rw [Lx.word_one]; split <;> simp
  | k + 1, c :: d :: r, h => by
    simp only [List.length_cons] at h
    rw [Lx.word_two]
    split
    · have := word_len k r (by omega)
      have he : (Lx.esc d).length ≤ 2 := by unfold Lx.esc; split <;> simp
      simp only [List.length_append]
      omega
    · split
      · simp
      · have := word_len k (d :: r) (by simp; omega)
        simp only [List.length_cons]
        omega
theorem word_le (l : List UInt8) : (Lx.word l).1.length ≤ l.length := Nat.le_trans (word_len l.length l (Nat.le_refl _)) (Lx.word_is l.length l (Nat.le_refl _)).1
theorem slice_one (s : ByteArray) (k : Nat) (h : k < s.size) : (s.extract k (k + 1)).data.toList = [s[k]] := by
  rw [ByteArray.data_extract, Array.toList_extract]
  have h1 := drop_head s k h
  simp only [List.extract_eq_take_drop] at *
  rw [h1, show k + 1 - k = 1 by omega]
  rfl
/-- what is read of a word, and what is still to be read -/
def Wread (l : List UInt8) (k j : Nat) (u m : List UInt8) : Prop := Lx.word l = (u ++ (Lx.word m).1, j - k + (Lx.word m).2)
theorem Wread.next {l u u' t m m' : List UInt8} {k j n : Nat} (h : Wread l k j u m) (hw : Lx.word m = (t ++ (Lx.word m').1, (Lx.word m').2 + n)) (hu : u' = u ++ t) (hk : k ≤ j) : Wread l k (j + n) u' m' := by
  unfold Wread at h ⊢
  rw [h, hw, hu, List.append_assoc]
  exact Prod.ext rfl (by simp only []; omega)
theorem cat_text (s t : ByteArray) : (s ++ t).data.toList = s.data.toList ++ t.data.toList := by rw [ByteArray.data_append, Array.toList_append]
theorem ret_wrd {a : ByteArray} {n m : Int} {l : List UInt8} (h : a.data.toList = l) (hn : n = m) : Ending.returned (.tuple #[.string a, .int .i64 n]) = .returned (.tuple #[.string ⟨l.toArray⟩, .int .i64 m]) := by
  obtain ⟨⟨a⟩⟩ := a; simp at h; rw [← h, hn]

set_option maxHeartbeats 4000000 in
set_option maxRecDepth 100000 in
theorem refWord_any (s : ByteArray) (k : Nat) (hk : k ≤ s.size) (hs : s.size ≤ 140737488355328) (w : World) :
    Calls Tryd.prog 32 #[.string s, .int .i64 (k : Int)] w (Is (.tuple #[.string ⟨(Lx.word (s.data.toList.drop k)).1.toArray⟩, .int .i64 ((k : Int) + ((Lx.word (s.data.toList.drop k)).2 : Int))]) w) := by
  have hlen : (s.data.toList.drop k).length = s.size - k := by rw [List.length_drop, ← Lib.size_eq]
  have HLe : Hid ((Lx.word (s.data.toList.drop k)).1.length ≤ s.size) := Lib.hid (Nat.le_trans (word_le _) (by omega))
  have HK := Lib.hid hk
  have HS := Lib.hid hs
  clear hlen hk
  go_enter Tryd.func32, Tryd.ntmps32
  go_wp2_with fail
  go_loopw [1, 6] (fun av ov wr => ∃ (j : Nat) (u : ByteArray), av = .int .i64 j ∧ ov = .string u ∧ k ≤ j ∧ j ≤ s.size ∧ Hid (Wread (s.data.toList.drop k) k j u.data.toList (s.data.toList.drop j)) ∧ wr = w) (fun av _ _ => s.size - (intOf av).toNat)
  case atStart => exact ⟨k, ByteArray.empty, rfl, rfl, Nat.le_refl _, HK.out, Lib.hid (by show _ = _; simp), rfl⟩
  case round =>
    obtain ⟨j, u, rfl, rfl, hkj, hj, HW, rfl⟩ := hrel
    have HUl : Hid (u.size ≤ s.size) := Lib.hid (by
      have h1 := HLe.out
      have h2 := HW.out
      unfold Wread at h2
      rw [h2, List.length_append] at h1
      rw [Lib.size_eq]
      omega)
    by_cases hlt : j < s.size
    · have hd := drop_head s j hlt
      have cE := Lib.hid (fun w => refEscape_any s j hlt (by have := HS.out; omega) w)
      have j0 : (0 : Int) ≤ (j : Int) := by omega
      have j1 : (j : Int) < (s.size : Int) := by omega
      have hbig : ¬ 9223372036854775807 < u.size + 2 := by have := HUl.out; omega
      have hbig1 : ¬ 9223372036854775807 < u.size + 1 := by omega
      cases he : escH (s.data.toList.drop j) with
      | true =>
        have h2 : j + 1 < s.size := by
          rcases Nat.lt_or_ge (j + 1) s.size with h | h
          · exact h
          · rw [hd, drop_end s (j + 1) h] at he; cases he
        have hd2 := drop_head s (j + 1) h2
        rw [hd, hd2] at he
        have he' : Lx.bsl s[j] = true ∧ Lx.escd s[j + 1] = true := by
          have : (Lx.bsl s[j] && Lx.escd s[j + 1]) = true := he
          rwa [Bool.and_eq_true] at this
        have hb := Lx.bsl_is he'.1
        have HN : Hid (Lx.word (s.data.toList.drop j) = (Lx.esc s[j + 1] ++ (Lx.word (s.data.toList.drop (j + 2))).1, (Lx.word (s.data.toList.drop (j + 2))).2 + 2)) := Lib.hid (by rw [hd, hd2, hb]; exact Lx.word_esc he'.2 _)
        have cE' : Hid (∀ w, Calls Tryd.prog 48 #[.string s, .int .i64 (j : Int)] w (Is (.bool true) w)) := Lib.hid (fun w => by have h := cE.out w; rw [hd, hd2, he] at h; exact h)
        have j2 : (j : Int) + 1 < (s.size : Int) := by omega
        clear hd hd2 he he' hb cE
        by_cases h45 : s[j + 1].toNat = 45
        · have h45i : (s[j + 1].toNat : Int) = 45 := by omega
          have HE : Hid (Lx.esc s[j + 1] = [194, 173]) := Lib.hid (by unfold Lx.esc; rw [if_pos h45])
          clear h45
          go_wp2_with fail
          refine (cE'.out _).mono ?_
          rintro e w1 ⟨rfl, rfl⟩
          go_wp2_with fail
          go_roundw
          case rel => exact ⟨j + 2, _, by go_num, rfl, by omega, by omega, Lib.hid (HW.out.next HN.out (by rw [HE.out]; simp) hkj), by trivial⟩
          case measure => simp [intOf]; omega
        · have h45i : ((s[j + 1].toNat : Int) == 45) = false := bne0 (by omega)
          have HE : Hid (Lx.esc s[j + 1] = (s.extract (j + 1) (j + 2)).data.toList) := Lib.hid (by unfold Lx.esc; rw [if_neg h45, slice_one s (j + 1) h2])
          have hsz1 : (s.extract (j + 1) (j + 2)).size = 1 := by rw [Lib.size_eq, slice_one s (j + 1) h2]; rfl
          have hbig2 : ¬ 9223372036854775807 < u.size + (s.extract (j + 1) (j + 2)).size := by rw [hsz1]; omega
          clear h45 hsz1
          go_wp2_with fail
          refine (cE'.out _).mono ?_
          rintro e w1 ⟨rfl, rfl⟩
          go_wp2_with fail
          go_roundw
          case rel => exact ⟨j + 2, _, by go_num, rfl, by omega, by omega, Lib.hid (HW.out.next HN.out (by rw [HE.out]; simp) hkj), by trivial⟩
          case measure => simp [intOf]; omega
      | false =>
        have cE' : Hid (∀ w, Calls Tryd.prog 48 #[.string s, .int .i64 (j : Int)] w (Is (.bool false) w)) := Lib.hid (fun w => by have h := cE.out w; rw [he] at h; exact h)
        have cS := Lib.hid (fun w => refSpecial_any s[j] w)
        have cB := Lib.hid (fun w => refBlank_any s[j] w)
        have hword : Lx.ends s[j] = true → Lx.word (s.data.toList.drop j) = ([], 0) := fun h => by
          rw [hd] at he ⊢
          cases hr : s.data.toList.drop (j + 1) with
          | nil => rw [Lx.word_one, h]; rfl
          | cons d r =>
            rw [hr] at he
            have he2 : (Lx.bsl s[j] && Lx.escd d) = false := he
            rw [Lx.word_two, he2, h]; rfl
        have HWd := Lib.hid hword
        have HN : Hid (Lx.ends s[j] = false → Lx.word (s.data.toList.drop j) = (s[j] :: (Lx.word (s.data.toList.drop (j + 1))).1, (Lx.word (s.data.toList.drop (j + 1))).2 + 1)) := Lib.hid (fun h => by rw [hd]; exact Lx.word_plain h _)
        have HE := Lib.hid (slice_one s j hlt)
        have hsz1 : (s.extract j (j + 1)).size = 1 := by rw [Lib.size_eq, slice_one s j hlt]; rfl
        have hbig2 : ¬ 9223372036854775807 < u.size + (s.extract j (j + 1)).size := by rw [hsz1]; omega
        clear he cE hword hd hsz1
        cases hsp : Lx.special s[j] with
        | true =>
          have HW2 := Lib.hid (HWd.out (by unfold Lx.ends; rw [hsp]; rfl))
          rw [hsp] at cS
          clear hsp
          go_wp2_with fail
          refine (cE'.out _).mono ?_
          rintro e w1 ⟨rfl, rfl⟩
          go_wp2_with fail
          refine (cS.out _).mono ?_
          rintro e w1 ⟨rfl, rfl⟩
          go_wp2_with fail
          go_ret2
          have h := HW.out
          unfold Wread at h
          rw [HW2.out, List.append_nil] at h
          exact ⟨ret_wrd (by rw [h]) (by rw [h]; simp only []; omega), rfl⟩
        | false =>
          rw [hsp] at cS
          cases hbl : Lx.blank s[j] with
          | true =>
            have HW2 := Lib.hid (HWd.out (by unfold Lx.ends; rw [hbl]; simp))
            rw [hbl] at cB
            clear hsp hbl
            go_wp2_with fail
            refine (cE'.out _).mono ?_
            rintro e w1 ⟨rfl, rfl⟩
            go_wp2_with fail
            refine (cS.out _).mono ?_
            rintro e w1 ⟨rfl, rfl⟩
            go_wp2_with fail
            refine (cB.out _).mono ?_
            rintro e w1 ⟨rfl, rfl⟩
            go_wp2_with fail
            go_ret2
            have h := HW.out
            unfold Wread at h
            rw [HW2.out, List.append_nil] at h
            exact ⟨ret_wrd (by rw [h]) (by rw [h]; simp only []; omega), rfl⟩
          | false =>
            have HN2 := Lib.hid (HN.out (by unfold Lx.ends; rw [hsp, hbl]; rfl))
            rw [hbl] at cB
            clear hsp hbl
            go_wp2_with fail
            refine (cE'.out _).mono ?_
            rintro e w1 ⟨rfl, rfl⟩
            go_wp2_with fail
            refine (cS.out _).mono ?_
            rintro e w1 ⟨rfl, rfl⟩
            go_wp2_with fail
            refine (cB.out _).mono ?_
            rintro e w1 ⟨rfl, rfl⟩
            go_wp2_with fail
            go_roundw
            case rel => exact ⟨j + 1, _, by go_num, rfl, by omega, by omega, Lib.hid (HW.out.next (t := [s[j]]) HN2.out (by rw [cat_text, HE.out]) hkj), by trivial⟩
            case measure => simp [intOf]; omega
    · have hend : Lx.word (s.data.toList.drop j) = ([], 0) := by rw [drop_end s j (by omega)]; rfl
      have HEnd := Lib.hid hend
      clear hend
      go_wp2_with fail
      go_ret2
      have h := HW.out
      unfold Wread at h
      rw [HEnd.out, List.append_nil] at h
      exact ⟨ret_wrd (by rw [h]) (by rw [h]; simp only []; omega), rfl⟩
end Go.Proofs.YtjlnffdklhmonaaDoor
