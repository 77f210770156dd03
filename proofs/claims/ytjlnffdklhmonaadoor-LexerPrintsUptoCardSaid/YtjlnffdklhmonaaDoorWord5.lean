/-
  What the program's word answers: what a word's escapes and plain bytes stand for, and where it ends.
-/
import Derived.Test.YtjlnffdklhmonaaDoorClass5
import Derived.Test.YtjlnffdklhmonaaDoorBuild5
set_option linter.unusedVariables false
set_option linter.unusedSimpArgs false
namespace Go.Proofs.YtjlnffdklhmonaaDoor
open Go.RowKit

theorem cls_plain {c : UInt8} (h : Lx.ends c = false) : cls c = 0 := by
  unfold Lx.ends at h
  rw [Bool.or_eq_false_iff] at h
  have h1 := of_decide_eq_false h.1
  unfold cls
  rw [h.2, if_neg (by simp), if_neg (by omega), if_neg (by omega), if_neg (by omega), if_neg (by omega)]
theorem cls_bsl {c : UInt8} (h : Lx.bsl c = true) : cls c = 3 ∧ c.toNat = 92 := by
  have := of_decide_eq_true h
  unfold cls Lx.blank
  rw [if_neg (by simp; omega), if_neg (by omega), if_pos this]
  exact ⟨rfl, this⟩
theorem cls_other {c : UInt8} (h : Lx.ends c = true) (hb : Lx.bsl c = false) : (cls c == 0) = false ∧ (cls c == 3) = false := by
  have hb := of_decide_eq_false hb
  unfold Lx.ends Lx.special Lx.blank at h
  unfold cls Lx.blank
  rw [Bool.or_eq_true, decide_eq_true_iff, decide_eq_true_iff] at h
  by_cases h1 : c.toNat = 9 ∨ c.toNat = 10 ∨ c.toNat = 13 ∨ c.toNat = 32
  · rw [if_pos (decide_eq_true h1)]; exact ⟨rfl, rfl⟩
  · rw [if_neg (by simpa using h1)]
    by_cases h2 : c.toNat = 37
    · rw [if_pos h2]; exact ⟨rfl, rfl⟩
    · rw [if_neg h2, if_neg hb]
      by_cases h3 : c.toNat = 123
      · rw [if_pos h3]; exact ⟨rfl, rfl⟩
      · rw [if_neg h3, if_pos (by omega)]; exact ⟨rfl, rfl⟩
theorem word_stop {c : UInt8} {r : List UInt8} (h : Lx.ends c = true) (hd : Lx.bsl c = true → den r = []) : Lx.word (c :: r) = ([], 0) := by
  cases r with
  | nil => rw [Lx.word_one, h]; rfl
  | cons d q =>
    have he : (Lx.bsl c && Lx.escd d) = false := by
      cases hb : Lx.bsl c with
      | false => rfl
      | true =>
        have h2 := hd hb
        cases hx : Lx.escd d with
        | false => rfl
        | true =>
          exfalso
          unfold den at h2
          simp only [hx, if_true] at h2
          unfold Lx.esc at h2
          split at h2 <;> simp at h2
    rw [Lx.word_two, he, h]; rfl
theorem den_yes {r : List UInt8} (h : den r ≠ []) : ∃ d q, r = d :: q ∧ Lx.escd d = true ∧ den r = Lx.esc d ∧ (Lx.esc d).length ≤ 2 := by
  cases r with
  | nil => exact absurd rfl h
  | cons d q =>
    unfold den at h ⊢
    simp only [] at h ⊢
    cases hx : Lx.escd d with
    | false => rw [hx] at h; simp at h
    | true => exact ⟨d, q, rfl, hx, by simp, by unfold Lx.esc; split <;> simp⟩

set_option maxHeartbeats 4000000 in
set_option maxRecDepth 100000 in
theorem word_any (s : ByteArray) (k : Nat) (hk : k ≤ s.size) (hs : s.size ≤ 70368744177664) (w : World) :
    Calls Tryd.prog 28 #[.string s, .int .i64 (k : Int)] w (Ret (.tuple #[.string ⟨(Lx.word (s.data.toList.drop k)).1.toArray⟩, .int .i64 ((k : Int) + ((Lx.word (s.data.toList.drop k)).2 : Int))]) w) := by
  have hlen : (s.data.toList.drop k).length = s.size - k := by rw [List.length_drop, ← Lib.size_eq]
  have HLe : Hid ((Lx.word (s.data.toList.drop k)).1.length ≤ s.size) := Lib.hid (Nat.le_trans (word_le _) (by omega))
  have HK := Lib.hid hk
  have HS := Lib.hid hs
  have HB0 := Lib.hid (below_alloc w (.cells #[.pointer none, .slice none 0 0] 54))
  have HBL0 := Lib.hid (bld_fresh w)
  clear hlen hk
  go_enter Tryd.func28, Tryd.ntmps28
  go_wp2_with fail
  go_loopw [1] (fun av wr => ∃ (j : Nat) (u : List UInt8), av = .int .i64 j ∧ k ≤ j ∧ j ≤ s.size ∧ Hid (Wread (s.data.toList.drop k) k j u (s.data.toList.drop j)) ∧ Hid (Bld w.heap.size w.heap.size u wr) ∧ Hid (Below w.heap.size w wr)) (fun av _ => s.size - (intOf av).toNat)
  case atStart => exact ⟨k, [], rfl, Nat.le_refl _, HK.out, Lib.hid (by show _ = _; simp), HBL0, HB0⟩
  case round =>
    obtain ⟨j, u, rfl, hkj, hj, HW, HU, HB⟩ := hrel
    clear HBL0 HB0
    have HUl : Hid (u.length ≤ s.size) := Lib.hid (by
      have h1 := HLe.out
      have h2 := HW.out
      unfold Wread at h2
      rw [h2, List.length_append] at h1
      omega)
    by_cases hlt : j < s.size
    · have hd := drop_head s j hlt
      have cC := Lib.hid (fun w => classOf_any s[j] w)
      have j0 : (0 : Int) ≤ (j : Int) := by omega
      have j1 : (j : Int) < (s.size : Int) := by omega
      cases he : Lx.ends s[j] with
      | false =>
        have HN : Hid (Lx.word (s.data.toList.drop j) = ([s[j]] ++ (Lx.word (s.data.toList.drop (j + 1))).1, (Lx.word (s.data.toList.drop (j + 1))).2 + 1)) := Lib.hid (by rw [hd]; exact Lx.word_plain he _)
        rw [cls_plain he] at cC
        have cW := Lib.hid (fun W (h : Bld w.heap.size w.heap.size u W) (hB : w.heap.size ≤ W.heap.size) => byte_bld w.heap.size w.heap.size u s[j] W h (by have := HUl.out; have := HS.out; omega) hB)
        clear hd he
        go_wp2_with fail
        refine (cC.out _).mono ?_
        rintro e w1 ⟨rfl, rfl⟩
        go_wp2_with fail
        refine (cW.out _ HU.out HB.out.size).mono ?_
        rintro e w2 ⟨rfl, hu2, hb2⟩
        have HU2 := Lib.hid hu2
        have HB2 := Lib.hid (HB.out.trans hb2)
        clear hu2 hb2
        go_wp2_with fail
        go_roundw
        case rel => exact ⟨j + 1, _, by go_num, by omega, by omega, Lib.hid (HW.out.next HN.out rfl hkj), HU2, HB2⟩
        case measure => simp [intOf]; omega
      | true =>
        cases hbs : Lx.bsl s[j] with
        | false =>
          have HN := Lib.hid (show Lx.word (s.data.toList.drop j) = ([], 0) by rw [hd]; exact word_stop he (fun h => by rw [h] at hbs; cases hbs))
          have hc := cls_other he hbs
          obtain ⟨n, hn⟩ : ∃ n, n = cls s[j] := ⟨_, rfl⟩
          rw [← hn] at hc cC
          have e0 := hc.1
          have e3 := hc.2
          clear hc hn hd he hbs
          go_wp2_with fail
          refine (cC.out _).mono ?_
          rintro e w1 ⟨rfl, rfl⟩
          go_wp2_with fail
          refine (string_bld w.heap.size w.heap.size _ _ HU.out HB.out.size).mono ?_
          rintro e w2 ⟨rfl, hb2⟩
          have HB2 := Lib.hid (HB.out.trans hb2)
          clear hb2
          go_wp2_with fail
          go_ret2
          have h := HW.out
          unfold Wread at h
          rw [HN.out, List.append_nil] at h
          exact ⟨ret_wrd (by rw [h]) (by rw [h]; simp only []; omega), HB2.out⟩
        | true =>
          have hcl := cls_bsl hbs
          rw [hcl.1] at cC
          have HDl : Hid ((s.extract (j + 1) s.size).data.toList = s.data.toList.drop (j + 1)) := Lib.hid (drop_text s (j + 1))
          have hx1 : ((s.extract (j + 1) s.size).size ≤ 4611686018427387904) := by rw [Lib.size_eq, drop_text, List.length_drop, ← Lib.size_eq]; have := HS.out; omega
          have cD : Hid (∀ w, Calls Tryd.prog 46 #[.string (s.extract (j + 1) s.size)] w (Is (.string (str (den (s.data.toList.drop (j + 1))))) w)) := Lib.hid (fun w => by
            have h := denoted_any (s.extract (j + 1) s.size) hx1 w
            rw [HDl.out] at h
            exact h)
          have j2 : (j : Int) + 1 ≤ (s.size : Int) := by omega
          cases hde : (den (s.data.toList.drop (j + 1))).isEmpty with
          | true =>
            have h0 := List.isEmpty_iff.1 hde
            have HN := Lib.hid (show Lx.word (s.data.toList.drop j) = ([], 0) by rw [hd]; exact word_stop he (fun _ => h0))
            rw [h0] at cD
            obtain ⟨X, hX⟩ : ∃ X, X = str [] := ⟨_, rfl⟩
            have hne : X.toList.isEmpty = true := by rw [hX, empty_str]; rfl
            rw [← hX] at cD
            clear hd he hbs hcl hx1 hde h0 hX
            go_wp2_with fail
            refine (cC.out _).mono ?_
            rintro e w1 ⟨rfl, rfl⟩
            go_wp2_with fail
            refine (cD.out _).mono ?_
            rintro e w1 ⟨rfl, rfl⟩
            go_wp2_with fail
            refine (string_bld w.heap.size w.heap.size _ _ HU.out HB.out.size).mono ?_
            rintro e w2 ⟨rfl, hb2⟩
            have HB2 := Lib.hid (HB.out.trans hb2)
            clear hb2
            go_wp2_with fail
            go_ret2
            have h := HW.out
            unfold Wread at h
            rw [HN.out, List.append_nil] at h
            exact ⟨ret_wrd (by rw [h]) (by rw [h]; simp only []; omega), HB2.out⟩
          | false =>
            obtain ⟨d, q, hq, hxd, hden, hdl⟩ := den_yes (r := s.data.toList.drop (j + 1)) (fun h => by rw [h] at hde; cases hde)
            have h2 : j + 1 < s.size := by
              have h3 := congrArg List.length hq
              rw [List.length_drop, ← Lib.size_eq, List.length_cons] at h3
              omega
            have hq2 : q = s.data.toList.drop (j + 2) := by
              have h3 := drop_head s (j + 1) h2
              rw [hq] at h3
              injection h3
            have HN : Hid (Lx.word (s.data.toList.drop j) = (Lx.esc d ++ (Lx.word (s.data.toList.drop (j + 2))).1, (Lx.word (s.data.toList.drop (j + 2))).2 + 2)) := Lib.hid (by rw [hd, hq, Lx.bsl_is hbs, ← hq2]; exact Lx.word_esc hxd _)
            rw [hden] at cD
            obtain ⟨X, hX⟩ : ∃ X, X = str (Lx.esc d) := ⟨_, rfl⟩
            have HX : Hid (X.data.toList = Lx.esc d) := Lib.hid (by rw [hX, str_data])
            have HXl : Hid (X.size ≤ 2) := Lib.hid (by rw [Lib.size_eq, HX.out]; exact hdl)
            rw [← hX] at cD
            have hne : X.toList.isEmpty = false := by rw [Lib.toList_data, HX.out, ← hden]; exact hde
            have cW := Lib.hid (fun W (h : Bld w.heap.size w.heap.size u W) (hB : w.heap.size ≤ W.heap.size) => text_bld w.heap.size w.heap.size u X W h (by have := HUl.out; have := HS.out; have := HXl.out; omega) hB)
            have j3 : (j : Int) + 2 ≤ (s.size : Int) := by omega
            clear hd he hbs hcl hx1 hde hq hxd hden hdl hq2 hX
            go_wp2_with fail
            refine (cC.out _).mono ?_
            rintro e w1 ⟨rfl, rfl⟩
            go_wp2_with fail
            refine (cD.out _).mono ?_
            rintro e w1 ⟨rfl, rfl⟩
            go_wp2_with fail
            refine (cW.out _ HU.out HB.out.size).mono ?_
            rintro e w2 ⟨rfl, hu2, hb2⟩
            have HU2 := Lib.hid hu2
            have HB2 := Lib.hid (HB.out.trans hb2)
            clear hu2 hb2
            go_wp2_with fail
            go_roundw
            case rel => exact ⟨j + 2, _, by go_num, by omega, by omega, Lib.hid (HW.out.next HN.out (by rw [HX.out]) hkj), HU2, HB2⟩
            case measure => simp [intOf]; omega
    · have hend : Lx.word (s.data.toList.drop j) = ([], 0) := by rw [drop_end s j (by omega)]; rfl
      have HEnd := Lib.hid hend
      clear hend
      go_wp2_with fail
      refine (string_bld w.heap.size w.heap.size _ _ HU.out HB.out.size).mono ?_
      rintro e w2 ⟨rfl, hb2⟩
      have HB2 := Lib.hid (HB.out.trans hb2)
      clear hb2
      go_wp2_with fail
      go_ret2
      have h := HW.out
      unfold Wread at h
      rw [HEnd.out, List.append_nil] at h
      exact ⟨ret_wrd (by rw [h]) (by rw [h]; simp only []; omega), HB2.out⟩
end Go.Proofs.YtjlnffdklhmonaaDoor
