/-
  The walk of the law UtfParts where both texts are letters, and at every text.
-/
import Derived.Test.YtacghcpkkfhfhaaDoorLawParts
set_option linter.unusedVariables false
set_option linter.unusedSimpArgs false
namespace Go.Proofs.YtacghcpkkfhfhaaDoor
open Go.RowKit

theorem ahead_len' {l : List UInt8} (hc : Ut.clean l = true) (k : Nat) (hk : k < (Ut.dec l).1.length) : (asInts (Ut.places 0 (Ut.dec l).1))[k]? = some ((Ut.encs ((Ut.dec l).1.take k)).length : Int) := by
  unfold asInts
  rw [List.getElem?_map, Ut.places_at _ 0 k hk]
  simp
theorem map_next {ys : List Int} {k : Nat} {y a : Int} (h : ys[k]? = some y) : (ys.take (k + 1)).map (fun x => a + x) = (ys.take k).map (fun x => a + x) ++ [a + y] := by
  rw [List.take_add_one, h]
  simp

set_option maxHeartbeats 6000000 in
set_option maxRecDepth 100000 in
theorem parts_yes (s t : ByteArray) (hs : (s.size + t.size) * 8 ≤ 140737488355328) (hc : Ut.clean s.data.toList = true) (ht : Ut.clean t.data.toList = true) (w : World) (hT : Tabs w) : Calls Tryd.prog 7 #[.string s, .string t] w (Ret (.bool true) w) := by
  have HT := Lib.hid hT
  clear hT
  obtain ⟨i0, hi, hz0, hz1, hz2⟩ := info_parts info64
  have HX := dec_yes hc
  have HY := dec_yes ht
  have hp := parts_clean (m := t.data.toList) hc
  rw [← cat_text, ht] at hp
  have HZ := dec_yes hp.1
  obtain ⟨A, hA⟩ : ∃ A, A = asInts (Ut.dec s.data.toList).1 := ⟨_, rfl⟩
  obtain ⟨B, hB⟩ : ∃ B, B = asInts (Ut.dec t.data.toList).1 := ⟨_, rfl⟩
  obtain ⟨PX, hPX⟩ : ∃ P, P = asInts (Ut.places 0 (Ut.dec s.data.toList).1) := ⟨_, rfl⟩
  obtain ⟨PY, hPY⟩ : ∃ P, P = asInts (Ut.places 0 (Ut.dec t.data.toList).1) := ⟨_, rfl⟩
  have hAl : A.length ≤ s.size := by rw [hA, asInts_len, Lib.size_eq]; exact (Ut.dec_len _).1
  have hBl : B.length ≤ t.size := by rw [hB, asInts_len, Lib.size_eq]; exact (Ut.dec_len _).1
  have hXl : PX.length ≤ s.size := by rw [hPX, asInts_len, Ut.places_length, Lib.size_eq]; exact (Ut.dec_len _).1
  have hYl : PY.length ≤ t.size := by rw [hPY, asInts_len, Ut.places_length, Lib.size_eq]; exact (Ut.dec_len _).1
  have hYr : ∀ (k : Nat) (y : Int), PY[k]? = some y → 0 ≤ y ∧ y ≤ 70368744177664 := by
    intro k y h
    have hk : k < (Ut.dec t.data.toList).1.length := by
      rcases Nat.lt_or_ge k (Ut.dec t.data.toList).1.length with h' | h'
      · exact h'
      · rw [hPY, List.getElem?_eq_none (by rw [asInts_len, Ut.places_length]; exact h')] at h; cases h
    have e := (ahead_len' ht k hk)
    rw [← hPY, h] at e
    injection e with e
    have hl := (Ut.encs_len ((Ut.dec t.data.toList).1.take k)).2
    have hl2 : ((Ut.dec t.data.toList).1.take k).length ≤ t.size := by
      have := (Ut.dec_len t.data.toList).1
      rw [← Lib.size_eq] at this
      rw [List.length_take]; omega
    omega
  have HD := Lib.hid (fun w hT => decode_is s (by omega) A 0 0 (by rw [HX.1, hA]) HX.2.1 HX.2.2.1 w hT)
  have HE := Lib.hid (fun w hT => decode_is t (by omega) B 0 0 (by rw [HY.1, hB]) HY.2.1 HY.2.2.1 w hT)
  have HG := Lib.hid (fun w hT => decode_is (s ++ t) (by rw [ByteArray.size_append]; omega) (A ++ B) 0 0 (by rw [HZ.1, hp.2.1, parts_letters, hA, hB]) HZ.2.1 HZ.2.2.1 w hT)
  have HSx := Lib.hid (fun w hT => starts_yes s (by omega) hc w hT)
  have HSy := Lib.hid (fun w hT => starts_yes t (by omega) ht w hT)
  have HSz := Lib.hid (fun w hT => starts_yes (s ++ t) (by rw [ByteArray.size_append]; omega) hp.1 w hT)
  rw [hp.2.1, parts_places hc, ← hPX, ← hPY, ← Lib.size_eq] at HSz
  rw [← hPX] at HSx
  rw [← hPY] at HSy
  have HYr := Lib.hid hYr
  have s2 : (s.size : Int) ≤ 17592186044416 := by omega
  have s3 : ¬ 9223372036854775807 < s.size + t.size := by omega
  have sY : PY.length ≤ 9223372036854775807 := by omega
  have HHs := Lib.hid hs
  have HLs := Lib.hid (And.intro (And.intro hAl hBl) (And.intro hXl hYl))
  clear HX HY HZ hp hA hB hPX hPY hAl hBl hXl hYl hc ht hs hYr
  go_enter Tryd.func7, Tryd.ntmps7
  go_wp2_with fail
  refine (HD.out _ HT.out).mono ?_
  rintro e w1 ⟨v1, rfl, h1, hb1⟩
  have HB1 := Lib.hid (below_step hb1 (below_alloc w1 (.cells #[.int .i64 0, .int .i64 0] 25)))
  have HF1 := Lib.hid (flt_new w1 0 0)
  have HV1 := Lib.hid (h1.mono (below_alloc w1 (.cells #[.int .i64 0, .int .i64 0] 25)))
  clear h1 hb1
  go_wp2_with fail
  refine (HE.out _ (HT.out.mono HB1.out)).mono ?_
  rintro e w2 ⟨v2, rfl, h2, hb2⟩
  have hb2' := below_step hb2 (below_alloc w2 (.cells #[.int .i64 0, .int .i64 0] 25))
  have HB2 := Lib.hid (below_step HB1.out hb2')
  have HF2 := Lib.hid (HF1.out.mono hb2')
  have HG2 := Lib.hid (flt_new w2 0 0)
  have HV2 := Lib.hid (HV1.out.mono hb2')
  have HU2 := Lib.hid (h2.mono (below_alloc w2 (.cells #[.int .i64 0, .int .i64 0] 25)))
  clear h2 hb2 hb2'
  go_wp2_with fail
  refine (fixed_any _ (HT.out.mono HB2.out)).mono ?_
  rintro e w3 ⟨rfl, hb3⟩
  have HB3 := Lib.hid (below_step HB2.out hb3)
  have HF3 := Lib.hid (HF2.out.mono hb3)
  have HG3 := Lib.hid (HG2.out.mono hb3)
  have HV3 := Lib.hid (HV2.out.mono hb3)
  have HU3 := Lib.hid (HU2.out.mono hb3)
  clear hb3
  have x0 := HF3.out.c0
  have x1 := HF3.out.c1
  go_wp2_with fail
  refine (HG.out _ (HT.out.mono HB3.out)).mono ?_
  rintro e w4 ⟨v4, rfl, h4, hb4⟩
  have hb4' := below_step hb4 (below_alloc w4 (.cells #[.int .i64 0, .int .i64 0] 25))
  have HB4 := Lib.hid (below_step HB3.out hb4')
  have HG4 := Lib.hid (HG3.out.mono hb4')
  have HH4 := Lib.hid (flt_new w4 0 0)
  have HV4 := Lib.hid (HV3.out.mono hb4')
  have HU4 := Lib.hid (HU3.out.mono hb4')
  have HW4 := Lib.hid (h4.mono (below_alloc w4 (.cells #[.int .i64 0, .int .i64 0] 25)))
  clear h4 hb4 hb4' x0 x1
  obtain ⟨Wh, hWh⟩ : ∃ Wh, Wh = w4.alloc (.cells #[.int .i64 0, .int .i64 0] 25) := ⟨_, rfl⟩
  rw [← hWh] at HB4 HG4 HH4 HV4 HU4 HW4
  have x0 := HG4.out.c0
  have x1 := HG4.out.c1
  rw [hWh] at x0 x1
  go_wp2_with fail
  rw [← hWh]
  refine (HSx.out _ (HT.out.mono HB4.out)).mono ?_
  rintro e w5 ⟨v5, rfl, h5, hb5⟩
  have HK5 := Lib.hid hb5
  have HX5 := Lib.hid h5
  clear h5 hb5 x0 x1
  go_wp2_with fail
  refine (HSy.out _ (HT.out.mono (below_step HB4.out HK5.out))).mono ?_
  rintro e w6 ⟨v6, rfl, h6, hb6⟩
  have HK6 := Lib.hid (below_step HK5.out hb6)
  have HX6 := Lib.hid (HX5.out.mono hb6)
  have HY6 := Lib.hid h6
  have HA6 := Lib.hid (apart_new HX5.out h6)
  clear h6 hb6
  go_wp2_with fail
  refine (HSz.out _ (HT.out.mono (below_step HB4.out HK6.out))).mono ?_
  rintro e w7 ⟨v7, rfl, h7, hb7⟩
  have HK7 := Lib.hid (below_step HK6.out hb7)
  have HX7 := Lib.hid (HX6.out.mono hb7)
  have HY7 := Lib.hid (HY6.out.mono hb7)
  have HZ7 := Lib.hid h7
  have HC7 := Lib.hid (apart_new HX6.out h7)
  obtain ⟨p6, c6, rfl, _⟩ := HY7.out.at.1
  clear h7 hb7
  go_wp2_with fail
  go_loopw [11, 17] (fun xv iv wr => ∃ k : Nat, k ≤ PY.length ∧ iv = .int .i64 k ∧ Hid (OwnI .i64 3 Wh.heap.size xv (PX ++ (PY.take k).map (fun x => (s.size : Int) + x)) wr) ∧ Hid (OwnI .i64 3 w5.heap.size (.slice p6 PY.length c6) PY wr) ∧ Hid (OwnI .i64 3 w6.heap.size v7 (PX ++ PY.map (fun x => (s.size : Int) + x)) wr) ∧ Hid (Apart xv (.slice p6 PY.length c6)) ∧ Hid (Apart xv v7) ∧ Hid (Below Wh.heap.size Wh wr)) (fun _ iv _ => PY.length - (intOf iv).toNat)
  case atStart => exact ⟨0, Nat.zero_le _, rfl, Lib.hid (by rw [List.take_zero, List.map_nil, List.append_nil]; exact HX7.out), HY7, HZ7, HA6, HC7, HK7⟩
  case round =>
    obtain ⟨k, hk, rfl, HX, HY, HZ, HA, HC, HK⟩ := hrel
    clear HX7 HY7 HZ7 HA6 HC7 HK7 HK6 HK5
    by_cases hlt : k < PY.length
    · obtain ⟨y, hy⟩ : ∃ y, PY[k]? = some y := ⟨_, List.getElem?_eq_getElem hlt⟩
      obtain ⟨_, _, hcell⟩ := HY.out.at
      obtain ⟨b6, o6, c6', e6, hc6⟩ := hcell (by omega)
      obtain ⟨rfl, rfl⟩ : p6 = some ⟨b6, o6, none⟩ ∧ c6 = c6' := by injection e6 with a1 a2 a3; exact ⟨a1, a3⟩
      have d1 := hc6 k y hy
      have yr := HYr.out k y hy
      obtain ⟨y0, y1⟩ := yr
      have HN := Lib.hid (map_next (a := (s.size : Int)) hy)
      have k0 : (0 : Int) ≤ (k : Int) := by omega
      have k1 : (k : Int) < (PY.length : Int) := by omega
      have hlen : (PX ++ (PY.take k).map (fun x => (s.size : Int) + x)).length + 1 ≤ s.size + t.size := by
        have h1 := HLs.out.2
        rw [List.length_append, List.length_map, List.length_take]
        omega
      have HLen := Lib.hid hlen
      have hown := World.ownsRow.alloc HX.out (.cells #[.int .i64 ((s.size : Int) + y)] 3)
      clear e6 hc6 hcell hy hlen
      go_wp2_with (at_builtin; refine wpList_append_own_at _ rfl _ _ 28 rfl Wh.heap.size 3 i0 (.int .i64 0) 1 8 Tryd.underlying28 hi hz0 hz1 hz2 rfl (by decide) _ _ _ rfl hown ⟨wr.heap.size, 0, none⟩ 1 1 [.int .i64 ((s.size : Int) + y)] rfl rfl (cell_one_new _ _ _) (fun z hz => by simp at hz; subst hz; rfl) (by unfold maxLen; have := HLen.out; have := HHs.out; omega) (by have := HLen.out; have := HHs.out; omega) (by have := HK.out.size; simp; omega) ?_; intro v' w9 hown' hgrow9 hnil9 hat; have HK9 := Lib.hid ((HK.out.alloc HK.out.size (.cells #[.int .i64 ((s.size : Int) + y)] 3)).grown hgrow9 (by have := HK.out.size; simp; omega) (fun q hq => (World.ownsRow.lt hown q hq).1)); have HX9 := ownI_snoc hown'; have hy9 := World.ownsRow.alloc HY.out (.cells #[.int .i64 ((s.size : Int) + y)] 3); have hz9 := World.ownsRow.alloc HZ.out (.cells #[.int .i64 ((s.size : Int) + y)] 3); have HY9 : Hid (OwnI .i64 3 w5.heap.size (.slice (some ⟨b6, o6, none⟩) PY.length c6) PY w9) := Lib.hid (World.ownsRow.kept hy9 hgrow9 HA.out.kept); have HZ9 : Hid (OwnI .i64 3 w6.heap.size v7 (PX ++ PY.map (fun x => (s.size : Int) + x)) w9) := Lib.hid (World.ownsRow.kept hz9 hgrow9 HC.out.kept); have HA9 := Lib.hid (HA.out.step hy9 hat); have HC9 := Lib.hid (HC.out.step hz9 hat); clear hown hown' hgrow9 hnil9 hat hy9 hz9)
      go_roundw
      case rel => exact ⟨k + 1, by omega, by go_num, Lib.hid (by rw [HN.out, ← List.append_assoc]; exact HX9.out), HY9, HZ9, HA9, HC9, HK9⟩
      case measure => simp [intOf]; omega
    · have HT : Hid (PY.take k = PY) := Lib.hid (List.take_of_length_le (by omega))
      have HHr := Lib.hid (HH4.out.mono HK.out)
      have HVr := Lib.hid (HV4.out.mono HK.out)
      have HUr := Lib.hid (HU4.out.mono HK.out)
      have HWr := Lib.hid (HW4.out.mono HK.out)
      have HX' := HX.out
      rw [HT.out] at HX'
      have HXr := Lib.hid HX'
      have x0 := HHr.out.c0
      have x1 := HHr.out.c1
      clear HX'
      have HO0 : Hid (OwnI .i32 21 wr.heap.size (.slice (some ⟨wr.heap.size, 0, none⟩) 0 0) [] (wr.alloc (.cells #[] 21))) := Lib.hid (World.ownsRow_made wr #[] 0 (Nat.le_refl _) (by unfold maxLen; omega) rfl)
      have HV0 := Lib.hid (HVr.out.mono (below_alloc wr (.cells #[] 21)))
      go_wp2_with (first | (at_builtin; refine wpList_append_ints rfl _ _ rfl wr.heap.size _ (.slice (some ⟨wr.heap.size, 0, none⟩) 0 0) v1 [] A rfl HO0.out rfl HV0.out (by have := HLs.out.1.1; have := HHs.out; simp; omega) (by simp) ?_; intro v9 w9 h9 hb9; have HK9 := Lib.hid ((below_alloc wr (.cells #[] 21)).trans hb9); have HO9 : Hid (OwnI .i32 21 wr.heap.size v9 A w9) := Lib.hid (by simpa using h9); have HU9 := Lib.hid (HUr.out.mono HK9.out); clear h9 hb9) | (at_builtin; refine wpList_append_ints rfl _ _ rfl wr.heap.size _ v9 v2 A B rfl HO9.out rfl HU9.out (by have := HLs.out.1; have := HHs.out; omega) HK9.out.size ?_; intro v10 w10 h10 hb10; have HK10 := Lib.hid (HK9.out.trans hb10); have HO10 := Lib.hid h10; clear h10 hb10))
      refine (runes_same _ _ _ _ (HWr.out.mono HK10.out).at HO10.out.at).mono ?_
      rintro e w11 ⟨rfl, hb11⟩
      have HK11 := Lib.hid (below_step HK10.out hb11)
      clear hb11 x0 x1
      go_wp2_with fail
      refine (ints_same _ _ _ _ (HZ.out.mono HK11.out).at (HXr.out.mono HK11.out).at).mono ?_
      rintro e w12 ⟨rfl, hb12⟩
      have HK12 := Lib.hid (below_step HK11.out hb12)
      clear hb12
      go_wp2_with fail
      go_ret
      exact ⟨rfl, below_step HB4.out (below_step HK.out HK12.out)⟩
/-- THE LAW, AT EVERY TWO TEXTS OF SUCH A LENGTH. -/
theorem lawParts_any (s t : ByteArray) (hs : (s.size + t.size) * 8 ≤ 140737488355328) (w : World) (hT : Tabs w) : Calls Tryd.prog 7 #[.string s, .string t] w (Ret (.bool true) w) := by
  have HT := Lib.hid hT
  clear hT
  cases hc : Ut.clean s.data.toList with
  | false => exact parts_bad s t hs hc w HT.out
  | true =>
    cases ht : Ut.clean t.data.toList with
    | false => exact parts_half s t hs hc ht w HT.out
    | true => exact parts_yes s t hs hc ht w HT.out
end Go.Proofs.YtacghcpkkfhfhaaDoor
