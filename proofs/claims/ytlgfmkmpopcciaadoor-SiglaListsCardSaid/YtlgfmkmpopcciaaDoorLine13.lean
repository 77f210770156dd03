/-
  The landed readLine and refusal: a line of a table's text.
-/
import Derived.Test.YtlgfmkmpopcciaaDoorMay13
import Derived.Test.YtlgfmkmpopcciaaDoorFind13
import Derived.Test.YtlgfmkmpopcciaaDoorCuts13
import Derived.Test.YtlgfmkmpopcciaaDoorFlt13
set_option linter.unusedVariables false
set_option linter.unusedSimpArgs false
namespace Go.Proofs.YtlgfmkmpopcciaaDoor
open Go.RowKit

/-- what cut answers at one byte -/
theorem cut_cases (c : UInt8) (l : List UInt8) : (c ∉ l ∧ Lib.cut l [c] = (l, [], false)) ∨ ∃ a b, l = a ++ c :: b ∧ c ∉ a ∧ Lib.cut l [c] = (a, b, true) := by
  unfold Lib.cut
  rw [Lib.index_one]
  have hge := Lib.indexByte_ge l c
  by_cases h : Lib.indexByte l c = -1
  · left
    have hn := Lib.indexByte_none h
    rw [h]
    refine ⟨fun hm => ?_, rfl⟩
    obtain ⟨i, hi⟩ := List.getElem?_of_mem hm
    exact hn i hi
  · right
    obtain ⟨o, ho⟩ : ∃ o : Nat, Lib.indexByte l c = o := ⟨(Lib.indexByte l c).toNat, by omega⟩
    obtain ⟨h1, h2⟩ := Lib.indexByte_some ho
    rw [ho, if_pos (by omega)]
    obtain ⟨hlt, hx⟩ := List.getElem?_eq_some_iff.1 h1
    refine ⟨l.take o, l.drop (o + 1), ?_, fun hm => ?_, rfl⟩
    · have e := List.take_append_drop o l
      rw [List.drop_eq_getElem_cons hlt, hx] at e
      exact e.symm
    · obtain ⟨i, hi⟩ := List.getElem?_of_mem hm
      rw [List.getElem?_take] at hi
      split at hi
      · rename_i hio
        exact h2 i hio hi
      · cases hi
theorem cut_none13 {l : List UInt8} (h : (32 : UInt8) ∉ l) : Sg.cut l = none := by
  cases e : Sg.cut l with
  | none => rfl
  | some x =>
    obtain ⟨k, n⟩ := x
    have := (Sg.cut_some e).1
    exact absurd (by rw [this]; simp) h
set_option maxHeartbeats 1000000 in
set_option maxRecDepth 100000 in
theorem clone_any (s : ByteArray) (hs : s.size ≤ 281474976710656) (w : World) : Calls Tryd.prog 45 #[.string s] w (Ret (.string s) w) := by
  have HC := Lib.hid (fun w => Tryd.stringslite_Clone s w hs)
  go_enter Tryd.func45, Tryd.ntmps45
  go_wp2_with fail
  refine (HC.out _).mono ?_
  rintro e w1 ⟨rfl, hb⟩
  have HB := Lib.hid hb
  clear hb
  go_wp2
  go_ret
  exact ⟨rfl, HB.out⟩
/-- what readLine tells -/
def lineV : Option Sg.Sig → Value
  | none => .tuple #[.agg #[.string (str []), .string (str [])], .bool false]
  | some x => .tuple #[.agg #[.string (str x.k), .string (str x.n)], .bool true]
/-- a line cut at its first blank: its key, its name; valid just if the line is -/
theorem line_cut (l : List UInt8) : ∃ k n f, Lib.cut l [32] = (k, n, f) ∧ k.length ≤ l.length ∧ n.length ≤ l.length ∧ ((Sg.keyOk k && Sg.nameOk n) = true → Sg.lineOk l = some ⟨k, n⟩) ∧ ((Sg.keyOk k && Sg.nameOk n) = false → Sg.lineOk l = none) := by
  rcases cut_cases 32 l with ⟨h, e⟩ | ⟨a, b, h, h1, e⟩
  · have hn : Sg.nameOk [] = false := rfl
    refine ⟨l, [], false, e, Nat.le_refl _, by simp, fun h2 => ?_, fun _ => ?_⟩
    · rw [hn, Bool.and_false] at h2; cases h2
    · unfold Sg.lineOk
      rw [cut_none13 h]
  · refine ⟨a, b, true, e, by rw [h]; simp, by rw [h]; simp; omega, fun h2 => ?_, fun h2 => ?_⟩
    · unfold Sg.lineOk
      rw [h, Sg.cut_at b h1]
      simp only []
      rw [if_pos (by simpa using h2)]
    · unfold Sg.lineOk
      rw [h, Sg.cut_at b h1]
      simp only []
      rw [if_neg (by intro h3; rw [h3.1, h3.2] at h2; cases h2)]
set_option maxHeartbeats 4000000 in
set_option maxRecDepth 100000 in
theorem readLine_any (l : List UInt8) (hl : l.length ≤ 281474976710656) (w : World) : Calls Tryd.prog 27 #[.string (str l)] w (Ret (lineV (Sg.lineOk l)) w) := by
  obtain ⟨k, n, f, hc, hkl, hnl, hy, hno⟩ := line_cut l
  have HC := Lib.hid (fun w => cut_one (str l) (by rw [str_size13]; omega) 32 w)
  unfold CutPost at HC
  rw [str_data, hc] at HC
  have hk' : k.length ≤ 281474976710656 := by omega
  have hn' : n.length ≤ 281474976710656 := by omega
  have HV := Lib.hid (fun w => valid_any k n hk' w)
  have HK := Lib.hid (fun w => clone_any (str k) (by rw [str_size13]; exact hk') w)
  have HN := Lib.hid (fun w => clone_any (str n) (by rw [str_size13]; exact hn') w)
  have HB := Lib.hid (below_alloc w (.cells #[.string ⟨#[]⟩, .string ⟨#[]⟩] 45))
  have HO := Lib.hid (new_two13 w w.heap.size rfl (.string ⟨#[]⟩) (.string ⟨#[]⟩) 45)
  have ek : (⟨k.toArray⟩ : ByteArray) = str k := rfl
  have en : (⟨n.toArray⟩ : ByteArray) = str n := rfl
  have he : str [] = ⟨#[]⟩ := rfl
  simp only [ek, en] at HC
  obtain ⟨W0, hW0⟩ : ∃ W0, W0 = w.alloc (.cells #[.string ⟨#[]⟩, .string ⟨#[]⟩] 45) := ⟨_, rfl⟩
  rw [← hW0] at HB HO
  cases hv : (Sg.keyOk k && Sg.nameOk n) with
  | false =>
    rw [hno hv]
    simp only [lineV]
    rw [hv] at HV
    clear hv hy hno hc ek en hkl hnl HK HN
    go_enter Tryd.func27, Tryd.ntmps27
    go_wp2_with fail
    rw [← hW0]
    clear hW0
    refine (HC.out _).mono ?_
    rintro e w1 ⟨rfl, m, rfl⟩
    have hb1 := below_drew W0 m
    have HB1 := Lib.hid (below_step HB.out hb1)
    have HO1 := Lib.hid (obj_kept hb1 HO.out)
    generalize W0.drewN m = W1 at *
    clear hb1 HB HO
    have hb2 := below_alloc W1 (.cells #[.string (str k), .string (str n)] 45)
    obtain ⟨y0, y1⟩ := rec_two W1 W1.heap.size rfl (.string (str k)) (.string (str n)) 45
    have HB2 := Lib.hid (below_step HB1.out hb2)
    have HO2 := Lib.hid (obj_kept hb2 HO1.out)
    clear hb2 HB1 HO1
    go_wp2_with fail
    refine (HV.out _).mono ?_
    rintro e w3 ⟨rfl, hb3⟩
    have HB3 := Lib.hid (below_step HB2.out hb3)
    have ho3 := obj_kept hb3 HO2.out
    obtain ⟨n0, n1⟩ := two_of13 ho3
    have f0 := Lib.frozen_of_heap ho3 0
    have f1 := Lib.frozen_of_heap ho3 1
    obtain ⟨s0, s1⟩ := two_of13 (set_two13 (a := .string ⟨#[]⟩) (b := .string ⟨#[]⟩) ho3)
    have hlt := lt_of_obj ho3
    clear hb3 y0 y1 HB2 HO2 ho3
    go_wp2
    exact bodyPost_ret (v := .tuple #[.agg #[.string ⟨#[]⟩, .string ⟨#[]⟩], .bool false]) (by simp [results, Tryd.results27, go_sem, s0, s1]) rfl ⟨rfl, below_two13 (Nat.le_refl _) HB3.out⟩
  | true =>
    rw [hy hv]
    simp only [lineV]
    rw [hv] at HV
    clear hv hy hno hc ek en hkl hnl
    go_enter Tryd.func27, Tryd.ntmps27
    go_wp2_with fail
    rw [← hW0]
    clear hW0
    refine (HC.out _).mono ?_
    rintro e w1 ⟨rfl, m, rfl⟩
    have hb1 := below_drew W0 m
    have HB1 := Lib.hid (below_step HB.out hb1)
    have HO1 := Lib.hid (obj_kept hb1 HO.out)
    generalize W0.drewN m = W1 at *
    clear hb1 HB HO
    have hb2 := below_alloc W1 (.cells #[.string (str k), .string (str n)] 45)
    obtain ⟨y0, y1⟩ := rec_two W1 W1.heap.size rfl (.string (str k)) (.string (str n)) 45
    have HB2 := Lib.hid (below_step HB1.out hb2)
    have HO2 := Lib.hid (obj_kept hb2 HO1.out)
    clear hb2 HB1 HO1
    go_wp2_with fail
    refine (HV.out _).mono ?_
    rintro e w3 ⟨rfl, hb3⟩
    have HB3 := Lib.hid (below_step HB2.out hb3)
    have HO3 := Lib.hid (obj_kept hb3 HO2.out)
    clear hb3 y0 y1 HB2 HO2
    go_wp2_with fail
    refine (HK.out _).mono ?_
    rintro e w4 ⟨rfl, hb4⟩
    have HB4 := Lib.hid (below_step HB3.out hb4)
    have HO4 := Lib.hid (obj_kept hb4 HO3.out)
    clear hb4 HB3 HO3
    go_wp2_with fail
    refine (HN.out _).mono ?_
    rintro e w5 ⟨rfl, hb5⟩
    have HB5 := Lib.hid (below_step HB4.out hb5)
    have ho5 := obj_kept hb5 HO4.out
    obtain ⟨n0, n1⟩ := two_of13 ho5
    have f0 := Lib.frozen_of_heap ho5 0
    have f1 := Lib.frozen_of_heap ho5 1
    obtain ⟨s0, s1⟩ := two_of13 (set_two13 (a := .string (str k)) (b := .string (str n)) ho5)
    have hlt := lt_of_obj ho5
    clear hb5 HB4 HO4 ho5
    go_wp2
    exact bodyPost_ret (v := .tuple #[.agg #[.string (str k), .string (str n)], .bool true]) (by simp [results, Tryd.results27, go_sem, s0, s1]) rfl ⟨rfl, below_two13 (Nat.le_refl _) HB5.out⟩
end Go.Proofs.YtlgfmkmpopcciaaDoor
