/-
  The landed denoted: the keys that a word denotes.
-/
import Derived.Test.YtlgfmkmpopcciaaDoorCompact13
set_option linter.unusedVariables false
set_option linter.unusedSimpArgs false
namespace Go.Proofs.YtlgfmkmpopcciaaDoor
open Go.RowKit Go.Maps

theorem index_dots : ∀ s : List UInt8, Lib.index s [46, 46] = match Sg.dots s with
    | none => -1
    | some d => (d : Int)
  | [] => rfl
  | [a] => by
    simp only [Sg.dots, Lib.index, List.isPrefixOf]
    simp
  | a :: b :: r => by
    have ih := index_dots (b :: r)
    simp only [Sg.dots]
    rw [Lib.index]
    by_cases h : a = 46 ∧ b = 46
    · obtain ⟨rfl, rfl⟩ := h
      simp [List.isPrefixOf]
    · rw [if_neg h, if_neg (by
        simp only [List.isPrefixOf, Bool.and_true, Bool.and_eq_true, beq_iff_eq]
        exact fun h2 => h ⟨h2.1.symm, h2.2.symm⟩)]
      rw [ih]
      cases Sg.dots (b :: r) with
      | none => rfl
      | some d =>
        simp only [Option.map_some]
        rw [if_neg (by simp only [beq_iff_eq]; omega)]
        rfl
/-- a word cut at its first two dots -/
theorem cut_dots (s : List UInt8) : Lib.cut s [46, 46] = match Sg.dots s with
    | none => (s, [], false)
    | some d => (s.take d, s.drop (d + 2), true) := by
  unfold Lib.cut
  rw [index_dots]
  cases Sg.dots s with
  | none => rfl
  | some d =>
    simp only []
    rw [if_pos (by omega)]
    rfl
/-- what denoted answers -/
def DenPost (t : List Sg.Sig) (s : List UInt8) (w : World) (e : Ending) (w' : World) : Prop :=
  ∃ (a c : Int) (ok : Bool), e = .returned (.tuple #[.int .i64 a, .int .i64 c, .bool ok]) ∧ (ok = false → Sg.wordOf t s = none) ∧ (ok = true → Sg.wordOf t s = some (Sg.range t a c) ∧ 0 ≤ a ∧ a ≤ c ∧ c < (t.length : Int)) ∧ ∃ k, w' = w.drewN k
theorem key_place {t : List Sg.Sig} (hn : (Sg.keys t).Nodup) {k : List UInt8} (h : k ∈ Sg.keys t) : ∃ i : Nat, (Sg.keys t)[i]? = some k ∧ Sg.find t k = (i : Int) ∧ i < t.length := by
  obtain ⟨i, hi⟩ := List.getElem?_of_mem h
  refine ⟨i, hi, Sg.find_at hn hi, ?_⟩
  have := (List.getElem?_eq_some_iff.1 hi).1
  unfold Sg.keys at this
  rwa [List.length_map] at this
set_option maxHeartbeats 8000000 in
set_option maxRecDepth 100000 in
theorem denoted_any (b : Nat) (t : List Sg.Sig) (s : List UInt8) (m : Int) (w : World) (hma : MapAt w b (Sg.keys t)) (hn : (Sg.keys t).Nodup) (hl : t.length ≤ 100000) (hs : s.length < 4294967281) (hm : w.cell? ⟨0, 0, none⟩ = some (.int .i64 m)) :
    Calls Tryd.prog 44 #[.map (some b), .string (str s)] w (DenPost t s w) := by
  have HC := Lib.hid (Tryd.strings_Cut (str s) ⟨#[46, 46]⟩ m w (by rw [str_size13]; exact hs) hm)
  have e46 : (⟨#[46, 46]⟩ : ByteArray).data.toList = [46, 46] := rfl
  rw [str_data, e46, cut_dots] at HC
  clear e46 hm
  have HMa := Lib.hid hma
  have HN := Lib.hid hn
  have HF : Hid (∀ k : List UInt8, (k ∉ Sg.keys t ∧ Sg.find t k < 0) ∨ ∃ i : Nat, (Sg.keys t)[i]? = some k ∧ Sg.find t k = (i : Int) ∧ i < t.length) := Lib.hid (fun k => by
    by_cases h : k ∈ Sg.keys t
    · exact .inr (key_place hn h)
    · exact .inl ⟨h, Sg.find_neg.2 h⟩)
  cases hd : Sg.dots s with
  | none =>
    rw [hd] at HC
    simp only [] at HC
    have es : (⟨s.toArray⟩ : ByteArray) = str s := rfl
    rw [es] at HC
    have HW0 : Hid (Sg.wordOf t s = if Sg.find t s < 0 then none else some (Sg.range t (Sg.find t s) (Sg.find t s))) := Lib.hid (by
      unfold Sg.wordOf
      rw [hd])
    clear es hd hma hn
    have hkey := keyStr13 s (by omega)
    rcases HF.out s with ⟨hmem, hneg⟩ | ⟨i, hi2, hf, hil⟩
    · have HE : Hid (Sg.wordOf t s = none) := Lib.hid (by rw [HW0.out, if_pos hneg])
      clear hneg HW0
      go_enter Tryd.func44, Tryd.ntmps44
      go_wp2_with fail
      refine HC.out.mono ?_
      rintro e w1 ⟨rfl, k, rfl⟩
      obtain ⟨D, nD, ho, hi, hnD⟩ := HMa.out.mono (below_drew w k)
      have hhas : Maps.has D (.string s) = false := by rw [hi.keys s, decide_eq_false hmem]
      clear hi hnD hmem
      go_wp2_with (at_lookup; refine wpList_lookup_own_ok_int _ rfl _ _ 66 rfl 9 3 .i64 keyLaw13 Tryd.underlying66 Tryd.underlying3 (zeroInt13 _) b nD D rfl ho _ _ rfl hkey ?_; intro c hat hwc; clear hat hwc)
      go_ret3
      exact ⟨_, _, false, rfl, fun _ => HE.out, fun h => absurd h (by decide), k, rfl⟩
    · have HE : Hid (Sg.wordOf t s = some (Sg.range t i i)) := Lib.hid (by rw [HW0.out, hf, if_neg (by omega)])
      have Hil := Lib.hid hil
      clear HW0 hf hil
      go_enter Tryd.func44, Tryd.ntmps44
      go_wp2_with fail
      refine HC.out.mono ?_
      rintro e w1 ⟨rfl, k, rfl⟩
      obtain ⟨D, nD, ho, hi, hnD⟩ := HMa.out.mono (below_drew w k)
      have hhas : Maps.has D (.string s) = true := by rw [hi.keys s, decide_eq_true (List.mem_of_getElem? hi2)]
      have hel := fun z => hi.elem HN.out i s hi2 z
      clear hi hnD hi2
      go_wp2_with (at_lookup; refine wpList_lookup_own_ok_int _ rfl _ _ 66 rfl 9 3 .i64 keyLaw13 Tryd.underlying66 Tryd.underlying3 (zeroInt13 _) b nD D rfl ho _ _ rfl hkey ?_; intro c hat hwc; obtain rfl : c = (i : Int) := (by have h9 := hel (.lit (.int .i64 0)); rw [hat] at h9; injection h9 with h9; injection h9); clear hat hwc)
      go_ret3
      exact ⟨i, i, true, rfl, fun h => absurd h (by decide), fun _ => ⟨HE.out, by omega, Int.le_refl _, by have := Hil.out; omega⟩, k, rfl⟩
  | some d =>
    rw [hd] at HC
    simp only [] at HC
    have ef : (⟨(s.take d).toArray⟩ : ByteArray) = str (s.take d) := rfl
    have et : (⟨(s.drop (d + 2)).toArray⟩ : ByteArray) = str (s.drop (d + 2)) := rfl
    rw [ef, et] at HC
    have hk1 := keyStr13 (s.take d) (by rw [List.length_take]; omega)
    have hk2 := keyStr13 (s.drop (d + 2)) (by rw [List.length_drop]; omega)
    have HW0 : Hid (Sg.wordOf t s = if Sg.find t (s.take d) < 0 ∨ Sg.find t (s.drop (d + 2)) < 0 ∨ Sg.find t (s.drop (d + 2)) ≤ Sg.find t (s.take d) then none else some (Sg.range t (Sg.find t (s.take d)) (Sg.find t (s.drop (d + 2))))) := Lib.hid (by
      unfold Sg.wordOf
      rw [hd])
    clear ef et hd hma hn
    generalize s.take d = p at *
    generalize s.drop (d + 2) = q at *
    rcases HF.out p with ⟨hmem, hneg⟩ | ⟨i, hi2, hf, hil⟩
    · have HE : Hid (Sg.wordOf t s = none) := Lib.hid (by rw [HW0.out, if_pos (.inl hneg)])
      clear hneg HW0
      go_enter Tryd.func44, Tryd.ntmps44
      go_wp2_with fail
      refine HC.out.mono ?_
      rintro e w1 ⟨rfl, k, rfl⟩
      obtain ⟨D, nD, ho, hi, hnD⟩ := HMa.out.mono (below_drew w k)
      have hhas : Maps.has D (.string p) = false := by rw [hi.keys p, decide_eq_false hmem]
      generalize hhq : Maps.has D (.string q) = y at *
      clear hi hnD hmem
      go_wp2_with (first
        | (at_lookup; refine wpList_lookup_own_ok_int _ rfl _ _ 66 rfl 9 3 .i64 keyLaw13 Tryd.underlying66 Tryd.underlying3 (zeroInt13 _) b nD D rfl ho _ _ rfl hk1 ?_; intro c hat hwc; clear hat hwc)
        | (at_lookup; refine wpList_lookup_own_ok_int _ rfl _ _ 66 rfl 9 3 .i64 keyLaw13 Tryd.underlying66 Tryd.underlying3 (zeroInt13 _) b nD D rfl ho _ _ rfl hk2 ?_; intro c hat hwc; clear hat hwc))
      go_ret3
      exact ⟨_, _, false, rfl, fun _ => HE.out, fun h => absurd h (by decide), k, rfl⟩
    · rcases HF.out q with ⟨hmem, hneg⟩ | ⟨j, hj2, hg, hjl⟩
      · have HE : Hid (Sg.wordOf t s = none) := Lib.hid (by rw [HW0.out, if_pos (.inr (.inl hneg))])
        clear hneg HW0 hf hil
        go_enter Tryd.func44, Tryd.ntmps44
        go_wp2_with fail
        refine HC.out.mono ?_
        rintro e w1 ⟨rfl, k, rfl⟩
        obtain ⟨D, nD, ho, hi, hnD⟩ := HMa.out.mono (below_drew w k)
        have hhas : Maps.has D (.string p) = true := by rw [hi.keys p, decide_eq_true (List.mem_of_getElem? hi2)]
        have hhq : Maps.has D (.string q) = false := by rw [hi.keys q, decide_eq_false hmem]
        clear hi hnD hmem hi2
        go_wp2_with (first
          | (at_lookup; refine wpList_lookup_own_ok_int _ rfl _ _ 66 rfl 9 3 .i64 keyLaw13 Tryd.underlying66 Tryd.underlying3 (zeroInt13 _) b nD D rfl ho _ _ rfl hk1 ?_; intro c hat hwc; clear hat hwc)
          | (at_lookup; refine wpList_lookup_own_ok_int _ rfl _ _ 66 rfl 9 3 .i64 keyLaw13 Tryd.underlying66 Tryd.underlying3 (zeroInt13 _) b nD D rfl ho _ _ rfl hk2 ?_; intro c hat hwc; clear hat hwc))
        go_ret3
        exact ⟨_, _, false, rfl, fun _ => HE.out, fun h => absurd h (by decide), k, rfl⟩
      · by_cases hij : i < j
        · have HE : Hid (Sg.wordOf t s = some (Sg.range t i j)) := Lib.hid (by rw [HW0.out, hf, hg, if_neg (by omega)])
          have Hjl := Lib.hid hjl
          have Hij := Lib.hid hij
          have g1 : (i : Int) < (j : Int) := by omega
          clear HW0 hf hg hil hjl hij
          go_enter Tryd.func44, Tryd.ntmps44
          go_wp2_with fail
          refine HC.out.mono ?_
          rintro e w1 ⟨rfl, k, rfl⟩
          obtain ⟨D, nD, ho, hi, hnD⟩ := HMa.out.mono (below_drew w k)
          have hhas : Maps.has D (.string p) = true := by rw [hi.keys p, decide_eq_true (List.mem_of_getElem? hi2)]
          have hhq : Maps.has D (.string q) = true := by rw [hi.keys q, decide_eq_true (List.mem_of_getElem? hj2)]
          have hel := fun z => hi.elem HN.out i p hi2 z
          have helq := fun z => hi.elem HN.out j q hj2 z
          clear hi hnD hi2 hj2
          go_wp2_with (first
            | (at_lookup; refine wpList_lookup_own_ok_int _ rfl _ _ 66 rfl 9 3 .i64 keyLaw13 Tryd.underlying66 Tryd.underlying3 (zeroInt13 _) b nD D rfl ho _ _ rfl hk1 ?_; intro c hat hwc; obtain rfl : c = (i : Int) := (by have h9 := hel (.lit (.int .i64 0)); rw [hat] at h9; injection h9 with h9; injection h9); clear hat hwc)
            | (at_lookup; refine wpList_lookup_own_ok_int _ rfl _ _ 66 rfl 9 3 .i64 keyLaw13 Tryd.underlying66 Tryd.underlying3 (zeroInt13 _) b nD D rfl ho _ _ rfl hk2 ?_; intro c hat hwc; obtain rfl : c = (j : Int) := (by have h9 := helq (.lit (.int .i64 0)); rw [hat] at h9; injection h9 with h9; injection h9); clear hat hwc))
          go_ret3
          exact ⟨i, j, true, rfl, fun h => absurd h (by decide), fun _ => ⟨HE.out, by omega, by have := Hij.out; omega, by have := Hjl.out; omega⟩, k, rfl⟩
        · have HE : Hid (Sg.wordOf t s = none) := Lib.hid (by rw [HW0.out, hf, hg, if_pos (by omega)])
          have Hij := Lib.hid hij
          have g1 : ¬ (i : Int) < (j : Int) := by omega
          clear HW0 hf hg hil hjl hij
          go_enter Tryd.func44, Tryd.ntmps44
          go_wp2_with fail
          refine HC.out.mono ?_
          rintro e w1 ⟨rfl, k, rfl⟩
          obtain ⟨D, nD, ho, hi, hnD⟩ := HMa.out.mono (below_drew w k)
          have hhas : Maps.has D (.string p) = true := by rw [hi.keys p, decide_eq_true (List.mem_of_getElem? hi2)]
          have hhq : Maps.has D (.string q) = true := by rw [hi.keys q, decide_eq_true (List.mem_of_getElem? hj2)]
          have hel := fun z => hi.elem HN.out i p hi2 z
          have helq := fun z => hi.elem HN.out j q hj2 z
          clear hi hnD hi2 hj2
          go_wp2_with (first
            | (at_lookup; refine wpList_lookup_own_ok_int _ rfl _ _ 66 rfl 9 3 .i64 keyLaw13 Tryd.underlying66 Tryd.underlying3 (zeroInt13 _) b nD D rfl ho _ _ rfl hk1 ?_; intro c hat hwc; obtain rfl : c = (i : Int) := (by have h9 := hel (.lit (.int .i64 0)); rw [hat] at h9; injection h9 with h9; injection h9); clear hat hwc)
            | (at_lookup; refine wpList_lookup_own_ok_int _ rfl _ _ 66 rfl 9 3 .i64 keyLaw13 Tryd.underlying66 Tryd.underlying3 (zeroInt13 _) b nD D rfl ho _ _ rfl hk2 ?_; intro c hat hwc; obtain rfl : c = (j : Int) := (by have h9 := helq (.lit (.int .i64 0)); rw [hat] at h9; injection h9 with h9; injection h9); clear hat hwc))
          go_ret3
          exact ⟨_, _, decide (i < j), rfl, fun _ => HE.out, fun h => absurd (of_decide_eq_true h) Hij.out, k, rfl⟩
end Go.Proofs.YtlgfmkmpopcciaaDoor
