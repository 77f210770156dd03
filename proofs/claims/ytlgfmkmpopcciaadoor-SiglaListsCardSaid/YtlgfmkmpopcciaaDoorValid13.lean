/-
  The landed validName and valid: what a name and a siglum may be.
-/
import Derived.Test.YtlgfmkmpopcciaaDoorKey13
import Derived.Test.YtlgfmkmpopcciaaDoorShelf
import Derived.Lib.IndexLaws
set_option linter.unusedVariables false
set_option linter.unusedSimpArgs false
namespace Go.Proofs.YtlgfmkmpopcciaaDoor
open Go.RowKit

theorem free_index (l : List UInt8) (c : UInt8) : (!decide (0 ≤ Lib.indexByte l c)) = l.all (fun d => decide (d ≠ c)) := by
  have hge := Lib.indexByte_ge l c
  by_cases h : Lib.indexByte l c = -1
  · have hn := Lib.indexByte_none h
    rw [h]
    have : l.all (fun d => decide (d ≠ c)) = true := by
      rw [List.all_eq_true]
      intro d hd
      obtain ⟨i, hi⟩ := List.getElem?_of_mem hd
      simp only [decide_eq_true_eq]
      rintro rfl
      exact hn i hi
    rw [this]
    rfl
  · obtain ⟨o, ho⟩ : ∃ o : Nat, Lib.indexByte l c = o := ⟨(Lib.indexByte l c).toNat, by omega⟩
    have hs := (Lib.indexByte_some ho).1
    rw [ho]
    have h1 : l.all (fun d => decide (d ≠ c)) = false := by
      cases e : l.all (fun d => decide (d ≠ c)) with
      | false => rfl
      | true =>
        have := List.all_eq_true.1 e c (List.mem_of_getElem? hs)
        simp at this
    rw [h1, decide_eq_true (by omega)]
    rfl
set_option maxHeartbeats 4000000 in
set_option maxRecDepth 100000 in
theorem validName_any (s : ByteArray) (w : World) : Calls Tryd.prog 50 #[.string s] w (Is (.bool (Sg.nameOk s.data.toList)) w) := by
  have HC := Lib.hid (fun w => Tryd.strings_Contains_one s 10 w)
  have hfr := free_index s.data.toList 10
  obtain ⟨q, hq⟩ : ∃ q, q = decide (0 ≤ Lib.indexByte s.data.toList 10) := ⟨_, rfl⟩
  rw [← hq] at HC hfr
  have HE : Hid (Sg.nameOk s.data.toList = (!q && (decide (1 ≤ s.size) && decide (s.size ≤ 200)))) := Lib.hid (by
    unfold Sg.nameOk
    rw [← hfr, size13])
  obtain ⟨r, hr⟩ : ∃ r, r = Sg.nameOk s.data.toList := ⟨_, rfl⟩
  rw [← hr] at HE ⊢
  clear hq hfr hr
  by_cases h0 : s.size = 0
  · have he : s.toList.isEmpty = true := by rw [Lib.toList_data, List.isEmpty_iff]; exact List.eq_nil_of_length_eq_zero (by rw [← Lib.size_eq]; exact h0)
    have HN : Hid (r = false) := Lib.hid (by rw [HE.out, decide_eq_false (by omega)]; simp)
    go_enter Tryd.func50, Tryd.ntmps50
    go_wp2
    go_ret
    rw [HN.out]
    exact ⟨rfl, rfl⟩
  · have he : s.toList.isEmpty = false := by rw [Lib.toList_data, List.isEmpty_eq_false_iff]; exact List.ne_nil_of_length_pos (by rw [← Lib.size_eq]; omega)
    by_cases h2 : s.size ≤ 200
    · have g2 : (s.size : Int) ≤ (200 : Int) := by omega
      have HN : Hid (r = !q) := Lib.hid (by rw [HE.out, decide_eq_true h2, decide_eq_true (by omega : 1 ≤ s.size)]; simp)
      go_enter Tryd.func50, Tryd.ntmps50
      go_wp2_with fail
      refine (HC.out _).mono ?_
      rintro e w1 ⟨rfl, rfl⟩
      go_wp2
      go_ret
      rw [HN.out]
      exact ⟨rfl, rfl⟩
    · have g2 : ¬ (s.size : Int) ≤ (200 : Int) := by omega
      have HN : Hid (r = false) := Lib.hid (by rw [HE.out, decide_eq_false h2]; simp)
      go_enter Tryd.func50, Tryd.ntmps50
      go_wp2
      go_ret
      rw [HN.out]
      exact ⟨rfl, rfl⟩
theorem rec_two (w : World) (p : Nat) (hp : w.heap.size = p) (a b : Value) (T : TypeId) : (w.alloc (.cells #[a, b] T)).cell? ⟨p, 0, none⟩ = some a ∧ (w.alloc (.cells #[a, b] T)).cell? ⟨p, 1, none⟩ = some b := by
  subst hp
  exact ⟨cell_lay w #[a, b] T 0 a rfl, cell_lay w #[a, b] T 1 b rfl⟩
set_option maxHeartbeats 4000000 in
set_option maxRecDepth 100000 in
theorem valid_any (k n : List UInt8) (hk : k.length ≤ 281474976710656) (w : World) : Calls Tryd.prog 35 #[.agg #[.string (str k), .string (str n)]] w (Ret (.bool (Sg.keyOk k && Sg.nameOk n)) w) := by
  have HK := Lib.hid (fun w => validKey_any (str k) (by rw [str_size13]; omega) w)
  have HN := Lib.hid (fun w => validName_any (str n) w)
  rw [str_data] at HK HN
  obtain ⟨y0, y1⟩ := rec_two w w.heap.size rfl (.string (str k)) (.string (str n)) 45
  have HB := Lib.hid (below_alloc w (.cells #[.string (str k), .string (str n)] 45))
  cases hq : Sg.keyOk k with
  | false =>
    rw [hq] at HK
    clear hq
    go_enter Tryd.func35, Tryd.ntmps35
    go_wp2_with fail
    refine (HK.out _).mono ?_
    rintro e w1 ⟨rfl, rfl⟩
    go_wp2
    go_ret
    exact ⟨rfl, HB.out⟩
  | true =>
    rw [hq] at HK
    clear hq
    go_enter Tryd.func35, Tryd.ntmps35
    go_wp2_with fail
    refine (HK.out _).mono ?_
    rintro e w1 ⟨rfl, rfl⟩
    go_wp2_with fail
    refine (HN.out _).mono ?_
    rintro e w1 ⟨rfl, rfl⟩
    go_wp2
    go_ret
    exact ⟨rfl, HB.out⟩
end Go.Proofs.YtlgfmkmpopcciaaDoor
