/-
  The answers that the document fixes (layer 10): the statements' 'fixed' returns true.
-/
import Derived.Test.YtlgaddkpfkjfmaaTot10
set_option linter.unusedVariables false
set_option linter.unusedSimpArgs false
namespace Go.Proofs.Ytlgaddkpfkjfmaa
open Go.RowKit

/-- a row that is built whole is the call's own -/
theorem own_new {α : Type} {f : α → List Value} {k : Nat} (hf : ∀ x, (f x).length = k) (w : World) (l : List α) (T : TypeId) (hl : l.length ≤ 100000) (cs : Array Value) (hcs : cs.toList = l.flatMap f) : OwnR T f k w.heap.size (.slice (some ⟨w.heap.size, 0, none⟩) l.length l.length) l (w.alloc (.cells cs T)) := by
  have hsz : cs.size = l.length * k := by rw [← Array.length_toList, hcs, flat_len hf]
  refine ⟨flat_len hf l, .inr ⟨w.heap.size, l.length, cs, rfl, Nat.le_refl _, heap_alloc_new w _, Nat.le_refl _, by unfold maxLen; omega, hsz, ?_⟩⟩
  rw [hcs, List.take_of_length_le (by rw [flat_len hf]; exact Nat.le_refl _)]
def boxF : It.Itm := ⟨0, ⟨10, 0, 0, 0⟩, 0, false, 0, 0⟩
def oneL : List It.Itm := [boxF] ++ It.endI
theorem oneL_len : oneL.length = 4 := rfl

set_option maxHeartbeats 2000000 in
set_option maxRecDepth 100000 in
theorem end_any (w : World) : Calls Try.prog 21 #[] w fun e w' => e = .returned (.slice (some ⟨w.heap.size, 0, none⟩) 3 3) ∧ ItsAt w' (.slice (some ⟨w.heap.size, 0, none⟩) 3 3) It.endI ∧ Below w.heap.size w w' := by
  have HS := Lib.hid (slc_new itC_len w w.heap.size rfl It.endI 49 (by simp [It.endI]) #[.int .i64 2, .int .i64 0, .int .i64 0, .int .i64 0, .int .i64 0, .int .i64 10000, .bool false, .int .i64 0, .int .i64 0, .int .i64 1, .int .i64 0, .int .i64 65536, .int .i64 0, .int .i64 1, .int .i64 0, .bool false, .int .i64 0, .int .i64 0, .int .i64 2, .int .i64 0, .int .i64 0, .int .i64 0, .int .i64 0, .int .i64 (-10000), .bool false, .int .i64 0, .int .i64 0] rfl)
  have HB := Lib.hid (below_alloc w (.cells #[.int .i64 2, .int .i64 0, .int .i64 0, .int .i64 0, .int .i64 0, .int .i64 10000, .bool false, .int .i64 0, .int .i64 0, .int .i64 1, .int .i64 0, .int .i64 65536, .int .i64 0, .int .i64 1, .int .i64 0, .bool false, .int .i64 0, .int .i64 0, .int .i64 2, .int .i64 0, .int .i64 0, .int .i64 0, .int .i64 0, .int .i64 (-10000), .bool false, .int .i64 0, .int .i64 0] 49))
  go_enter Try.func21, Try.ntmps21
  go_wp2
  go_ret
  exact ⟨rfl, HS.out, HB.out⟩

set_option maxHeartbeats 2000000 in
set_option maxRecDepth 100000 in
theorem one_any (w : World) : Calls Try.prog 10 #[] w fun e w' => ∃ u, e = .returned u ∧ ItsAt w' u oneL ∧ Below w.heap.size w w' := by
  obtain ⟨W1, hW1⟩ : ∃ W1, W1 = w.alloc (.cells #[.int .i64 0, .int .i64 10, .int .i64 0, .int .i64 0, .int .i64 0, .int .i64 0, .bool false, .int .i64 0, .int .i64 0] 49) := ⟨_, rfl⟩
  have HO1 : Hid (OwnX w.heap.size (.slice (some ⟨w.heap.size, 0, none⟩) 1 1) [boxF] W1) := Lib.hid (by rw [hW1]; exact own_new itC_len w [boxF] _ (by simp) _ rfl)
  have HB1 := Lib.hid (below_alloc w (.cells #[.int .i64 0, .int .i64 10, .int .i64 0, .int .i64 0, .int .i64 0, .int .i64 0, .bool false, .int .i64 0, .int .i64 0] 49))
  rw [← hW1] at HB1
  go_enter Try.func10, Try.ntmps10
  go_wp2_with fail
  rw [← hW1]
  clear hW1
  refine (end_any _).mono ?_
  rintro e w2 ⟨rfl, hi2, hb2⟩
  have HI2 := Lib.hid hi2
  have HO2 := Lib.hid (HO1.out.mono hb2)
  have HB2 := Lib.hid (below_step HB1.out hb2)
  clear hi2 hb2
  have hz2 := HB2.out.size
  go_wp2_with (at_builtin; refine wpList_append_slc Try.underlying22 infoIt rfl (by decide) itC_len itC_cell rfl _ _ rfl w.heap.size _ _ [boxF] It.endI rfl HO2.out rfl HI2.out (by simp [It.endI]) (by unfold maxLen; simp [It.endI]) hz2 ?_; intro v9 w9 h9 hg9; have HO9 := Lib.hid h9; have HB9 := Lib.hid (below_app HB2.out hg9 HO2.out hz2); clear h9 hg9)
  go_ret
  exact ⟨_, rfl, HO9.out.at itC_len, HB9.out⟩

theorem fx1 : It.costOf oneL (-1) 3 10 200 = some (100, 2) := by decide +kernel
theorem fx2 : It.costOf oneL (-1) 3 70000 200 = some (100, 2) := by decide +kernel
theorem fx3 : It.costOf oneL (-1) 3 9 10000 = none := by decide +kernel
theorem fx4 : It.total oneL [3] 10 0 = some 100 := by decide +kernel
theorem fx5 : It.legal oneL 3 = true := by decide +kernel
theorem fx6 : It.legal oneL 1 = false := by decide +kernel
theorem fx7 : It.st oneL 0 = 0 := by decide +kernel
theorem fx8 : (It.gluesN oneL 0 3).length = 3 := by decide +kernel

set_option maxHeartbeats 8000000 in
set_option maxRecDepth 100000 in
theorem fixed10 (w : World) : Calls Try.prog 6 #[] w (Ret (.bool true) w) := by
  have HO := Lib.hid (fun w => one_any w)
  have HC1 : Hid (∀ v w, ItsAt w v oneL → Calls Try.prog 9 #[v, .int .i64 (-1), .int .i64 3, .int .i64 10, .int .i64 200] w (Ret (.tuple #[.int .i64 100, .int .i64 2, .bool true]) w)) := Lib.hid (fun v w h => by
    have := cost_any v oneL (-1) 3 10 200 w h (by decide)
    rw [fx1] at this; exact this)
  have HC2 : Hid (∀ v w, ItsAt w v oneL → Calls Try.prog 9 #[v, .int .i64 (-1), .int .i64 3, .int .i64 70000, .int .i64 200] w (Ret (.tuple #[.int .i64 100, .int .i64 2, .bool true]) w)) := Lib.hid (fun v w h => by
    have := cost_any v oneL (-1) 3 70000 200 w h (by decide)
    rw [fx2] at this; exact this)
  have HC3 : Hid (∀ v w, ItsAt w v oneL → Calls Try.prog 9 #[v, .int .i64 (-1), .int .i64 3, .int .i64 9, .int .i64 10000] w (Ret (.tuple #[.int .i64 0, .int .i64 0, .bool false]) w)) := Lib.hid (fun v w h => by
    have := cost_any v oneL (-1) 3 9 10000 w h (by decide)
    rw [fx3] at this; exact this)
  have HC4 : Hid (∀ v u w, ItsAt w v oneL → IntsAt .i64 w u [3] → Calls Try.prog 7 #[v, u, .int .i64 10, .int .i64 0] w (Ret (.tuple #[.int .i64 100, .bool true]) w)) := Lib.hid (fun v u w h hb => by
    have := demTotal_any v u oneL [3] 10 0 w h (by decide) hb
    rw [fx4] at this; exact this)
  have HC5 : Hid (∀ v w, ItsAt w v oneL → Calls Try.prog 11 #[v, .int .i64 3] w (Is (.bool true) w)) := Lib.hid (fun v w h => by
    have := legal_any v oneL 3 w h
    rw [fx5] at this; exact this)
  have HC6 : Hid (∀ v w, ItsAt w v oneL → Calls Try.prog 11 #[v, .int .i64 1] w (Is (.bool false) w)) := Lib.hid (fun v w h => by
    have := legal_any v oneL 1 w h
    rw [fx6] at this; exact this)
  have HC7 : Hid (∀ v w, ItsAt w v oneL → Calls Try.prog 12 #[v, .int .i64 (-1)] w (Ret (.int .i64 0) w)) := Lib.hid (fun v w h => by
    have := start_any v oneL (-1) 0 (by decide) (by decide) w h
    rw [fx7] at this; exact this)
  have HC8 : Hid (∀ v w, ItsAt w v oneL → Calls Try.prog 13 #[v, .int .i64 (-1), .int .i64 3] w (fun e w' => ∃ a cap, e = .returned (.slice a 3 cap) ∧ Below w.heap.size w w')) := Lib.hid (fun v w h => by
    refine (glues_any v oneL (-1) 3 0 3 (by decide) (by decide) (by decide) (by decide) (by decide) w h).mono ?_
    rintro e w' ⟨u, rfl, ho, hb⟩
    obtain ⟨⟨a, cap, e, _⟩, _⟩ := OwnR.at ho glC_len
    rw [fx8] at e
    exact ⟨a, cap, by rw [e], hb⟩)
  have B0 := Lib.hid (Below.refl w.heap.size w)
  go_enter Try.func6, Try.ntmps6
  go_wp2_with fail
  refine (HO.out _).mono ?_
  rintro e wa1 ⟨ua1, rfl, ia1, ba1⟩
  have IA1 := Lib.hid ia1
  have BA1 := Lib.hid (below_step B0.out ba1)
  clear ia1 ba1
  go_wp2_with fail
  refine (HC1.out _ _ IA1.out).mono ?_
  rintro e wc1 ⟨rfl, bc1⟩
  have BC1 := Lib.hid (below_step BA1.out bc1)
  clear bc1
  go_wp2_with fail
  refine (HO.out _).mono ?_
  rintro e wa2 ⟨ua2, rfl, ia2, ba2⟩
  have IA2 := Lib.hid ia2
  have BA2 := Lib.hid (below_step BC1.out ba2)
  clear ia2 ba2
  go_wp2_with fail
  refine (HC2.out _ _ IA2.out).mono ?_
  rintro e wc2 ⟨rfl, bc2⟩
  have BC2 := Lib.hid (below_step BA2.out bc2)
  clear bc2
  go_wp2_with fail
  refine (HO.out _).mono ?_
  rintro e wa3 ⟨ua3, rfl, ia3, ba3⟩
  have IA3 := Lib.hid ia3
  have BA3 := Lib.hid (below_step BC2.out ba3)
  clear ia3 ba3
  go_wp2_with fail
  refine (HC3.out _ _ IA3.out).mono ?_
  rintro e wc3 ⟨rfl, bc3⟩
  have BC3 := Lib.hid (below_step BA3.out bc3)
  clear bc3
  go_wp2_with fail
  refine (HO.out _).mono ?_
  rintro e wa4 ⟨ua4, rfl, ia4, ba4⟩
  have BA4 := Lib.hid (below_step BC3.out ba4)
  have IA4 := Lib.hid (SlcAt.mono ia4 (below_alloc wa4 (.cells #[.int .i64 3] 3)))
  have IB4 : Hid (IntsAt .i64 (wa4.alloc (.cells #[.int .i64 3] 3)) (.slice (some ⟨wa4.heap.size, 0, none⟩) 1 1) [3]) := Lib.hid ⟨⟨_, 1, rfl, Nat.le_refl _⟩, by unfold maxLen; simp, fun _ => ⟨wa4.heap.size, 0, 1, rfl, fun i x hi => by
    match i, hi with
    | 0, hi =>
      simp at hi
      subst hi
      exact cell_lay wa4 _ _ _ _ rfl
    | i + 1, hi => simp at hi⟩⟩
  have BB4 := Lib.hid (below_step BA4.out (below_alloc wa4 (.cells #[.int .i64 3] 3)))
  clear ia4 ba4
  go_wp2_with fail
  refine (HC4.out _ _ _ IA4.out IB4.out).mono ?_
  rintro e wc4 ⟨rfl, bc4⟩
  have BC4 := Lib.hid (below_step BB4.out bc4)
  clear bc4
  go_wp2_with fail
  refine (HO.out _).mono ?_
  rintro e wa5 ⟨ua5, rfl, ia5, ba5⟩
  have IA5 := Lib.hid ia5
  have BA5 := Lib.hid (below_step BC4.out ba5)
  clear ia5 ba5
  go_wp2_with fail
  refine (HC5.out _ _ IA5.out).mono ?_
  rintro e wc5 ⟨rfl, rfl⟩
  go_wp2_with fail
  refine (HO.out _).mono ?_
  rintro e wa6 ⟨ua6, rfl, ia6, ba6⟩
  have IA6 := Lib.hid ia6
  have BA6 := Lib.hid (below_step BA5.out ba6)
  clear ia6 ba6
  go_wp2_with fail
  refine (HC6.out _ _ IA6.out).mono ?_
  rintro e wc6 ⟨rfl, rfl⟩
  go_wp2_with fail
  refine (HO.out _).mono ?_
  rintro e wa7 ⟨ua7, rfl, ia7, ba7⟩
  have IA7 := Lib.hid ia7
  have BA7 := Lib.hid (below_step BA6.out ba7)
  clear ia7 ba7
  go_wp2_with fail
  refine (HC7.out _ _ IA7.out).mono ?_
  rintro e wc7 ⟨rfl, bc7⟩
  have BC7 := Lib.hid (below_step BA7.out bc7)
  clear bc7
  go_wp2_with fail
  refine (HO.out _).mono ?_
  rintro e wa8 ⟨ua8, rfl, ia8, ba8⟩
  have IA8 := Lib.hid ia8
  have BA8 := Lib.hid (below_step BC7.out ba8)
  clear ia8 ba8
  go_wp2_with fail
  refine (HC8.out _ _ IA8.out).mono ?_
  rintro e wc8 ⟨a8, cap8, rfl, bc8⟩
  have BC8 := Lib.hid (below_step BA8.out bc8)
  clear bc8
  go_wp2
  go_ret
  exact ⟨rfl, BC8.out⟩
end Go.Proofs.Ytlgaddkpfkjfmaa
