/-
  The answers that the document fixes (layer 9): the statements' 'fixed' returns true.
-/
import Derived.Test.YtfgfplpbddapnaaRefVerse9
import Derived.Test.YtfgfplpbddapnaaBoxes9
set_option linter.unusedVariables false
set_option linter.unusedSimpArgs false
namespace Go.Proofs.Ytfgfplpbddapnaa
open Go.RowKit

def ptF (n : Int) : It.Pt := ⟨⟨#[97]⟩, n, 0, 0⟩
set_option maxHeartbeats 2000000 in
set_option maxRecDepth 100000 in
theorem one_any (n : Int) (w : World) : Calls Try.prog 21 #[.int .i64 n] w fun e w' => e = .returned (.slice (some ⟨w.heap.size, 0, none⟩) 1 1) ∧ w' = w.alloc (.cells #[.string ⟨#[97]⟩, .int .i64 n, .int .i64 0, .int .i64 0] 47) := by
  go_enter Try.func21, Try.ntmps21
  go_wp2
  go_ret
  exact ⟨rfl, rfl⟩
theorem pts_of {w : World} {b : Nat} (n : Int) (h : w.heap[b]? = some (.cells #[.string ⟨#[97]⟩, .int .i64 n, .int .i64 0, .int .i64 0] 47 (0, 0))) : PtsAt w (.slice (some ⟨b, 0, none⟩) 1 1) [ptF n] := by
  refine ⟨⟨_, 1, rfl, Nat.le_refl _⟩, by unfold maxLen; simp, fun _ => ⟨b, 0, 1, rfl, fun i x hi j u hj => ?_⟩⟩
  match i, hi with
  | 0, hi =>
    simp at hi
    subst hi
    simp only [Nat.zero_mul, Nat.zero_add]
    rw [Lib.cell_of_heap h]
    simpa [ptC, ptF] using hj
  | i + 1, hi => simp at hi
theorem words_two {w : World} {a b c : Nat} (n m : Int) (ha : w.heap[a]? = some (.cells #[.string ⟨#[97]⟩, .int .i64 n, .int .i64 0, .int .i64 0] 47 (0, 0))) (hb : w.heap[b]? = some (.cells #[.string ⟨#[97]⟩, .int .i64 m, .int .i64 0, .int .i64 0] 47 (0, 0)))
    (hc : w.heap[c]? = some (.cells #[.slice (some ⟨a, 0, none⟩) 1 1, .slice (some ⟨b, 0, none⟩) 1 1] 43 (0, 0))) : WordsAt w (.slice (some ⟨c, 0, none⟩) 2 2) [[ptF n], [ptF m]] := by
  refine ⟨⟨_, 2, rfl, Nat.le_refl _⟩, by unfold maxLen; simp, fun _ => ⟨c, 0, 2, rfl, fun i x hi => ?_⟩⟩
  match i, hi with
  | 0, hi =>
    simp at hi
    subst hi
    exact ⟨_, by rw [Lib.cell_of_heap hc]; rfl, pts_of n ha⟩
  | 1, hi =>
    simp at hi
    subst hi
    exact ⟨_, by rw [Lib.cell_of_heap hc]; rfl, pts_of m hb⟩
  | i + 2, hi => simp at hi
def spF : It.Gl := ⟨3, 1, 1, 0⟩
def listF : List It.Itm := It.versI spF 2 0 [[[ptF 5], [ptF 6]]]
theorem mayF : It.may (It.versI spF 2 0 [[[ptF 5], [ptF 6]]]) = true := by decide +kernel
theorem mayE : It.may (It.versI spF 2 0 [[]]) = true := by decide +kernel
theorem listE : It.versI spF 2 0 [[]] = It.endI := by decide +kernel

theorem listF_eq : It.versI spF 2 0 [[[ptF 5], [ptF 6]]] = [⟨0, ⟨5, 0, 0, 0⟩, 0, false, 0, 0⟩, ⟨1, ⟨3, 1, 1, 0⟩, 0, false, 0, 0⟩, ⟨0, ⟨6, 0, 0, 0⟩, 0, false, 1, 0⟩, ⟨2, ⟨0, 0, 0, 0⟩, 10000, false, 0, 0⟩, ⟨1, ⟨0, 65536, 0, 1⟩, 0, false, 0, 0⟩, ⟨2, ⟨0, 0, 0, 0⟩, -10000, false, 0, 0⟩] := by decide +kernel
theorem boxesF : (It.boxes (It.versI spF 2 0 [[[ptF 5], [ptF 6]]])).length = 2 := by decide +kernel
theorem listF_len : (It.versI spF 2 0 [[[ptF 5], [ptF 6]]]).length = 6 := by rw [listF_eq]; rfl
theorem flt_heap {w : World} {r : Nat} {c a : Int} (h : w.heap[r]? = some (.cells #[.int .i64 c, .int .i64 a] 33 (0, 0))) : FltAt w r c a := ⟨Lib.cell_of_heap h 0, Lib.cell_of_heap h 1, Lib.frozen_of_heap h 0, Lib.frozen_of_heap h 1⟩
theorem slc_same {α : Type} {f : α → List Value} {k : Nat} {w : World} {v x : Value} {l : List α} {p : Addr} (h : SlcAt f k w v l) (hp : w.cell? p = some x) : SlcAt f k (w.setCell p x) v l := by
  obtain ⟨h1, h2, h3⟩ := h
  refine ⟨h1, h2, fun hq => ?_⟩
  obtain ⟨b, o, cap, e, hc⟩ := h3 hq
  refine ⟨b, o, cap, e, fun i y hy j u hj => ?_⟩
  have hu := hc i y hy j u hj
  by_cases e : p = ⟨b, o + i * k + j, none⟩
  · rw [← e] at hu ⊢
    rw [hp] at hu
    injection hu with hu
    subst hu
    exact World.cell?_setCell_same _ _ _ hp
  · rw [World.cell?_setCell_other _ _ _ _ e]
    exact hu
theorem slc_two {α : Type} {f : α → List Value} {k : Nat} {w : World} {v : Value} {l : List α} {r : Nat} {c a : Int} (h : SlcAt f k w v l) (hr : w.heap[r]? = some (.cells #[.int .i64 c, .int .i64 a] 33 (0, 0))) : SlcAt f k ((w.setCell ⟨r, 0, none⟩ (.int .i64 c)).setCell ⟨r, 1, none⟩ (.int .i64 a)) v l :=
  slc_same (slc_same h (Lib.cell_of_heap hr 0)) (Lib.cell_of_heap (heap_setCell_same _ _ 0 _ _ (.int .i64 c) hr) 1)
set_option maxHeartbeats 16000000 in
set_option maxRecDepth 100000 in
theorem fixed9 (w : World) : Calls Try.prog 10 #[] w (Ret (.bool true) w) := by
  obtain ⟨Z, hZ⟩ : ∃ Z, Z = w.alloc (.cells #[.int .i64 3, .int .i64 1, .int .i64 1, .int .i64 0, .int .i32 0, .slice none 0 0, .slice none 0 0, .slice none 0 0] 28) := ⟨_, rfl⟩
  have HBZ : Hid (Below w.heap.size w Z) := Lib.hid (by rw [hZ]; exact below_alloc _ _)
  have HMZ : Hid (Z.heap[w.heap.size]? = some (.cells #[.int .i64 3, .int .i64 1, .int .i64 1, .int .i64 0, .int .i32 0, .slice none 0 0, .slice none 0 0, .slice none 0 0] 28 (0, 0))) := Lib.hid (by rw [hZ]; exact obj_new w _ rfl _ _)
  have HC1 := Lib.hid (fun n w => one_any n w)
  have HPr : Hid (∀ v w, WordsAt w v [[ptF 5], [ptF 6]] → Calls Try.prog 9 #[.agg #[.int .i64 3, .int .i64 1, .int .i64 1, .int .i64 0, .int .i32 0, .slice none 0 0, .slice none 0 0, .slice none 0 0], .int .i64 2, v] w (fun e w' => ∃ u, e = .returned (.tuple #[u, .agg #[.int .i64 0, .int .i64 0]]) ∧ ItsAt w' u (It.versI spF 2 0 [[[ptF 5], [ptF 6]]]) ∧ Below w.heap.size w w')) := Lib.hid (fun v w h => by
    refine (prose_any spF (.int .i32 0) (.slice none 0 0) (.slice none 0 0) (.slice none 0 0) 2 v _ w h).mono ?_
    rintro e w' ⟨hp, hb⟩
    rcases hp with ⟨_, u, rfl, ho⟩ | ⟨hm, _⟩
    · exact ⟨u, rfl, ho.at itC_len, hb⟩
    · rw [mayF] at hm; cases hm)
  have HPe : Hid (∀ v w, WordsAt w v [] → Calls Try.prog 9 #[.agg #[.int .i64 3, .int .i64 1, .int .i64 1, .int .i64 0, .int .i32 0, .slice none 0 0, .slice none 0 0, .slice none 0 0], .int .i64 2, v] w (fun e w' => ∃ u, e = .returned (.tuple #[u, .agg #[.int .i64 0, .int .i64 0]]) ∧ ItsAt w' u It.endI ∧ Below w.heap.size w w')) := Lib.hid (fun v w h => by
    refine (prose_any spF (.int .i32 0) (.slice none 0 0) (.slice none 0 0) (.slice none 0 0) 2 v _ w h).mono ?_
    rintro e w' ⟨hp, hb⟩
    rcases hp with ⟨_, u, rfl, ho⟩ | ⟨hm, _⟩
    · rw [listE] at ho
      exact ⟨u, rfl, ho.at itC_len, hb⟩
    · rw [mayE] at hm; cases hm)
  go_enter Try.func10, Try.ntmps10
  go_upto_region 2 with fail
  rw [← hZ]
  clear hZ
  go_cut [2, 3] (fun lv fv wx => ∃ r, fv = .pointer (some ⟨r, 0, none⟩) ∧ Hid (FltAt wx r 0 0) ∧ Hid (ItsAt wx lv (It.versI spF 2 0 [[[ptF 5], [ptF 6]]])) ∧ Hid (Below w.heap.size w wx) ∧ Hid (wx.heap[w.heap.size]? = some (.cells #[.int .i64 3, .int .i64 1, .int .i64 1, .int .i64 0, .int .i32 0, .slice none 0 0, .slice none 0 0, .slice none 0 0] 28 (0, 0))))
  case first =>
    obtain ⟨W0, hW0⟩ : ∃ W, W = Z.drew := ⟨_, rfl⟩
    have HM0 : Hid (W0.heap[w.heap.size]? = some (.cells #[.int .i64 3, .int .i64 1, .int .i64 1, .int .i64 0, .int .i32 0, .slice none 0 0, .slice none 0 0, .slice none 0 0] 28 (0, 0))) := Lib.hid (by rw [hW0]; exact HMZ.out)
    have HB0 : Hid (Below w.heap.size w W0) := Lib.hid (by rw [hW0]; exact HBZ.out.trans ((below_drew9 Z).mono HBZ.out.size))
    refine wp_region_held_drew (S := fun w' : World => w'.heap[w.heap.size]? = some (.cells #[.int .i64 3, .int .i64 1, .int .i64 1, .int .i64 0, .int .i32 0, .slice none 0 0, .slice none 0 0, .slice none 0 0] 28 (0, 0))) (by kernel_rfl) (by rw [← hW0]; exact HM0.out) (fun hHeld => ?_)
    rw [← hW0] at hHeld ⊢
    clear hW0
    refine take_op (i := 0) (d := 9) (op := Op.load 28 (Operand.tmp 1)) (ty := 28) (v := (.agg #[.int .i64 3, .int .i64 1, .int .i64 1, .int .i64 0, .int .i32 0, .slice none 0 0, .slice none 0 0, .slice none 0 0])) (by kernel_rfl) (by kernel_rfl) (by kernel_rfl) (by kernel_rfl) (by kernel_rfl) (fun _ _ _ h => h) (fun wS hS => by (try dsimp only at hS); have e0 := Lib.cell_of_heap hS 0; have e1 := Lib.cell_of_heap hS 1; have e2 := Lib.cell_of_heap hS 2; have e3 := Lib.cell_of_heap hS 3; have e4 := Lib.cell_of_heap hS 4; have e5 := Lib.cell_of_heap hS 5; have e6 := Lib.cell_of_heap hS 6; have e7 := Lib.cell_of_heap hS 7; clear hS; go_simp) hHeld ?_
    simp only [Act.put, List.setIfInBounds_toArray, List.set_cons_zero, List.set_cons_succ]
    refine wpAnyH_ready (rs := [1, 8]) (by kernel_rfl) (by simp) ?_
    refine (AllReadyH.cons rfl (fun K hK => ?_) (AllReadyH.cons rfl (fun K hK => ?_) AllReadyH.nil))
    · go_simp
      go_at_call 21
      refine (HC1.out _ _).mono ?_
      rintro e W1 ⟨rfl, hW1⟩
      have hb1 : Below W0.heap.size W0 W1 := by rw [hW1]; exact below_alloc _ _
      have H51 : Hid (W1.heap[W0.heap.size]? = some (.cells #[.string ⟨#[97]⟩, .int .i64 5, .int .i64 0, .int .i64 0] 47 (0, 0))) := Lib.hid (by rw [hW1]; exact obj_new _ _ rfl _ _)
      have HB1 := Lib.hid (below_step HB0.out hb1)
      have HM1 := Lib.hid (obj_kept hb1 HM0.out)
      clear hW1 hb1
      go_simp
      refine hK.out _ _ HM1.out (fun hHeld => ?_)
      clear hK K
      refine wpAnyH_ready (rs := [2, 8]) (by kernel_rfl) (by simp) ?_
      refine (AllReadyH.cons rfl (fun K hK => ?_) (AllReadyH.cons rfl (fun K hK => ?_) AllReadyH.nil))
      · go_simp
        go_at_call 21
        refine (HC1.out _ _).mono ?_
        rintro e W2 ⟨rfl, hW2⟩
        have hb2 : Below W1.heap.size W1 W2 := by rw [hW2]; exact below_alloc _ _
        have H62 : Hid (W2.heap[W1.heap.size]? = some (.cells #[.string ⟨#[97]⟩, .int .i64 6, .int .i64 0, .int .i64 0] 47 (0, 0))) := Lib.hid (by rw [hW2]; exact obj_new _ _ rfl _ _)
        have H52 := Lib.hid (obj_kept hb2 H51.out)
        have HB2 := Lib.hid (below_step HB1.out hb2)
        have HM2 := Lib.hid (obj_kept hb2 HM1.out)
        clear hW2 hb2
        go_simp
        refine hK.out _ _ HM2.out (fun hHeld => ?_)
        clear hK K
        refine wpAnyH_ready (rs := [3, 8]) (by kernel_rfl) (by simp) ?_
        refine (AllReadyH.cons rfl (fun K hK => ?_) (AllReadyH.cons rfl (fun K hK => ?_) AllReadyH.nil))
        · go_simp
          obtain ⟨W3, hW3⟩ : ∃ W, W = W2.alloc (.cells #[.slice (some ⟨W0.heap.size, 0, none⟩) 1 1, .slice (some ⟨W1.heap.size, 0, none⟩) 1 1] 43) := ⟨_, rfl⟩
          have hb3 : Below W2.heap.size W2 W3 := by rw [hW3]; exact below_alloc _ _
          have HC3 : Hid (W3.heap[W2.heap.size]? = some (.cells #[.slice (some ⟨W0.heap.size, 0, none⟩) 1 1, .slice (some ⟨W1.heap.size, 0, none⟩) 1 1] 43 (0, 0))) := Lib.hid (by rw [hW3]; exact obj_new _ _ rfl _ _)
          have H53 := Lib.hid (obj_kept hb3 H52.out)
          have H63 := Lib.hid (obj_kept hb3 H62.out)
          have HB3 := Lib.hid (below_step HB2.out hb3)
          have HM3 := Lib.hid (obj_kept hb3 HM2.out)
          rw [← hW3]
          refine hK.out _ _ HM3.out (fun hHeld => ?_)
          clear hK K hW3 hb3
          refine wpAnyH_ready (rs := [4, 8]) (by kernel_rfl) (by simp) ?_
          refine (AllReadyH.cons rfl (fun K hK => ?_) (AllReadyH.cons rfl (fun K hK => ?_) AllReadyH.nil))
          · go_simp
            go_at_call 9
            refine (HPr.out _ W3 (words_two 5 6 H53.out H63.out HC3.out)).mono ?_
            rintro e W4 ⟨v5, rfl, hi4, hb4⟩
            have HI4 := Lib.hid hi4
            have H54 := Lib.hid (obj_kept hb4 H53.out)
            have H64 := Lib.hid (obj_kept hb4 H63.out)
            have HB4 := Lib.hid (below_step HB3.out hb4)
            have HC4 := Lib.hid (obj_kept hb4 HC3.out)
            have HM4 := Lib.hid (obj_kept hb4 HM3.out)
            clear hb4 hi4
            go_simp
            refine hK.out _ _ HM4.out (fun hHeld => ?_)
            clear hK K
            refine take_op (i := 5) (d := 8) (op := Op.move (Operand.tmp 13)) (ty := 34) (v := (.tuple #[v5, .agg #[.int .i64 0, .int .i64 0]])) (by kernel_rfl) (by kernel_rfl) (by kernel_rfl) (by kernel_rfl) (by kernel_rfl) (fun _ _ _ h => h) (fun wS hS => by clear hS; go_simp) hHeld ?_
            simp only [Act.put, List.setIfInBounds_toArray, List.set_cons_zero, List.set_cons_succ]
            refine take_op (i := 6) (d := 14) (op := Op.extract (Operand.tmp 8) 0) (ty := 30) (v := v5) (by kernel_rfl) (by kernel_rfl) (by kernel_rfl) (by kernel_rfl) (by kernel_rfl) (fun _ _ _ h => h) (fun wS hS => by clear hS; go_simp) hHeld ?_
            simp only [Act.put, List.setIfInBounds_toArray, List.set_cons_zero, List.set_cons_succ]
            refine take_op (i := 7) (d := 15) (op := Op.extract (Operand.tmp 8) 1) (ty := 33) (v := (.agg #[.int .i64 0, .int .i64 0])) (by kernel_rfl) (by kernel_rfl) (by kernel_rfl) (by kernel_rfl) (by kernel_rfl) (fun _ _ _ h => h) (fun wS hS => by clear hS; go_simp) hHeld ?_
            simp only [Act.put, List.setIfInBounds_toArray, List.set_cons_zero, List.set_cons_succ]
            refine wpAnyH_ready (rs := [8]) (by kernel_rfl) (by simp) ?_
            refine (AllReadyH.cons rfl (fun K hK => ?_) AllReadyH.nil)
            · go_simp
              obtain ⟨W5, hW5⟩ : ∃ W, W = W4.alloc (.cells #[.int .i64 0, .int .i64 0] 33) := ⟨_, rfl⟩
              have hb5 : Below W4.heap.size W4 W5 := by rw [hW5]; exact below_alloc _ _
              have HF5 : Hid (W5.heap[W4.heap.size]? = some (.cells #[.int .i64 0, .int .i64 0] 33 (0, 0))) := Lib.hid (by rw [hW5]; exact obj_new _ _ rfl _ _)
              have H55 := Lib.hid (obj_kept hb5 H54.out)
              have H65 := Lib.hid (obj_kept hb5 H64.out)
              have HB5 := Lib.hid (below_step HB4.out hb5)
              have HC5 := Lib.hid (obj_kept hb5 HC4.out)
              have HI5 := Lib.hid (SlcAt.mono HI4.out hb5)
              have HM5 := Lib.hid (obj_kept hb5 HM4.out)
              rw [← hW5]
              refine hK.out _ _ HM5.out (fun hHeld => ?_)
              clear hK K hW5 hb5
              have d0 := Lib.cell_of_heap HF5.out 0
              have d1 := Lib.cell_of_heap HF5.out 1
              have g0 := Lib.frozen_of_heap HF5.out 0
              have g1 := Lib.frozen_of_heap HF5.out 1
              refine take_op (i := 9) (d := 2) (op := Op.assign (Operand.tmp 14)) (ty := 30) (v := v5) (by kernel_rfl) (by kernel_rfl) (by kernel_rfl) (by kernel_rfl) (by kernel_rfl) (fun _ _ _ h => h) (fun wS hS => by clear hS; go_simp) hHeld ?_
              simp only [Act.put, List.setIfInBounds_toArray, List.set_cons_zero, List.set_cons_succ]
              refine wpAnyH_ready (rs := [10]) (by kernel_rfl) (by simp) ?_
              refine AllReadyH.cons rfl (fun K hK => ?_) AllReadyH.nil
              go_simp
              obtain ⟨WX, hWX⟩ : ∃ WX, WX = (W5.setCell ⟨W4.heap.size, 0, none⟩ (.int .i64 0)).setCell ⟨W4.heap.size, 1, none⟩ (.int .i64 0) := ⟨_, rfl⟩
              have HFX := Lib.hid (heap_setCell_same _ _ 1 _ _ (.int .i64 0) (heap_setCell_same _ _ 0 _ _ (.int .i64 0) HF5.out))
              have HIX := Lib.hid (slc_two HI5.out HF5.out)
              have hne : w.heap.size ≠ W4.heap.size := fun e => by have h1 := HF5.out; rw [← e, HM5.out] at h1; injection h1 with h1; injection h1 with _ h1 _; exact absurd h1 (by decide)
              have HMX := Lib.hid (obj_set (p := W4.heap.size) (i := 1) (v := .int .i64 0) (obj_set (p := W4.heap.size) (i := 0) (v := .int .i64 0) HM5.out hne) hne)
              have hle : w.heap.size ≤ W4.heap.size := HB4.out.size
              have HBX := Lib.hid ((HB5.out.setCell (p := ⟨W4.heap.size, 0, none⟩) hle (.int .i64 0)).setCell (p := ⟨W4.heap.size, 1, none⟩) hle (.int .i64 0))
              rw [← hWX] at HFX HIX HMX HBX
              rw [← hWX]
              refine hK.out _ _ HMX.out (fun _ => ?_)
              clear hK K hWX d0 d1 g0 g1 hne hle
              refine wpAnyH_done (by kernel_rfl) ?_ _
              go_wp2_with fail
              go_meet
              exact ⟨_, rfl, Lib.hid (flt_heap HFX.out), HIX, HBX, HMX⟩
          · go_simp
            obtain ⟨W4, hW4⟩ : ∃ W, W = W3.alloc (.cells #[.int .i64 0, .int .i64 0] 33) := ⟨_, rfl⟩
            have hb4 : Below W3.heap.size W3 W4 := by rw [hW4]; exact below_alloc _ _
            have HF4 : Hid (W4.heap[W3.heap.size]? = some (.cells #[.int .i64 0, .int .i64 0] 33 (0, 0))) := Lib.hid (by rw [hW4]; exact obj_new _ _ rfl _ _)
            have H54 := Lib.hid (obj_kept hb4 H53.out)
            have H64 := Lib.hid (obj_kept hb4 H63.out)
            have HB4 := Lib.hid (below_step HB3.out hb4)
            have HC4 := Lib.hid (obj_kept hb4 HC3.out)
            have HM4 := Lib.hid (obj_kept hb4 HM3.out)
            rw [← hW4]
            refine hK.out _ _ HM4.out (fun hHeld => ?_)
            clear hK K hW4 hb4
            refine wpAnyH_ready (rs := [4]) (by kernel_rfl) (by simp) ?_
            refine (AllReadyH.cons rfl (fun K hK => ?_) AllReadyH.nil)
            · go_simp
              go_at_call 9
              refine (HPr.out _ W4 (words_two 5 6 H54.out H64.out HC4.out)).mono ?_
              rintro e W5 ⟨v5, rfl, hi5, hb5⟩
              have HI5 := Lib.hid hi5
              have H55 := Lib.hid (obj_kept hb5 H54.out)
              have H65 := Lib.hid (obj_kept hb5 H64.out)
              have HB5 := Lib.hid (below_step HB4.out hb5)
              have HC5 := Lib.hid (obj_kept hb5 HC4.out)
              have HF5 := Lib.hid (obj_kept hb5 HF4.out)
              have HM5 := Lib.hid (obj_kept hb5 HM4.out)
              clear hb5 hi5
              go_simp
              refine hK.out _ _ HM5.out (fun hHeld => ?_)
              clear hK K
              refine take_op (i := 5) (d := 8) (op := Op.move (Operand.tmp 13)) (ty := 34) (v := (.tuple #[v5, .agg #[.int .i64 0, .int .i64 0]])) (by kernel_rfl) (by kernel_rfl) (by kernel_rfl) (by kernel_rfl) (by kernel_rfl) (fun _ _ _ h => h) (fun wS hS => by clear hS; go_simp) hHeld ?_
              simp only [Act.put, List.setIfInBounds_toArray, List.set_cons_zero, List.set_cons_succ]
              refine take_op (i := 6) (d := 14) (op := Op.extract (Operand.tmp 8) 0) (ty := 30) (v := v5) (by kernel_rfl) (by kernel_rfl) (by kernel_rfl) (by kernel_rfl) (by kernel_rfl) (fun _ _ _ h => h) (fun wS hS => by clear hS; go_simp) hHeld ?_
              simp only [Act.put, List.setIfInBounds_toArray, List.set_cons_zero, List.set_cons_succ]
              refine take_op (i := 7) (d := 15) (op := Op.extract (Operand.tmp 8) 1) (ty := 33) (v := (.agg #[.int .i64 0, .int .i64 0])) (by kernel_rfl) (by kernel_rfl) (by kernel_rfl) (by kernel_rfl) (by kernel_rfl) (fun _ _ _ h => h) (fun wS hS => by clear hS; go_simp) hHeld ?_
              simp only [Act.put, List.setIfInBounds_toArray, List.set_cons_zero, List.set_cons_succ]
              have d0 := Lib.cell_of_heap HF5.out 0
              have d1 := Lib.cell_of_heap HF5.out 1
              have g0 := Lib.frozen_of_heap HF5.out 0
              have g1 := Lib.frozen_of_heap HF5.out 1
              refine take_op (i := 9) (d := 2) (op := Op.assign (Operand.tmp 14)) (ty := 30) (v := v5) (by kernel_rfl) (by kernel_rfl) (by kernel_rfl) (by kernel_rfl) (by kernel_rfl) (fun _ _ _ h => h) (fun wS hS => by clear hS; go_simp) hHeld ?_
              simp only [Act.put, List.setIfInBounds_toArray, List.set_cons_zero, List.set_cons_succ]
              refine wpAnyH_ready (rs := [10]) (by kernel_rfl) (by simp) ?_
              refine AllReadyH.cons rfl (fun K hK => ?_) AllReadyH.nil
              go_simp
              obtain ⟨WX, hWX⟩ : ∃ WX, WX = (W5.setCell ⟨W3.heap.size, 0, none⟩ (.int .i64 0)).setCell ⟨W3.heap.size, 1, none⟩ (.int .i64 0) := ⟨_, rfl⟩
              have HFX := Lib.hid (heap_setCell_same _ _ 1 _ _ (.int .i64 0) (heap_setCell_same _ _ 0 _ _ (.int .i64 0) HF5.out))
              have HIX := Lib.hid (slc_two HI5.out HF5.out)
              have hne : w.heap.size ≠ W3.heap.size := fun e => by have h1 := HF5.out; rw [← e, HM5.out] at h1; injection h1 with h1; injection h1 with _ h1 _; exact absurd h1 (by decide)
              have HMX := Lib.hid (obj_set (p := W3.heap.size) (i := 1) (v := .int .i64 0) (obj_set (p := W3.heap.size) (i := 0) (v := .int .i64 0) HM5.out hne) hne)
              have hle : w.heap.size ≤ W3.heap.size := HB3.out.size
              have HBX := Lib.hid ((HB5.out.setCell (p := ⟨W3.heap.size, 0, none⟩) hle (.int .i64 0)).setCell (p := ⟨W3.heap.size, 1, none⟩) hle (.int .i64 0))
              rw [← hWX] at HFX HIX HMX HBX
              rw [← hWX]
              refine hK.out _ _ HMX.out (fun _ => ?_)
              clear hK K hWX d0 d1 g0 g1 hne hle
              refine wpAnyH_done (by kernel_rfl) ?_ _
              go_wp2_with fail
              go_meet
              exact ⟨_, rfl, Lib.hid (flt_heap HFX.out), HIX, HBX, HMX⟩
        · go_simp
          obtain ⟨W3, hW3⟩ : ∃ W, W = W2.alloc (.cells #[.int .i64 0, .int .i64 0] 33) := ⟨_, rfl⟩
          have hb3 : Below W2.heap.size W2 W3 := by rw [hW3]; exact below_alloc _ _
          have HF3 : Hid (W3.heap[W2.heap.size]? = some (.cells #[.int .i64 0, .int .i64 0] 33 (0, 0))) := Lib.hid (by rw [hW3]; exact obj_new _ _ rfl _ _)
          have H53 := Lib.hid (obj_kept hb3 H52.out)
          have H63 := Lib.hid (obj_kept hb3 H62.out)
          have HB3 := Lib.hid (below_step HB2.out hb3)
          have HM3 := Lib.hid (obj_kept hb3 HM2.out)
          rw [← hW3]
          refine hK.out _ _ HM3.out (fun hHeld => ?_)
          clear hK K hW3 hb3
          refine wpAnyH_ready (rs := [3]) (by kernel_rfl) (by simp) ?_
          refine (AllReadyH.cons rfl (fun K hK => ?_) AllReadyH.nil)
          · go_simp
            obtain ⟨W4, hW4⟩ : ∃ W, W = W3.alloc (.cells #[.slice (some ⟨W0.heap.size, 0, none⟩) 1 1, .slice (some ⟨W1.heap.size, 0, none⟩) 1 1] 43) := ⟨_, rfl⟩
            have hb4 : Below W3.heap.size W3 W4 := by rw [hW4]; exact below_alloc _ _
            have HC4 : Hid (W4.heap[W3.heap.size]? = some (.cells #[.slice (some ⟨W0.heap.size, 0, none⟩) 1 1, .slice (some ⟨W1.heap.size, 0, none⟩) 1 1] 43 (0, 0))) := Lib.hid (by rw [hW4]; exact obj_new _ _ rfl _ _)
            have H54 := Lib.hid (obj_kept hb4 H53.out)
            have H64 := Lib.hid (obj_kept hb4 H63.out)
            have HB4 := Lib.hid (below_step HB3.out hb4)
            have HF4 := Lib.hid (obj_kept hb4 HF3.out)
            have HM4 := Lib.hid (obj_kept hb4 HM3.out)
            rw [← hW4]
            refine hK.out _ _ HM4.out (fun hHeld => ?_)
            clear hK K hW4 hb4
            refine wpAnyH_ready (rs := [4]) (by kernel_rfl) (by simp) ?_
            refine (AllReadyH.cons rfl (fun K hK => ?_) AllReadyH.nil)
            · go_simp
              go_at_call 9
              refine (HPr.out _ W4 (words_two 5 6 H54.out H64.out HC4.out)).mono ?_
              rintro e W5 ⟨v5, rfl, hi5, hb5⟩
              have HI5 := Lib.hid hi5
              have H55 := Lib.hid (obj_kept hb5 H54.out)
              have H65 := Lib.hid (obj_kept hb5 H64.out)
              have HB5 := Lib.hid (below_step HB4.out hb5)
              have HC5 := Lib.hid (obj_kept hb5 HC4.out)
              have HF5 := Lib.hid (obj_kept hb5 HF4.out)
              have HM5 := Lib.hid (obj_kept hb5 HM4.out)
              clear hb5 hi5
              go_simp
              refine hK.out _ _ HM5.out (fun hHeld => ?_)
              clear hK K
              refine take_op (i := 5) (d := 8) (op := Op.move (Operand.tmp 13)) (ty := 34) (v := (.tuple #[v5, .agg #[.int .i64 0, .int .i64 0]])) (by kernel_rfl) (by kernel_rfl) (by kernel_rfl) (by kernel_rfl) (by kernel_rfl) (fun _ _ _ h => h) (fun wS hS => by clear hS; go_simp) hHeld ?_
              simp only [Act.put, List.setIfInBounds_toArray, List.set_cons_zero, List.set_cons_succ]
              refine take_op (i := 6) (d := 14) (op := Op.extract (Operand.tmp 8) 0) (ty := 30) (v := v5) (by kernel_rfl) (by kernel_rfl) (by kernel_rfl) (by kernel_rfl) (by kernel_rfl) (fun _ _ _ h => h) (fun wS hS => by clear hS; go_simp) hHeld ?_
              simp only [Act.put, List.setIfInBounds_toArray, List.set_cons_zero, List.set_cons_succ]
              refine take_op (i := 7) (d := 15) (op := Op.extract (Operand.tmp 8) 1) (ty := 33) (v := (.agg #[.int .i64 0, .int .i64 0])) (by kernel_rfl) (by kernel_rfl) (by kernel_rfl) (by kernel_rfl) (by kernel_rfl) (fun _ _ _ h => h) (fun wS hS => by clear hS; go_simp) hHeld ?_
              simp only [Act.put, List.setIfInBounds_toArray, List.set_cons_zero, List.set_cons_succ]
              have d0 := Lib.cell_of_heap HF5.out 0
              have d1 := Lib.cell_of_heap HF5.out 1
              have g0 := Lib.frozen_of_heap HF5.out 0
              have g1 := Lib.frozen_of_heap HF5.out 1
              refine take_op (i := 9) (d := 2) (op := Op.assign (Operand.tmp 14)) (ty := 30) (v := v5) (by kernel_rfl) (by kernel_rfl) (by kernel_rfl) (by kernel_rfl) (by kernel_rfl) (fun _ _ _ h => h) (fun wS hS => by clear hS; go_simp) hHeld ?_
              simp only [Act.put, List.setIfInBounds_toArray, List.set_cons_zero, List.set_cons_succ]
              refine wpAnyH_ready (rs := [10]) (by kernel_rfl) (by simp) ?_
              refine AllReadyH.cons rfl (fun K hK => ?_) AllReadyH.nil
              go_simp
              obtain ⟨WX, hWX⟩ : ∃ WX, WX = (W5.setCell ⟨W2.heap.size, 0, none⟩ (.int .i64 0)).setCell ⟨W2.heap.size, 1, none⟩ (.int .i64 0) := ⟨_, rfl⟩
              have HFX := Lib.hid (heap_setCell_same _ _ 1 _ _ (.int .i64 0) (heap_setCell_same _ _ 0 _ _ (.int .i64 0) HF5.out))
              have HIX := Lib.hid (slc_two HI5.out HF5.out)
              have hne : w.heap.size ≠ W2.heap.size := fun e => by have h1 := HF5.out; rw [← e, HM5.out] at h1; injection h1 with h1; injection h1 with _ h1 _; exact absurd h1 (by decide)
              have HMX := Lib.hid (obj_set (p := W2.heap.size) (i := 1) (v := .int .i64 0) (obj_set (p := W2.heap.size) (i := 0) (v := .int .i64 0) HM5.out hne) hne)
              have hle : w.heap.size ≤ W2.heap.size := HB2.out.size
              have HBX := Lib.hid ((HB5.out.setCell (p := ⟨W2.heap.size, 0, none⟩) hle (.int .i64 0)).setCell (p := ⟨W2.heap.size, 1, none⟩) hle (.int .i64 0))
              rw [← hWX] at HFX HIX HMX HBX
              rw [← hWX]
              refine hK.out _ _ HMX.out (fun _ => ?_)
              clear hK K hWX d0 d1 g0 g1 hne hle
              refine wpAnyH_done (by kernel_rfl) ?_ _
              go_wp2_with fail
              go_meet
              exact ⟨_, rfl, Lib.hid (flt_heap HFX.out), HIX, HBX, HMX⟩
      · go_simp
        obtain ⟨W2, hW2⟩ : ∃ W, W = W1.alloc (.cells #[.int .i64 0, .int .i64 0] 33) := ⟨_, rfl⟩
        have hb2 : Below W1.heap.size W1 W2 := by rw [hW2]; exact below_alloc _ _
        have HF2 : Hid (W2.heap[W1.heap.size]? = some (.cells #[.int .i64 0, .int .i64 0] 33 (0, 0))) := Lib.hid (by rw [hW2]; exact obj_new _ _ rfl _ _)
        have H52 := Lib.hid (obj_kept hb2 H51.out)
        have HB2 := Lib.hid (below_step HB1.out hb2)
        have HM2 := Lib.hid (obj_kept hb2 HM1.out)
        rw [← hW2]
        refine hK.out _ _ HM2.out (fun hHeld => ?_)
        clear hK K hW2 hb2
        refine wpAnyH_ready (rs := [2]) (by kernel_rfl) (by simp) ?_
        refine (AllReadyH.cons rfl (fun K hK => ?_) AllReadyH.nil)
        · go_simp
          go_at_call 21
          refine (HC1.out _ _).mono ?_
          rintro e W3 ⟨rfl, hW3⟩
          have hb3 : Below W2.heap.size W2 W3 := by rw [hW3]; exact below_alloc _ _
          have H63 : Hid (W3.heap[W2.heap.size]? = some (.cells #[.string ⟨#[97]⟩, .int .i64 6, .int .i64 0, .int .i64 0] 47 (0, 0))) := Lib.hid (by rw [hW3]; exact obj_new _ _ rfl _ _)
          have H53 := Lib.hid (obj_kept hb3 H52.out)
          have HB3 := Lib.hid (below_step HB2.out hb3)
          have HF3 := Lib.hid (obj_kept hb3 HF2.out)
          have HM3 := Lib.hid (obj_kept hb3 HM2.out)
          clear hW3 hb3
          go_simp
          refine hK.out _ _ HM3.out (fun hHeld => ?_)
          clear hK K
          refine wpAnyH_ready (rs := [3]) (by kernel_rfl) (by simp) ?_
          refine (AllReadyH.cons rfl (fun K hK => ?_) AllReadyH.nil)
          · go_simp
            obtain ⟨W4, hW4⟩ : ∃ W, W = W3.alloc (.cells #[.slice (some ⟨W0.heap.size, 0, none⟩) 1 1, .slice (some ⟨W2.heap.size, 0, none⟩) 1 1] 43) := ⟨_, rfl⟩
            have hb4 : Below W3.heap.size W3 W4 := by rw [hW4]; exact below_alloc _ _
            have HC4 : Hid (W4.heap[W3.heap.size]? = some (.cells #[.slice (some ⟨W0.heap.size, 0, none⟩) 1 1, .slice (some ⟨W2.heap.size, 0, none⟩) 1 1] 43 (0, 0))) := Lib.hid (by rw [hW4]; exact obj_new _ _ rfl _ _)
            have H54 := Lib.hid (obj_kept hb4 H53.out)
            have H64 := Lib.hid (obj_kept hb4 H63.out)
            have HB4 := Lib.hid (below_step HB3.out hb4)
            have HF4 := Lib.hid (obj_kept hb4 HF3.out)
            have HM4 := Lib.hid (obj_kept hb4 HM3.out)
            rw [← hW4]
            refine hK.out _ _ HM4.out (fun hHeld => ?_)
            clear hK K hW4 hb4
            refine wpAnyH_ready (rs := [4]) (by kernel_rfl) (by simp) ?_
            refine (AllReadyH.cons rfl (fun K hK => ?_) AllReadyH.nil)
            · go_simp
              go_at_call 9
              refine (HPr.out _ W4 (words_two 5 6 H54.out H64.out HC4.out)).mono ?_
              rintro e W5 ⟨v5, rfl, hi5, hb5⟩
              have HI5 := Lib.hid hi5
              have H55 := Lib.hid (obj_kept hb5 H54.out)
              have H65 := Lib.hid (obj_kept hb5 H64.out)
              have HB5 := Lib.hid (below_step HB4.out hb5)
              have HC5 := Lib.hid (obj_kept hb5 HC4.out)
              have HF5 := Lib.hid (obj_kept hb5 HF4.out)
              have HM5 := Lib.hid (obj_kept hb5 HM4.out)
              clear hb5 hi5
              go_simp
              refine hK.out _ _ HM5.out (fun hHeld => ?_)
              clear hK K
              refine take_op (i := 5) (d := 8) (op := Op.move (Operand.tmp 13)) (ty := 34) (v := (.tuple #[v5, .agg #[.int .i64 0, .int .i64 0]])) (by kernel_rfl) (by kernel_rfl) (by kernel_rfl) (by kernel_rfl) (by kernel_rfl) (fun _ _ _ h => h) (fun wS hS => by clear hS; go_simp) hHeld ?_
              simp only [Act.put, List.setIfInBounds_toArray, List.set_cons_zero, List.set_cons_succ]
              refine take_op (i := 6) (d := 14) (op := Op.extract (Operand.tmp 8) 0) (ty := 30) (v := v5) (by kernel_rfl) (by kernel_rfl) (by kernel_rfl) (by kernel_rfl) (by kernel_rfl) (fun _ _ _ h => h) (fun wS hS => by clear hS; go_simp) hHeld ?_
              simp only [Act.put, List.setIfInBounds_toArray, List.set_cons_zero, List.set_cons_succ]
              refine take_op (i := 7) (d := 15) (op := Op.extract (Operand.tmp 8) 1) (ty := 33) (v := (.agg #[.int .i64 0, .int .i64 0])) (by kernel_rfl) (by kernel_rfl) (by kernel_rfl) (by kernel_rfl) (by kernel_rfl) (fun _ _ _ h => h) (fun wS hS => by clear hS; go_simp) hHeld ?_
              simp only [Act.put, List.setIfInBounds_toArray, List.set_cons_zero, List.set_cons_succ]
              have d0 := Lib.cell_of_heap HF5.out 0
              have d1 := Lib.cell_of_heap HF5.out 1
              have g0 := Lib.frozen_of_heap HF5.out 0
              have g1 := Lib.frozen_of_heap HF5.out 1
              refine take_op (i := 9) (d := 2) (op := Op.assign (Operand.tmp 14)) (ty := 30) (v := v5) (by kernel_rfl) (by kernel_rfl) (by kernel_rfl) (by kernel_rfl) (by kernel_rfl) (fun _ _ _ h => h) (fun wS hS => by clear hS; go_simp) hHeld ?_
              simp only [Act.put, List.setIfInBounds_toArray, List.set_cons_zero, List.set_cons_succ]
              refine wpAnyH_ready (rs := [10]) (by kernel_rfl) (by simp) ?_
              refine AllReadyH.cons rfl (fun K hK => ?_) AllReadyH.nil
              go_simp
              obtain ⟨WX, hWX⟩ : ∃ WX, WX = (W5.setCell ⟨W1.heap.size, 0, none⟩ (.int .i64 0)).setCell ⟨W1.heap.size, 1, none⟩ (.int .i64 0) := ⟨_, rfl⟩
              have HFX := Lib.hid (heap_setCell_same _ _ 1 _ _ (.int .i64 0) (heap_setCell_same _ _ 0 _ _ (.int .i64 0) HF5.out))
              have HIX := Lib.hid (slc_two HI5.out HF5.out)
              have hne : w.heap.size ≠ W1.heap.size := fun e => by have h1 := HF5.out; rw [← e, HM5.out] at h1; injection h1 with h1; injection h1 with _ h1 _; exact absurd h1 (by decide)
              have HMX := Lib.hid (obj_set (p := W1.heap.size) (i := 1) (v := .int .i64 0) (obj_set (p := W1.heap.size) (i := 0) (v := .int .i64 0) HM5.out hne) hne)
              have hle : w.heap.size ≤ W1.heap.size := HB1.out.size
              have HBX := Lib.hid ((HB5.out.setCell (p := ⟨W1.heap.size, 0, none⟩) hle (.int .i64 0)).setCell (p := ⟨W1.heap.size, 1, none⟩) hle (.int .i64 0))
              rw [← hWX] at HFX HIX HMX HBX
              rw [← hWX]
              refine hK.out _ _ HMX.out (fun _ => ?_)
              clear hK K hWX d0 d1 g0 g1 hne hle
              refine wpAnyH_done (by kernel_rfl) ?_ _
              go_wp2_with fail
              go_meet
              exact ⟨_, rfl, Lib.hid (flt_heap HFX.out), HIX, HBX, HMX⟩
    · go_simp
      obtain ⟨W1, hW1⟩ : ∃ W, W = W0.alloc (.cells #[.int .i64 0, .int .i64 0] 33) := ⟨_, rfl⟩
      have hb1 : Below W0.heap.size W0 W1 := by rw [hW1]; exact below_alloc _ _
      have HF1 : Hid (W1.heap[W0.heap.size]? = some (.cells #[.int .i64 0, .int .i64 0] 33 (0, 0))) := Lib.hid (by rw [hW1]; exact obj_new _ _ rfl _ _)
      have HB1 := Lib.hid (below_step HB0.out hb1)
      have HM1 := Lib.hid (obj_kept hb1 HM0.out)
      rw [← hW1]
      refine hK.out _ _ HM1.out (fun hHeld => ?_)
      clear hK K hW1 hb1
      refine wpAnyH_ready (rs := [1]) (by kernel_rfl) (by simp) ?_
      refine (AllReadyH.cons rfl (fun K hK => ?_) AllReadyH.nil)
      · go_simp
        go_at_call 21
        refine (HC1.out _ _).mono ?_
        rintro e W2 ⟨rfl, hW2⟩
        have hb2 : Below W1.heap.size W1 W2 := by rw [hW2]; exact below_alloc _ _
        have H52 : Hid (W2.heap[W1.heap.size]? = some (.cells #[.string ⟨#[97]⟩, .int .i64 5, .int .i64 0, .int .i64 0] 47 (0, 0))) := Lib.hid (by rw [hW2]; exact obj_new _ _ rfl _ _)
        have HB2 := Lib.hid (below_step HB1.out hb2)
        have HF2 := Lib.hid (obj_kept hb2 HF1.out)
        have HM2 := Lib.hid (obj_kept hb2 HM1.out)
        clear hW2 hb2
        go_simp
        refine hK.out _ _ HM2.out (fun hHeld => ?_)
        clear hK K
        refine wpAnyH_ready (rs := [2]) (by kernel_rfl) (by simp) ?_
        refine (AllReadyH.cons rfl (fun K hK => ?_) AllReadyH.nil)
        · go_simp
          go_at_call 21
          refine (HC1.out _ _).mono ?_
          rintro e W3 ⟨rfl, hW3⟩
          have hb3 : Below W2.heap.size W2 W3 := by rw [hW3]; exact below_alloc _ _
          have H63 : Hid (W3.heap[W2.heap.size]? = some (.cells #[.string ⟨#[97]⟩, .int .i64 6, .int .i64 0, .int .i64 0] 47 (0, 0))) := Lib.hid (by rw [hW3]; exact obj_new _ _ rfl _ _)
          have H53 := Lib.hid (obj_kept hb3 H52.out)
          have HB3 := Lib.hid (below_step HB2.out hb3)
          have HF3 := Lib.hid (obj_kept hb3 HF2.out)
          have HM3 := Lib.hid (obj_kept hb3 HM2.out)
          clear hW3 hb3
          go_simp
          refine hK.out _ _ HM3.out (fun hHeld => ?_)
          clear hK K
          refine wpAnyH_ready (rs := [3]) (by kernel_rfl) (by simp) ?_
          refine (AllReadyH.cons rfl (fun K hK => ?_) AllReadyH.nil)
          · go_simp
            obtain ⟨W4, hW4⟩ : ∃ W, W = W3.alloc (.cells #[.slice (some ⟨W1.heap.size, 0, none⟩) 1 1, .slice (some ⟨W2.heap.size, 0, none⟩) 1 1] 43) := ⟨_, rfl⟩
            have hb4 : Below W3.heap.size W3 W4 := by rw [hW4]; exact below_alloc _ _
            have HC4 : Hid (W4.heap[W3.heap.size]? = some (.cells #[.slice (some ⟨W1.heap.size, 0, none⟩) 1 1, .slice (some ⟨W2.heap.size, 0, none⟩) 1 1] 43 (0, 0))) := Lib.hid (by rw [hW4]; exact obj_new _ _ rfl _ _)
            have H54 := Lib.hid (obj_kept hb4 H53.out)
            have H64 := Lib.hid (obj_kept hb4 H63.out)
            have HB4 := Lib.hid (below_step HB3.out hb4)
            have HF4 := Lib.hid (obj_kept hb4 HF3.out)
            have HM4 := Lib.hid (obj_kept hb4 HM3.out)
            rw [← hW4]
            refine hK.out _ _ HM4.out (fun hHeld => ?_)
            clear hK K hW4 hb4
            refine wpAnyH_ready (rs := [4]) (by kernel_rfl) (by simp) ?_
            refine (AllReadyH.cons rfl (fun K hK => ?_) AllReadyH.nil)
            · go_simp
              go_at_call 9
              refine (HPr.out _ W4 (words_two 5 6 H54.out H64.out HC4.out)).mono ?_
              rintro e W5 ⟨v5, rfl, hi5, hb5⟩
              have HI5 := Lib.hid hi5
              have H55 := Lib.hid (obj_kept hb5 H54.out)
              have H65 := Lib.hid (obj_kept hb5 H64.out)
              have HB5 := Lib.hid (below_step HB4.out hb5)
              have HC5 := Lib.hid (obj_kept hb5 HC4.out)
              have HF5 := Lib.hid (obj_kept hb5 HF4.out)
              have HM5 := Lib.hid (obj_kept hb5 HM4.out)
              clear hb5 hi5
              go_simp
              refine hK.out _ _ HM5.out (fun hHeld => ?_)
              clear hK K
              refine take_op (i := 5) (d := 8) (op := Op.move (Operand.tmp 13)) (ty := 34) (v := (.tuple #[v5, .agg #[.int .i64 0, .int .i64 0]])) (by kernel_rfl) (by kernel_rfl) (by kernel_rfl) (by kernel_rfl) (by kernel_rfl) (fun _ _ _ h => h) (fun wS hS => by clear hS; go_simp) hHeld ?_
              simp only [Act.put, List.setIfInBounds_toArray, List.set_cons_zero, List.set_cons_succ]
              refine take_op (i := 6) (d := 14) (op := Op.extract (Operand.tmp 8) 0) (ty := 30) (v := v5) (by kernel_rfl) (by kernel_rfl) (by kernel_rfl) (by kernel_rfl) (by kernel_rfl) (fun _ _ _ h => h) (fun wS hS => by clear hS; go_simp) hHeld ?_
              simp only [Act.put, List.setIfInBounds_toArray, List.set_cons_zero, List.set_cons_succ]
              refine take_op (i := 7) (d := 15) (op := Op.extract (Operand.tmp 8) 1) (ty := 33) (v := (.agg #[.int .i64 0, .int .i64 0])) (by kernel_rfl) (by kernel_rfl) (by kernel_rfl) (by kernel_rfl) (by kernel_rfl) (fun _ _ _ h => h) (fun wS hS => by clear hS; go_simp) hHeld ?_
              simp only [Act.put, List.setIfInBounds_toArray, List.set_cons_zero, List.set_cons_succ]
              have d0 := Lib.cell_of_heap HF5.out 0
              have d1 := Lib.cell_of_heap HF5.out 1
              have g0 := Lib.frozen_of_heap HF5.out 0
              have g1 := Lib.frozen_of_heap HF5.out 1
              refine take_op (i := 9) (d := 2) (op := Op.assign (Operand.tmp 14)) (ty := 30) (v := v5) (by kernel_rfl) (by kernel_rfl) (by kernel_rfl) (by kernel_rfl) (by kernel_rfl) (fun _ _ _ h => h) (fun wS hS => by clear hS; go_simp) hHeld ?_
              simp only [Act.put, List.setIfInBounds_toArray, List.set_cons_zero, List.set_cons_succ]
              refine wpAnyH_ready (rs := [10]) (by kernel_rfl) (by simp) ?_
              refine AllReadyH.cons rfl (fun K hK => ?_) AllReadyH.nil
              go_simp
              obtain ⟨WX, hWX⟩ : ∃ WX, WX = (W5.setCell ⟨W0.heap.size, 0, none⟩ (.int .i64 0)).setCell ⟨W0.heap.size, 1, none⟩ (.int .i64 0) := ⟨_, rfl⟩
              have HFX := Lib.hid (heap_setCell_same _ _ 1 _ _ (.int .i64 0) (heap_setCell_same _ _ 0 _ _ (.int .i64 0) HF5.out))
              have HIX := Lib.hid (slc_two HI5.out HF5.out)
              have hne : w.heap.size ≠ W0.heap.size := fun e => by have h1 := HF5.out; rw [← e, HM5.out] at h1; injection h1 with h1; injection h1 with _ h1 _; exact absurd h1 (by decide)
              have HMX := Lib.hid (obj_set (p := W0.heap.size) (i := 1) (v := .int .i64 0) (obj_set (p := W0.heap.size) (i := 0) (v := .int .i64 0) HM5.out hne) hne)
              have hle : w.heap.size ≤ W0.heap.size := HB0.out.size
              have HBX := Lib.hid ((HB5.out.setCell (p := ⟨W0.heap.size, 0, none⟩) hle (.int .i64 0)).setCell (p := ⟨W0.heap.size, 1, none⟩) hle (.int .i64 0))
              rw [← hWX] at HFX HIX HMX HBX
              rw [← hWX]
              refine hK.out _ _ HMX.out (fun _ => ?_)
              clear hK K hWX d0 d1 g0 g1 hne hle
              refine wpAnyH_done (by kernel_rfl) ?_ _
              go_wp2_with fail
              go_meet
              exact ⟨_, rfl, Lib.hid (flt_heap HFX.out), HIX, HBX, HMX⟩
  case rest =>
    obtain ⟨r, rfl, HF, HI, HB, HM⟩ := hcut
    obtain ⟨⟨p0, cp, rfl, _⟩, _, hc⟩ := HI.out
    rw [listF_len] at hc
    obtain ⟨b, o, d, e0, hcell⟩ := hc (by decide)
    obtain ⟨rfl, rfl⟩ : p0 = some ⟨b, o, none⟩ ∧ cp = d := by injection e0 with a1 a2 a3; exact ⟨a1, a3⟩
    have HCl := Lib.hid hcell
    clear hcell hc
    rw [listF_len] at HI ⊢
    have hm0 := Lib.cell_of_heap HM.out 0
    have hm1 := Lib.cell_of_heap HM.out 1
    have hm2 := Lib.cell_of_heap HM.out 2
    have hm3 := Lib.cell_of_heap HM.out 3
    have hm4 := Lib.cell_of_heap HM.out 4
    have hm5 := Lib.cell_of_heap HM.out 5
    have hm6 := Lib.cell_of_heap HM.out 6
    have hm7 := Lib.cell_of_heap HM.out 7
    go_wp2_with fail
    refine (HPe.out _ wc (row_none _ _)).mono ?_
    rintro e w3 ⟨v3, rfl, hi3, hb3⟩
    have hb3' := below_step hb3 (below_alloc w3 (.cells #[.int .i64 0, .int .i64 0] 33))
    obtain ⟨W3, hW3⟩ : ∃ W, W = w3.alloc (.cells #[.int .i64 0, .int .i64 0] 33) := ⟨_, rfl⟩
    have HF3 := Lib.hid (HF.out.mono hb3')
    have HI3 := Lib.hid (SlcAt.mono HI.out hb3')
    have HE3 := Lib.hid (SlcAt.mono hi3 (below_alloc w3 (.cells #[.int .i64 0, .int .i64 0] 33)))
    have HB3 := Lib.hid (below_step HB.out hb3')
    have HG3 := Lib.hid (flt_new w3 0 0)
    have HC3 : Hid (∀ i x, (It.versI spF 2 0 [[[ptF 5], [ptF 6]]])[i]? = some x → RecAt W3 b (o + i * 9) (itC x)) := Lib.hid (fun i x hx => by rw [hW3]; exact (HCl.out i x hx).mono hb3')
    rw [← hW3] at HF3 HI3 HE3 HB3 HG3
    clear hb3 hb3' hi3 hm0 hm1 hm2 hm3 hm4 hm5 hm6 hm7
    have f0 := HF3.out.c0
    have g0 := HG3.out.c0
    have y01 : W3.cell? ⟨b, o + 1, none⟩ = some (.int .i64 5) := HC3.out 0 _ (by rw [listF_eq]; rfl) 1 _ rfl
    have y10 : W3.cell? ⟨b, o + 9, none⟩ = some (.int .i64 1) := HC3.out 1 _ (by rw [listF_eq]; rfl) 0 _ rfl
    have y27 : W3.cell? ⟨b, o + 18 + 7, none⟩ = some (.int .i64 1) := HC3.out 2 _ (by rw [listF_eq]; rfl) 7 _ rfl
    have y52 : W3.cell? ⟨b, o + 45 + 5, none⟩ = some (.int .i64 (-10000)) := HC3.out 5 _ (by rw [listF_eq]; rfl) 5 _ rfl
    have HEn := Lib.hid (fun w => end_any w)
    go_upto_region 4 with fail
    rw [← hW3]
    clear hW3
    go_wp2_with fail
    refine (HEn.out _).mono ?_
    rintro e w4 ⟨u4, rfl, hi4, hb4⟩
    have HI4 := Lib.hid (SlcAt.mono HI3.out hb4)
    have HE4 := Lib.hid (SlcAt.mono HE3.out hb4)
    have HB4 := Lib.hid (below_step HB3.out hb4)
    have HS := Lib.hid (same_any v3 u4 _ _ w4 HE4.out hi4)
    rw [decide_eq_true (rfl : It.endI = It.endI)] at HS
    clear hi4 hb4
    go_wp2_with fail
    refine HS.out.mono ?_
    rintro e w5 ⟨rfl, hb5⟩
    have HI5 := Lib.hid (SlcAt.mono HI4.out hb5)
    have HB5 := Lib.hid (below_step HB4.out hb5)
    have HMy := Lib.hid (itemMay_any _ _ w5 HI5.out)
    rw [mayF] at HMy
    clear hb5
    go_wp2_with fail
    refine HMy.out.mono ?_
    rintro e w6 ⟨rfl, hb6⟩
    have HI6 := Lib.hid (SlcAt.mono HI5.out hb6)
    have HB6 := Lib.hid (below_step HB5.out hb6)
    have HBo := Lib.hid (itemBoxes_any _ _ w6 HI6.out (by rw [listF_len]; omega))
    clear hb6
    go_wp2_with fail
    refine HBo.out.mono ?_
    rintro e w7 ⟨u7, rfl, ho7, hb7⟩
    have HB7 := Lib.hid (below_step HB6.out hb7)
    obtain ⟨⟨p7, c7, rfl, _⟩, _, _⟩ := ho7.at itC_len
    rw [boxesF]
    clear hb7 ho7
    go_wp2
    go_ret
    exact ⟨rfl, HB7.out⟩
end Go.Proofs.Ytfgfplpbddapnaa
