/-
  The reference's Walk: the letters of bytes, where they begin, and where there is none first.
-/
import Derived.Test.YtjlnffdklhmonaaDoorRefFirst
import Derived.Test.YtjlnffdklhmonaaDoorDefs
set_option linter.unusedVariables false
set_option linter.unusedSimpArgs false
namespace Go.Proofs.YtjlnffdklhmonaaDoor
open Go.RowKit

set_option maxHeartbeats 4000000 in
set_option maxRecDepth 100000 in
theorem refWalk_any (s : ByteArray) (hs : s.size * 8 ≤ 140737488355328) (w : World) : Calls Tryd.prog 47 #[.string s] w (WalkPost s.data.toList w) := by
  obtain ⟨i0, hi, hz0, hz1, hz2⟩ := info_parts info32
  obtain ⟨j0, hj, hy0, hy1, hy2⟩ := info_parts info64
  have hlen : s.data.toList.length = s.size := (Lib.size_eq s).symm
  have HLen := Lib.hid hlen
  clear hlen
  have HF : Hid (∀ (a : Nat) (w : World), Calls Tryd.prog 55 #[.string (s.extract a s.size)] w (Ret (firstV (Ut.first (s.data.toList.drop a))) w)) := Lib.hid (fun a w => by
    have h := refFirst_any (s.extract a s.size) (by rw [Lib.size_eq, drop_text, List.length_drop, ← Lib.size_eq]; omega) w
    rw [drop_text] at h
    exact h)
  have HB0 : Hid (Below w.heap.size w ((w.alloc (.cells #[] 21)).alloc (.cells #[] 3))) := Lib.hid ((below_alloc w _).alloc (by simp) _)
  have HO1 : Hid (OwnI .i32 21 w.heap.size (.slice (some ⟨w.heap.size, 0, none⟩) 0 0) [] ((w.alloc (.cells #[] 21)).alloc (.cells #[] 3))) := Lib.hid ((World.ownsRow_made w #[] 0 (Nat.le_refl _) (by unfold maxLen; omega) rfl).alloc _)
  have HO2 : Hid (OwnI .i64 3 w.heap.size (.slice (some ⟨w.heap.size + 1, 0, none⟩) 0 0) [] ((w.alloc (.cells #[] 21)).alloc (.cells #[] 3))) := Lib.hid (by
    have h := World.ownsRow_made (base := w.heap.size) (e := 3) (size := 1) (w.alloc (.cells #[] 21)) #[] 0 (by simp) (by unfold maxLen; omega) rfl
    simp only [World.size_alloc] at h
    exact h)
  go_enter Tryd.func47, Tryd.ntmps47
  go_wp2_with fail
  go_loopw [5, 6, 7] (fun lv pv iv wr => ∃ (l : List Nat) (a : Nat), iv = .int .i64 a ∧ a ≤ s.size ∧ Hid ((Ut.encs l).length = a) ∧ Hid (Got s.data.toList l) ∧ Hid (OwnI .i32 21 w.heap.size lv (asInts l) wr) ∧ Hid (OwnI .i64 3 w.heap.size pv (asInts (Ut.places 0 l)) wr) ∧ Hid (Below w.heap.size w wr)) (fun _ _ iv _ => s.size - (intOf iv).toNat)
  case atStart => exact ⟨[], 0, rfl, Nat.zero_le _, Lib.hid rfl, Lib.hid (got_nil _), HO1, HO2, HB0⟩
  case round =>
    obtain ⟨l, a, rfl, ha, HA, HG, HL, HP, HB⟩ := hrel
    clear HO1 HO2 HB0
    by_cases hlt : a < s.size
    · cases hf : Ut.first (s.data.toList.drop a) with
      | none =>
        have HO := Lib.hid (walk_stop HG.out (by rw [HA.out]; exact hf) (by rw [HA.out, HLen.out]; exact hlt))
        have HFa : Hid (∀ w, Calls Tryd.prog 55 #[.string (s.extract a s.size)] w (Ret (.tuple #[.int .i32 0, .int .i64 0]) w)) := Lib.hid (fun w => by
          have h := HF.out a w
          rw [hf] at h
          exact h)
        clear hf
        go_wp2_with fail
        refine (HFa.out _).mono ?_
        rintro e w1 ⟨rfl, hb1⟩
        have HB1 := Lib.hid (below_step HB.out hb1)
        have HL1 := Lib.hid (HL.out.kept hb1)
        have HP1 := Lib.hid (HP.out.kept hb1)
        clear hb1
        go_wp2_with fail
        go_ret3
        refine ⟨_, _, ret_walk (by rw [HO.out.2, HA.out]), ?_, ?_, HB1.out⟩
        · rw [HO.out.1]; exact HL1.out
        · rw [HO.out.1]; exact HP1.out
      | some x =>
        obtain ⟨c, n⟩ := x
        obtain ⟨g1, g2, g3, g4, g5, g6, g7⟩ := HG.out.next (c := c) (n := n) (by rw [HA.out]; exact hf)
        have HFa : Hid (∀ w, Calls Tryd.prog 55 #[.string (s.extract a s.size)] w (Ret (.tuple #[.int .i32 (c : Int), .int .i64 (n : Int)]) w)) := Lib.hid (fun w => by
          have h := HF.out a w
          rw [hf] at h
          exact h)
        have hn0 : ((n : Int) == 0) = false := beq_eq_false_iff_ne.2 (by omega)
        have hfew := (HG.out.few).1
        have hlen1 : (asInts l).length < s.size := by rw [asInts_len, ← HLen.out]; exact g7
        have hlen2 : (asInts (Ut.places 0 l)).length < s.size := by rw [asInts_len, Ut.places_length, ← HLen.out]; exact g7
        have hsum : a + n ≤ s.size := by
          have := (Got.few g1).2
          rw [g2, HA.out, HLen.out] at this
          exact this
        have HA' : Hid ((Ut.encs (l ++ [c])).length = a + n) := Lib.hid (by rw [g2, HA.out])
        have HG' := Lib.hid g1
        have HPl : Hid (Ut.places 0 (l ++ [c]) = Ut.places 0 l ++ [a]) := Lib.hid (by rw [g5, HA.out])
        clear hf g1 g2 g5 hfew
        go_wp2_with fail
        refine (HFa.out _).mono ?_
        rintro e w1 ⟨rfl, hb1⟩
        have HB1 := Lib.hid (below_step HB.out hb1)
        have HL1 := Lib.hid (HL.out.kept hb1)
        have HP1 := Lib.hid (HP.out.kept hb1)
        clear hb1
        have hown := World.ownsRow.alloc HL1.out (.cells #[.int .i32 (c : Int)] 21)
        go_wp2_with (first | (at_builtin; refine wpList_append_own _ rfl _ _ 42 rfl w.heap.size 21 i0 (.int .i32 0) 1 4 Tryd.underlying42 hi hz0 hz1 hz2 rfl (by decide) _ _ _ rfl hown ⟨w1.heap.size, 0, none⟩ 1 1 [.int .i32 (c : Int)] rfl rfl (cell_one_new _ _ _) (fun z hz => by simp at hz; subst hz; rfl) (by unfold maxLen; omega) (by omega) (by have := HB1.out.size; simp; omega) ?_; intro v' w3 hown' hgrow3 hnil3; have HB3 := Lib.hid ((HB1.out.alloc HB1.out.size (.cells #[.int .i32 (c : Int)] 21)).grown hgrow3 (by have := HB1.out.size; simp; omega) (fun q hq => (World.ownsRow.lt hown q hq).1)); have HL3 := ownI_snoc hown'; have HP3 : Hid (OwnI .i64 3 w.heap.size _ (asInts (Ut.places 0 l)) w3) := Lib.hid (World.ownsRow.kept (World.ownsRow.alloc HP1.out (.cells #[.int .i32 (c : Int)] 21)) hgrow3 (own_apart (World.ownsRow.alloc HP1.out _) hown (by decide))); clear hown hown' hgrow3 hnil3) | (at_builtin; have hown := World.ownsRow.alloc HP3.out (.cells #[.int .i64 (a : Int)] 3); refine wpList_append_own _ rfl _ _ 67 rfl w.heap.size 3 j0 (.int .i64 0) 1 8 Tryd.underlying67 hj hy0 hy1 hy2 rfl (by decide) _ _ _ rfl hown ⟨w3.heap.size, 0, none⟩ 1 1 [.int .i64 (a : Int)] rfl rfl (cell_one_new _ _ _) (fun z hz => by simp at hz; subst hz; rfl) (by unfold maxLen; omega) (by omega) (by have := HB3.out.size; simp; omega) ?_; intro v2 w4 hown' hgrow4 hnil4; have HB4 := Lib.hid ((HB3.out.alloc HB3.out.size (.cells #[.int .i64 (a : Int)] 3)).grown hgrow4 (by have := HB3.out.size; simp; omega) (fun q hq => (World.ownsRow.lt hown q hq).1)); have HP4 := ownI_snoc hown'; have HL4 : Hid (OwnI .i32 21 w.heap.size v' (asInts l ++ [(c : Int)]) w4) := Lib.hid (World.ownsRow.kept (World.ownsRow.alloc HL3.out (.cells #[.int .i64 (a : Int)] 3)) hgrow4 (own_apart (World.ownsRow.alloc HL3.out _) hown (by decide))); clear hown hown' hgrow4 hnil4))
        go_roundw
        case rel =>
          refine ⟨l ++ [c], a + n, by go_num, hsum, HA', HG', Lib.hid ?_, Lib.hid ?_, HB4⟩
          · rw [asInts_snoc]; exact HL4.out
          · rw [HPl.out, asInts_snoc]; exact HP4.out
        case measure => simp [intOf]; omega
    · have HO := Lib.hid (walk_end HG.out (by rw [HA.out, HLen.out]; omega))
      go_wp2_with fail
      go_ret3
      refine ⟨_, _, ret_walk (by rw [HO.out.2]), ?_, ?_, HB.out⟩
      · rw [HO.out.1]; exact HL.out
      · rw [HO.out.1]; exact HP.out
end Go.Proofs.YtjlnffdklhmonaaDoor
