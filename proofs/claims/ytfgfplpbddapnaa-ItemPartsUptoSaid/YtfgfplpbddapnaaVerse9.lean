/-
  The landed Verse and Prose.
-/
import Derived.Test.YtfgfplpbddapnaaWords9
import Derived.Test.YtfgfplpbddapnaaMays9
set_option linter.unusedVariables false
set_option linter.unusedSimpArgs false
namespace Go.Proofs.Ytfgfplpbddapnaa
open Go.RowKit

theorem good_may {b t : List It.Itm} (h : Good b t) : It.may b = It.may t ∧ (It.may b = true → b = t) := by
  rcases h with rfl | ⟨h1, h2⟩
  · exact ⟨rfl, fun _ => rfl⟩
  · rw [It.may_long h1, It.may_long h2]
    exact ⟨rfl, fun h => by cases h⟩
theorem own_base {α : Type} {T : TypeId} {f : α → List Value} {k B B' : Nat} {v : Value} {l : List α} {w : World} (h : OwnR T f k B v l w) (hB : B' ≤ B) : OwnR T f k B' v l w := ownsRow_base h hB
/-- a table's value: its space, and the rest -/
def metV9 (sp : It.Gl) (x4 x5 x6 x7 : Value) : Value := .agg #[.int .i64 sp.w, .int .i64 sp.st, .int .i64 sp.sk, .int .i64 sp.o, x4, x5, x6, x7]
/-- what Verse answers -/
def VersePost (sp : It.Gl) (hy : Int) (ls : List (List (List It.Pt))) (w : World) (e : Ending) (w' : World) : Prop :=
  ((It.may (It.versI sp hy 0 ls) = true ∧ ∃ v, e = .returned (.tuple #[v, .agg #[.int .i64 0, .int .i64 0]]) ∧ OwnX w.heap.size v (It.versI sp hy 0 ls) w') ∨
   (It.may (It.versI sp hy 0 ls) = false ∧ e = .returned (.tuple #[.slice none 0 0, .agg #[.int .i64 90, .int .i64 0]]))) ∧ Below w.heap.size w w'
def LInv (sp : It.Gl) (hy : Int) (ls : List (List (List It.Pt))) (k : Nat) (m : Int) (b tgt : List It.Itm) : Prop :=
  (b ++ It.versI sp hy m (ls.drop k) = tgt ∨ (2000 < b.length ∧ 2000 < tgt.length)) ∧ 0 ≤ m ∧ m ≤ (b.length : Int)
theorem linv_good {sp : It.Gl} {hy : Int} {ls : List (List (List It.Pt))} {k : Nat} {m : Int} {b tgt : List It.Itm} (h : LInv sp hy ls k m b tgt) (hb : 2000 < b.length ∨ ls.length ≤ k) : Good b tgt := by
  rcases h.1 with h1 | h1
  · rcases hb with hb | hb
    · exact .inr ⟨hb, by rw [← h1, List.length_append]; omega⟩
    · rw [It.drop_end hb] at h1
      exact .inl (by simpa [It.versI] using h1)
  · exact .inr h1
theorem linv_next {sp : It.Gl} {hy : Int} {ls : List (List (List It.Pt))} {k : Nat} {m n' : Int} {b b5 tgt : List It.Itm} {ws : List (List It.Pt)} (hx : ls[k]? = some ws) (h : LInv sp hy ls k m b tgt) (hb : b.length ≤ 2000) (hg : Good b5 (b ++ It.wordsI sp hy m 0 ws)) (hn : b5.length ≤ 2000 → n' = m + ws.length) (h0 : 0 ≤ n') (h1 : n' ≤ (b5.length : Int) + 1) : LInv sp hy ls (k + 1) n' (b5 ++ It.endI) tgt := by
  have he : It.endI.length = 3 := rfl
  have ht : b ++ (It.wordsI sp hy m 0 ws ++ (It.endI ++ It.versI sp hy (m + ws.length) (ls.drop (k + 1)))) = tgt := by
    rcases h.1 with h2 | h2
    · rw [It.vers_at hx] at h2; exact h2
    · omega
  have hl : tgt.length = (b ++ It.wordsI sp hy m 0 ws).length + 3 + (It.versI sp hy (m + ws.length) (ls.drop (k + 1))).length := by
    rw [← ht]; simp only [List.length_append, he]; omega
  refine ⟨?_, h0, by rw [List.length_append, he]; omega⟩
  rcases hg with rfl | ⟨g1, g2⟩
  · by_cases hc : (b ++ It.wordsI sp hy m 0 ws).length ≤ 2000
    · refine .inl ?_
      rw [hn hc, ← ht]
      simp only [List.append_assoc]
    · exact .inr ⟨by rw [List.length_append]; omega, by omega⟩
  · exact .inr ⟨by rw [List.length_append]; omega, by omega⟩

set_option maxHeartbeats 16000000 in
set_option maxRecDepth 100000 in
theorem verse_any (sp : It.Gl) (x4 x5 x6 x7 : Value) (hy : Int) (v : Value) (ls : List (List (List It.Pt))) (w : World) (h : LinesAt w v ls) : Calls Try.prog 7 #[metV9 sp x4 x5 x6 x7, .int .i64 hy, v] w (VersePost sp hy ls w) := by
  have HA := Lib.hid h
  obtain ⟨⟨va, cp, rfl, hcap⟩, hm, _⟩ := h
  have hza : ls.length ≤ 9223372036854775807 := by unfold maxLen at hm; omega
  obtain ⟨tgt, htg⟩ : ∃ t, t = It.versI sp hy 0 ls := ⟨_, rfl⟩
  have HT : Hid (LInv sp hy ls 0 0 [] tgt) := Lib.hid ⟨.inl (by rw [htg]; rfl), by omega, by simp⟩
  unfold VersePost metV9
  rw [← htg]
  obtain ⟨n9, hn9⟩ : ∃ n, n = ls.length := ⟨_, rfl⟩
  have Hn := Lib.hid hn9
  rw [← hn9] at hza ⊢
  obtain ⟨W3, hW3⟩ : ∃ W, W = ((w.alloc (.cells #[.int .i64 sp.w, .int .i64 sp.st, .int .i64 sp.sk, .int .i64 sp.o, x4, x5, x6, x7] 28)).alloc (.cells #[.int .i64 0, .int .i64 0] 33)).alloc (.cells #[.int .i64 sp.w, .int .i64 sp.st, .int .i64 sp.sk, .int .i64 sp.o, .int .i64 hy, .int .i64 0, .slice none 0 0] 52) := ⟨_, rfl⟩
  obtain ⟨PB, hPB⟩ : ∃ PB, PB = w.heap.size + 2 := ⟨_, rfl⟩
  have HPB := Lib.hid hPB
  have b1 := below_alloc w (.cells #[.int .i64 sp.w, .int .i64 sp.st, .int .i64 sp.sk, .int .i64 sp.o, x4, x5, x6, x7] 28)
  have b2 := below_alloc (w.alloc (.cells #[.int .i64 sp.w, .int .i64 sp.st, .int .i64 sp.sk, .int .i64 sp.o, x4, x5, x6, x7] 28)) (.cells #[.int .i64 0, .int .i64 0] 33)
  have b3 := below_alloc ((w.alloc (.cells #[.int .i64 sp.w, .int .i64 sp.st, .int .i64 sp.sk, .int .i64 sp.o, x4, x5, x6, x7] 28)).alloc (.cells #[.int .i64 0, .int .i64 0] 33)) (.cells #[.int .i64 sp.w, .int .i64 sp.st, .int .i64 sp.sk, .int .i64 sp.o, .int .i64 hy, .int .i64 0, .slice none 0 0] 52)
  have HB3 : Hid (Below w.heap.size w W3) := Lib.hid (by rw [hW3]; exact below_step b1 (below_step b2 b3))
  have HF0 : Hid (W3.heap[w.heap.size + 1]? = some (.cells #[.int .i64 0, .int .i64 0] 33 (0, 0))) := Lib.hid (by rw [hW3]; exact obj_kept b3 (obj_new _ _ (World.size_alloc _ _) _ _))
  have HP0 : Hid (ParIs W3 PB sp hy 0 []) := Lib.hid ⟨.slice none 0 0, by rw [hW3, hPB]; exact obj_new _ _ (by rw [World.size_alloc, World.size_alloc]) _ _, ownR_nil _ _ _ _ _⟩
  have HS0 : Hid (w.heap.size ≤ PB) := Lib.hid (by omega)
  clear hn9 hm hcap htg b1 b2 b3
  go_enter Try.func7, Try.ntmps7
  go_wp2_with fail
  rw [← hW3, show w.heap.size + 1 + 1 = PB from hPB.symm]
  clear hW3 hPB
  go_loopw [17] (fun iv wr => ∃ (k : Nat) (b : List It.Itm) (m : Int), k ≤ n9 ∧ iv = .int .i64 k ∧ Hid (ParIs wr PB sp hy m b) ∧ Hid (Below PB W3 wr) ∧ Hid (LInv sp hy ls k m b tgt)) (fun iv _ => n9 - (intOf iv).toNat)
  case atStart => exact ⟨0, [], 0, Nat.zero_le _, rfl, HP0, Lib.hid (Below.refl _ _), HT⟩
  case round =>
    obtain ⟨k, b, m, hk, rfl, HP, HB, HI⟩ := hrel
    clear HP0 HT
    by_cases hlt : k < n9
    · obtain ⟨b1, o1, d1, e1, r1⟩ := HA.out.2.2 (by rw [← Hn.out]; omega)
      obtain ⟨rfl, rfl⟩ : va = some ⟨b1, o1, none⟩ ∧ cp = d1 := by injection e1 with a1 a2 a3; exact ⟨a1, a3⟩
      obtain ⟨pl, hx⟩ : ∃ x, ls[k]? = some x := ⟨_, List.getElem?_eq_getElem (by rw [← Hn.out]; exact hlt)⟩
      obtain ⟨vp, hvp, hpt⟩ := r1 k pl hx
      have HPt := Lib.hid hpt
      have y0 : wr.cell? ⟨b1, o1 + k, none⟩ = some vp := cell_below (HB3.out.trans (HB.out.mono HS0.out)) hvp
      have k0 : (0 : Int) ≤ (k : Int) := by omega
      have kl : (k : Int) < (n9 : Int) := by omega
      have HX := Lib.hid hx
      have HTl := Lib.hid (tooLong_any PB sp hy m b wr HP.out)
      clear r1 e1 hx hvp hpt
      by_cases hbl : 2000 < b.length
      · have HG := Lib.hid (linv_good HI.out (.inl hbl))
        rw [decide_eq_true hbl] at HTl
        clear hbl
        go_wp2_with fail
        refine HTl.out.mono ?_
        rintro e w3 ⟨rfl, rfl⟩
        clear y0
        obtain ⟨tv, htv, hto⟩ := HP.out
        have hgm := good_may HG.out
        have HM := Lib.hid (itemMay_any tv b wr (hto.at itC_len))
        have HTo := Lib.hid hto
        have c6 := Lib.cell_of_heap htv 6
        have hF := (HB.out.block _ (by rw [HPB.out]; exact Nat.lt_succ_self _)).trans HF0.out
        have HF := Lib.hid hF
        have HBt := Lib.hid (HB3.out.trans (HB.out.mono (Nat.le_trans (Nat.le_add_right _ 2) (Nat.le_of_eq HPB.out.symm))))
        have HGm := Lib.hid hgm
        clear htv hto hF hgm
        cases hq : It.may b with
        | false =>
          have HE : Hid (It.may tgt = false) := Lib.hid (HGm.out.1.symm.trans hq)
          rw [hq] at HM
          clear hq
          go_wp2_with fail
          refine HM.out.mono ?_
          rintro e w5 ⟨rfl, hb5⟩
          have HF5 := Lib.hid (obj_kept hb5 HF.out)
          have HB5 := Lib.hid (below_step HBt.out hb5)
          clear hb5
          have d0 := Lib.cell_of_heap HF5.out 0
          have d1 := Lib.cell_of_heap HF5.out 1
          have g0 := Lib.frozen_of_heap HF5.out 0
          have g1 := Lib.frozen_of_heap HF5.out 1
          go_wp2
          obtain ⟨WX, hWX⟩ : ∃ W, W = (w5.setCell ⟨w.heap.size + 1, 0, none⟩ (.int .i64 90)).setCell ⟨w.heap.size + 1, 1, none⟩ (.int .i64 0) := ⟨_, rfl⟩
          have HFx := Lib.hid (heap_setCell_same _ _ 1 _ _ (.int .i64 0) (heap_setCell_same _ _ 0 _ _ (.int .i64 90) HF5.out))
          have HBx := Lib.hid ((HB5.out.setCell (p := ⟨w.heap.size + 1, 0, none⟩) (Nat.le_succ _) (.int .i64 90)).setCell (p := ⟨w.heap.size + 1, 1, none⟩) (Nat.le_succ _) (.int .i64 0))
          rw [← hWX] at HFx HBx ⊢
          clear hWX d0 d1 g0 g1
          have s0 := Lib.cell_of_heap HFx.out 0
          have s1 := Lib.cell_of_heap HFx.out 1
          exact bodyPost_ret (v := .tuple #[.slice none 0 0, .agg #[.int .i64 90, .int .i64 0]]) (by simp [results, Try.results7, go_sem, s0, s1]) rfl ⟨.inr ⟨HE.out, rfl⟩, HBx.out⟩
        | true =>
          have HE : Hid (It.may tgt = true) := Lib.hid (HGm.out.1.symm.trans hq)
          have HE2 : Hid (b = tgt) := Lib.hid (HGm.out.2 hq)
          rw [hq] at HM
          clear hq
          obtain ⟨⟨pt, ct, rfl, _⟩, _, _⟩ := HTo.out.at itC_len
          go_wp2_with fail
          refine HM.out.mono ?_
          rintro e w5 ⟨rfl, hb5⟩
          have HF5 := Lib.hid (obj_kept hb5 HF.out)
          have HB5 := Lib.hid (below_step HBt.out hb5)
          have HO5 := Lib.hid (HTo.out.mono hb5)
          have HC5 := Lib.hid (cell_below hb5 c6)
          clear hb5 c6
          have c65 := HC5.out
          have d0 := Lib.cell_of_heap HF5.out 0
          have d1 := Lib.cell_of_heap HF5.out 1
          have g0 := Lib.frozen_of_heap HF5.out 0
          have g1 := Lib.frozen_of_heap HF5.out 1
          go_wp2
          have HFx := Lib.hid (heap_setCell_same _ _ 1 _ _ (.int .i64 0) (heap_setCell_same _ _ 0 _ _ (.int .i64 0) HF5.out))
          have HBx := Lib.hid ((HB5.out.setCell (p := ⟨w.heap.size + 1, 0, none⟩) (Nat.le_succ _) (.int .i64 0)).setCell (p := ⟨w.heap.size + 1, 1, none⟩) (Nat.le_succ _) (.int .i64 0))
          have HOx : Hid (OwnX w.heap.size (.slice pt b.length ct) b ((w5.setCell ⟨w.heap.size + 1, 0, none⟩ (.int .i64 0)).setCell ⟨w.heap.size + 1, 1, none⟩ (.int .i64 0))) := Lib.hid (by
            refine own_base ((HO5.out.set9 ?_).set9 ?_) (Nat.le_trans (Nat.le_add_right _ 2) (Nat.le_trans (Nat.le_of_eq HPB.out.symm) (Nat.le_succ _)))
            · rw [HPB.out]; omega
            · rw [HPB.out]; omega)
          obtain ⟨WX, hWX⟩ : ∃ W, W = (w5.setCell ⟨w.heap.size + 1, 0, none⟩ (.int .i64 0)).setCell ⟨w.heap.size + 1, 1, none⟩ (.int .i64 0) := ⟨_, rfl⟩
          rw [← hWX] at HFx HBx HOx ⊢
          clear hWX d0 d1 g0 g1
          have s0 := Lib.cell_of_heap HFx.out 0
          have s1 := Lib.cell_of_heap HFx.out 1
          exact bodyPost_ret (v := .tuple #[.slice pt b.length ct, .agg #[.int .i64 0, .int .i64 0]]) (by simp [results, Try.results7, go_sem, s0, s1]) rfl ⟨.inl ⟨HE.out, _, rfl, by rw [← HE2.out]; exact HOx.out⟩, HBx.out⟩
      · rw [decide_eq_false hbl] at HTl
        have HNl : Hid (b.length ≤ 2000) := Lib.hid (by omega)
        have HAW := Lib.hid (addWords_any PB sp hy m b vp pl w wr HP.out HPt.out HS0.out (HB3.out.trans (HB.out.mono HS0.out)) (by omega) HI.out.2.1 HI.out.2.2)
        clear hbl
        go_wp2_with fail
        refine HTl.out.mono ?_
        rintro e w3 ⟨rfl, rfl⟩
        go_wp2_with fail
        refine HAW.out.mono ?_
        rintro e w4 ⟨rfl, b4, n4, hp4, hb4, hg4, hl4, hn4, hz4, hu4⟩
        have HNx := Lib.hid (linv_next HX.out HI.out HNl.out hg4 hn4 hz4 hu4)
        have HB4 := Lib.hid (HB.out.trans hb4)
        have HAE := Lib.hid (addEnd_any PB sp hy n4 b4 w4 hp4 (by omega))
        clear hp4 hb4 hg4 hl4 hn4 hz4 hu4 y0
        go_wp2_with fail
        refine HAE.out.mono ?_
        rintro e w5 ⟨rfl, hp5, hb5⟩
        have HP5 := Lib.hid hp5
        have HB5 := Lib.hid (HB4.out.trans hb5)
        clear hp5 hb5
        go_wp2
        go_roundw
        case rel => exact ⟨k + 1, _, n4, by omega, by go_num, HP5, HB5, HNx⟩
        case measure => simp [intOf]; omega
    · have HG := Lib.hid (linv_good HI.out (.inr (by rw [← Hn.out]; omega)))
      obtain ⟨tv, htv, hto⟩ := HP.out
      have hgm := good_may HG.out
      have HM := Lib.hid (itemMay_any tv b wr (hto.at itC_len))
      have HTo := Lib.hid hto
      have c6 := Lib.cell_of_heap htv 6
      have hF := (HB.out.block _ (by rw [HPB.out]; exact Nat.lt_succ_self _)).trans HF0.out
      have HF := Lib.hid hF
      have HBt := Lib.hid (HB3.out.trans (HB.out.mono (Nat.le_trans (Nat.le_add_right _ 2) (Nat.le_of_eq HPB.out.symm))))
      have HGm := Lib.hid hgm
      clear htv hto hF hgm
      cases hq : It.may b with
      | false =>
        have HE : Hid (It.may tgt = false) := Lib.hid (HGm.out.1.symm.trans hq)
        rw [hq] at HM
        clear hq
        go_wp2_with fail
        refine HM.out.mono ?_
        rintro e w5 ⟨rfl, hb5⟩
        have HF5 := Lib.hid (obj_kept hb5 HF.out)
        have HB5 := Lib.hid (below_step HBt.out hb5)
        clear hb5
        have d0 := Lib.cell_of_heap HF5.out 0
        have d1 := Lib.cell_of_heap HF5.out 1
        have g0 := Lib.frozen_of_heap HF5.out 0
        have g1 := Lib.frozen_of_heap HF5.out 1
        go_wp2
        obtain ⟨WX, hWX⟩ : ∃ W, W = (w5.setCell ⟨w.heap.size + 1, 0, none⟩ (.int .i64 90)).setCell ⟨w.heap.size + 1, 1, none⟩ (.int .i64 0) := ⟨_, rfl⟩
        have HFx := Lib.hid (heap_setCell_same _ _ 1 _ _ (.int .i64 0) (heap_setCell_same _ _ 0 _ _ (.int .i64 90) HF5.out))
        have HBx := Lib.hid ((HB5.out.setCell (p := ⟨w.heap.size + 1, 0, none⟩) (Nat.le_succ _) (.int .i64 90)).setCell (p := ⟨w.heap.size + 1, 1, none⟩) (Nat.le_succ _) (.int .i64 0))
        rw [← hWX] at HFx HBx ⊢
        clear hWX d0 d1 g0 g1
        have s0 := Lib.cell_of_heap HFx.out 0
        have s1 := Lib.cell_of_heap HFx.out 1
        exact bodyPost_ret (v := .tuple #[.slice none 0 0, .agg #[.int .i64 90, .int .i64 0]]) (by simp [results, Try.results7, go_sem, s0, s1]) rfl ⟨.inr ⟨HE.out, rfl⟩, HBx.out⟩
      | true =>
        have HE : Hid (It.may tgt = true) := Lib.hid (HGm.out.1.symm.trans hq)
        have HE2 : Hid (b = tgt) := Lib.hid (HGm.out.2 hq)
        rw [hq] at HM
        clear hq
        obtain ⟨⟨pt, ct, rfl, _⟩, _, _⟩ := HTo.out.at itC_len
        go_wp2_with fail
        refine HM.out.mono ?_
        rintro e w5 ⟨rfl, hb5⟩
        have HF5 := Lib.hid (obj_kept hb5 HF.out)
        have HB5 := Lib.hid (below_step HBt.out hb5)
        have HO5 := Lib.hid (HTo.out.mono hb5)
        have HC5 := Lib.hid (cell_below hb5 c6)
        clear hb5 c6
        have c65 := HC5.out
        have d0 := Lib.cell_of_heap HF5.out 0
        have d1 := Lib.cell_of_heap HF5.out 1
        have g0 := Lib.frozen_of_heap HF5.out 0
        have g1 := Lib.frozen_of_heap HF5.out 1
        go_wp2
        have HFx := Lib.hid (heap_setCell_same _ _ 1 _ _ (.int .i64 0) (heap_setCell_same _ _ 0 _ _ (.int .i64 0) HF5.out))
        have HBx := Lib.hid ((HB5.out.setCell (p := ⟨w.heap.size + 1, 0, none⟩) (Nat.le_succ _) (.int .i64 0)).setCell (p := ⟨w.heap.size + 1, 1, none⟩) (Nat.le_succ _) (.int .i64 0))
        have HOx : Hid (OwnX w.heap.size (.slice pt b.length ct) b ((w5.setCell ⟨w.heap.size + 1, 0, none⟩ (.int .i64 0)).setCell ⟨w.heap.size + 1, 1, none⟩ (.int .i64 0))) := Lib.hid (by
          refine own_base ((HO5.out.set9 ?_).set9 ?_) (Nat.le_trans (Nat.le_add_right _ 2) (Nat.le_trans (Nat.le_of_eq HPB.out.symm) (Nat.le_succ _)))
          · rw [HPB.out]; omega
          · rw [HPB.out]; omega)
        obtain ⟨WX, hWX⟩ : ∃ W, W = (w5.setCell ⟨w.heap.size + 1, 0, none⟩ (.int .i64 0)).setCell ⟨w.heap.size + 1, 1, none⟩ (.int .i64 0) := ⟨_, rfl⟩
        rw [← hWX] at HFx HBx HOx ⊢
        clear hWX d0 d1 g0 g1
        have s0 := Lib.cell_of_heap HFx.out 0
        have s1 := Lib.cell_of_heap HFx.out 1
        exact bodyPost_ret (v := .tuple #[.slice pt b.length ct, .agg #[.int .i64 0, .int .i64 0]]) (by simp [results, Try.results7, go_sem, s0, s1]) rfl ⟨.inl ⟨HE.out, _, rfl, by rw [← HE2.out]; exact HOx.out⟩, HBx.out⟩

theorem words_one (w : World) (p : Nat) (hp : w.heap.size = p) (v : Value) (ws : List (List It.Pt)) (h : WordsAt w v ws) : LinesAt (w.alloc (.cells #[v] 36)) (.slice (some ⟨p, 0, none⟩) 1 1) [ws] := by
  subst hp
  refine ⟨⟨_, 1, rfl, Nat.le_refl _⟩, by unfold maxLen; simp, fun _ => ⟨w.heap.size, 0, 1, rfl, fun i x hi => ?_⟩⟩
  match i, hi with
  | 0, hi =>
    simp at hi
    subst hi
    exact ⟨v, cell_lay w _ _ 0 _ rfl, words_mono _ _ _ _ h (below_alloc _ _)⟩
  | i + 1, hi => simp at hi
set_option maxHeartbeats 4000000 in
set_option maxRecDepth 100000 in
theorem prose_any (sp : It.Gl) (x4 x5 x6 x7 : Value) (hy : Int) (v : Value) (ws : List (List It.Pt)) (w : World) (h : WordsAt w v ws) : Calls Try.prog 9 #[metV9 sp x4 x5 x6 x7, .int .i64 hy, v] w (VersePost sp hy [ws] w) := by
  have b1 := below_alloc w (.cells #[.int .i64 sp.w, .int .i64 sp.st, .int .i64 sp.sk, .int .i64 sp.o, x4, x5, x6, x7] 28)
  have b2 := below_alloc (w.alloc (.cells #[.int .i64 sp.w, .int .i64 sp.st, .int .i64 sp.sk, .int .i64 sp.o, x4, x5, x6, x7] 28)) (.cells #[.int .i64 0, .int .i64 0] 33)
  obtain ⟨W2, hW2⟩ : ∃ W, W = (w.alloc (.cells #[.int .i64 sp.w, .int .i64 sp.st, .int .i64 sp.sk, .int .i64 sp.o, x4, x5, x6, x7] 28)).alloc (.cells #[.int .i64 0, .int .i64 0] 33) := ⟨_, rfl⟩
  have hs2 : W2.heap.size = w.heap.size + 1 + 1 := by rw [hW2, World.size_alloc, World.size_alloc]
  have HF2 : Hid (W2.heap[w.heap.size + 1]? = some (.cells #[.int .i64 0, .int .i64 0] 33 (0, 0))) := Lib.hid (by rw [hW2]; exact obj_new _ _ (World.size_alloc _ _) _ _)
  have HB2 : Hid (Below w.heap.size w W2) := Lib.hid (by rw [hW2]; exact below_step b1 b2)
  have HV := Lib.hid (verse_any sp x4 x5 x6 x7 hy _ [ws] _ (words_one W2 _ hs2 v ws (words_mono _ _ _ _ h HB2.out)))
  have HB3 := Lib.hid (below_alloc W2 (.cells #[v] 36))
  have HF3 := Lib.hid (obj_kept HB3.out HF2.out)
  have HS := Lib.hid hs2
  unfold VersePost at HV
  unfold metV9 at *
  obtain ⟨⟨va, cp, rfl, hcap⟩, hm, _⟩ := h
  obtain ⟨n9, hn9⟩ : ∃ n, n = ws.length := ⟨_, rfl⟩
  rw [← hn9] at HV HB3 HF3 ⊢
  unfold VersePost
  generalize It.versI sp hy 0 [ws] = tgt at HV ⊢
  clear hn9 hm hcap b1 b2
  go_enter Try.func9, Try.ntmps9
  go_wp2_with fail
  rw [← hW2]
  clear hW2
  refine HV.out.mono ?_
  rintro e w5 ⟨hpost, hb5⟩
  have HF5 := Lib.hid (obj_kept hb5 HF3.out)
  have HB5 := Lib.hid (below_step HB2.out (below_step HB3.out hb5))
  clear hb5
  have d0 := Lib.cell_of_heap HF5.out 0
  have d1 := Lib.cell_of_heap HF5.out 1
  have g0 := Lib.frozen_of_heap HF5.out 0
  have g1 := Lib.frozen_of_heap HF5.out 1
  rcases hpost with ⟨hmay, rv, rfl, ho⟩ | ⟨hmay, rfl⟩
  · obtain ⟨⟨pt, ct, rfl, _⟩, _, _⟩ := ho.at itC_len
    have HFx := Lib.hid (heap_setCell_same _ _ 1 _ _ (.int .i64 0) (heap_setCell_same _ _ 0 _ _ (.int .i64 0) HF5.out))
    have HBx := Lib.hid ((HB5.out.setCell (p := ⟨w.heap.size + 1, 0, none⟩) (Nat.le_succ _) (.int .i64 0)).setCell (p := ⟨w.heap.size + 1, 1, none⟩) (Nat.le_succ _) (.int .i64 0))
    have HOx : Hid (OwnX w.heap.size (.slice pt tgt.length ct) tgt ((w5.setCell ⟨w.heap.size + 1, 0, none⟩ (.int .i64 0)).setCell ⟨w.heap.size + 1, 1, none⟩ (.int .i64 0))) := Lib.hid (by
      refine own_base ((ho.set9 ?_).set9 ?_) ?_
      · rw [World.size_alloc, HS.out]; omega
      · rw [World.size_alloc, HS.out]; omega
      · rw [World.size_alloc, HS.out]; omega)
    have HM := Lib.hid hmay
    clear ho hmay hs2
    go_wp2
    obtain ⟨WX, hWX⟩ : ∃ W, W = (w5.setCell ⟨w.heap.size + 1, 0, none⟩ (.int .i64 0)).setCell ⟨w.heap.size + 1, 1, none⟩ (.int .i64 0) := ⟨_, rfl⟩
    rw [← hWX] at HFx HBx HOx ⊢
    clear hWX d0 d1 g0 g1
    have s0 := Lib.cell_of_heap HFx.out 0
    have s1 := Lib.cell_of_heap HFx.out 1
    exact bodyPost_ret (v := .tuple #[.slice pt tgt.length ct, .agg #[.int .i64 0, .int .i64 0]]) (by simp [results, Try.results9, go_sem, s0, s1]) rfl ⟨.inl ⟨HM.out, _, rfl, HOx.out⟩, HBx.out⟩
  · have HFx := Lib.hid (heap_setCell_same _ _ 1 _ _ (.int .i64 0) (heap_setCell_same _ _ 0 _ _ (.int .i64 90) HF5.out))
    have HBx := Lib.hid ((HB5.out.setCell (p := ⟨w.heap.size + 1, 0, none⟩) (Nat.le_succ _) (.int .i64 90)).setCell (p := ⟨w.heap.size + 1, 1, none⟩) (Nat.le_succ _) (.int .i64 0))
    have HM := Lib.hid hmay
    clear hmay hs2
    go_wp2
    obtain ⟨WX, hWX⟩ : ∃ W, W = (w5.setCell ⟨w.heap.size + 1, 0, none⟩ (.int .i64 90)).setCell ⟨w.heap.size + 1, 1, none⟩ (.int .i64 0) := ⟨_, rfl⟩
    rw [← hWX] at HFx HBx ⊢
    clear hWX d0 d1 g0 g1
    have s0 := Lib.cell_of_heap HFx.out 0
    have s1 := Lib.cell_of_heap HFx.out 1
    exact bodyPost_ret (v := .tuple #[.slice none 0 0, .agg #[.int .i64 90, .int .i64 0]]) (by simp [results, Try.results9, go_sem, s0, s1]) rfl ⟨.inr ⟨HM.out, rfl⟩, HBx.out⟩
end Go.Proofs.Ytfgfplpbddapnaa
