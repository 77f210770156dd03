/-
  The landed addWords.
-/
import Derived.Test.YtfgfplpbddapnaaParts9
set_option linter.unusedVariables false
set_option linter.unusedSimpArgs false
namespace Go.Proofs.Ytfgfplpbddapnaa
open Go.RowKit

/-- what holds ahead of word k -/
def WInv (sp : It.Gl) (hy n : Int) (ws : List (List It.Pt)) (k : Nat) (m : Int) (b tgt : List It.Itm) : Prop :=
  ((b ++ It.wordsI sp hy m k (ws.drop k) = tgt ∧ m = n + k) ∨ (2000 < b.length ∧ 2000 < tgt.length)) ∧ b.length ≤ 2010 ∧ 0 ≤ m ∧ m ≤ (b.length : Int) + 1 ∧ (k = 0 → m ≤ (b.length : Int))
theorem winv_at {sp : It.Gl} {hy n : Int} {ws : List (List It.Pt)} {k : Nat} {m : Int} {b tgt : List It.Itm} {pl : List It.Pt} (hx : ws[k]? = some pl) (h : WInv sp hy n ws k m b tgt) (hb : b.length ≤ 2000) :
    b ++ ((if 0 < k then [It.spc sp] else []) ++ (It.wordI hy m 0 pl ++ It.wordsI sp hy (m + 1) (k + 1) (ws.drop (k + 1)))) = tgt ∧ m = n + k := by
  rcases h.1 with ⟨h1, h2⟩ | ⟨h1, _⟩
  · rw [It.words_at hx] at h1
    exact ⟨h1, h2⟩
  · omega
theorem winv_step {sp : It.Gl} {hy n : Int} {ws : List (List It.Pt)} {k : Nat} {m : Int} {b2 b5 tgt : List It.Itm} {pl : List It.Pt} (ht : b2 ++ (It.wordI hy m 0 pl ++ It.wordsI sp hy (m + 1) (k + 1) (ws.drop (k + 1))) = tgt) (hm : m = n + k) (h0 : 0 ≤ m) (hm2 : m ≤ (b2.length : Int)) (hb2 : b2.length ≤ 2001)
    (hg : Good b5 (b2 ++ It.wordI hy m 0 pl)) (hl : b5.length ≤ 2010) : WInv sp hy n ws (k + 1) (m + 1) b5 tgt := by
  rcases hg with rfl | ⟨h1, h2⟩
  · refine ⟨.inl ⟨by rw [← ht, List.append_assoc], by omega⟩, hl, by omega, ?_, fun h => by omega⟩
    rw [List.length_append]
    omega
  · refine ⟨.inr ⟨h1, ?_⟩, hl, by omega, ?_, fun h => by omega⟩
    · rw [← ht]
      simp only [List.length_append] at h2 ⊢
      omega
    · omega
theorem winv_first {sp : It.Gl} {hy n : Int} {ws : List (List It.Pt)} {m : Int} {b b5 tgt : List It.Itm} {pl : List It.Pt} (hx : ws[0]? = some pl) (h : WInv sp hy n ws 0 m b tgt) (hb : b.length ≤ 2000) (hg : Good b5 (b ++ It.wordI hy m 0 pl)) (hl : b5.length ≤ 2010) : WInv sp hy n ws (0 + 1) (m + 1) b5 tgt := by
  obtain ⟨h1, h2⟩ := winv_at hx h hb
  exact winv_step (by simpa using h1) h2 h.2.2.1 (h.2.2.2.2 rfl) (by omega) hg hl
theorem winv_next {sp : It.Gl} {hy n : Int} {ws : List (List It.Pt)} {k : Nat} {m : Int} {b b5 tgt : List It.Itm} {pl : List It.Pt} (hx : ws[k]? = some pl) (hk : 0 < k) (h : WInv sp hy n ws k m b tgt) (hb : b.length ≤ 2000) (hg : Good b5 ((b ++ [It.spc sp]) ++ It.wordI hy m 0 pl)) (hl : b5.length ≤ 2010) : WInv sp hy n ws (k + 1) (m + 1) b5 tgt := by
  obtain ⟨h1, h2⟩ := winv_at hx h hb
  rw [if_pos hk, ← List.append_assoc] at h1
  have := h.2.2.2.1
  exact winv_step h1 h2 h.2.2.1 (by simp; omega) (by simp; omega) hg hl
theorem winv_end {sp : It.Gl} {hy n : Int} {ws : List (List It.Pt)} {k : Nat} {m : Int} {b tgt : List It.Itm} (hk : ws.length ≤ k) (hk2 : k ≤ ws.length) (h : WInv sp hy n ws k m b tgt) : Good b tgt ∧ b.length ≤ 2010 ∧ (b.length ≤ 2000 → m = n + ws.length) ∧ 0 ≤ m ∧ m ≤ (b.length : Int) + 1 := by
  obtain rfl : k = ws.length := by omega
  refine ⟨?_, h.2.1, fun hb => ?_, h.2.2.1, h.2.2.2.1⟩
  · rcases h.1 with ⟨h1, _⟩ | h1
    · rw [It.drop_end (Nat.le_refl _)] at h1
      exact .inl (by simpa [It.wordsI] using h1)
    · exact .inr h1
  · rcases h.1 with ⟨_, h1⟩ | h1
    · exact h1
    · omega
theorem winv_stop {sp : It.Gl} {hy n : Int} {ws : List (List It.Pt)} {k : Nat} {m : Int} {b tgt : List It.Itm} (hb : 2000 < b.length) (h : WInv sp hy n ws k m b tgt) : Good b tgt ∧ b.length ≤ 2010 ∧ (b.length ≤ 2000 → m = n + ws.length) ∧ 0 ≤ m ∧ m ≤ (b.length : Int) + 1 := by
  refine ⟨?_, h.2.1, fun h => by omega, h.2.2.1, h.2.2.2.1⟩
  rcases h.1 with ⟨h1, _⟩ | h1
  · exact .inr ⟨hb, by rw [← h1, List.length_append]; omega⟩
  · exact .inr h1

set_option maxHeartbeats 16000000 in
set_option maxRecDepth 100000 in
theorem addWords_any (PB : Nat) (sp : It.Gl) (hy n : Int) (a : List It.Itm) (v : Value) (ws : List (List It.Pt)) (w0 w : World) (h : ParIs w PB sp hy n a) (h0 : WordsAt w0 v ws) (hs : w0.heap.size ≤ PB) (hb0 : Below w0.heap.size w0 w) (hlen : a.length ≤ 2000) (hn0 : 0 ≤ n) (hn1 : n ≤ (a.length : Int)) :
    Calls Try.prog 17 #[.pointer (some ⟨PB, 0, none⟩), v] w fun e w' => e = .returned (.tuple #[]) ∧ ∃ b n', ParIs w' PB sp hy n' b ∧ Below PB w w' ∧ Good b (a ++ It.wordsI sp hy n 0 ws) ∧ b.length ≤ 2010 ∧ (b.length ≤ 2000 → n' = n + ws.length) ∧ 0 ≤ n' ∧ n' ≤ (b.length : Int) + 1 := by
  have HA := Lib.hid h0
  have HP0 := Lib.hid h
  have HB0 := Lib.hid hb0
  have HS0 := Lib.hid hs
  obtain ⟨⟨va, cp, rfl, hcap⟩, hm, _⟩ := h0
  have hza : ws.length ≤ 9223372036854775807 := by unfold maxLen at hm; omega
  obtain ⟨tgt, htg⟩ : ∃ t, t = a ++ It.wordsI sp hy n 0 ws := ⟨_, rfl⟩
  have HT : Hid (WInv sp hy n ws 0 n a tgt) := Lib.hid ⟨.inl ⟨by rw [htg]; rfl, by simp⟩, by omega, hn0, by omega, fun _ => hn1⟩
  rw [← htg]
  obtain ⟨n9, hn9⟩ : ∃ n, n = ws.length := ⟨_, rfl⟩
  have Hn := Lib.hid hn9
  rw [← hn9] at hza ⊢
  clear hn9 hm hcap h hb0 hs hlen htg hn0 hn1
  go_enter Try.func17, Try.ntmps17
  go_wp2_with fail
  go_loopw [8] (fun iv wr => ∃ (k : Nat) (b : List It.Itm) (m : Int), k ≤ n9 ∧ iv = .int .i64 k ∧ Hid (ParIs wr PB sp hy m b) ∧ Hid (Below PB w wr) ∧ Hid (WInv sp hy n ws k m b tgt)) (fun iv _ => n9 - (intOf iv).toNat)
  case atStart => exact ⟨0, a, n, Nat.zero_le _, rfl, HP0, Lib.hid (Below.refl _ _), HT⟩
  case round =>
    obtain ⟨k, b, m, hk, rfl, HP, HB, HI⟩ := hrel
    clear HP0 HT
    by_cases hlt : k < n9
    · obtain ⟨b1, o1, d1, e1, r1⟩ := HA.out.2.2 (by rw [← Hn.out]; omega)
      obtain ⟨rfl, rfl⟩ : va = some ⟨b1, o1, none⟩ ∧ cp = d1 := by injection e1 with a1 a2 a3; exact ⟨a1, a3⟩
      obtain ⟨pl, hx⟩ : ∃ x, ws[k]? = some x := ⟨_, List.getElem?_eq_getElem (by rw [← Hn.out]; exact hlt)⟩
      obtain ⟨vp, hvp, hpt⟩ := r1 k pl hx
      have HPt := Lib.hid hpt
      have y0 : wr.cell? ⟨b1, o1 + k, none⟩ = some vp := cell_below (HB0.out.trans (HB.out.mono HS0.out)) hvp
      have k0 : (0 : Int) ≤ (k : Int) := by omega
      have kl : (k : Int) < (n9 : Int) := by omega
      have HX := Lib.hid hx
      have HTl := Lib.hid (tooLong_any PB sp hy m b wr HP.out)
      clear r1 e1 hx hvp hpt
      by_cases hbl : 2000 < b.length
      · have HG := Lib.hid (winv_stop hbl HI.out)
        rw [decide_eq_true hbl] at HTl
        clear hbl
        go_wp2_with fail
        refine HTl.out.mono ?_
        rintro e w3 ⟨rfl, rfl⟩
        go_wp2
        refine bodyPost_ret (results_none rfl _ _ _) rfl ?_
        exact ⟨rfl, b, m, HP.out, HB.out, HG.out.1, HG.out.2.1, by rw [Hn.out]; exact HG.out.2.2.1, HG.out.2.2.2.1, HG.out.2.2.2.2⟩
      · rw [decide_eq_false hbl] at HTl
        have HNl : Hid (b.length ≤ 2000) := Lib.hid (by omega)
        have HLe : Hid (b.length ≤ 2010) := Lib.hid (by omega)
        have HWm : Hid (IntKind.i64.wrap (m + 1) = m + 1) := Lib.hid (by have h1 := HI.out.2.2.1; have h2 := HI.out.2.2.2.1; exact wr64 (by omega) (by omega))
        clear hbl
        go_wp2_with fail
        refine HTl.out.mono ?_
        rintro e w3 ⟨rfl, rfl⟩
        clear y0
        by_cases hk0 : k = 0
        · subst hk0
          have HBW := Lib.hid (HB0.out.trans (HB.out.mono HS0.out))
          have HCP := Lib.hid (addParts_any PB sp hy m b vp pl wr HP.out (fun w' hb => HPt.out.mono (HBW.out.trans (hb.mono HS0.out))) HLe.out)
          go_wp2_with fail
          refine HCP.out.mono ?_
          rintro e w5 ⟨rfl, b5, hp5, hb5, hg5, hl5⟩
          have HB5 := Lib.hid (HB.out.trans hb5)
          obtain ⟨v5, hv5, ho5⟩ := hp5
          have HV5 := Lib.hid hv5
          have HO5 := Lib.hid ho5
          have HG5 := Lib.hid hg5
          have HL5 := Lib.hid hl5
          have c5 := Lib.cell_of_heap hv5 5
          have f5 := Lib.frozen_of_heap hv5 5
          have hwm := HWm.out
          have HP6 : Hid (ParIs (w5.setCell ⟨PB, 5, none⟩ (.int .i64 (m + 1))) PB sp hy (m + 1) b5) := Lib.hid ⟨_, heap_setCell_same _ _ 5 _ _ _ HV5.out, HO5.out.set9 (Nat.lt_succ_self _)⟩
          have HB6 := Lib.hid (HB5.out.setCell (p := ⟨PB, 5, none⟩) (Nat.le_refl _) (.int .i64 (m + 1)))
          clear hb5 hg5 hl5 hv5 ho5
          go_wp2
          go_roundw
          case rel => exact ⟨0 + 1, b5, m + 1, by omega, by go_num, HP6, HB6, Lib.hid (winv_first HX.out HI.out HNl.out HG5.out HL5.out)⟩
          case measure => simp [intOf]; omega
        · have kp : (0 : Int) < (k : Int) := by omega
          have hkp : 0 < k := by omega
          clear hk0
          obtain ⟨i0, hi, hz0, hz1, hz2⟩ := info_parts infoIt
          obtain ⟨tva, hha, hoa⟩ := HP.out
          obtain ⟨W2a, hW2a⟩ : ∃ W, W = wr.drew := ⟨_, rfl⟩
          obtain ⟨W3a, hW3a⟩ : ∃ W, W = W2a.alloc (.cells #[.int .i64 1, .int .i64 sp.w, .int .i64 sp.st, .int .i64 sp.sk, .int .i64 sp.o, .int .i64 0, .bool false, .int .i64 0, .int .i64 0] 45) := ⟨_, rfl⟩
          have hB2a : Below wr.heap.size wr W2a := by rw [hW2a]; exact below_drew9 _
          have hB3a : Below W2a.heap.size W2a W3a := by rw [hW3a]; exact below_alloc _ _
          have HBaa := Lib.hid (below_step hB2a hB3a)
          have r2a : W2a.cell? ⟨PB, 6, none⟩ = some tva := Lib.cell_of_heap (obj_kept hB2a hha) 6
          have r3a : W3a.cell? ⟨PB, 6, none⟩ = some tva := Lib.cell_of_heap (obj_kept HBaa.out hha) 6
          have howna : World.ownsRow W3a (PB + 1) 45 9 tva (b).length ((b).flatMap itC) := hoa.mono HBaa.out
          have HOwa := Lib.hid howna
          have HH3a := Lib.hid (obj_kept HBaa.out hha)
          have q0a : ∀ j u, [.int .i64 1, .int .i64 sp.w, .int .i64 sp.st, .int .i64 sp.sk, .int .i64 sp.o, .int .i64 0, .bool false, .int .i64 0, .int .i64 0][j]? = some u → W3a.cell? ((⟨W2a.heap.size, 0, none⟩ : Addr).add j) = some u := fun j u hj => by
            rw [add_none, Nat.zero_add, hW3a]
            exact cell_lay W2a _ _ j u (by simpa using hj)
          have hb3a : PB + 1 ≤ W3a.heap.size := by have := HBaa.out.size; have := lt_of_obj hha; omega
          have HW3a := Lib.hid hW3a
          have HnPa := Lib.hid (own_off9 HOwa.out HH3a.out (by decide))
          have Hlena : Hid ((b).length ≤ 2100) := Lib.hid (by have := HLe.out; omega)
          have S3a : (fun w' : World => ∃ x, w'.heap[PB]? = some (.cells #[.int .i64 sp.w, .int .i64 sp.st, .int .i64 sp.sk, .int .i64 sp.o, .int .i64 hy, .int .i64 m, x] 52 (0, 0))) W2a → (fun w' : World => ∃ x, w'.heap[PB]? = some (.cells #[.int .i64 sp.w, .int .i64 sp.st, .int .i64 sp.sk, .int .i64 sp.o, .int .i64 hy, .int .i64 m, x] 52 (0, 0))) W3a := fun h => ⟨_, obj_kept hB3a h.choose_spec⟩
          have S0a : (fun w' : World => ∃ x, w'.heap[PB]? = some (.cells #[.int .i64 sp.w, .int .i64 sp.st, .int .i64 sp.sk, .int .i64 sp.o, .int .i64 hy, .int .i64 m, x] 52 (0, 0))) wr.drew := ⟨_, hha⟩
          clear howna hB2a hB3a hW3a hha hoa
          go_upto_region 5 with fail
          refine wp_region_held_drew (S := fun w' : World => ∃ x, w'.heap[PB]? = some (.cells #[.int .i64 sp.w, .int .i64 sp.st, .int .i64 sp.sk, .int .i64 sp.o, .int .i64 hy, .int .i64 m, x] 52 (0, 0))) (by kernel_rfl) S0a (fun hHeld => ?_)
          rw [← hW2a] at hHeld ⊢
          clear hW2a S0a
          refine take_op (i := 0) (d := 17) (op := Op.move (Operand.tmp 0)) (ty := 61) (v := (.pointer (some ⟨PB, 0, none⟩))) (by kernel_rfl) (by kernel_rfl) (by kernel_rfl) (by kernel_rfl) (by kernel_rfl) (fun _ _ _ h => h) (fun wS hS => by clear hS; go_simp) hHeld ?_
          simp only [Act.put, List.setIfInBounds_toArray, List.set_cons_zero, List.set_cons_succ]
          refine take_op (i := 1) (d := 18) (op := Op.move (Operand.tmp 0)) (ty := 61) (v := (.pointer (some ⟨PB, 0, none⟩))) (by kernel_rfl) (by kernel_rfl) (by kernel_rfl) (by kernel_rfl) (by kernel_rfl) (fun _ _ _ h => h) (fun wS hS => by clear hS; go_simp) hHeld ?_
          simp only [Act.put, List.setIfInBounds_toArray, List.set_cons_zero, List.set_cons_succ]
          refine take_op (i := 2) (d := 19) (op := Op.nilCheck (Operand.tmp 18)) (ty := 0) (v := (.pointer (some ⟨PB, 0, none⟩))) (by kernel_rfl) (by kernel_rfl) (by kernel_rfl) (by kernel_rfl) (by kernel_rfl) (fun _ _ _ h => h) (fun wS hS => by clear hS; go_simp) hHeld ?_
          simp only [Act.put, List.setIfInBounds_toArray, List.set_cons_zero, List.set_cons_succ]
          refine take_op (i := 3) (d := 20) (op := Op.fieldAddr 52 (Operand.tmp 19) 3) (ty := 0) (v := (.pointer (some ⟨PB, 6, none⟩))) (by kernel_rfl) (by kernel_rfl) (by kernel_rfl) (by kernel_rfl) (by kernel_rfl) (fun _ _ _ h => h) (fun wS hS => by clear hS; go_simp) hHeld ?_
          simp only [Act.put, List.setIfInBounds_toArray, List.set_cons_zero, List.set_cons_succ]
          refine take_op (i := 5) (d := 22) (op := Op.move (Operand.tmp 0)) (ty := 61) (v := (.pointer (some ⟨PB, 0, none⟩))) (by kernel_rfl) (by kernel_rfl) (by kernel_rfl) (by kernel_rfl) (by kernel_rfl) (fun _ _ _ h => h) (fun wS hS => by clear hS; go_simp) hHeld ?_
          simp only [Act.put, List.setIfInBounds_toArray, List.set_cons_zero, List.set_cons_succ]
          refine take_op (i := 6) (d := 23) (op := Op.nilCheck (Operand.tmp 22)) (ty := 0) (v := (.pointer (some ⟨PB, 0, none⟩))) (by kernel_rfl) (by kernel_rfl) (by kernel_rfl) (by kernel_rfl) (by kernel_rfl) (fun _ _ _ h => h) (fun wS hS => by clear hS; go_simp) hHeld ?_
          simp only [Act.put, List.setIfInBounds_toArray, List.set_cons_zero, List.set_cons_succ]
          refine take_op (i := 7) (d := 24) (op := Op.fieldAddr 52 (Operand.tmp 23) 0) (ty := 0) (v := (.pointer (some ⟨PB, 0, none⟩))) (by kernel_rfl) (by kernel_rfl) (by kernel_rfl) (by kernel_rfl) (by kernel_rfl) (fun _ _ _ h => h) (fun wS hS => by clear hS; go_simp) hHeld ?_
          simp only [Act.put, List.setIfInBounds_toArray, List.set_cons_zero, List.set_cons_succ]
          refine take_op (i := 8) (d := 25) (op := Op.load 23 (Operand.tmp 24)) (ty := 23) (v := (.agg #[.int .i64 sp.w, .int .i64 sp.st, .int .i64 sp.sk, .int .i64 sp.o])) (by kernel_rfl) (by kernel_rfl) (by kernel_rfl) (by kernel_rfl) (by kernel_rfl) (fun _ _ _ h => h) (fun wS hS => by (try dsimp only at hS); obtain ⟨xS, hS1⟩ := hS; have e0 := Lib.cell_of_heap hS1 0; have e1 := Lib.cell_of_heap hS1 1; have e2 := Lib.cell_of_heap hS1 2; have e3 := Lib.cell_of_heap hS1 3; have e4 := Lib.cell_of_heap hS1 4; have e5 := Lib.cell_of_heap hS1 5; clear hS1; go_simp) hHeld ?_
          simp only [Act.put, List.setIfInBounds_toArray, List.set_cons_zero, List.set_cons_succ]
          refine take_op (i := 9) (d := 26) (op := Op.build 45 #[(0, Operand.const (Value.int IntKind.i64 1)), (1, Operand.tmp 25)]) (ty := 45) (v := (.agg #[.int .i64 1, .int .i64 sp.w, .int .i64 sp.st, .int .i64 sp.sk, .int .i64 sp.o, .int .i64 0, .bool false, .int .i64 0, .int .i64 0])) (by kernel_rfl) (by kernel_rfl) (by kernel_rfl) (by kernel_rfl) (by kernel_rfl) (fun _ _ _ h => h) (fun wS hS => by clear hS; go_simp) hHeld ?_
          simp only [Act.put, List.setIfInBounds_toArray, List.set_cons_zero, List.set_cons_succ]
          refine wpAnyH_ready (rs := [4, 10]) (by kernel_rfl) (by simp) ?_
          refine AllReadyH.cons rfl (fun K hK => ?_) (AllReadyH.cons rfl (fun K hK => ?_) AllReadyH.nil)
          · go_simp
            refine hK.out _ _ hHeld (fun _ => ?_)
            clear hK K
            refine wpAnyH_ready (rs := [10]) (by kernel_rfl) (by simp) ?_
            refine AllReadyH.cons rfl (fun K hK => ?_) AllReadyH.nil
            go_simp
            rw [← HW3a.out]
            refine hK.out _ _ (S3a hHeld) (fun hHeld => ?_)
            clear hK K
            refine wpAnyH_ready (rs := [11]) (by kernel_rfl) (by simp) ?_
            refine AllReadyH.cons rfl (fun K hK => ?_) AllReadyH.nil
            refine step_append_lies _ (by rfl) _ _ _ (by rfl) (PB + 1) 45 i0 _ 9 72 Try.underlying30 hi hz0 hz1 hz2 rfl (by decide) tva _ _ (by rfl) HOwa.out ⟨W2a.heap.size, 0, none⟩ 1 1 [.int .i64 1, .int .i64 sp.w, .int .i64 sp.st, .int .i64 sp.sk, .int .i64 sp.o, .int .i64 0, .bool false, .int .i64 0, .int .i64 0] (by rfl) (by rfl) q0a (fun z hz => by simp at hz; rcases hz with rfl | rfl | rfl | rfl | rfl | rfl | rfl | rfl | rfl <;> rfl) (by omega) (by have := Hlena.out; unfold maxLen; omega) (by have := Hlena.out; omega) hb3a _ rfl ?_
            intro g9 cap9 w9 hown9 hgrow9 hat9 hlt9
            refine hK.out _ _ ⟨_, obj_far hHeld.choose_spec hgrow9 HnPa.out⟩ (fun hHeld => ?_)
            clear hK K
            simp only [Act.put, List.setIfInBounds_toArray, List.set_cons_zero, List.set_cons_succ]
            have hR9 := obj_far HH3a.out hgrow9 HnPa.out
            have HR9 := Lib.hid hR9
            have r9 := Lib.cell_of_heap hR9 6
            have f9 := Lib.frozen_of_heap hR9 6
            have HG9 := Lib.hid hgrow9
            have HO9 := Lib.hid hown9
            clear hR9 hgrow9 hown9 hat9
            refine take_op (i := 12) (d := 29) (op := Op.nilCheck (Operand.tmp 17)) (ty := 0) (v := (.pointer (some ⟨PB, 0, none⟩))) (by kernel_rfl) (by kernel_rfl) (by kernel_rfl) (by kernel_rfl) (by kernel_rfl) (fun _ _ _ h => h) (fun wS hS => by clear hS; go_simp) hHeld ?_
            simp only [Act.put, List.setIfInBounds_toArray, List.set_cons_zero, List.set_cons_succ]
            refine take_op (i := 13) (d := 30) (op := Op.fieldAddr 52 (Operand.tmp 29) 3) (ty := 0) (v := (.pointer (some ⟨PB, 6, none⟩))) (by kernel_rfl) (by kernel_rfl) (by kernel_rfl) (by kernel_rfl) (by kernel_rfl) (fun _ _ _ h => h) (fun wS hS => by clear hS; go_simp) hHeld ?_
            simp only [Act.put, List.setIfInBounds_toArray, List.set_cons_zero, List.set_cons_succ]
            refine wpAnyH_ready (rs := [14]) (by kernel_rfl) (by simp) ?_
            refine AllReadyH.cons rfl (fun K hK => ?_) AllReadyH.nil
            go_simp
            refine hK.out _ _ ⟨_, heap_setCell_same _ _ 6 _ _ _ HR9.out⟩ (fun _ => ?_)
            clear hK K
            refine wpAnyH_done (by kernel_rfl) ?_ _
            obtain ⟨WBa, hWBa⟩ : ∃ W, W = w9.setCell ⟨PB, 6, none⟩ (.slice (some ⟨g9, 0, none⟩) ((b).length + 1) cap9) := ⟨_, rfl⟩
            have HPan : Hid (ParIs WBa PB sp hy m ((b) ++ [It.spc sp])) := Lib.hid (by
              rw [hWBa]
              refine ⟨_, heap_setCell_same _ _ 6 _ _ _ HR9.out, OwnR.set9 ?_ (Nat.lt_succ_self _)⟩
              unfold OwnR
              have e1 : ((b) ++ [It.spc sp]).length = (b).length + 1 := by simp
              have e2 : ((b) ++ [It.spc sp]).flatMap itC = (b).flatMap itC ++ [.int .i64 1, .int .i64 sp.w, .int .i64 sp.st, .int .i64 sp.sk, .int .i64 sp.o, .int .i64 0, .bool false, .int .i64 0, .int .i64 0] := by simp [itC, It.box, It.pen, It.spc, List.append_assoc]
              rw [e1, e2]
              exact HO9.out)
            have HBan : Hid (Below PB w WBa) := Lib.hid (by
              rw [hWBa]
              exact (below_app (HB.out.trans (HBaa.out.mono (Nat.le_of_lt HP.out.lt))) HG9.out (ownsRow_base HOwa.out (Nat.le_succ _)) (Nat.le_of_succ_le hb3a)).setCell (p := ⟨PB, 6, none⟩) (Nat.le_refl _) _)
            rw [← hWBa]
            clear hWBa HR9 r9 f9 HG9 HO9 r2a r3a HBaa HOwa HH3a q0a hb3a HW3a HnPa Hlena S3a hHeld hlt9
            have HBW := Lib.hid (HB0.out.trans (HBan.out.mono HS0.out))
            have HCP := Lib.hid (addParts_any PB sp hy m (b ++ [It.spc sp]) vp pl WBa HPan.out (fun w' hb => HPt.out.mono (HBW.out.trans (hb.mono HS0.out))) (by simp; have := HNl.out; omega))
            go_wp2_with fail
            refine HCP.out.mono ?_
            rintro e w5 ⟨rfl, b5, hp5, hb5, hg5, hl5⟩
            have HB5 := Lib.hid (HBan.out.trans hb5)
            obtain ⟨v5, hv5, ho5⟩ := hp5
            have HV5 := Lib.hid hv5
            have HO5 := Lib.hid ho5
            have HG5 := Lib.hid hg5
            have HL5 := Lib.hid hl5
            have c5 := Lib.cell_of_heap hv5 5
            have f5 := Lib.frozen_of_heap hv5 5
            have hwm := HWm.out
            have HP6 : Hid (ParIs (w5.setCell ⟨PB, 5, none⟩ (.int .i64 (m + 1))) PB sp hy (m + 1) b5) := Lib.hid ⟨_, heap_setCell_same _ _ 5 _ _ _ HV5.out, HO5.out.set9 (Nat.lt_succ_self _)⟩
            have HB6 := Lib.hid (HB5.out.setCell (p := ⟨PB, 5, none⟩) (Nat.le_refl _) (.int .i64 (m + 1)))
            clear hb5 hg5 hl5 hv5 ho5
            go_wp2
            go_roundw
            case rel => exact ⟨k + 1, b5, m + 1, by omega, by go_num, HP6, HB6, Lib.hid (winv_next HX.out hkp HI.out HNl.out HG5.out HL5.out)⟩
            case measure => simp [intOf]; omega
          · go_simp
            rw [← HW3a.out]
            refine hK.out _ _ (S3a hHeld) (fun hHeld => ?_)
            clear hK K
            refine wpAnyH_ready (rs := [4]) (by kernel_rfl) (by simp) ?_
            refine AllReadyH.cons rfl (fun K hK => ?_) AllReadyH.nil
            go_simp
            refine hK.out _ _ hHeld (fun _ => ?_)
            clear hK K
            refine wpAnyH_ready (rs := [11]) (by kernel_rfl) (by simp) ?_
            refine AllReadyH.cons rfl (fun K hK => ?_) AllReadyH.nil
            refine step_append_lies _ (by rfl) _ _ _ (by rfl) (PB + 1) 45 i0 _ 9 72 Try.underlying30 hi hz0 hz1 hz2 rfl (by decide) tva _ _ (by rfl) HOwa.out ⟨W2a.heap.size, 0, none⟩ 1 1 [.int .i64 1, .int .i64 sp.w, .int .i64 sp.st, .int .i64 sp.sk, .int .i64 sp.o, .int .i64 0, .bool false, .int .i64 0, .int .i64 0] (by rfl) (by rfl) q0a (fun z hz => by simp at hz; rcases hz with rfl | rfl | rfl | rfl | rfl | rfl | rfl | rfl | rfl <;> rfl) (by omega) (by have := Hlena.out; unfold maxLen; omega) (by have := Hlena.out; omega) hb3a _ rfl ?_
            intro g9 cap9 w9 hown9 hgrow9 hat9 hlt9
            refine hK.out _ _ ⟨_, obj_far hHeld.choose_spec hgrow9 HnPa.out⟩ (fun hHeld => ?_)
            clear hK K
            simp only [Act.put, List.setIfInBounds_toArray, List.set_cons_zero, List.set_cons_succ]
            have hR9 := obj_far HH3a.out hgrow9 HnPa.out
            have HR9 := Lib.hid hR9
            have r9 := Lib.cell_of_heap hR9 6
            have f9 := Lib.frozen_of_heap hR9 6
            have HG9 := Lib.hid hgrow9
            have HO9 := Lib.hid hown9
            clear hR9 hgrow9 hown9 hat9
            refine take_op (i := 12) (d := 29) (op := Op.nilCheck (Operand.tmp 17)) (ty := 0) (v := (.pointer (some ⟨PB, 0, none⟩))) (by kernel_rfl) (by kernel_rfl) (by kernel_rfl) (by kernel_rfl) (by kernel_rfl) (fun _ _ _ h => h) (fun wS hS => by clear hS; go_simp) hHeld ?_
            simp only [Act.put, List.setIfInBounds_toArray, List.set_cons_zero, List.set_cons_succ]
            refine take_op (i := 13) (d := 30) (op := Op.fieldAddr 52 (Operand.tmp 29) 3) (ty := 0) (v := (.pointer (some ⟨PB, 6, none⟩))) (by kernel_rfl) (by kernel_rfl) (by kernel_rfl) (by kernel_rfl) (by kernel_rfl) (fun _ _ _ h => h) (fun wS hS => by clear hS; go_simp) hHeld ?_
            simp only [Act.put, List.setIfInBounds_toArray, List.set_cons_zero, List.set_cons_succ]
            refine wpAnyH_ready (rs := [14]) (by kernel_rfl) (by simp) ?_
            refine AllReadyH.cons rfl (fun K hK => ?_) AllReadyH.nil
            go_simp
            refine hK.out _ _ ⟨_, heap_setCell_same _ _ 6 _ _ _ HR9.out⟩ (fun _ => ?_)
            clear hK K
            refine wpAnyH_done (by kernel_rfl) ?_ _
            obtain ⟨WBa, hWBa⟩ : ∃ W, W = w9.setCell ⟨PB, 6, none⟩ (.slice (some ⟨g9, 0, none⟩) ((b).length + 1) cap9) := ⟨_, rfl⟩
            have HPan : Hid (ParIs WBa PB sp hy m ((b) ++ [It.spc sp])) := Lib.hid (by
              rw [hWBa]
              refine ⟨_, heap_setCell_same _ _ 6 _ _ _ HR9.out, OwnR.set9 ?_ (Nat.lt_succ_self _)⟩
              unfold OwnR
              have e1 : ((b) ++ [It.spc sp]).length = (b).length + 1 := by simp
              have e2 : ((b) ++ [It.spc sp]).flatMap itC = (b).flatMap itC ++ [.int .i64 1, .int .i64 sp.w, .int .i64 sp.st, .int .i64 sp.sk, .int .i64 sp.o, .int .i64 0, .bool false, .int .i64 0, .int .i64 0] := by simp [itC, It.box, It.pen, It.spc, List.append_assoc]
              rw [e1, e2]
              exact HO9.out)
            have HBan : Hid (Below PB w WBa) := Lib.hid (by
              rw [hWBa]
              exact (below_app (HB.out.trans (HBaa.out.mono (Nat.le_of_lt HP.out.lt))) HG9.out (ownsRow_base HOwa.out (Nat.le_succ _)) (Nat.le_of_succ_le hb3a)).setCell (p := ⟨PB, 6, none⟩) (Nat.le_refl _) _)
            rw [← hWBa]
            clear hWBa HR9 r9 f9 HG9 HO9 r2a r3a HBaa HOwa HH3a q0a hb3a HW3a HnPa Hlena S3a hHeld hlt9
            have HBW := Lib.hid (HB0.out.trans (HBan.out.mono HS0.out))
            have HCP := Lib.hid (addParts_any PB sp hy m (b ++ [It.spc sp]) vp pl WBa HPan.out (fun w' hb => HPt.out.mono (HBW.out.trans (hb.mono HS0.out))) (by simp; have := HNl.out; omega))
            go_wp2_with fail
            refine HCP.out.mono ?_
            rintro e w5 ⟨rfl, b5, hp5, hb5, hg5, hl5⟩
            have HB5 := Lib.hid (HBan.out.trans hb5)
            obtain ⟨v5, hv5, ho5⟩ := hp5
            have HV5 := Lib.hid hv5
            have HO5 := Lib.hid ho5
            have HG5 := Lib.hid hg5
            have HL5 := Lib.hid hl5
            have c5 := Lib.cell_of_heap hv5 5
            have f5 := Lib.frozen_of_heap hv5 5
            have hwm := HWm.out
            have HP6 : Hid (ParIs (w5.setCell ⟨PB, 5, none⟩ (.int .i64 (m + 1))) PB sp hy (m + 1) b5) := Lib.hid ⟨_, heap_setCell_same _ _ 5 _ _ _ HV5.out, HO5.out.set9 (Nat.lt_succ_self _)⟩
            have HB6 := Lib.hid (HB5.out.setCell (p := ⟨PB, 5, none⟩) (Nat.le_refl _) (.int .i64 (m + 1)))
            clear hb5 hg5 hl5 hv5 ho5
            go_wp2
            go_roundw
            case rel => exact ⟨k + 1, b5, m + 1, by omega, by go_num, HP6, HB6, Lib.hid (winv_next HX.out hkp HI.out HNl.out HG5.out HL5.out)⟩
            case measure => simp [intOf]; omega
    · have HG := Lib.hid (winv_end (by rw [← Hn.out]; omega) (by rw [← Hn.out]; omega) HI.out)
      go_wp2
      go_end0
      exact ⟨rfl, b, m, HP.out, HB.out, HG.out.1, HG.out.2.1, by rw [Hn.out]; exact HG.out.2.2.1, HG.out.2.2.2.1, HG.out.2.2.2.2⟩
end Go.Proofs.Ytfgfplpbddapnaa
