/-
  The landed paragraph: what was made so far, in memory; tooLong, addEnd, addParts.
-/
import Derived.Test.YtfgfplpbddapnaaApp9
set_option linter.unusedVariables false
set_option linter.unusedSimpArgs false
namespace Go.Proofs.Ytfgfplpbddapnaa
open Go.RowKit

/-- the paragraph at PB: its space, its hyphen's width, the next word's number, the items so far -/
def ParIs (w : World) (PB : Nat) (sp : It.Gl) (hy n : Int) (l : List It.Itm) : Prop := ∃ v, w.heap[PB]? = some (.cells #[.int .i64 sp.w, .int .i64 sp.st, .int .i64 sp.sk, .int .i64 sp.o, .int .i64 hy, .int .i64 n, v] 52 (0, 0)) ∧ OwnX (PB + 1) v l w
theorem ParIs.lt {w : World} {PB : Nat} {sp : It.Gl} {hy n : Int} {l : List It.Itm} (h : ParIs w PB sp hy n l) : PB < w.heap.size := lt_of_obj h.choose_spec.1
theorem ParIs.mono {w w' : World} {PB : Nat} {sp : It.Gl} {hy n : Int} {l : List It.Itm} (h : ParIs w PB sp hy n l) (hb : Below w.heap.size w w') : ParIs w' PB sp hy n l := by
  obtain ⟨v, h1, h2⟩ := h
  exact ⟨v, obj_kept hb h1, h2.mono hb⟩
theorem ownsRow_base {w : World} {B B' : Nat} {e : TypeId} {size n : Nat} {v : Value} {xs : List Value} (h : w.ownsRow B e size v n xs) (hB : B' ≤ B) : w.ownsRow B' e size v n xs := by
  refine ⟨h.1, ?_⟩
  rcases h.2 with h2 | ⟨g, cap, cur, e, hg, rest⟩
  · exact .inl h2
  · exact .inr ⟨g, cap, cur, e, Nat.le_trans hB hg, rest⟩
/-- too long: what was made, and what should have been, both are -/
def Good (b t : List It.Itm) : Prop := b = t ∨ (2000 < b.length ∧ 2000 < t.length)

set_option maxHeartbeats 2000000 in
set_option maxRecDepth 100000 in
theorem tooLong_any (PB : Nat) (sp : It.Gl) (hy n : Int) (l : List It.Itm) (w : World) (h : ParIs w PB sp hy n l) : Calls Try.prog 16 #[.pointer (some ⟨PB, 0, none⟩)] w (Is (.bool (decide (2000 < l.length))) w) := by
  obtain ⟨v, h1, h2⟩ := h
  obtain ⟨⟨a, cp, rfl, _⟩, _, _⟩ := h2.at itC_len
  have c6 := Lib.cell_of_heap h1 6
  obtain ⟨q, hq⟩ : ∃ q, q = l.length := ⟨_, rfl⟩
  rw [← hq] at c6 ⊢
  clear h1 h2 hq
  by_cases hlt : 2000 < q
  · rw [decide_eq_true hlt]
    have g : (2000 : Int) < (q : Int) := by omega
    clear hlt
    go_enter Try.func16, Try.ntmps16
    go_wp2
    go_ret
    exact ⟨rfl, rfl⟩
  · rw [decide_eq_false hlt]
    have g : ¬ ((2000 : Int) < (q : Int)) := by omega
    clear hlt
    go_enter Try.func16, Try.ntmps16
    go_wp2
    go_ret
    exact ⟨rfl, rfl⟩

def endC : Array Value := #[.int .i64 2, .int .i64 0, .int .i64 0, .int .i64 0, .int .i64 0, .int .i64 10000, .bool false, .int .i64 0, .int .i64 0, .int .i64 1, .int .i64 0, .int .i64 65536, .int .i64 0, .int .i64 1, .int .i64 0, .bool false, .int .i64 0, .int .i64 0, .int .i64 2, .int .i64 0, .int .i64 0, .int .i64 0, .int .i64 0, .int .i64 (-10000), .bool false, .int .i64 0, .int .i64 0]
set_option maxHeartbeats 4000000 in
set_option maxRecDepth 100000 in
theorem addEnd_any (PB : Nat) (sp : It.Gl) (hy n : Int) (l : List It.Itm) (w : World) (h : ParIs w PB sp hy n l) (hlen : l.length ≤ 2100) : Calls Try.prog 18 #[.pointer (some ⟨PB, 0, none⟩)] w fun e w' => e = .returned (.tuple #[]) ∧ ParIs w' PB sp hy n (l ++ It.endI) ∧ Below PB w w' := by
  have hlt := h.lt
  obtain ⟨v, h1, h2⟩ := h
  have H1 := Lib.hid (obj_kept (below_alloc w (.cells endC 45)) h1)
  have H2 := Lib.hid (OwnR.mono h2 (below_alloc w (.cells endC 45)))
  have HS := Lib.hid (slc_new itC_len w w.heap.size rfl It.endI 45 (by decide) endC rfl)
  have HB := Lib.hid ((below_alloc w (.cells endC 45)).mono (Nat.le_of_lt hlt))
  have HN := Lib.hid (own_off9 H2.out H1.out (by decide))
  have hz : PB + 1 ≤ (w.alloc (.cells endC 45)).heap.size := by rw [World.size_alloc]; omega
  have HZ := Lib.hid hz
  have c6 := Lib.cell_of_heap h1 6
  have c6b := Lib.cell_of_heap H1.out 6
  have HL := Lib.hid hlen
  clear h1 h2 hlt hz hlen
  unfold endC at *
  go_enter Try.func18, Try.ntmps18
  go_wp2_with (at_builtin; refine wpList_append_slc Try.underlying30 infoIt rfl (by decide) itC_len itC_cell rfl _ _ rfl (PB + 1) v _ l It.endI rfl H2.out rfl HS.out (by have := HL.out; simp [It.endI]; omega) (by have := HL.out; unfold maxLen; simp [It.endI]; omega) HZ.out ?_; intro v9 w9 h9 hg9; obtain ⟨⟨p9, c9, rfl, _⟩, _, _⟩ := OwnR.at h9 itC_len; have HR9 := Lib.hid (obj_far H1.out hg9 HN.out); have HO9 := Lib.hid h9; have HB9 := Lib.hid (below_app HB.out hg9 (ownsRow_base H2.out (Nat.le_succ _)) (Nat.le_of_succ_le HZ.out)); have r9 := Lib.cell_of_heap HR9.out 6; have f9 := Lib.frozen_of_heap HR9.out 6; clear h9 hg9)
  go_end0
  exact ⟨rfl, ⟨_, heap_setCell_same _ _ 6 _ _ _ HR9.out, OwnR.set9 (by have h := HO9.out; rw [List.length_append] at h; exact h) (Nat.lt_succ_self _)⟩, HB9.out.setCell (p := ⟨PB, 6, none⟩) (Nat.le_refl _) _⟩

/-- a part's cells, laid -/
theorem part_new (w : World) (p : It.Pt) : (w.alloc (.cells #[.string p.s, .int .i64 p.w, .int .i64 p.h, .int .i64 p.d] 47)).heap[w.heap.size]? = some (.cells #[.string p.s, .int .i64 p.w, .int .i64 p.h, .int .i64 p.d] 47 (0, 0)) := obj_new w _ rfl _ _
set_option maxHeartbeats 16000000 in
set_option maxRecDepth 100000 in
theorem addParts_any (PB : Nat) (sp : It.Gl) (hy n : Int) (a : List It.Itm) (v : Value) (l : List It.Pt) (w : World) (h : ParIs w PB sp hy n a) (hl : ∀ w', Below PB w w' → PtsAt w' v l) (hlen : a.length ≤ 2010) :
    Calls Try.prog 27 #[.pointer (some ⟨PB, 0, none⟩), v] w fun e w' => e = .returned (.tuple #[]) ∧ ∃ b, ParIs w' PB sp hy n b ∧ Below PB w w' ∧ Good b (a ++ It.wordI hy n 0 l) ∧ b.length ≤ 2010 := by
  have HA := Lib.hid hl
  have HP0 := Lib.hid h
  have HL0 := Lib.hid hlen
  obtain ⟨⟨va, cp, rfl, hcap⟩, hm, _⟩ := hl w (Below.refl _ _)
  have hza : l.length ≤ 9223372036854775807 := by unfold maxLen at hm; omega
  obtain ⟨n0, hn⟩ : ∃ n, n = l.length := ⟨_, rfl⟩
  have Hn := Lib.hid hn
  rw [← hn] at hza ⊢
  obtain ⟨tgt, htg⟩ : ∃ t, t = a ++ It.wordI hy n 0 l := ⟨_, rfl⟩
  have HT : Hid (a ++ It.wordI hy n 0 (l.drop 0) = tgt) := Lib.hid htg.symm
  rw [← htg]
  clear hn hm hcap h hl hlen htg
  go_enter Try.func27, Try.ntmps27
  go_wp2_with fail
  go_loopw [8] (fun iv wr => ∃ (k : Nat) (b : List It.Itm), k ≤ n0 ∧ iv = .int .i64 k ∧ Hid (ParIs wr PB sp hy n b) ∧ Hid (Below PB w wr) ∧ Hid (b ++ It.wordI hy n k (l.drop k) = tgt) ∧ Hid (b.length ≤ 2010)) (fun iv _ => n0 - (intOf iv).toNat)
  case atStart => exact ⟨0, a, Nat.zero_le _, rfl, HP0, Lib.hid (Below.refl _ _), HT, HL0⟩
  case round =>
    obtain ⟨k, b, hk, rfl, HP, HB, HK, HLe0⟩ := hrel
    clear HP0 HT HL0
    by_cases hlt : k < n0
    · obtain ⟨b1, o1, d1, e1, r1⟩ := (HA.out wr HB.out).2.2 (by rw [← Hn.out]; omega)
      obtain ⟨rfl, rfl⟩ : va = some ⟨b1, o1, none⟩ ∧ cp = d1 := by injection e1 with a1 a2 a3; exact ⟨a1, a3⟩
      obtain ⟨p, hx⟩ : ∃ x, l[k]? = some x := ⟨_, List.getElem?_eq_getElem (by rw [← Hn.out]; exact hlt)⟩
      obtain ⟨y0, y1, y2, y3⟩ := pt_cells (r1 k p hx)
      have k0 : (0 : Int) ≤ (k : Int) := by omega
      have kl : (k : Int) < (n0 : Int) := by omega
      have HW := Lib.hid (It.word_at (hy := hy) (n := n) hx)
      obtain ⟨WA, hWA⟩ : ∃ W, W = wr.alloc (.cells #[.string p.s, .int .i64 p.w, .int .i64 p.h, .int .i64 p.d] 47) := ⟨_, rfl⟩
      have HPA := Lib.hid (HP.out.mono (below_alloc wr (.cells #[.string p.s, .int .i64 p.w, .int .i64 p.h, .int .i64 p.d] 47)))
      have HBA := Lib.hid (HB.out.trans ((below_alloc wr (.cells #[.string p.s, .int .i64 p.w, .int .i64 p.h, .int .i64 p.d] 47)).mono (Nat.le_of_lt HP.out.lt)))
      have HXA := Lib.hid (part_new wr p)
      rw [← hWA] at HPA HBA HXA
      have HTl := Lib.hid (tooLong_any PB sp hy n b WA HPA.out)
      obtain ⟨PX, hPX⟩ : ∃ PX, PX = wr.heap.size := ⟨_, rfl⟩
      clear r1 e1 hx
      by_cases hbl : 2000 < b.length
      · have HG : Hid (Good b tgt) := Lib.hid (.inr ⟨hbl, by rw [← HK.out, List.length_append]; omega⟩)
        rw [decide_eq_true hbl] at HTl
        clear hbl
        go_wp2_with fail
        rw [← hWA]
        clear hWA
        refine HTl.out.mono ?_
        rintro e w3 ⟨rfl, rfl⟩
        go_wp2
        refine bodyPost_ret (results_none rfl _ _ _) rfl ?_
        exact ⟨rfl, b, HPA.out, HBA.out, HG.out, HLe0.out⟩
      · rw [decide_eq_false hbl] at HTl
        have HLe : Hid (b.length ≤ 2000) := Lib.hid (by omega)
        clear hbl HLe0
        go_wp2_with fail
        rw [← hWA]
        refine HTl.out.mono ?_
        rintro e w3 ⟨rfl, rfl⟩
        clear hWA
        rw [← hPX] at HXA ⊢
        clear hPX y0 y1 y2 y3
        by_cases hk0 : k = 0
        · subst hk0
          have HN : Hid (b ++ It.box p.w n 0 :: It.wordI hy n (0 + 1) (l.drop (0 + 1)) = tgt) := Lib.hid (by rw [← HK.out, HW.out]; rfl)
          clear HK HW
          obtain ⟨i0, hi, hz0, hz1, hz2⟩ := info_parts infoIt
          obtain ⟨tvb, hhb, hob⟩ := HPA.out
          obtain ⟨W2b, hW2b⟩ : ∃ W, W = WA.drew := ⟨_, rfl⟩
          obtain ⟨W3b, hW3b⟩ : ∃ W, W = W2b.alloc (.cells #[.int .i64 0, .int .i64 p.w, .int .i64 0, .int .i64 0, .int .i64 0, .int .i64 0, .bool false, .int .i64 n, .int .i64 0] 45) := ⟨_, rfl⟩
          have hB2b : Below WA.heap.size WA W2b := by rw [hW2b]; exact below_drew9 _
          have hB3b : Below W2b.heap.size W2b W3b := by rw [hW3b]; exact below_alloc _ _
          have HBab := Lib.hid (below_step hB2b hB3b)
          have r2b : W2b.cell? ⟨PB, 6, none⟩ = some tvb := Lib.cell_of_heap (obj_kept hB2b hhb) 6
          have r3b : W3b.cell? ⟨PB, 6, none⟩ = some tvb := Lib.cell_of_heap (obj_kept HBab.out hhb) 6
          have hownb : World.ownsRow W3b (PB + 1) 45 9 tvb (b).length ((b).flatMap itC) := hob.mono HBab.out
          have HOwb := Lib.hid hownb
          have HH3b := Lib.hid (obj_kept HBab.out hhb)
          have q0b : ∀ j u, [.int .i64 0, .int .i64 p.w, .int .i64 0, .int .i64 0, .int .i64 0, .int .i64 0, .bool false, .int .i64 n, .int .i64 0][j]? = some u → W3b.cell? ((⟨W2b.heap.size, 0, none⟩ : Addr).add j) = some u := fun j u hj => by
            rw [add_none, Nat.zero_add, hW3b]
            exact cell_lay W2b _ _ j u (by simpa using hj)
          have hb3b : PB + 1 ≤ W3b.heap.size := by have := HBab.out.size; have := lt_of_obj hhb; omega
          have HW3b := Lib.hid hW3b
          have HnPb := Lib.hid (own_off9 HOwb.out HH3b.out (by decide))
          have Hlenb : Hid ((b).length ≤ 2100) := Lib.hid (by (try simp); have := HLe.out; omega)
          have HX3b := Lib.hid (obj_kept HBab.out HXA.out)
          have HnXb := Lib.hid (own_off9 HOwb.out HX3b.out (by decide))
          have HneXb : Hid (PX ≠ PB) := Lib.hid (fun e => by have h1 := HXA.out; rw [e, hhb] at h1; injection h1 with h1; injection h1 with _ h1 _; exact absurd h1 (by decide))
          have S3b : (fun w' : World => (∃ x, w'.heap[PB]? = some (.cells #[.int .i64 sp.w, .int .i64 sp.st, .int .i64 sp.sk, .int .i64 sp.o, .int .i64 hy, .int .i64 n, x] 52 (0, 0))) ∧ w'.heap[PX]? = some (.cells #[.string p.s, .int .i64 p.w, .int .i64 p.h, .int .i64 p.d] 47 (0, 0))) W2b → (fun w' : World => (∃ x, w'.heap[PB]? = some (.cells #[.int .i64 sp.w, .int .i64 sp.st, .int .i64 sp.sk, .int .i64 sp.o, .int .i64 hy, .int .i64 n, x] 52 (0, 0))) ∧ w'.heap[PX]? = some (.cells #[.string p.s, .int .i64 p.w, .int .i64 p.h, .int .i64 p.d] 47 (0, 0))) W3b := fun h => ⟨⟨_, obj_kept hB3b h.1.choose_spec⟩, obj_kept hB3b h.2⟩
          have S0b : (fun w' : World => (∃ x, w'.heap[PB]? = some (.cells #[.int .i64 sp.w, .int .i64 sp.st, .int .i64 sp.sk, .int .i64 sp.o, .int .i64 hy, .int .i64 n, x] 52 (0, 0))) ∧ w'.heap[PX]? = some (.cells #[.string p.s, .int .i64 p.w, .int .i64 p.h, .int .i64 p.d] 47 (0, 0))) WA.drew := ⟨⟨_, hhb⟩, HXA.out⟩
          clear hownb hB2b hB3b hW3b hhb hob
          go_upto_region 6 with fail
          refine wp_region_held_drew (S := fun w' : World => (∃ x, w'.heap[PB]? = some (.cells #[.int .i64 sp.w, .int .i64 sp.st, .int .i64 sp.sk, .int .i64 sp.o, .int .i64 hy, .int .i64 n, x] 52 (0, 0))) ∧ w'.heap[PX]? = some (.cells #[.string p.s, .int .i64 p.w, .int .i64 p.h, .int .i64 p.d] 47 (0, 0))) (by kernel_rfl) S0b (fun hHeld => ?_)
          rw [← hW2b] at hHeld ⊢
          clear hW2b S0b
          refine take_op (i := 0) (d := 32) (op := Op.move (Operand.tmp 0)) (ty := 61) (v := (.pointer (some ⟨PB, 0, none⟩))) (by kernel_rfl) (by kernel_rfl) (by kernel_rfl) (by kernel_rfl) (by kernel_rfl) (fun _ _ _ h => h) (fun wS hS => by clear hS; go_simp) hHeld ?_
          simp only [Act.put, List.setIfInBounds_toArray, List.set_cons_zero, List.set_cons_succ]
          refine take_op (i := 1) (d := 33) (op := Op.move (Operand.tmp 0)) (ty := 61) (v := (.pointer (some ⟨PB, 0, none⟩))) (by kernel_rfl) (by kernel_rfl) (by kernel_rfl) (by kernel_rfl) (by kernel_rfl) (fun _ _ _ h => h) (fun wS hS => by clear hS; go_simp) hHeld ?_
          simp only [Act.put, List.setIfInBounds_toArray, List.set_cons_zero, List.set_cons_succ]
          refine take_op (i := 2) (d := 34) (op := Op.nilCheck (Operand.tmp 33)) (ty := 0) (v := (.pointer (some ⟨PB, 0, none⟩))) (by kernel_rfl) (by kernel_rfl) (by kernel_rfl) (by kernel_rfl) (by kernel_rfl) (fun _ _ _ h => h) (fun wS hS => by clear hS; go_simp) hHeld ?_
          simp only [Act.put, List.setIfInBounds_toArray, List.set_cons_zero, List.set_cons_succ]
          refine take_op (i := 3) (d := 35) (op := Op.fieldAddr 52 (Operand.tmp 34) 3) (ty := 0) (v := (.pointer (some ⟨PB, 6, none⟩))) (by kernel_rfl) (by kernel_rfl) (by kernel_rfl) (by kernel_rfl) (by kernel_rfl) (fun _ _ _ h => h) (fun wS hS => by clear hS; go_simp) hHeld ?_
          simp only [Act.put, List.setIfInBounds_toArray, List.set_cons_zero, List.set_cons_succ]
          refine take_op (i := 5) (d := 37) (op := Op.fieldAddr 47 (Operand.tmp 5) 1) (ty := 0) (v := (.pointer (some ⟨PX, 1, none⟩))) (by kernel_rfl) (by kernel_rfl) (by kernel_rfl) (by kernel_rfl) (by kernel_rfl) (fun _ _ _ h => h) (fun wS hS => by clear hS; go_simp) hHeld ?_
          simp only [Act.put, List.setIfInBounds_toArray, List.set_cons_zero, List.set_cons_succ]
          refine take_op (i := 6) (d := 38) (op := Op.load 2 (Operand.tmp 37)) (ty := 2) (v := (.int .i64 p.w)) (by kernel_rfl) (by kernel_rfl) (by kernel_rfl) (by kernel_rfl) (by kernel_rfl) (fun _ _ _ h => h) (fun wS hS => by (try dsimp only at hS); obtain ⟨⟨xS, hS1⟩, hS2⟩ := hS; have ep := Lib.cell_of_heap hS2 1; have e0 := Lib.cell_of_heap hS1 0; have e1 := Lib.cell_of_heap hS1 1; have e2 := Lib.cell_of_heap hS1 2; have e3 := Lib.cell_of_heap hS1 3; have e4 := Lib.cell_of_heap hS1 4; have e5 := Lib.cell_of_heap hS1 5; clear hS1; go_simp) hHeld ?_
          simp only [Act.put, List.setIfInBounds_toArray, List.set_cons_zero, List.set_cons_succ]
          refine take_op (i := 7) (d := 39) (op := Op.build 23 #[(0, Operand.tmp 38)]) (ty := 23) (v := (.agg #[.int .i64 p.w, .int .i64 0, .int .i64 0, .int .i64 0])) (by kernel_rfl) (by kernel_rfl) (by kernel_rfl) (by kernel_rfl) (by kernel_rfl) (fun _ _ _ h => h) (fun wS hS => by clear hS; go_simp) hHeld ?_
          simp only [Act.put, List.setIfInBounds_toArray, List.set_cons_zero, List.set_cons_succ]
          refine take_op (i := 8) (d := 40) (op := Op.move (Operand.tmp 0)) (ty := 61) (v := (.pointer (some ⟨PB, 0, none⟩))) (by kernel_rfl) (by kernel_rfl) (by kernel_rfl) (by kernel_rfl) (by kernel_rfl) (fun _ _ _ h => h) (fun wS hS => by clear hS; go_simp) hHeld ?_
          simp only [Act.put, List.setIfInBounds_toArray, List.set_cons_zero, List.set_cons_succ]
          refine take_op (i := 9) (d := 41) (op := Op.nilCheck (Operand.tmp 40)) (ty := 0) (v := (.pointer (some ⟨PB, 0, none⟩))) (by kernel_rfl) (by kernel_rfl) (by kernel_rfl) (by kernel_rfl) (by kernel_rfl) (fun _ _ _ h => h) (fun wS hS => by clear hS; go_simp) hHeld ?_
          simp only [Act.put, List.setIfInBounds_toArray, List.set_cons_zero, List.set_cons_succ]
          refine take_op (i := 10) (d := 42) (op := Op.fieldAddr 52 (Operand.tmp 41) 2) (ty := 0) (v := (.pointer (some ⟨PB, 5, none⟩))) (by kernel_rfl) (by kernel_rfl) (by kernel_rfl) (by kernel_rfl) (by kernel_rfl) (fun _ _ _ h => h) (fun wS hS => by clear hS; go_simp) hHeld ?_
          simp only [Act.put, List.setIfInBounds_toArray, List.set_cons_zero, List.set_cons_succ]
          refine take_op (i := 11) (d := 43) (op := Op.load 3 (Operand.tmp 42)) (ty := 3) (v := (.int .i64 n)) (by kernel_rfl) (by kernel_rfl) (by kernel_rfl) (by kernel_rfl) (by kernel_rfl) (fun _ _ _ h => h) (fun wS hS => by (try dsimp only at hS); obtain ⟨⟨xS, hS1⟩, hS2⟩ := hS; have ep := Lib.cell_of_heap hS2 1; have e0 := Lib.cell_of_heap hS1 0; have e1 := Lib.cell_of_heap hS1 1; have e2 := Lib.cell_of_heap hS1 2; have e3 := Lib.cell_of_heap hS1 3; have e4 := Lib.cell_of_heap hS1 4; have e5 := Lib.cell_of_heap hS1 5; clear hS1; go_simp) hHeld ?_
          simp only [Act.put, List.setIfInBounds_toArray, List.set_cons_zero, List.set_cons_succ]
          refine take_op (i := 12) (d := 44) (op := Op.move (Operand.tmp 4)) (ty := 3) (v := (.int .i64 0)) (by kernel_rfl) (by kernel_rfl) (by kernel_rfl) (by kernel_rfl) (by kernel_rfl) (fun _ _ _ h => h) (fun wS hS => by clear hS; go_simp) hHeld ?_
          simp only [Act.put, List.setIfInBounds_toArray, List.set_cons_zero, List.set_cons_succ]
          refine take_op (i := 13) (d := 45) (op := Op.build 45 #[(0, Operand.const (Value.int IntKind.i64 0)), (1, Operand.tmp 39), (4, Operand.tmp 43), (5, Operand.tmp 44)]) (ty := 45) (v := (.agg #[.int .i64 0, .int .i64 p.w, .int .i64 0, .int .i64 0, .int .i64 0, .int .i64 0, .bool false, .int .i64 n, .int .i64 0])) (by kernel_rfl) (by kernel_rfl) (by kernel_rfl) (by kernel_rfl) (by kernel_rfl) (fun _ _ _ h => h) (fun wS hS => by clear hS; go_simp) hHeld ?_
          simp only [Act.put, List.setIfInBounds_toArray, List.set_cons_zero, List.set_cons_succ]
          refine wpAnyH_ready (rs := [4, 14]) (by kernel_rfl) (by simp) ?_
          refine AllReadyH.cons rfl (fun K hK => ?_) (AllReadyH.cons rfl (fun K hK => ?_) AllReadyH.nil)
          · go_simp
            refine hK.out _ _ hHeld (fun _ => ?_)
            clear hK K
            refine wpAnyH_ready (rs := [14]) (by kernel_rfl) (by simp) ?_
            refine AllReadyH.cons rfl (fun K hK => ?_) AllReadyH.nil
            go_simp
            rw [← HW3b.out]
            refine hK.out _ _ (S3b hHeld) (fun hHeld => ?_)
            clear hK K
            refine wpAnyH_ready (rs := [15]) (by kernel_rfl) (by simp) ?_
            refine AllReadyH.cons rfl (fun K hK => ?_) AllReadyH.nil
            refine step_append_lies _ (by rfl) _ _ _ (by rfl) (PB + 1) 45 i0 _ 9 72 Try.underlying30 hi hz0 hz1 hz2 rfl (by decide) tvb _ _ (by rfl) HOwb.out ⟨W2b.heap.size, 0, none⟩ 1 1 [.int .i64 0, .int .i64 p.w, .int .i64 0, .int .i64 0, .int .i64 0, .int .i64 0, .bool false, .int .i64 n, .int .i64 0] (by rfl) (by rfl) q0b (fun z hz => by simp at hz; rcases hz with rfl | rfl | rfl | rfl | rfl | rfl | rfl | rfl | rfl <;> rfl) (by omega) (by have := Hlenb.out; unfold maxLen; omega) (by have := Hlenb.out; omega) hb3b _ rfl ?_
            intro g9 cap9 w9 hown9 hgrow9 hat9 hlt9
            refine hK.out _ _ ⟨⟨_, obj_far hHeld.1.choose_spec hgrow9 HnPb.out⟩, obj_far hHeld.2 hgrow9 HnXb.out⟩ (fun hHeld => ?_)
            clear hK K
            simp only [Act.put, List.setIfInBounds_toArray, List.set_cons_zero, List.set_cons_succ]
            have hR9 := obj_far HH3b.out hgrow9 HnPb.out
            have HR9 := Lib.hid hR9
            have r9 := Lib.cell_of_heap hR9 6
            have f9 := Lib.frozen_of_heap hR9 6
            have HG9 := Lib.hid hgrow9
            have HO9 := Lib.hid hown9
            clear hR9 hgrow9 hown9 hat9
            refine take_op (i := 16) (d := 48) (op := Op.nilCheck (Operand.tmp 32)) (ty := 0) (v := (.pointer (some ⟨PB, 0, none⟩))) (by kernel_rfl) (by kernel_rfl) (by kernel_rfl) (by kernel_rfl) (by kernel_rfl) (fun _ _ _ h => h) (fun wS hS => by clear hS; go_simp) hHeld ?_
            simp only [Act.put, List.setIfInBounds_toArray, List.set_cons_zero, List.set_cons_succ]
            refine take_op (i := 17) (d := 49) (op := Op.fieldAddr 52 (Operand.tmp 48) 3) (ty := 0) (v := (.pointer (some ⟨PB, 6, none⟩))) (by kernel_rfl) (by kernel_rfl) (by kernel_rfl) (by kernel_rfl) (by kernel_rfl) (fun _ _ _ h => h) (fun wS hS => by clear hS; go_simp) hHeld ?_
            simp only [Act.put, List.setIfInBounds_toArray, List.set_cons_zero, List.set_cons_succ]
            refine wpAnyH_ready (rs := [18]) (by kernel_rfl) (by simp) ?_
            refine AllReadyH.cons rfl (fun K hK => ?_) AllReadyH.nil
            go_simp
            refine hK.out _ _ ⟨⟨_, heap_setCell_same _ _ 6 _ _ _ HR9.out⟩, obj_set hHeld.2 HneXb.out⟩ (fun _ => ?_)
            clear hK K
            refine wpAnyH_done (by kernel_rfl) ?_ _
            obtain ⟨WBb, hWBb⟩ : ∃ W, W = w9.setCell ⟨PB, 6, none⟩ (.slice (some ⟨g9, 0, none⟩) ((b).length + 1) cap9) := ⟨_, rfl⟩
            have HPbn : Hid (ParIs WBb PB sp hy n ((b) ++ [It.box p.w n 0])) := Lib.hid (by
              rw [hWBb]
              refine ⟨_, heap_setCell_same _ _ 6 _ _ _ HR9.out, OwnR.set9 ?_ (Nat.lt_succ_self _)⟩
              unfold OwnR
              have e1 : ((b) ++ [It.box p.w n 0]).length = (b).length + 1 := by simp
              have e2 : ((b) ++ [It.box p.w n 0]).flatMap itC = (b).flatMap itC ++ [.int .i64 0, .int .i64 p.w, .int .i64 0, .int .i64 0, .int .i64 0, .int .i64 0, .bool false, .int .i64 n, .int .i64 0] := by simp [itC, It.box, It.pen, It.spc, List.append_assoc]
              rw [e1, e2]
              exact HO9.out)
            have HBbn : Hid (Below PB w WBb) := Lib.hid (by
              rw [hWBb]
              exact (below_app (HBA.out.trans (HBab.out.mono (Nat.le_of_lt HPA.out.lt))) HG9.out (ownsRow_base HOwb.out (Nat.le_succ _)) (Nat.le_of_succ_le hb3b)).setCell (p := ⟨PB, 6, none⟩) (Nat.le_refl _) _)
            have HXbn : Hid (WBb.heap[PX]? = some (.cells #[.string p.s, .int .i64 p.w, .int .i64 p.h, .int .i64 p.d] 47 (0, 0))) := Lib.hid (by
              rw [hWBb]
              exact obj_set (obj_far HX3b.out HG9.out HnXb.out) HneXb.out)
            rw [← hWBb]
            clear hWBb HR9 r9 f9 HG9 HO9 r2b r3b HBab HOwb HH3b q0b hb3b HW3b HnPb Hlenb S3b hHeld hlt9 HX3b HnXb HneXb
            go_wp2
            go_roundw
            case rel => exact ⟨0 + 1, _, by omega, by go_num, HPbn, HBbn, Lib.hid (by have := HN.out; simp only [List.append_assoc, List.cons_append, List.nil_append] at this ⊢; exact this), Lib.hid (by simp; have := HLe.out; omega)⟩
            case measure => simp [intOf]; omega
          · go_simp
            rw [← HW3b.out]
            refine hK.out _ _ (S3b hHeld) (fun hHeld => ?_)
            clear hK K
            refine wpAnyH_ready (rs := [4]) (by kernel_rfl) (by simp) ?_
            refine AllReadyH.cons rfl (fun K hK => ?_) AllReadyH.nil
            go_simp
            refine hK.out _ _ hHeld (fun _ => ?_)
            clear hK K
            refine wpAnyH_ready (rs := [15]) (by kernel_rfl) (by simp) ?_
            refine AllReadyH.cons rfl (fun K hK => ?_) AllReadyH.nil
            refine step_append_lies _ (by rfl) _ _ _ (by rfl) (PB + 1) 45 i0 _ 9 72 Try.underlying30 hi hz0 hz1 hz2 rfl (by decide) tvb _ _ (by rfl) HOwb.out ⟨W2b.heap.size, 0, none⟩ 1 1 [.int .i64 0, .int .i64 p.w, .int .i64 0, .int .i64 0, .int .i64 0, .int .i64 0, .bool false, .int .i64 n, .int .i64 0] (by rfl) (by rfl) q0b (fun z hz => by simp at hz; rcases hz with rfl | rfl | rfl | rfl | rfl | rfl | rfl | rfl | rfl <;> rfl) (by omega) (by have := Hlenb.out; unfold maxLen; omega) (by have := Hlenb.out; omega) hb3b _ rfl ?_
            intro g9 cap9 w9 hown9 hgrow9 hat9 hlt9
            refine hK.out _ _ ⟨⟨_, obj_far hHeld.1.choose_spec hgrow9 HnPb.out⟩, obj_far hHeld.2 hgrow9 HnXb.out⟩ (fun hHeld => ?_)
            clear hK K
            simp only [Act.put, List.setIfInBounds_toArray, List.set_cons_zero, List.set_cons_succ]
            have hR9 := obj_far HH3b.out hgrow9 HnPb.out
            have HR9 := Lib.hid hR9
            have r9 := Lib.cell_of_heap hR9 6
            have f9 := Lib.frozen_of_heap hR9 6
            have HG9 := Lib.hid hgrow9
            have HO9 := Lib.hid hown9
            clear hR9 hgrow9 hown9 hat9
            refine take_op (i := 16) (d := 48) (op := Op.nilCheck (Operand.tmp 32)) (ty := 0) (v := (.pointer (some ⟨PB, 0, none⟩))) (by kernel_rfl) (by kernel_rfl) (by kernel_rfl) (by kernel_rfl) (by kernel_rfl) (fun _ _ _ h => h) (fun wS hS => by clear hS; go_simp) hHeld ?_
            simp only [Act.put, List.setIfInBounds_toArray, List.set_cons_zero, List.set_cons_succ]
            refine take_op (i := 17) (d := 49) (op := Op.fieldAddr 52 (Operand.tmp 48) 3) (ty := 0) (v := (.pointer (some ⟨PB, 6, none⟩))) (by kernel_rfl) (by kernel_rfl) (by kernel_rfl) (by kernel_rfl) (by kernel_rfl) (fun _ _ _ h => h) (fun wS hS => by clear hS; go_simp) hHeld ?_
            simp only [Act.put, List.setIfInBounds_toArray, List.set_cons_zero, List.set_cons_succ]
            refine wpAnyH_ready (rs := [18]) (by kernel_rfl) (by simp) ?_
            refine AllReadyH.cons rfl (fun K hK => ?_) AllReadyH.nil
            go_simp
            refine hK.out _ _ ⟨⟨_, heap_setCell_same _ _ 6 _ _ _ HR9.out⟩, obj_set hHeld.2 HneXb.out⟩ (fun _ => ?_)
            clear hK K
            refine wpAnyH_done (by kernel_rfl) ?_ _
            obtain ⟨WBb, hWBb⟩ : ∃ W, W = w9.setCell ⟨PB, 6, none⟩ (.slice (some ⟨g9, 0, none⟩) ((b).length + 1) cap9) := ⟨_, rfl⟩
            have HPbn : Hid (ParIs WBb PB sp hy n ((b) ++ [It.box p.w n 0])) := Lib.hid (by
              rw [hWBb]
              refine ⟨_, heap_setCell_same _ _ 6 _ _ _ HR9.out, OwnR.set9 ?_ (Nat.lt_succ_self _)⟩
              unfold OwnR
              have e1 : ((b) ++ [It.box p.w n 0]).length = (b).length + 1 := by simp
              have e2 : ((b) ++ [It.box p.w n 0]).flatMap itC = (b).flatMap itC ++ [.int .i64 0, .int .i64 p.w, .int .i64 0, .int .i64 0, .int .i64 0, .int .i64 0, .bool false, .int .i64 n, .int .i64 0] := by simp [itC, It.box, It.pen, It.spc, List.append_assoc]
              rw [e1, e2]
              exact HO9.out)
            have HBbn : Hid (Below PB w WBb) := Lib.hid (by
              rw [hWBb]
              exact (below_app (HBA.out.trans (HBab.out.mono (Nat.le_of_lt HPA.out.lt))) HG9.out (ownsRow_base HOwb.out (Nat.le_succ _)) (Nat.le_of_succ_le hb3b)).setCell (p := ⟨PB, 6, none⟩) (Nat.le_refl _) _)
            have HXbn : Hid (WBb.heap[PX]? = some (.cells #[.string p.s, .int .i64 p.w, .int .i64 p.h, .int .i64 p.d] 47 (0, 0))) := Lib.hid (by
              rw [hWBb]
              exact obj_set (obj_far HX3b.out HG9.out HnXb.out) HneXb.out)
            rw [← hWBb]
            clear hWBb HR9 r9 f9 HG9 HO9 r2b r3b HBab HOwb HH3b q0b hb3b HW3b HnPb Hlenb S3b hHeld hlt9 HX3b HnXb HneXb
            go_wp2
            go_roundw
            case rel => exact ⟨0 + 1, _, by omega, by go_num, HPbn, HBbn, Lib.hid (by have := HN.out; simp only [List.append_assoc, List.cons_append, List.nil_append] at this ⊢; exact this), Lib.hid (by simp; have := HLe.out; omega)⟩
            case measure => simp [intOf]; omega
        · have HN : Hid (b ++ (It.pen hy :: It.box p.w n (k : Int) :: It.wordI hy n (k + 1) (l.drop (k + 1))) = tgt) := Lib.hid (by rw [← HK.out, HW.out, if_pos (by omega)]; rfl)
          have kp : (0 : Int) < (k : Int) := by omega
          clear HK HW hk0
          obtain ⟨i0, hi, hz0, hz1, hz2⟩ := info_parts infoIt
          obtain ⟨tva, hha, hoa⟩ := HPA.out
          obtain ⟨W2a, hW2a⟩ : ∃ W, W = WA.drew := ⟨_, rfl⟩
          obtain ⟨W3a, hW3a⟩ : ∃ W, W = W2a.alloc (.cells #[.int .i64 2, .int .i64 hy, .int .i64 0, .int .i64 0, .int .i64 0, .int .i64 50, .bool true, .int .i64 0, .int .i64 0] 45) := ⟨_, rfl⟩
          have hB2a : Below WA.heap.size WA W2a := by rw [hW2a]; exact below_drew9 _
          have hB3a : Below W2a.heap.size W2a W3a := by rw [hW3a]; exact below_alloc _ _
          have HBaa := Lib.hid (below_step hB2a hB3a)
          have r2a : W2a.cell? ⟨PB, 6, none⟩ = some tva := Lib.cell_of_heap (obj_kept hB2a hha) 6
          have r3a : W3a.cell? ⟨PB, 6, none⟩ = some tva := Lib.cell_of_heap (obj_kept HBaa.out hha) 6
          have howna : World.ownsRow W3a (PB + 1) 45 9 tva (b).length ((b).flatMap itC) := hoa.mono HBaa.out
          have HOwa := Lib.hid howna
          have HH3a := Lib.hid (obj_kept HBaa.out hha)
          have q0a : ∀ j u, [.int .i64 2, .int .i64 hy, .int .i64 0, .int .i64 0, .int .i64 0, .int .i64 50, .bool true, .int .i64 0, .int .i64 0][j]? = some u → W3a.cell? ((⟨W2a.heap.size, 0, none⟩ : Addr).add j) = some u := fun j u hj => by
            rw [add_none, Nat.zero_add, hW3a]
            exact cell_lay W2a _ _ j u (by simpa using hj)
          have hb3a : PB + 1 ≤ W3a.heap.size := by have := HBaa.out.size; have := lt_of_obj hha; omega
          have HW3a := Lib.hid hW3a
          have HnPa := Lib.hid (own_off9 HOwa.out HH3a.out (by decide))
          have Hlena : Hid ((b).length ≤ 2100) := Lib.hid (by have := HLe.out; omega)
          have HX3a := Lib.hid (obj_kept HBaa.out HXA.out)
          have HnXa := Lib.hid (own_off9 HOwa.out HX3a.out (by decide))
          have HneXa : Hid (PX ≠ PB) := Lib.hid (fun e => by have h1 := HXA.out; rw [e, hha] at h1; injection h1 with h1; injection h1 with _ h1 _; exact absurd h1 (by decide))
          have S3a : (fun w' : World => (∃ x, w'.heap[PB]? = some (.cells #[.int .i64 sp.w, .int .i64 sp.st, .int .i64 sp.sk, .int .i64 sp.o, .int .i64 hy, .int .i64 n, x] 52 (0, 0))) ∧ w'.heap[PX]? = some (.cells #[.string p.s, .int .i64 p.w, .int .i64 p.h, .int .i64 p.d] 47 (0, 0))) W2a → (fun w' : World => (∃ x, w'.heap[PB]? = some (.cells #[.int .i64 sp.w, .int .i64 sp.st, .int .i64 sp.sk, .int .i64 sp.o, .int .i64 hy, .int .i64 n, x] 52 (0, 0))) ∧ w'.heap[PX]? = some (.cells #[.string p.s, .int .i64 p.w, .int .i64 p.h, .int .i64 p.d] 47 (0, 0))) W3a := fun h => ⟨⟨_, obj_kept hB3a h.1.choose_spec⟩, obj_kept hB3a h.2⟩
          have S0a : (fun w' : World => (∃ x, w'.heap[PB]? = some (.cells #[.int .i64 sp.w, .int .i64 sp.st, .int .i64 sp.sk, .int .i64 sp.o, .int .i64 hy, .int .i64 n, x] 52 (0, 0))) ∧ w'.heap[PX]? = some (.cells #[.string p.s, .int .i64 p.w, .int .i64 p.h, .int .i64 p.d] 47 (0, 0))) WA.drew := ⟨⟨_, hha⟩, HXA.out⟩
          clear howna hB2a hB3a hW3a hha hoa
          go_upto_region 5 with fail
          refine wp_region_held_drew (S := fun w' : World => (∃ x, w'.heap[PB]? = some (.cells #[.int .i64 sp.w, .int .i64 sp.st, .int .i64 sp.sk, .int .i64 sp.o, .int .i64 hy, .int .i64 n, x] 52 (0, 0))) ∧ w'.heap[PX]? = some (.cells #[.string p.s, .int .i64 p.w, .int .i64 p.h, .int .i64 p.d] 47 (0, 0))) (by kernel_rfl) S0a (fun hHeld => ?_)
          rw [← hW2a] at hHeld ⊢
          clear hW2a S0a
          refine take_op (i := 0) (d := 17) (op := Op.move (Operand.tmp 0)) (ty := 61) (v := (.pointer (some ⟨PB, 0, none⟩))) (by kernel_rfl) (by kernel_rfl) (by kernel_rfl) (by kernel_rfl) (by kernel_rfl) (fun _ _ _ h => h) (fun wS hS => by clear hS; go_simp) hHeld ?_
          simp only [Act.put, List.setIfInBounds_toArray, List.set_cons_zero, List.set_cons_succ]
          refine take_op (i := 1) (d := 18) (op := Op.move (Operand.tmp 0)) (ty := 61) (v := (.pointer (some ⟨PB, 0, none⟩))) (by kernel_rfl) (by kernel_rfl) (by kernel_rfl) (by kernel_rfl) (by kernel_rfl) (fun _ _ _ h => h) (fun wS hS => by clear hS; go_simp) hHeld ?_
          simp only [Act.put, List.setIfInBounds_toArray, List.set_cons_zero, List.set_cons_succ]
          refine take_op (i := 2) (d := 19) (op := Op.nilCheck (Operand.tmp 18)) (ty := 0) (v := (.pointer (some ⟨PB, 0, none⟩))) (by kernel_rfl) (by kernel_rfl) (by kernel_rfl) (by kernel_rfl) (by kernel_rfl) (fun _ _ _ h => h) (fun wS hS => by clear hS; go_simp) hHeld ?_
          simp only [Act.put, List.setIfInBounds_toArray, List.set_cons_zero, List.set_cons_succ]
          refine take_op (i := 3) (d := 20) (op := Op.fieldAddr 52 (Operand.tmp 19) 3) (ty := 0) (v := (.pointer (some ⟨PB, 6, none⟩))) (by kernel_rfl) (by kernel_rfl) (by kernel_rfl) (by kernel_rfl) (by kernel_rfl) (fun _ _ _ h => h) (fun wS hS => by clear hS; go_simp) hHeld ?_
          simp only [Act.put, List.setIfInBounds_toArray, List.set_cons_zero, List.set_cons_succ]
          refine take_op (i := 5) (d := 22) (op := Op.move (Operand.tmp 0)) (ty := 61) (v := (.pointer (some ⟨PB, 0, none⟩))) (by kernel_rfl) (by kernel_rfl) (by kernel_rfl) (by kernel_rfl) (by kernel_rfl) (fun _ _ _ h => h) (fun wS hS => by clear hS; go_simp) hHeld ?_
          simp only [Act.put, List.setIfInBounds_toArray, List.set_cons_zero, List.set_cons_succ]
          refine take_op (i := 6) (d := 23) (op := Op.nilCheck (Operand.tmp 22)) (ty := 0) (v := (.pointer (some ⟨PB, 0, none⟩))) (by kernel_rfl) (by kernel_rfl) (by kernel_rfl) (by kernel_rfl) (by kernel_rfl) (fun _ _ _ h => h) (fun wS hS => by clear hS; go_simp) hHeld ?_
          simp only [Act.put, List.setIfInBounds_toArray, List.set_cons_zero, List.set_cons_succ]
          refine take_op (i := 7) (d := 24) (op := Op.fieldAddr 52 (Operand.tmp 23) 1) (ty := 0) (v := (.pointer (some ⟨PB, 4, none⟩))) (by kernel_rfl) (by kernel_rfl) (by kernel_rfl) (by kernel_rfl) (by kernel_rfl) (fun _ _ _ h => h) (fun wS hS => by clear hS; go_simp) hHeld ?_
          simp only [Act.put, List.setIfInBounds_toArray, List.set_cons_zero, List.set_cons_succ]
          refine take_op (i := 8) (d := 25) (op := Op.load 2 (Operand.tmp 24)) (ty := 2) (v := (.int .i64 hy)) (by kernel_rfl) (by kernel_rfl) (by kernel_rfl) (by kernel_rfl) (by kernel_rfl) (fun _ _ _ h => h) (fun wS hS => by (try dsimp only at hS); obtain ⟨⟨xS, hS1⟩, hS2⟩ := hS; have ep := Lib.cell_of_heap hS2 1; have e0 := Lib.cell_of_heap hS1 0; have e1 := Lib.cell_of_heap hS1 1; have e2 := Lib.cell_of_heap hS1 2; have e3 := Lib.cell_of_heap hS1 3; have e4 := Lib.cell_of_heap hS1 4; have e5 := Lib.cell_of_heap hS1 5; clear hS1; go_simp) hHeld ?_
          simp only [Act.put, List.setIfInBounds_toArray, List.set_cons_zero, List.set_cons_succ]
          refine take_op (i := 9) (d := 26) (op := Op.build 23 #[(0, Operand.tmp 25)]) (ty := 23) (v := (.agg #[.int .i64 hy, .int .i64 0, .int .i64 0, .int .i64 0])) (by kernel_rfl) (by kernel_rfl) (by kernel_rfl) (by kernel_rfl) (by kernel_rfl) (fun _ _ _ h => h) (fun wS hS => by clear hS; go_simp) hHeld ?_
          simp only [Act.put, List.setIfInBounds_toArray, List.set_cons_zero, List.set_cons_succ]
          refine take_op (i := 10) (d := 27) (op := Op.build 45 #[(0, Operand.const (Value.int IntKind.i64 2)), (1, Operand.tmp 26), (2, Operand.const (Value.int IntKind.i64 50)), (3, Operand.const (Value.bool true))]) (ty := 45) (v := (.agg #[.int .i64 2, .int .i64 hy, .int .i64 0, .int .i64 0, .int .i64 0, .int .i64 50, .bool true, .int .i64 0, .int .i64 0])) (by kernel_rfl) (by kernel_rfl) (by kernel_rfl) (by kernel_rfl) (by kernel_rfl) (fun _ _ _ h => h) (fun wS hS => by clear hS; go_simp) hHeld ?_
          simp only [Act.put, List.setIfInBounds_toArray, List.set_cons_zero, List.set_cons_succ]
          refine wpAnyH_ready (rs := [4, 11]) (by kernel_rfl) (by simp) ?_
          refine AllReadyH.cons rfl (fun K hK => ?_) (AllReadyH.cons rfl (fun K hK => ?_) AllReadyH.nil)
          · go_simp
            refine hK.out _ _ hHeld (fun _ => ?_)
            clear hK K
            refine wpAnyH_ready (rs := [11]) (by kernel_rfl) (by simp) ?_
            refine AllReadyH.cons rfl (fun K hK => ?_) AllReadyH.nil
            go_simp
            rw [← HW3a.out]
            refine hK.out _ _ (S3a hHeld) (fun hHeld => ?_)
            clear hK K
            refine wpAnyH_ready (rs := [12]) (by kernel_rfl) (by simp) ?_
            refine AllReadyH.cons rfl (fun K hK => ?_) AllReadyH.nil
            refine step_append_lies _ (by rfl) _ _ _ (by rfl) (PB + 1) 45 i0 _ 9 72 Try.underlying30 hi hz0 hz1 hz2 rfl (by decide) tva _ _ (by rfl) HOwa.out ⟨W2a.heap.size, 0, none⟩ 1 1 [.int .i64 2, .int .i64 hy, .int .i64 0, .int .i64 0, .int .i64 0, .int .i64 50, .bool true, .int .i64 0, .int .i64 0] (by rfl) (by rfl) q0a (fun z hz => by simp at hz; rcases hz with rfl | rfl | rfl | rfl | rfl | rfl | rfl | rfl | rfl <;> rfl) (by omega) (by have := Hlena.out; unfold maxLen; omega) (by have := Hlena.out; omega) hb3a _ rfl ?_
            intro g9 cap9 w9 hown9 hgrow9 hat9 hlt9
            refine hK.out _ _ ⟨⟨_, obj_far hHeld.1.choose_spec hgrow9 HnPa.out⟩, obj_far hHeld.2 hgrow9 HnXa.out⟩ (fun hHeld => ?_)
            clear hK K
            simp only [Act.put, List.setIfInBounds_toArray, List.set_cons_zero, List.set_cons_succ]
            have hR9 := obj_far HH3a.out hgrow9 HnPa.out
            have HR9 := Lib.hid hR9
            have r9 := Lib.cell_of_heap hR9 6
            have f9 := Lib.frozen_of_heap hR9 6
            have HG9 := Lib.hid hgrow9
            have HO9 := Lib.hid hown9
            clear hR9 hgrow9 hown9 hat9
            refine take_op (i := 13) (d := 30) (op := Op.nilCheck (Operand.tmp 17)) (ty := 0) (v := (.pointer (some ⟨PB, 0, none⟩))) (by kernel_rfl) (by kernel_rfl) (by kernel_rfl) (by kernel_rfl) (by kernel_rfl) (fun _ _ _ h => h) (fun wS hS => by clear hS; go_simp) hHeld ?_
            simp only [Act.put, List.setIfInBounds_toArray, List.set_cons_zero, List.set_cons_succ]
            refine take_op (i := 14) (d := 31) (op := Op.fieldAddr 52 (Operand.tmp 30) 3) (ty := 0) (v := (.pointer (some ⟨PB, 6, none⟩))) (by kernel_rfl) (by kernel_rfl) (by kernel_rfl) (by kernel_rfl) (by kernel_rfl) (fun _ _ _ h => h) (fun wS hS => by clear hS; go_simp) hHeld ?_
            simp only [Act.put, List.setIfInBounds_toArray, List.set_cons_zero, List.set_cons_succ]
            refine wpAnyH_ready (rs := [15]) (by kernel_rfl) (by simp) ?_
            refine AllReadyH.cons rfl (fun K hK => ?_) AllReadyH.nil
            go_simp
            refine hK.out _ _ ⟨⟨_, heap_setCell_same _ _ 6 _ _ _ HR9.out⟩, obj_set hHeld.2 HneXa.out⟩ (fun _ => ?_)
            clear hK K
            refine wpAnyH_done (by kernel_rfl) ?_ _
            obtain ⟨WBa, hWBa⟩ : ∃ W, W = w9.setCell ⟨PB, 6, none⟩ (.slice (some ⟨g9, 0, none⟩) ((b).length + 1) cap9) := ⟨_, rfl⟩
            have HPan : Hid (ParIs WBa PB sp hy n ((b) ++ [It.pen hy])) := Lib.hid (by
              rw [hWBa]
              refine ⟨_, heap_setCell_same _ _ 6 _ _ _ HR9.out, OwnR.set9 ?_ (Nat.lt_succ_self _)⟩
              unfold OwnR
              have e1 : ((b) ++ [It.pen hy]).length = (b).length + 1 := by simp
              have e2 : ((b) ++ [It.pen hy]).flatMap itC = (b).flatMap itC ++ [.int .i64 2, .int .i64 hy, .int .i64 0, .int .i64 0, .int .i64 0, .int .i64 50, .bool true, .int .i64 0, .int .i64 0] := by simp [itC, It.box, It.pen, It.spc, List.append_assoc]
              rw [e1, e2]
              exact HO9.out)
            have HBan : Hid (Below PB w WBa) := Lib.hid (by
              rw [hWBa]
              exact (below_app (HBA.out.trans (HBaa.out.mono (Nat.le_of_lt HPA.out.lt))) HG9.out (ownsRow_base HOwa.out (Nat.le_succ _)) (Nat.le_of_succ_le hb3a)).setCell (p := ⟨PB, 6, none⟩) (Nat.le_refl _) _)
            have HXan : Hid (WBa.heap[PX]? = some (.cells #[.string p.s, .int .i64 p.w, .int .i64 p.h, .int .i64 p.d] 47 (0, 0))) := Lib.hid (by
              rw [hWBa]
              exact obj_set (obj_far HX3a.out HG9.out HnXa.out) HneXa.out)
            rw [← hWBa]
            clear hWBa HR9 r9 f9 HG9 HO9 r2a r3a HBaa HOwa HH3a q0a hb3a HW3a HnPa Hlena S3a hHeld hlt9 HX3a HnXa HneXa
            obtain ⟨b2, hb2⟩ : ∃ b2, b2 = b ++ [It.pen hy] := ⟨_, rfl⟩
            rw [← hb2] at HPan
            have HLe2 : Hid (b2.length ≤ 2001) := Lib.hid (by have := HLe.out; rw [hb2]; simp; omega)
            have HN2 : Hid (b2 ++ (It.box p.w n (k : Int) :: It.wordI hy n (k + 1) (l.drop (k + 1))) = tgt) := Lib.hid (by rw [hb2, ← HN.out]; simp)
            clear hb2
            obtain ⟨i0, hi, hz0, hz1, hz2⟩ := info_parts infoIt
            obtain ⟨tvb, hhb, hob⟩ := HPan.out
            obtain ⟨W2b, hW2b⟩ : ∃ W, W = WBa.drew := ⟨_, rfl⟩
            obtain ⟨W3b, hW3b⟩ : ∃ W, W = W2b.alloc (.cells #[.int .i64 0, .int .i64 p.w, .int .i64 0, .int .i64 0, .int .i64 0, .int .i64 0, .bool false, .int .i64 n, .int .i64 (k : Int)] 45) := ⟨_, rfl⟩
            have hB2b : Below WBa.heap.size WBa W2b := by rw [hW2b]; exact below_drew9 _
            have hB3b : Below W2b.heap.size W2b W3b := by rw [hW3b]; exact below_alloc _ _
            have HBab := Lib.hid (below_step hB2b hB3b)
            have r2b : W2b.cell? ⟨PB, 6, none⟩ = some tvb := Lib.cell_of_heap (obj_kept hB2b hhb) 6
            have r3b : W3b.cell? ⟨PB, 6, none⟩ = some tvb := Lib.cell_of_heap (obj_kept HBab.out hhb) 6
            have hownb : World.ownsRow W3b (PB + 1) 45 9 tvb (b2).length ((b2).flatMap itC) := hob.mono HBab.out
            have HOwb := Lib.hid hownb
            have HH3b := Lib.hid (obj_kept HBab.out hhb)
            have q0b : ∀ j u, [.int .i64 0, .int .i64 p.w, .int .i64 0, .int .i64 0, .int .i64 0, .int .i64 0, .bool false, .int .i64 n, .int .i64 (k : Int)][j]? = some u → W3b.cell? ((⟨W2b.heap.size, 0, none⟩ : Addr).add j) = some u := fun j u hj => by
              rw [add_none, Nat.zero_add, hW3b]
              exact cell_lay W2b _ _ j u (by simpa using hj)
            have hb3b : PB + 1 ≤ W3b.heap.size := by have := HBab.out.size; have := lt_of_obj hhb; omega
            have HW3b := Lib.hid hW3b
            have HnPb := Lib.hid (own_off9 HOwb.out HH3b.out (by decide))
            have Hlenb : Hid ((b2).length ≤ 2100) := Lib.hid (by (try simp); have := HLe2.out; omega)
            have HX3b := Lib.hid (obj_kept HBab.out HXan.out)
            have HnXb := Lib.hid (own_off9 HOwb.out HX3b.out (by decide))
            have HneXb : Hid (PX ≠ PB) := Lib.hid (fun e => by have h1 := HXan.out; rw [e, hhb] at h1; injection h1 with h1; injection h1 with _ h1 _; exact absurd h1 (by decide))
            have S3b : (fun w' : World => (∃ x, w'.heap[PB]? = some (.cells #[.int .i64 sp.w, .int .i64 sp.st, .int .i64 sp.sk, .int .i64 sp.o, .int .i64 hy, .int .i64 n, x] 52 (0, 0))) ∧ w'.heap[PX]? = some (.cells #[.string p.s, .int .i64 p.w, .int .i64 p.h, .int .i64 p.d] 47 (0, 0))) W2b → (fun w' : World => (∃ x, w'.heap[PB]? = some (.cells #[.int .i64 sp.w, .int .i64 sp.st, .int .i64 sp.sk, .int .i64 sp.o, .int .i64 hy, .int .i64 n, x] 52 (0, 0))) ∧ w'.heap[PX]? = some (.cells #[.string p.s, .int .i64 p.w, .int .i64 p.h, .int .i64 p.d] 47 (0, 0))) W3b := fun h => ⟨⟨_, obj_kept hB3b h.1.choose_spec⟩, obj_kept hB3b h.2⟩
            have S0b : (fun w' : World => (∃ x, w'.heap[PB]? = some (.cells #[.int .i64 sp.w, .int .i64 sp.st, .int .i64 sp.sk, .int .i64 sp.o, .int .i64 hy, .int .i64 n, x] 52 (0, 0))) ∧ w'.heap[PX]? = some (.cells #[.string p.s, .int .i64 p.w, .int .i64 p.h, .int .i64 p.d] 47 (0, 0))) WBa.drew := ⟨⟨_, hhb⟩, HXan.out⟩
            clear hownb hB2b hB3b hW3b hhb hob
            go_upto_region 6 with fail
            refine wp_region_held_drew (S := fun w' : World => (∃ x, w'.heap[PB]? = some (.cells #[.int .i64 sp.w, .int .i64 sp.st, .int .i64 sp.sk, .int .i64 sp.o, .int .i64 hy, .int .i64 n, x] 52 (0, 0))) ∧ w'.heap[PX]? = some (.cells #[.string p.s, .int .i64 p.w, .int .i64 p.h, .int .i64 p.d] 47 (0, 0))) (by kernel_rfl) S0b (fun hHeld => ?_)
            rw [← hW2b] at hHeld ⊢
            clear hW2b S0b
            refine take_op (i := 0) (d := 32) (op := Op.move (Operand.tmp 0)) (ty := 61) (v := (.pointer (some ⟨PB, 0, none⟩))) (by kernel_rfl) (by kernel_rfl) (by kernel_rfl) (by kernel_rfl) (by kernel_rfl) (fun _ _ _ h => h) (fun wS hS => by clear hS; go_simp) hHeld ?_
            simp only [Act.put, List.setIfInBounds_toArray, List.set_cons_zero, List.set_cons_succ]
            refine take_op (i := 1) (d := 33) (op := Op.move (Operand.tmp 0)) (ty := 61) (v := (.pointer (some ⟨PB, 0, none⟩))) (by kernel_rfl) (by kernel_rfl) (by kernel_rfl) (by kernel_rfl) (by kernel_rfl) (fun _ _ _ h => h) (fun wS hS => by clear hS; go_simp) hHeld ?_
            simp only [Act.put, List.setIfInBounds_toArray, List.set_cons_zero, List.set_cons_succ]
            refine take_op (i := 2) (d := 34) (op := Op.nilCheck (Operand.tmp 33)) (ty := 0) (v := (.pointer (some ⟨PB, 0, none⟩))) (by kernel_rfl) (by kernel_rfl) (by kernel_rfl) (by kernel_rfl) (by kernel_rfl) (fun _ _ _ h => h) (fun wS hS => by clear hS; go_simp) hHeld ?_
            simp only [Act.put, List.setIfInBounds_toArray, List.set_cons_zero, List.set_cons_succ]
            refine take_op (i := 3) (d := 35) (op := Op.fieldAddr 52 (Operand.tmp 34) 3) (ty := 0) (v := (.pointer (some ⟨PB, 6, none⟩))) (by kernel_rfl) (by kernel_rfl) (by kernel_rfl) (by kernel_rfl) (by kernel_rfl) (fun _ _ _ h => h) (fun wS hS => by clear hS; go_simp) hHeld ?_
            simp only [Act.put, List.setIfInBounds_toArray, List.set_cons_zero, List.set_cons_succ]
            refine take_op (i := 5) (d := 37) (op := Op.fieldAddr 47 (Operand.tmp 5) 1) (ty := 0) (v := (.pointer (some ⟨PX, 1, none⟩))) (by kernel_rfl) (by kernel_rfl) (by kernel_rfl) (by kernel_rfl) (by kernel_rfl) (fun _ _ _ h => h) (fun wS hS => by clear hS; go_simp) hHeld ?_
            simp only [Act.put, List.setIfInBounds_toArray, List.set_cons_zero, List.set_cons_succ]
            refine take_op (i := 6) (d := 38) (op := Op.load 2 (Operand.tmp 37)) (ty := 2) (v := (.int .i64 p.w)) (by kernel_rfl) (by kernel_rfl) (by kernel_rfl) (by kernel_rfl) (by kernel_rfl) (fun _ _ _ h => h) (fun wS hS => by (try dsimp only at hS); obtain ⟨⟨xS, hS1⟩, hS2⟩ := hS; have ep := Lib.cell_of_heap hS2 1; have e0 := Lib.cell_of_heap hS1 0; have e1 := Lib.cell_of_heap hS1 1; have e2 := Lib.cell_of_heap hS1 2; have e3 := Lib.cell_of_heap hS1 3; have e4 := Lib.cell_of_heap hS1 4; have e5 := Lib.cell_of_heap hS1 5; clear hS1; go_simp) hHeld ?_
            simp only [Act.put, List.setIfInBounds_toArray, List.set_cons_zero, List.set_cons_succ]
            refine take_op (i := 7) (d := 39) (op := Op.build 23 #[(0, Operand.tmp 38)]) (ty := 23) (v := (.agg #[.int .i64 p.w, .int .i64 0, .int .i64 0, .int .i64 0])) (by kernel_rfl) (by kernel_rfl) (by kernel_rfl) (by kernel_rfl) (by kernel_rfl) (fun _ _ _ h => h) (fun wS hS => by clear hS; go_simp) hHeld ?_
            simp only [Act.put, List.setIfInBounds_toArray, List.set_cons_zero, List.set_cons_succ]
            refine take_op (i := 8) (d := 40) (op := Op.move (Operand.tmp 0)) (ty := 61) (v := (.pointer (some ⟨PB, 0, none⟩))) (by kernel_rfl) (by kernel_rfl) (by kernel_rfl) (by kernel_rfl) (by kernel_rfl) (fun _ _ _ h => h) (fun wS hS => by clear hS; go_simp) hHeld ?_
            simp only [Act.put, List.setIfInBounds_toArray, List.set_cons_zero, List.set_cons_succ]
            refine take_op (i := 9) (d := 41) (op := Op.nilCheck (Operand.tmp 40)) (ty := 0) (v := (.pointer (some ⟨PB, 0, none⟩))) (by kernel_rfl) (by kernel_rfl) (by kernel_rfl) (by kernel_rfl) (by kernel_rfl) (fun _ _ _ h => h) (fun wS hS => by clear hS; go_simp) hHeld ?_
            simp only [Act.put, List.setIfInBounds_toArray, List.set_cons_zero, List.set_cons_succ]
            refine take_op (i := 10) (d := 42) (op := Op.fieldAddr 52 (Operand.tmp 41) 2) (ty := 0) (v := (.pointer (some ⟨PB, 5, none⟩))) (by kernel_rfl) (by kernel_rfl) (by kernel_rfl) (by kernel_rfl) (by kernel_rfl) (fun _ _ _ h => h) (fun wS hS => by clear hS; go_simp) hHeld ?_
            simp only [Act.put, List.setIfInBounds_toArray, List.set_cons_zero, List.set_cons_succ]
            refine take_op (i := 11) (d := 43) (op := Op.load 3 (Operand.tmp 42)) (ty := 3) (v := (.int .i64 n)) (by kernel_rfl) (by kernel_rfl) (by kernel_rfl) (by kernel_rfl) (by kernel_rfl) (fun _ _ _ h => h) (fun wS hS => by (try dsimp only at hS); obtain ⟨⟨xS, hS1⟩, hS2⟩ := hS; have ep := Lib.cell_of_heap hS2 1; have e0 := Lib.cell_of_heap hS1 0; have e1 := Lib.cell_of_heap hS1 1; have e2 := Lib.cell_of_heap hS1 2; have e3 := Lib.cell_of_heap hS1 3; have e4 := Lib.cell_of_heap hS1 4; have e5 := Lib.cell_of_heap hS1 5; clear hS1; go_simp) hHeld ?_
            simp only [Act.put, List.setIfInBounds_toArray, List.set_cons_zero, List.set_cons_succ]
            refine take_op (i := 12) (d := 44) (op := Op.move (Operand.tmp 4)) (ty := 3) (v := (.int .i64 (k : Int))) (by kernel_rfl) (by kernel_rfl) (by kernel_rfl) (by kernel_rfl) (by kernel_rfl) (fun _ _ _ h => h) (fun wS hS => by clear hS; go_simp) hHeld ?_
            simp only [Act.put, List.setIfInBounds_toArray, List.set_cons_zero, List.set_cons_succ]
            refine take_op (i := 13) (d := 45) (op := Op.build 45 #[(0, Operand.const (Value.int IntKind.i64 0)), (1, Operand.tmp 39), (4, Operand.tmp 43), (5, Operand.tmp 44)]) (ty := 45) (v := (.agg #[.int .i64 0, .int .i64 p.w, .int .i64 0, .int .i64 0, .int .i64 0, .int .i64 0, .bool false, .int .i64 n, .int .i64 (k : Int)])) (by kernel_rfl) (by kernel_rfl) (by kernel_rfl) (by kernel_rfl) (by kernel_rfl) (fun _ _ _ h => h) (fun wS hS => by clear hS; go_simp) hHeld ?_
            simp only [Act.put, List.setIfInBounds_toArray, List.set_cons_zero, List.set_cons_succ]
            refine wpAnyH_ready (rs := [4, 14]) (by kernel_rfl) (by simp) ?_
            refine AllReadyH.cons rfl (fun K hK => ?_) (AllReadyH.cons rfl (fun K hK => ?_) AllReadyH.nil)
            · go_simp
              refine hK.out _ _ hHeld (fun _ => ?_)
              clear hK K
              refine wpAnyH_ready (rs := [14]) (by kernel_rfl) (by simp) ?_
              refine AllReadyH.cons rfl (fun K hK => ?_) AllReadyH.nil
              go_simp
              rw [← HW3b.out]
              refine hK.out _ _ (S3b hHeld) (fun hHeld => ?_)
              clear hK K
              refine wpAnyH_ready (rs := [15]) (by kernel_rfl) (by simp) ?_
              refine AllReadyH.cons rfl (fun K hK => ?_) AllReadyH.nil
              refine step_append_lies _ (by rfl) _ _ _ (by rfl) (PB + 1) 45 i0 _ 9 72 Try.underlying30 hi hz0 hz1 hz2 rfl (by decide) tvb _ _ (by rfl) HOwb.out ⟨W2b.heap.size, 0, none⟩ 1 1 [.int .i64 0, .int .i64 p.w, .int .i64 0, .int .i64 0, .int .i64 0, .int .i64 0, .bool false, .int .i64 n, .int .i64 (k : Int)] (by rfl) (by rfl) q0b (fun z hz => by simp at hz; rcases hz with rfl | rfl | rfl | rfl | rfl | rfl | rfl | rfl | rfl <;> rfl) (by omega) (by have := Hlenb.out; unfold maxLen; omega) (by have := Hlenb.out; omega) hb3b _ rfl ?_
              intro g9 cap9 w9 hown9 hgrow9 hat9 hlt9
              refine hK.out _ _ ⟨⟨_, obj_far hHeld.1.choose_spec hgrow9 HnPb.out⟩, obj_far hHeld.2 hgrow9 HnXb.out⟩ (fun hHeld => ?_)
              clear hK K
              simp only [Act.put, List.setIfInBounds_toArray, List.set_cons_zero, List.set_cons_succ]
              have hR9 := obj_far HH3b.out hgrow9 HnPb.out
              have HR9 := Lib.hid hR9
              have r9 := Lib.cell_of_heap hR9 6
              have f9 := Lib.frozen_of_heap hR9 6
              have HG9 := Lib.hid hgrow9
              have HO9 := Lib.hid hown9
              clear hR9 hgrow9 hown9 hat9
              refine take_op (i := 16) (d := 48) (op := Op.nilCheck (Operand.tmp 32)) (ty := 0) (v := (.pointer (some ⟨PB, 0, none⟩))) (by kernel_rfl) (by kernel_rfl) (by kernel_rfl) (by kernel_rfl) (by kernel_rfl) (fun _ _ _ h => h) (fun wS hS => by clear hS; go_simp) hHeld ?_
              simp only [Act.put, List.setIfInBounds_toArray, List.set_cons_zero, List.set_cons_succ]
              refine take_op (i := 17) (d := 49) (op := Op.fieldAddr 52 (Operand.tmp 48) 3) (ty := 0) (v := (.pointer (some ⟨PB, 6, none⟩))) (by kernel_rfl) (by kernel_rfl) (by kernel_rfl) (by kernel_rfl) (by kernel_rfl) (fun _ _ _ h => h) (fun wS hS => by clear hS; go_simp) hHeld ?_
              simp only [Act.put, List.setIfInBounds_toArray, List.set_cons_zero, List.set_cons_succ]
              refine wpAnyH_ready (rs := [18]) (by kernel_rfl) (by simp) ?_
              refine AllReadyH.cons rfl (fun K hK => ?_) AllReadyH.nil
              go_simp
              refine hK.out _ _ ⟨⟨_, heap_setCell_same _ _ 6 _ _ _ HR9.out⟩, obj_set hHeld.2 HneXb.out⟩ (fun _ => ?_)
              clear hK K
              refine wpAnyH_done (by kernel_rfl) ?_ _
              obtain ⟨WBb, hWBb⟩ : ∃ W, W = w9.setCell ⟨PB, 6, none⟩ (.slice (some ⟨g9, 0, none⟩) ((b2).length + 1) cap9) := ⟨_, rfl⟩
              have HPbn : Hid (ParIs WBb PB sp hy n ((b2) ++ [It.box p.w n (k : Int)])) := Lib.hid (by
                rw [hWBb]
                refine ⟨_, heap_setCell_same _ _ 6 _ _ _ HR9.out, OwnR.set9 ?_ (Nat.lt_succ_self _)⟩
                unfold OwnR
                have e1 : ((b2) ++ [It.box p.w n (k : Int)]).length = (b2).length + 1 := by simp
                have e2 : ((b2) ++ [It.box p.w n (k : Int)]).flatMap itC = (b2).flatMap itC ++ [.int .i64 0, .int .i64 p.w, .int .i64 0, .int .i64 0, .int .i64 0, .int .i64 0, .bool false, .int .i64 n, .int .i64 (k : Int)] := by simp [itC, It.box, It.pen, It.spc, List.append_assoc]
                rw [e1, e2]
                exact HO9.out)
              have HBbn : Hid (Below PB w WBb) := Lib.hid (by
                rw [hWBb]
                exact (below_app (HBan.out.trans (HBab.out.mono (Nat.le_of_lt HPan.out.lt))) HG9.out (ownsRow_base HOwb.out (Nat.le_succ _)) (Nat.le_of_succ_le hb3b)).setCell (p := ⟨PB, 6, none⟩) (Nat.le_refl _) _)
              have HXbn : Hid (WBb.heap[PX]? = some (.cells #[.string p.s, .int .i64 p.w, .int .i64 p.h, .int .i64 p.d] 47 (0, 0))) := Lib.hid (by
                rw [hWBb]
                exact obj_set (obj_far HX3b.out HG9.out HnXb.out) HneXb.out)
              rw [← hWBb]
              clear hWBb HR9 r9 f9 HG9 HO9 r2b r3b HBab HOwb HH3b q0b hb3b HW3b HnPb Hlenb S3b hHeld hlt9 HX3b HnXb HneXb
              go_wp2
              go_roundw
              case rel => exact ⟨k + 1, _, by omega, by go_num, HPbn, HBbn, Lib.hid (by have := HN2.out; simp only [List.append_assoc, List.cons_append, List.nil_append] at this ⊢; exact this), Lib.hid (by simp; have := HLe2.out; omega)⟩
              case measure => simp [intOf]; omega
            · go_simp
              rw [← HW3b.out]
              refine hK.out _ _ (S3b hHeld) (fun hHeld => ?_)
              clear hK K
              refine wpAnyH_ready (rs := [4]) (by kernel_rfl) (by simp) ?_
              refine AllReadyH.cons rfl (fun K hK => ?_) AllReadyH.nil
              go_simp
              refine hK.out _ _ hHeld (fun _ => ?_)
              clear hK K
              refine wpAnyH_ready (rs := [15]) (by kernel_rfl) (by simp) ?_
              refine AllReadyH.cons rfl (fun K hK => ?_) AllReadyH.nil
              refine step_append_lies _ (by rfl) _ _ _ (by rfl) (PB + 1) 45 i0 _ 9 72 Try.underlying30 hi hz0 hz1 hz2 rfl (by decide) tvb _ _ (by rfl) HOwb.out ⟨W2b.heap.size, 0, none⟩ 1 1 [.int .i64 0, .int .i64 p.w, .int .i64 0, .int .i64 0, .int .i64 0, .int .i64 0, .bool false, .int .i64 n, .int .i64 (k : Int)] (by rfl) (by rfl) q0b (fun z hz => by simp at hz; rcases hz with rfl | rfl | rfl | rfl | rfl | rfl | rfl | rfl | rfl <;> rfl) (by omega) (by have := Hlenb.out; unfold maxLen; omega) (by have := Hlenb.out; omega) hb3b _ rfl ?_
              intro g9 cap9 w9 hown9 hgrow9 hat9 hlt9
              refine hK.out _ _ ⟨⟨_, obj_far hHeld.1.choose_spec hgrow9 HnPb.out⟩, obj_far hHeld.2 hgrow9 HnXb.out⟩ (fun hHeld => ?_)
              clear hK K
              simp only [Act.put, List.setIfInBounds_toArray, List.set_cons_zero, List.set_cons_succ]
              have hR9 := obj_far HH3b.out hgrow9 HnPb.out
              have HR9 := Lib.hid hR9
              have r9 := Lib.cell_of_heap hR9 6
              have f9 := Lib.frozen_of_heap hR9 6
              have HG9 := Lib.hid hgrow9
              have HO9 := Lib.hid hown9
              clear hR9 hgrow9 hown9 hat9
              refine take_op (i := 16) (d := 48) (op := Op.nilCheck (Operand.tmp 32)) (ty := 0) (v := (.pointer (some ⟨PB, 0, none⟩))) (by kernel_rfl) (by kernel_rfl) (by kernel_rfl) (by kernel_rfl) (by kernel_rfl) (fun _ _ _ h => h) (fun wS hS => by clear hS; go_simp) hHeld ?_
              simp only [Act.put, List.setIfInBounds_toArray, List.set_cons_zero, List.set_cons_succ]
              refine take_op (i := 17) (d := 49) (op := Op.fieldAddr 52 (Operand.tmp 48) 3) (ty := 0) (v := (.pointer (some ⟨PB, 6, none⟩))) (by kernel_rfl) (by kernel_rfl) (by kernel_rfl) (by kernel_rfl) (by kernel_rfl) (fun _ _ _ h => h) (fun wS hS => by clear hS; go_simp) hHeld ?_
              simp only [Act.put, List.setIfInBounds_toArray, List.set_cons_zero, List.set_cons_succ]
              refine wpAnyH_ready (rs := [18]) (by kernel_rfl) (by simp) ?_
              refine AllReadyH.cons rfl (fun K hK => ?_) AllReadyH.nil
              go_simp
              refine hK.out _ _ ⟨⟨_, heap_setCell_same _ _ 6 _ _ _ HR9.out⟩, obj_set hHeld.2 HneXb.out⟩ (fun _ => ?_)
              clear hK K
              refine wpAnyH_done (by kernel_rfl) ?_ _
              obtain ⟨WBb, hWBb⟩ : ∃ W, W = w9.setCell ⟨PB, 6, none⟩ (.slice (some ⟨g9, 0, none⟩) ((b2).length + 1) cap9) := ⟨_, rfl⟩
              have HPbn : Hid (ParIs WBb PB sp hy n ((b2) ++ [It.box p.w n (k : Int)])) := Lib.hid (by
                rw [hWBb]
                refine ⟨_, heap_setCell_same _ _ 6 _ _ _ HR9.out, OwnR.set9 ?_ (Nat.lt_succ_self _)⟩
                unfold OwnR
                have e1 : ((b2) ++ [It.box p.w n (k : Int)]).length = (b2).length + 1 := by simp
                have e2 : ((b2) ++ [It.box p.w n (k : Int)]).flatMap itC = (b2).flatMap itC ++ [.int .i64 0, .int .i64 p.w, .int .i64 0, .int .i64 0, .int .i64 0, .int .i64 0, .bool false, .int .i64 n, .int .i64 (k : Int)] := by simp [itC, It.box, It.pen, It.spc, List.append_assoc]
                rw [e1, e2]
                exact HO9.out)
              have HBbn : Hid (Below PB w WBb) := Lib.hid (by
                rw [hWBb]
                exact (below_app (HBan.out.trans (HBab.out.mono (Nat.le_of_lt HPan.out.lt))) HG9.out (ownsRow_base HOwb.out (Nat.le_succ _)) (Nat.le_of_succ_le hb3b)).setCell (p := ⟨PB, 6, none⟩) (Nat.le_refl _) _)
              have HXbn : Hid (WBb.heap[PX]? = some (.cells #[.string p.s, .int .i64 p.w, .int .i64 p.h, .int .i64 p.d] 47 (0, 0))) := Lib.hid (by
                rw [hWBb]
                exact obj_set (obj_far HX3b.out HG9.out HnXb.out) HneXb.out)
              rw [← hWBb]
              clear hWBb HR9 r9 f9 HG9 HO9 r2b r3b HBab HOwb HH3b q0b hb3b HW3b HnPb Hlenb S3b hHeld hlt9 HX3b HnXb HneXb
              go_wp2
              go_roundw
              case rel => exact ⟨k + 1, _, by omega, by go_num, HPbn, HBbn, Lib.hid (by have := HN2.out; simp only [List.append_assoc, List.cons_append, List.nil_append] at this ⊢; exact this), Lib.hid (by simp; have := HLe2.out; omega)⟩
              case measure => simp [intOf]; omega
          · go_simp
            rw [← HW3a.out]
            refine hK.out _ _ (S3a hHeld) (fun hHeld => ?_)
            clear hK K
            refine wpAnyH_ready (rs := [4]) (by kernel_rfl) (by simp) ?_
            refine AllReadyH.cons rfl (fun K hK => ?_) AllReadyH.nil
            go_simp
            refine hK.out _ _ hHeld (fun _ => ?_)
            clear hK K
            refine wpAnyH_ready (rs := [12]) (by kernel_rfl) (by simp) ?_
            refine AllReadyH.cons rfl (fun K hK => ?_) AllReadyH.nil
            refine step_append_lies _ (by rfl) _ _ _ (by rfl) (PB + 1) 45 i0 _ 9 72 Try.underlying30 hi hz0 hz1 hz2 rfl (by decide) tva _ _ (by rfl) HOwa.out ⟨W2a.heap.size, 0, none⟩ 1 1 [.int .i64 2, .int .i64 hy, .int .i64 0, .int .i64 0, .int .i64 0, .int .i64 50, .bool true, .int .i64 0, .int .i64 0] (by rfl) (by rfl) q0a (fun z hz => by simp at hz; rcases hz with rfl | rfl | rfl | rfl | rfl | rfl | rfl | rfl | rfl <;> rfl) (by omega) (by have := Hlena.out; unfold maxLen; omega) (by have := Hlena.out; omega) hb3a _ rfl ?_
            intro g9 cap9 w9 hown9 hgrow9 hat9 hlt9
            refine hK.out _ _ ⟨⟨_, obj_far hHeld.1.choose_spec hgrow9 HnPa.out⟩, obj_far hHeld.2 hgrow9 HnXa.out⟩ (fun hHeld => ?_)
            clear hK K
            simp only [Act.put, List.setIfInBounds_toArray, List.set_cons_zero, List.set_cons_succ]
            have hR9 := obj_far HH3a.out hgrow9 HnPa.out
            have HR9 := Lib.hid hR9
            have r9 := Lib.cell_of_heap hR9 6
            have f9 := Lib.frozen_of_heap hR9 6
            have HG9 := Lib.hid hgrow9
            have HO9 := Lib.hid hown9
            clear hR9 hgrow9 hown9 hat9
            refine take_op (i := 13) (d := 30) (op := Op.nilCheck (Operand.tmp 17)) (ty := 0) (v := (.pointer (some ⟨PB, 0, none⟩))) (by kernel_rfl) (by kernel_rfl) (by kernel_rfl) (by kernel_rfl) (by kernel_rfl) (fun _ _ _ h => h) (fun wS hS => by clear hS; go_simp) hHeld ?_
            simp only [Act.put, List.setIfInBounds_toArray, List.set_cons_zero, List.set_cons_succ]
            refine take_op (i := 14) (d := 31) (op := Op.fieldAddr 52 (Operand.tmp 30) 3) (ty := 0) (v := (.pointer (some ⟨PB, 6, none⟩))) (by kernel_rfl) (by kernel_rfl) (by kernel_rfl) (by kernel_rfl) (by kernel_rfl) (fun _ _ _ h => h) (fun wS hS => by clear hS; go_simp) hHeld ?_
            simp only [Act.put, List.setIfInBounds_toArray, List.set_cons_zero, List.set_cons_succ]
            refine wpAnyH_ready (rs := [15]) (by kernel_rfl) (by simp) ?_
            refine AllReadyH.cons rfl (fun K hK => ?_) AllReadyH.nil
            go_simp
            refine hK.out _ _ ⟨⟨_, heap_setCell_same _ _ 6 _ _ _ HR9.out⟩, obj_set hHeld.2 HneXa.out⟩ (fun _ => ?_)
            clear hK K
            refine wpAnyH_done (by kernel_rfl) ?_ _
            obtain ⟨WBa, hWBa⟩ : ∃ W, W = w9.setCell ⟨PB, 6, none⟩ (.slice (some ⟨g9, 0, none⟩) ((b).length + 1) cap9) := ⟨_, rfl⟩
            have HPan : Hid (ParIs WBa PB sp hy n ((b) ++ [It.pen hy])) := Lib.hid (by
              rw [hWBa]
              refine ⟨_, heap_setCell_same _ _ 6 _ _ _ HR9.out, OwnR.set9 ?_ (Nat.lt_succ_self _)⟩
              unfold OwnR
              have e1 : ((b) ++ [It.pen hy]).length = (b).length + 1 := by simp
              have e2 : ((b) ++ [It.pen hy]).flatMap itC = (b).flatMap itC ++ [.int .i64 2, .int .i64 hy, .int .i64 0, .int .i64 0, .int .i64 0, .int .i64 50, .bool true, .int .i64 0, .int .i64 0] := by simp [itC, It.box, It.pen, It.spc, List.append_assoc]
              rw [e1, e2]
              exact HO9.out)
            have HBan : Hid (Below PB w WBa) := Lib.hid (by
              rw [hWBa]
              exact (below_app (HBA.out.trans (HBaa.out.mono (Nat.le_of_lt HPA.out.lt))) HG9.out (ownsRow_base HOwa.out (Nat.le_succ _)) (Nat.le_of_succ_le hb3a)).setCell (p := ⟨PB, 6, none⟩) (Nat.le_refl _) _)
            have HXan : Hid (WBa.heap[PX]? = some (.cells #[.string p.s, .int .i64 p.w, .int .i64 p.h, .int .i64 p.d] 47 (0, 0))) := Lib.hid (by
              rw [hWBa]
              exact obj_set (obj_far HX3a.out HG9.out HnXa.out) HneXa.out)
            rw [← hWBa]
            clear hWBa HR9 r9 f9 HG9 HO9 r2a r3a HBaa HOwa HH3a q0a hb3a HW3a HnPa Hlena S3a hHeld hlt9 HX3a HnXa HneXa
            obtain ⟨b2, hb2⟩ : ∃ b2, b2 = b ++ [It.pen hy] := ⟨_, rfl⟩
            rw [← hb2] at HPan
            have HLe2 : Hid (b2.length ≤ 2001) := Lib.hid (by have := HLe.out; rw [hb2]; simp; omega)
            have HN2 : Hid (b2 ++ (It.box p.w n (k : Int) :: It.wordI hy n (k + 1) (l.drop (k + 1))) = tgt) := Lib.hid (by rw [hb2, ← HN.out]; simp)
            clear hb2
            obtain ⟨i0, hi, hz0, hz1, hz2⟩ := info_parts infoIt
            obtain ⟨tvb, hhb, hob⟩ := HPan.out
            obtain ⟨W2b, hW2b⟩ : ∃ W, W = WBa.drew := ⟨_, rfl⟩
            obtain ⟨W3b, hW3b⟩ : ∃ W, W = W2b.alloc (.cells #[.int .i64 0, .int .i64 p.w, .int .i64 0, .int .i64 0, .int .i64 0, .int .i64 0, .bool false, .int .i64 n, .int .i64 (k : Int)] 45) := ⟨_, rfl⟩
            have hB2b : Below WBa.heap.size WBa W2b := by rw [hW2b]; exact below_drew9 _
            have hB3b : Below W2b.heap.size W2b W3b := by rw [hW3b]; exact below_alloc _ _
            have HBab := Lib.hid (below_step hB2b hB3b)
            have r2b : W2b.cell? ⟨PB, 6, none⟩ = some tvb := Lib.cell_of_heap (obj_kept hB2b hhb) 6
            have r3b : W3b.cell? ⟨PB, 6, none⟩ = some tvb := Lib.cell_of_heap (obj_kept HBab.out hhb) 6
            have hownb : World.ownsRow W3b (PB + 1) 45 9 tvb (b2).length ((b2).flatMap itC) := hob.mono HBab.out
            have HOwb := Lib.hid hownb
            have HH3b := Lib.hid (obj_kept HBab.out hhb)
            have q0b : ∀ j u, [.int .i64 0, .int .i64 p.w, .int .i64 0, .int .i64 0, .int .i64 0, .int .i64 0, .bool false, .int .i64 n, .int .i64 (k : Int)][j]? = some u → W3b.cell? ((⟨W2b.heap.size, 0, none⟩ : Addr).add j) = some u := fun j u hj => by
              rw [add_none, Nat.zero_add, hW3b]
              exact cell_lay W2b _ _ j u (by simpa using hj)
            have hb3b : PB + 1 ≤ W3b.heap.size := by have := HBab.out.size; have := lt_of_obj hhb; omega
            have HW3b := Lib.hid hW3b
            have HnPb := Lib.hid (own_off9 HOwb.out HH3b.out (by decide))
            have Hlenb : Hid ((b2).length ≤ 2100) := Lib.hid (by (try simp); have := HLe2.out; omega)
            have HX3b := Lib.hid (obj_kept HBab.out HXan.out)
            have HnXb := Lib.hid (own_off9 HOwb.out HX3b.out (by decide))
            have HneXb : Hid (PX ≠ PB) := Lib.hid (fun e => by have h1 := HXan.out; rw [e, hhb] at h1; injection h1 with h1; injection h1 with _ h1 _; exact absurd h1 (by decide))
            have S3b : (fun w' : World => (∃ x, w'.heap[PB]? = some (.cells #[.int .i64 sp.w, .int .i64 sp.st, .int .i64 sp.sk, .int .i64 sp.o, .int .i64 hy, .int .i64 n, x] 52 (0, 0))) ∧ w'.heap[PX]? = some (.cells #[.string p.s, .int .i64 p.w, .int .i64 p.h, .int .i64 p.d] 47 (0, 0))) W2b → (fun w' : World => (∃ x, w'.heap[PB]? = some (.cells #[.int .i64 sp.w, .int .i64 sp.st, .int .i64 sp.sk, .int .i64 sp.o, .int .i64 hy, .int .i64 n, x] 52 (0, 0))) ∧ w'.heap[PX]? = some (.cells #[.string p.s, .int .i64 p.w, .int .i64 p.h, .int .i64 p.d] 47 (0, 0))) W3b := fun h => ⟨⟨_, obj_kept hB3b h.1.choose_spec⟩, obj_kept hB3b h.2⟩
            have S0b : (fun w' : World => (∃ x, w'.heap[PB]? = some (.cells #[.int .i64 sp.w, .int .i64 sp.st, .int .i64 sp.sk, .int .i64 sp.o, .int .i64 hy, .int .i64 n, x] 52 (0, 0))) ∧ w'.heap[PX]? = some (.cells #[.string p.s, .int .i64 p.w, .int .i64 p.h, .int .i64 p.d] 47 (0, 0))) WBa.drew := ⟨⟨_, hhb⟩, HXan.out⟩
            clear hownb hB2b hB3b hW3b hhb hob
            go_upto_region 6 with fail
            refine wp_region_held_drew (S := fun w' : World => (∃ x, w'.heap[PB]? = some (.cells #[.int .i64 sp.w, .int .i64 sp.st, .int .i64 sp.sk, .int .i64 sp.o, .int .i64 hy, .int .i64 n, x] 52 (0, 0))) ∧ w'.heap[PX]? = some (.cells #[.string p.s, .int .i64 p.w, .int .i64 p.h, .int .i64 p.d] 47 (0, 0))) (by kernel_rfl) S0b (fun hHeld => ?_)
            rw [← hW2b] at hHeld ⊢
            clear hW2b S0b
            refine take_op (i := 0) (d := 32) (op := Op.move (Operand.tmp 0)) (ty := 61) (v := (.pointer (some ⟨PB, 0, none⟩))) (by kernel_rfl) (by kernel_rfl) (by kernel_rfl) (by kernel_rfl) (by kernel_rfl) (fun _ _ _ h => h) (fun wS hS => by clear hS; go_simp) hHeld ?_
            simp only [Act.put, List.setIfInBounds_toArray, List.set_cons_zero, List.set_cons_succ]
            refine take_op (i := 1) (d := 33) (op := Op.move (Operand.tmp 0)) (ty := 61) (v := (.pointer (some ⟨PB, 0, none⟩))) (by kernel_rfl) (by kernel_rfl) (by kernel_rfl) (by kernel_rfl) (by kernel_rfl) (fun _ _ _ h => h) (fun wS hS => by clear hS; go_simp) hHeld ?_
            simp only [Act.put, List.setIfInBounds_toArray, List.set_cons_zero, List.set_cons_succ]
            refine take_op (i := 2) (d := 34) (op := Op.nilCheck (Operand.tmp 33)) (ty := 0) (v := (.pointer (some ⟨PB, 0, none⟩))) (by kernel_rfl) (by kernel_rfl) (by kernel_rfl) (by kernel_rfl) (by kernel_rfl) (fun _ _ _ h => h) (fun wS hS => by clear hS; go_simp) hHeld ?_
            simp only [Act.put, List.setIfInBounds_toArray, List.set_cons_zero, List.set_cons_succ]
            refine take_op (i := 3) (d := 35) (op := Op.fieldAddr 52 (Operand.tmp 34) 3) (ty := 0) (v := (.pointer (some ⟨PB, 6, none⟩))) (by kernel_rfl) (by kernel_rfl) (by kernel_rfl) (by kernel_rfl) (by kernel_rfl) (fun _ _ _ h => h) (fun wS hS => by clear hS; go_simp) hHeld ?_
            simp only [Act.put, List.setIfInBounds_toArray, List.set_cons_zero, List.set_cons_succ]
            refine take_op (i := 5) (d := 37) (op := Op.fieldAddr 47 (Operand.tmp 5) 1) (ty := 0) (v := (.pointer (some ⟨PX, 1, none⟩))) (by kernel_rfl) (by kernel_rfl) (by kernel_rfl) (by kernel_rfl) (by kernel_rfl) (fun _ _ _ h => h) (fun wS hS => by clear hS; go_simp) hHeld ?_
            simp only [Act.put, List.setIfInBounds_toArray, List.set_cons_zero, List.set_cons_succ]
            refine take_op (i := 6) (d := 38) (op := Op.load 2 (Operand.tmp 37)) (ty := 2) (v := (.int .i64 p.w)) (by kernel_rfl) (by kernel_rfl) (by kernel_rfl) (by kernel_rfl) (by kernel_rfl) (fun _ _ _ h => h) (fun wS hS => by (try dsimp only at hS); obtain ⟨⟨xS, hS1⟩, hS2⟩ := hS; have ep := Lib.cell_of_heap hS2 1; have e0 := Lib.cell_of_heap hS1 0; have e1 := Lib.cell_of_heap hS1 1; have e2 := Lib.cell_of_heap hS1 2; have e3 := Lib.cell_of_heap hS1 3; have e4 := Lib.cell_of_heap hS1 4; have e5 := Lib.cell_of_heap hS1 5; clear hS1; go_simp) hHeld ?_
            simp only [Act.put, List.setIfInBounds_toArray, List.set_cons_zero, List.set_cons_succ]
            refine take_op (i := 7) (d := 39) (op := Op.build 23 #[(0, Operand.tmp 38)]) (ty := 23) (v := (.agg #[.int .i64 p.w, .int .i64 0, .int .i64 0, .int .i64 0])) (by kernel_rfl) (by kernel_rfl) (by kernel_rfl) (by kernel_rfl) (by kernel_rfl) (fun _ _ _ h => h) (fun wS hS => by clear hS; go_simp) hHeld ?_
            simp only [Act.put, List.setIfInBounds_toArray, List.set_cons_zero, List.set_cons_succ]
            refine take_op (i := 8) (d := 40) (op := Op.move (Operand.tmp 0)) (ty := 61) (v := (.pointer (some ⟨PB, 0, none⟩))) (by kernel_rfl) (by kernel_rfl) (by kernel_rfl) (by kernel_rfl) (by kernel_rfl) (fun _ _ _ h => h) (fun wS hS => by clear hS; go_simp) hHeld ?_
            simp only [Act.put, List.setIfInBounds_toArray, List.set_cons_zero, List.set_cons_succ]
            refine take_op (i := 9) (d := 41) (op := Op.nilCheck (Operand.tmp 40)) (ty := 0) (v := (.pointer (some ⟨PB, 0, none⟩))) (by kernel_rfl) (by kernel_rfl) (by kernel_rfl) (by kernel_rfl) (by kernel_rfl) (fun _ _ _ h => h) (fun wS hS => by clear hS; go_simp) hHeld ?_
            simp only [Act.put, List.setIfInBounds_toArray, List.set_cons_zero, List.set_cons_succ]
            refine take_op (i := 10) (d := 42) (op := Op.fieldAddr 52 (Operand.tmp 41) 2) (ty := 0) (v := (.pointer (some ⟨PB, 5, none⟩))) (by kernel_rfl) (by kernel_rfl) (by kernel_rfl) (by kernel_rfl) (by kernel_rfl) (fun _ _ _ h => h) (fun wS hS => by clear hS; go_simp) hHeld ?_
            simp only [Act.put, List.setIfInBounds_toArray, List.set_cons_zero, List.set_cons_succ]
            refine take_op (i := 11) (d := 43) (op := Op.load 3 (Operand.tmp 42)) (ty := 3) (v := (.int .i64 n)) (by kernel_rfl) (by kernel_rfl) (by kernel_rfl) (by kernel_rfl) (by kernel_rfl) (fun _ _ _ h => h) (fun wS hS => by (try dsimp only at hS); obtain ⟨⟨xS, hS1⟩, hS2⟩ := hS; have ep := Lib.cell_of_heap hS2 1; have e0 := Lib.cell_of_heap hS1 0; have e1 := Lib.cell_of_heap hS1 1; have e2 := Lib.cell_of_heap hS1 2; have e3 := Lib.cell_of_heap hS1 3; have e4 := Lib.cell_of_heap hS1 4; have e5 := Lib.cell_of_heap hS1 5; clear hS1; go_simp) hHeld ?_
            simp only [Act.put, List.setIfInBounds_toArray, List.set_cons_zero, List.set_cons_succ]
            refine take_op (i := 12) (d := 44) (op := Op.move (Operand.tmp 4)) (ty := 3) (v := (.int .i64 (k : Int))) (by kernel_rfl) (by kernel_rfl) (by kernel_rfl) (by kernel_rfl) (by kernel_rfl) (fun _ _ _ h => h) (fun wS hS => by clear hS; go_simp) hHeld ?_
            simp only [Act.put, List.setIfInBounds_toArray, List.set_cons_zero, List.set_cons_succ]
            refine take_op (i := 13) (d := 45) (op := Op.build 45 #[(0, Operand.const (Value.int IntKind.i64 0)), (1, Operand.tmp 39), (4, Operand.tmp 43), (5, Operand.tmp 44)]) (ty := 45) (v := (.agg #[.int .i64 0, .int .i64 p.w, .int .i64 0, .int .i64 0, .int .i64 0, .int .i64 0, .bool false, .int .i64 n, .int .i64 (k : Int)])) (by kernel_rfl) (by kernel_rfl) (by kernel_rfl) (by kernel_rfl) (by kernel_rfl) (fun _ _ _ h => h) (fun wS hS => by clear hS; go_simp) hHeld ?_
            simp only [Act.put, List.setIfInBounds_toArray, List.set_cons_zero, List.set_cons_succ]
            refine wpAnyH_ready (rs := [4, 14]) (by kernel_rfl) (by simp) ?_
            refine AllReadyH.cons rfl (fun K hK => ?_) (AllReadyH.cons rfl (fun K hK => ?_) AllReadyH.nil)
            · go_simp
              refine hK.out _ _ hHeld (fun _ => ?_)
              clear hK K
              refine wpAnyH_ready (rs := [14]) (by kernel_rfl) (by simp) ?_
              refine AllReadyH.cons rfl (fun K hK => ?_) AllReadyH.nil
              go_simp
              rw [← HW3b.out]
              refine hK.out _ _ (S3b hHeld) (fun hHeld => ?_)
              clear hK K
              refine wpAnyH_ready (rs := [15]) (by kernel_rfl) (by simp) ?_
              refine AllReadyH.cons rfl (fun K hK => ?_) AllReadyH.nil
              refine step_append_lies _ (by rfl) _ _ _ (by rfl) (PB + 1) 45 i0 _ 9 72 Try.underlying30 hi hz0 hz1 hz2 rfl (by decide) tvb _ _ (by rfl) HOwb.out ⟨W2b.heap.size, 0, none⟩ 1 1 [.int .i64 0, .int .i64 p.w, .int .i64 0, .int .i64 0, .int .i64 0, .int .i64 0, .bool false, .int .i64 n, .int .i64 (k : Int)] (by rfl) (by rfl) q0b (fun z hz => by simp at hz; rcases hz with rfl | rfl | rfl | rfl | rfl | rfl | rfl | rfl | rfl <;> rfl) (by omega) (by have := Hlenb.out; unfold maxLen; omega) (by have := Hlenb.out; omega) hb3b _ rfl ?_
              intro g9 cap9 w9 hown9 hgrow9 hat9 hlt9
              refine hK.out _ _ ⟨⟨_, obj_far hHeld.1.choose_spec hgrow9 HnPb.out⟩, obj_far hHeld.2 hgrow9 HnXb.out⟩ (fun hHeld => ?_)
              clear hK K
              simp only [Act.put, List.setIfInBounds_toArray, List.set_cons_zero, List.set_cons_succ]
              have hR9 := obj_far HH3b.out hgrow9 HnPb.out
              have HR9 := Lib.hid hR9
              have r9 := Lib.cell_of_heap hR9 6
              have f9 := Lib.frozen_of_heap hR9 6
              have HG9 := Lib.hid hgrow9
              have HO9 := Lib.hid hown9
              clear hR9 hgrow9 hown9 hat9
              refine take_op (i := 16) (d := 48) (op := Op.nilCheck (Operand.tmp 32)) (ty := 0) (v := (.pointer (some ⟨PB, 0, none⟩))) (by kernel_rfl) (by kernel_rfl) (by kernel_rfl) (by kernel_rfl) (by kernel_rfl) (fun _ _ _ h => h) (fun wS hS => by clear hS; go_simp) hHeld ?_
              simp only [Act.put, List.setIfInBounds_toArray, List.set_cons_zero, List.set_cons_succ]
              refine take_op (i := 17) (d := 49) (op := Op.fieldAddr 52 (Operand.tmp 48) 3) (ty := 0) (v := (.pointer (some ⟨PB, 6, none⟩))) (by kernel_rfl) (by kernel_rfl) (by kernel_rfl) (by kernel_rfl) (by kernel_rfl) (fun _ _ _ h => h) (fun wS hS => by clear hS; go_simp) hHeld ?_
              simp only [Act.put, List.setIfInBounds_toArray, List.set_cons_zero, List.set_cons_succ]
              refine wpAnyH_ready (rs := [18]) (by kernel_rfl) (by simp) ?_
              refine AllReadyH.cons rfl (fun K hK => ?_) AllReadyH.nil
              go_simp
              refine hK.out _ _ ⟨⟨_, heap_setCell_same _ _ 6 _ _ _ HR9.out⟩, obj_set hHeld.2 HneXb.out⟩ (fun _ => ?_)
              clear hK K
              refine wpAnyH_done (by kernel_rfl) ?_ _
              obtain ⟨WBb, hWBb⟩ : ∃ W, W = w9.setCell ⟨PB, 6, none⟩ (.slice (some ⟨g9, 0, none⟩) ((b2).length + 1) cap9) := ⟨_, rfl⟩
              have HPbn : Hid (ParIs WBb PB sp hy n ((b2) ++ [It.box p.w n (k : Int)])) := Lib.hid (by
                rw [hWBb]
                refine ⟨_, heap_setCell_same _ _ 6 _ _ _ HR9.out, OwnR.set9 ?_ (Nat.lt_succ_self _)⟩
                unfold OwnR
                have e1 : ((b2) ++ [It.box p.w n (k : Int)]).length = (b2).length + 1 := by simp
                have e2 : ((b2) ++ [It.box p.w n (k : Int)]).flatMap itC = (b2).flatMap itC ++ [.int .i64 0, .int .i64 p.w, .int .i64 0, .int .i64 0, .int .i64 0, .int .i64 0, .bool false, .int .i64 n, .int .i64 (k : Int)] := by simp [itC, It.box, It.pen, It.spc, List.append_assoc]
                rw [e1, e2]
                exact HO9.out)
              have HBbn : Hid (Below PB w WBb) := Lib.hid (by
                rw [hWBb]
                exact (below_app (HBan.out.trans (HBab.out.mono (Nat.le_of_lt HPan.out.lt))) HG9.out (ownsRow_base HOwb.out (Nat.le_succ _)) (Nat.le_of_succ_le hb3b)).setCell (p := ⟨PB, 6, none⟩) (Nat.le_refl _) _)
              have HXbn : Hid (WBb.heap[PX]? = some (.cells #[.string p.s, .int .i64 p.w, .int .i64 p.h, .int .i64 p.d] 47 (0, 0))) := Lib.hid (by
                rw [hWBb]
                exact obj_set (obj_far HX3b.out HG9.out HnXb.out) HneXb.out)
              rw [← hWBb]
              clear hWBb HR9 r9 f9 HG9 HO9 r2b r3b HBab HOwb HH3b q0b hb3b HW3b HnPb Hlenb S3b hHeld hlt9 HX3b HnXb HneXb
              go_wp2
              go_roundw
              case rel => exact ⟨k + 1, _, by omega, by go_num, HPbn, HBbn, Lib.hid (by have := HN2.out; simp only [List.append_assoc, List.cons_append, List.nil_append] at this ⊢; exact this), Lib.hid (by simp; have := HLe2.out; omega)⟩
              case measure => simp [intOf]; omega
            · go_simp
              rw [← HW3b.out]
              refine hK.out _ _ (S3b hHeld) (fun hHeld => ?_)
              clear hK K
              refine wpAnyH_ready (rs := [4]) (by kernel_rfl) (by simp) ?_
              refine AllReadyH.cons rfl (fun K hK => ?_) AllReadyH.nil
              go_simp
              refine hK.out _ _ hHeld (fun _ => ?_)
              clear hK K
              refine wpAnyH_ready (rs := [15]) (by kernel_rfl) (by simp) ?_
              refine AllReadyH.cons rfl (fun K hK => ?_) AllReadyH.nil
              refine step_append_lies _ (by rfl) _ _ _ (by rfl) (PB + 1) 45 i0 _ 9 72 Try.underlying30 hi hz0 hz1 hz2 rfl (by decide) tvb _ _ (by rfl) HOwb.out ⟨W2b.heap.size, 0, none⟩ 1 1 [.int .i64 0, .int .i64 p.w, .int .i64 0, .int .i64 0, .int .i64 0, .int .i64 0, .bool false, .int .i64 n, .int .i64 (k : Int)] (by rfl) (by rfl) q0b (fun z hz => by simp at hz; rcases hz with rfl | rfl | rfl | rfl | rfl | rfl | rfl | rfl | rfl <;> rfl) (by omega) (by have := Hlenb.out; unfold maxLen; omega) (by have := Hlenb.out; omega) hb3b _ rfl ?_
              intro g9 cap9 w9 hown9 hgrow9 hat9 hlt9
              refine hK.out _ _ ⟨⟨_, obj_far hHeld.1.choose_spec hgrow9 HnPb.out⟩, obj_far hHeld.2 hgrow9 HnXb.out⟩ (fun hHeld => ?_)
              clear hK K
              simp only [Act.put, List.setIfInBounds_toArray, List.set_cons_zero, List.set_cons_succ]
              have hR9 := obj_far HH3b.out hgrow9 HnPb.out
              have HR9 := Lib.hid hR9
              have r9 := Lib.cell_of_heap hR9 6
              have f9 := Lib.frozen_of_heap hR9 6
              have HG9 := Lib.hid hgrow9
              have HO9 := Lib.hid hown9
              clear hR9 hgrow9 hown9 hat9
              refine take_op (i := 16) (d := 48) (op := Op.nilCheck (Operand.tmp 32)) (ty := 0) (v := (.pointer (some ⟨PB, 0, none⟩))) (by kernel_rfl) (by kernel_rfl) (by kernel_rfl) (by kernel_rfl) (by kernel_rfl) (fun _ _ _ h => h) (fun wS hS => by clear hS; go_simp) hHeld ?_
              simp only [Act.put, List.setIfInBounds_toArray, List.set_cons_zero, List.set_cons_succ]
              refine take_op (i := 17) (d := 49) (op := Op.fieldAddr 52 (Operand.tmp 48) 3) (ty := 0) (v := (.pointer (some ⟨PB, 6, none⟩))) (by kernel_rfl) (by kernel_rfl) (by kernel_rfl) (by kernel_rfl) (by kernel_rfl) (fun _ _ _ h => h) (fun wS hS => by clear hS; go_simp) hHeld ?_
              simp only [Act.put, List.setIfInBounds_toArray, List.set_cons_zero, List.set_cons_succ]
              refine wpAnyH_ready (rs := [18]) (by kernel_rfl) (by simp) ?_
              refine AllReadyH.cons rfl (fun K hK => ?_) AllReadyH.nil
              go_simp
              refine hK.out _ _ ⟨⟨_, heap_setCell_same _ _ 6 _ _ _ HR9.out⟩, obj_set hHeld.2 HneXb.out⟩ (fun _ => ?_)
              clear hK K
              refine wpAnyH_done (by kernel_rfl) ?_ _
              obtain ⟨WBb, hWBb⟩ : ∃ W, W = w9.setCell ⟨PB, 6, none⟩ (.slice (some ⟨g9, 0, none⟩) ((b2).length + 1) cap9) := ⟨_, rfl⟩
              have HPbn : Hid (ParIs WBb PB sp hy n ((b2) ++ [It.box p.w n (k : Int)])) := Lib.hid (by
                rw [hWBb]
                refine ⟨_, heap_setCell_same _ _ 6 _ _ _ HR9.out, OwnR.set9 ?_ (Nat.lt_succ_self _)⟩
                unfold OwnR
                have e1 : ((b2) ++ [It.box p.w n (k : Int)]).length = (b2).length + 1 := by simp
                have e2 : ((b2) ++ [It.box p.w n (k : Int)]).flatMap itC = (b2).flatMap itC ++ [.int .i64 0, .int .i64 p.w, .int .i64 0, .int .i64 0, .int .i64 0, .int .i64 0, .bool false, .int .i64 n, .int .i64 (k : Int)] := by simp [itC, It.box, It.pen, It.spc, List.append_assoc]
                rw [e1, e2]
                exact HO9.out)
              have HBbn : Hid (Below PB w WBb) := Lib.hid (by
                rw [hWBb]
                exact (below_app (HBan.out.trans (HBab.out.mono (Nat.le_of_lt HPan.out.lt))) HG9.out (ownsRow_base HOwb.out (Nat.le_succ _)) (Nat.le_of_succ_le hb3b)).setCell (p := ⟨PB, 6, none⟩) (Nat.le_refl _) _)
              have HXbn : Hid (WBb.heap[PX]? = some (.cells #[.string p.s, .int .i64 p.w, .int .i64 p.h, .int .i64 p.d] 47 (0, 0))) := Lib.hid (by
                rw [hWBb]
                exact obj_set (obj_far HX3b.out HG9.out HnXb.out) HneXb.out)
              rw [← hWBb]
              clear hWBb HR9 r9 f9 HG9 HO9 r2b r3b HBab HOwb HH3b q0b hb3b HW3b HnPb Hlenb S3b hHeld hlt9 HX3b HnXb HneXb
              go_wp2
              go_roundw
              case rel => exact ⟨k + 1, _, by omega, by go_num, HPbn, HBbn, Lib.hid (by have := HN2.out; simp only [List.append_assoc, List.cons_append, List.nil_append] at this ⊢; exact this), Lib.hid (by simp; have := HLe2.out; omega)⟩
              case measure => simp [intOf]; omega
    · have HG : Hid (Good b tgt) := Lib.hid (.inl (by
        have h := HK.out
        rw [It.drop_end (by rw [← Hn.out]; omega)] at h
        simpa [It.wordI] using h))
      go_wp2
      go_end0
      exact ⟨rfl, b, HP.out, HB.out, HG.out, HLe0.out⟩
end Go.Proofs.Ytfgfplpbddapnaa
