/-
  The landed addTo: what a line tells is entered into the reader's table.
-/
import Derived.Test.YtmehldekebphfaaGreatDoorReader7
import Derived.BigRegion
set_option linter.unusedVariables false
set_option linter.unusedSimpArgs false
namespace Go.Proofs.YtmehldekebphfaaGreatDoor
open Go.RowKit

set_option maxHeartbeats 8000000 in
set_option maxRecDepth 100000 in
theorem addTo_space (RB : Nat) (i last : Int) (m : Mt.Tab) (a b c : Int) (cv lv : Value) (w : World) (hr : ReaderIs w RB i last m) (hc : OwnI .i32 21 (RB + 1) cv [] w) (hl : OwnI .i64 2 (RB + 1) lv [a, b, c] w) (hlen : m.chars.length + m.kerns.length + m.ligs.length ≤ 1073741824) :
    Calls Tryz.prog 49 #[.agg #[.int .i64 0, cv, lv], .pointer (some ⟨RB, 2, none⟩)] w (AddPost RB i last (Mt.add m (.space a b c)) w) := by
  obtain ⟨tc, tk, tl, hh, h1, h2, h3⟩ := hr
  have hlt := lt_of_obj hh
  have hca := hc.at
  have hla := hl.at
  obtain ⟨⟨pz, qz, ec, _⟩, _, _⟩ := hca
  subst ec
  obtain ⟨bl, ol, dl, el, rl⟩ := hla.2.2 (by simp)
  have hbl : RB + 1 ≤ bl := (World.ownsRow.lt hl bl (by rw [el]; rfl)).1
  subst el
  have u0 : w.cell? ⟨bl, ol, none⟩ = some (.int .i64 a) := rl 0 a rfl
  have u1 : w.cell? ⟨bl, ol + 1, none⟩ = some (.int .i64 b) := rl 1 b rfl
  have u2 : w.cell? ⟨bl, ol + 2, none⟩ = some (.int .i64 c) := rl 2 c rfl
  simp only [List.length_cons, List.length_nil, Nat.zero_add] at *
  have HRo := Lib.hid (obj_kept (below_alloc w (.cells #[.int .i64 0, .slice pz 0 qz, .slice (some ⟨bl, ol, none⟩) 3 dl] 89)) hh)
  have H1 := Lib.hid (h1.mono (below_alloc w (.cells #[.int .i64 0, .slice pz 0 qz, .slice (some ⟨bl, ol, none⟩) 3 dl] 89)))
  have H2 := Lib.hid (h2.mono (below_alloc w (.cells #[.int .i64 0, .slice pz 0 qz, .slice (some ⟨bl, ol, none⟩) 3 dl] 89)))
  have H3 := Lib.hid (h3.mono (below_alloc w (.cells #[.int .i64 0, .slice pz 0 qz, .slice (some ⟨bl, ol, none⟩) 3 dl] 89)))
  have HH := Lib.hid hh
  obtain ⟨W1, hW1⟩ : ∃ W1, W1 = w.alloc (.cells #[.int .i64 0, .slice pz 0 qz, .slice (some ⟨bl, ol, none⟩) 3 dl] 89) := ⟨_, rfl⟩
  have hs1 : W1.heap.size = w.heap.size + 1 := by rw [hW1, World.size_alloc]
  have yc : W1.cell? ⟨w.heap.size, 1, none⟩ = some (.slice pz 0 qz) := by rw [hW1]; exact cell_lay w _ _ 1 _ rfl
  have yl : W1.cell? ⟨w.heap.size, 2, none⟩ = some (.slice (some ⟨bl, ol, none⟩) 3 dl) := by rw [hW1]; exact cell_lay w _ _ 2 _ rfl
  have l0 : W1.cell? ⟨bl, ol, none⟩ = some (.int .i64 a) := by rw [hW1]; exact cell_below (below_alloc _ _) u0
  have l1 : W1.cell? ⟨bl, ol + 1, none⟩ = some (.int .i64 b) := by rw [hW1]; exact cell_below (below_alloc _ _) u1
  have l2 : W1.cell? ⟨bl, ol + 2, none⟩ = some (.int .i64 c) := by rw [hW1]; exact cell_below (below_alloc _ _) u2
  rw [← hW1] at HRo H1 H2 H3
  have HB1 := Lib.hid (show Below w.heap.size w W1 by rw [hW1]; exact below_alloc _ _)
  clear hh h1 h2 h3 hc hl hla rl   u0 u1 u2
  have r2 := Lib.cell_of_heap HRo.out 2
  have r3 := Lib.cell_of_heap HRo.out 3
  have r4 := Lib.cell_of_heap HRo.out 4
  have r5 := Lib.cell_of_heap HRo.out 5
  have f2 := Lib.frozen_of_heap HRo.out 2
  have f3 := Lib.frozen_of_heap HRo.out 3
  have f4 := Lib.frozen_of_heap HRo.out 4
  have f5 := Lib.frozen_of_heap HRo.out 5
  go_enter Tryz.func49, Tryz.ntmps49
  go_upto_region 3 with fail
  rw [← hW1]
  clear hW1
  go_region
  go_wp2
  go_end0
  have hx := heap_setCell_same _ _ 5 _ _ (.int .i64 0) (heap_setCell_same _ _ 4 _ _ (.int .i64 c) (heap_setCell_same _ _ 3 _ _ (.int .i64 b) (heap_setCell_same _ _ 2 _ _ (.int .i64 a) HRo.out)))
  exact ⟨rfl, ⟨_, _, _, hx, (((((H1.out.set7 (Nat.lt_succ_self _)).set7 (Nat.lt_succ_self _)).set7 (Nat.lt_succ_self _)).set7 (Nat.lt_succ_self _))).mono (below_drew1' _), (((((H2.out.set7 (Nat.lt_succ_self _)).set7 (Nat.lt_succ_self _)).set7 (Nat.lt_succ_self _)).set7 (Nat.lt_succ_self _))).mono (below_drew1' _), (((((H3.out.set7 (Nat.lt_succ_self _)).set7 (Nat.lt_succ_self _)).set7 (Nat.lt_succ_self _)).set7 (Nat.lt_succ_self _))).mono (below_drew1' _)⟩,
    ((((KeptT.below HB1.out).set HH.out).set HH.out).set HH.out).set HH.out, Below.trans (((((HB1.out.mono (Nat.le_of_lt hlt)).setCell (p := ⟨RB, 2, none⟩) (Nat.le_refl _) _).setCell (p := ⟨RB, 3, none⟩) (Nat.le_refl _) _).setCell (p := ⟨RB, 4, none⟩) (Nat.le_refl _) _).setCell (p := ⟨RB, 5, none⟩) (Nat.le_refl _) _) ⟨rfl, rfl, rfl, Nat.le_refl _, fun _ _ => rfl⟩⟩

set_option maxHeartbeats 8000000 in
set_option maxRecDepth 100000 in
theorem addTo_hyphen (RB : Nat) (i last : Int) (m : Mt.Tab) (c : Int) (cv lv : Value) (w : World) (hr : ReaderIs w RB i last m) (hc : OwnI .i32 21 (RB + 1) cv [c] w) (hl : OwnI .i64 2 (RB + 1) lv [] w) (hlen : m.chars.length + m.kerns.length + m.ligs.length ≤ 1073741824) :
    Calls Tryz.prog 49 #[.agg #[.int .i64 1, cv, lv], .pointer (some ⟨RB, 2, none⟩)] w (AddPost RB i last (Mt.add m (.hyphen c)) w) := by
  obtain ⟨tc, tk, tl, hh, h1, h2, h3⟩ := hr
  have hlt := lt_of_obj hh
  have hca := hc.at
  have hla := hl.at
  obtain ⟨bc, oc, dc, ec, rc⟩ := hca.2.2 (by simp)
  have hbc : RB + 1 ≤ bc := (World.ownsRow.lt hc bc (by rw [ec]; rfl)).1
  subst ec
  have x0 : w.cell? ⟨bc, oc, none⟩ = some (.int .i32 c) := rc 0 c rfl
  obtain ⟨⟨pw, qw, el, _⟩, _, _⟩ := hla
  subst el
  simp only [List.length_cons, List.length_nil, Nat.zero_add] at *
  have HRo := Lib.hid (obj_kept (below_alloc w (.cells #[.int .i64 1, .slice (some ⟨bc, oc, none⟩) 1 dc, .slice pw 0 qw] 89)) hh)
  have H1 := Lib.hid (h1.mono (below_alloc w (.cells #[.int .i64 1, .slice (some ⟨bc, oc, none⟩) 1 dc, .slice pw 0 qw] 89)))
  have H2 := Lib.hid (h2.mono (below_alloc w (.cells #[.int .i64 1, .slice (some ⟨bc, oc, none⟩) 1 dc, .slice pw 0 qw] 89)))
  have H3 := Lib.hid (h3.mono (below_alloc w (.cells #[.int .i64 1, .slice (some ⟨bc, oc, none⟩) 1 dc, .slice pw 0 qw] 89)))
  have HH := Lib.hid hh
  obtain ⟨W1, hW1⟩ : ∃ W1, W1 = w.alloc (.cells #[.int .i64 1, .slice (some ⟨bc, oc, none⟩) 1 dc, .slice pw 0 qw] 89) := ⟨_, rfl⟩
  have hs1 : W1.heap.size = w.heap.size + 1 := by rw [hW1, World.size_alloc]
  have yc : W1.cell? ⟨w.heap.size, 1, none⟩ = some (.slice (some ⟨bc, oc, none⟩) 1 dc) := by rw [hW1]; exact cell_lay w _ _ 1 _ rfl
  have yl : W1.cell? ⟨w.heap.size, 2, none⟩ = some (.slice pw 0 qw) := by rw [hW1]; exact cell_lay w _ _ 2 _ rfl
  have c0 : W1.cell? ⟨bc, oc, none⟩ = some (.int .i32 c) := by rw [hW1]; exact cell_below (below_alloc _ _) x0
  rw [← hW1] at HRo H1 H2 H3
  have HB1 := Lib.hid (show Below w.heap.size w W1 by rw [hW1]; exact below_alloc _ _)
  clear hh h1 h2 h3 hc hl hca rc  x0 
  have r6 := Lib.cell_of_heap HRo.out 6
  have f6 := Lib.frozen_of_heap HRo.out 6
  go_enter Tryz.func49, Tryz.ntmps49
  go_upto_region 5 with fail
  rw [← hW1]
  clear hW1
  go_wp2
  go_end0
  exact ⟨rfl, ⟨_, _, _, heap_setCell_same _ _ 6 _ _ _ HRo.out, H1.out.set7 (Nat.lt_succ_self _), H2.out.set7 (Nat.lt_succ_self _), H3.out.set7 (Nat.lt_succ_self _)⟩, (KeptT.below HB1.out).set HH.out, (HB1.out.mono (Nat.le_of_lt hlt)).setCell (p := ⟨RB, 6, none⟩) (Nat.le_refl _) _⟩

set_option maxHeartbeats 8000000 in
set_option maxRecDepth 100000 in
theorem addTo_char (RB : Nat) (i last : Int) (m : Mt.Tab) (c x h d : Int) (cv lv : Value) (w : World) (hr : ReaderIs w RB i last m) (hc : OwnI .i32 21 (RB + 1) cv [c] w) (hl : OwnI .i64 2 (RB + 1) lv [x, h, d] w) (hlen : m.chars.length + m.kerns.length + m.ligs.length ≤ 1073741824) :
    Calls Tryz.prog 49 #[.agg #[.int .i64 2, cv, lv], .pointer (some ⟨RB, 2, none⟩)] w (AddPost RB i last (Mt.add m (.char c x h d)) w) := by
  obtain ⟨tc, tk, tl, hh, h1, h2, h3⟩ := hr
  have hlt := lt_of_obj hh
  have hca := hc.at
  have hla := hl.at
  obtain ⟨bc, oc, dc, ec, rc⟩ := hca.2.2 (by simp)
  have hbc : RB + 1 ≤ bc := (World.ownsRow.lt hc bc (by rw [ec]; rfl)).1
  subst ec
  have x0 : w.cell? ⟨bc, oc, none⟩ = some (.int .i32 c) := rc 0 c rfl
  obtain ⟨bl, ol, dl, el, rl⟩ := hla.2.2 (by simp)
  have hbl : RB + 1 ≤ bl := (World.ownsRow.lt hl bl (by rw [el]; rfl)).1
  subst el
  have u0 : w.cell? ⟨bl, ol, none⟩ = some (.int .i64 x) := rl 0 x rfl
  have u1 : w.cell? ⟨bl, ol + 1, none⟩ = some (.int .i64 h) := rl 1 h rfl
  have u2 : w.cell? ⟨bl, ol + 2, none⟩ = some (.int .i64 d) := rl 2 d rfl
  simp only [List.length_cons, List.length_nil, Nat.zero_add] at *
  have HRo := Lib.hid (obj_kept (below_alloc w (.cells #[.int .i64 2, .slice (some ⟨bc, oc, none⟩) 1 dc, .slice (some ⟨bl, ol, none⟩) 3 dl] 89)) hh)
  have H1 := Lib.hid (h1.mono (below_alloc w (.cells #[.int .i64 2, .slice (some ⟨bc, oc, none⟩) 1 dc, .slice (some ⟨bl, ol, none⟩) 3 dl] 89)))
  have H2 := Lib.hid (h2.mono (below_alloc w (.cells #[.int .i64 2, .slice (some ⟨bc, oc, none⟩) 1 dc, .slice (some ⟨bl, ol, none⟩) 3 dl] 89)))
  have H3 := Lib.hid (h3.mono (below_alloc w (.cells #[.int .i64 2, .slice (some ⟨bc, oc, none⟩) 1 dc, .slice (some ⟨bl, ol, none⟩) 3 dl] 89)))
  have HH := Lib.hid hh
  obtain ⟨W1, hW1⟩ : ∃ W1, W1 = w.alloc (.cells #[.int .i64 2, .slice (some ⟨bc, oc, none⟩) 1 dc, .slice (some ⟨bl, ol, none⟩) 3 dl] 89) := ⟨_, rfl⟩
  have hs1 : W1.heap.size = w.heap.size + 1 := by rw [hW1, World.size_alloc]
  have yc : W1.cell? ⟨w.heap.size, 1, none⟩ = some (.slice (some ⟨bc, oc, none⟩) 1 dc) := by rw [hW1]; exact cell_lay w _ _ 1 _ rfl
  have yl : W1.cell? ⟨w.heap.size, 2, none⟩ = some (.slice (some ⟨bl, ol, none⟩) 3 dl) := by rw [hW1]; exact cell_lay w _ _ 2 _ rfl
  have c0 : W1.cell? ⟨bc, oc, none⟩ = some (.int .i32 c) := by rw [hW1]; exact cell_below (below_alloc _ _) x0
  have l0 : W1.cell? ⟨bl, ol, none⟩ = some (.int .i64 x) := by rw [hW1]; exact cell_below (below_alloc _ _) u0
  have l1 : W1.cell? ⟨bl, ol + 1, none⟩ = some (.int .i64 h) := by rw [hW1]; exact cell_below (below_alloc _ _) u1
  have l2 : W1.cell? ⟨bl, ol + 2, none⟩ = some (.int .i64 d) := by rw [hW1]; exact cell_below (below_alloc _ _) u2
  rw [← hW1] at HRo H1 H2 H3
  have HB1 := Lib.hid (show Below w.heap.size w W1 by rw [hW1]; exact below_alloc _ _)
  clear hh h1 h2 h3 hca rc  hla rl  x0 u0 u1 u2
  obtain ⟨i0, hi, hz0, hz1, hz2⟩ := info_parts infoChr
  have hbw : W1.heap[w.heap.size]? = some (.cells #[.int .i64 2, .slice (some ⟨bc, oc, none⟩) 1 dc, .slice (some ⟨bl, ol, none⟩) 3 dl] 89 (0, 0)) := by rw [hW1]; exact obj_new w _ rfl _ _
  have zw : w.heap.size < W1.heap.size := by rw [hs1]; exact Nat.lt_succ_self _
  have nw : some w.heap.size ≠ tc.ownBlock := own_off7 H1.out hbw (by decide)
  have hcw := hc.mono7 (show Below w.heap.size w W1 from HB1.out)
  have nc : some bc ≠ tc.ownBlock := own_ne_i hcw H1.out (by decide)
  have zc : bc < W1.heap.size := (World.ownsRow.lt hcw bc rfl).2
  have hlw := hl.mono7 (show Below w.heap.size w W1 from HB1.out)
  have nl : some bl ≠ tc.ownBlock := own_ne_i hlw H1.out (by decide)
  have zl : bl < W1.heap.size := (World.ownsRow.lt hlw bl rfl).2
  have mw : w.heap.size ≠ RB := Nat.ne_of_gt hlt
  have mc : bc ≠ RB := by omega
  have ml : bl ≠ RB := by omega
  obtain ⟨W2, hW2⟩ : ∃ W2, W2 = W1.drew := ⟨_, rfl⟩
  obtain ⟨W3, hW3⟩ : ∃ W3, W3 = W2.alloc (.cells #[.int .i32 c, .int .i64 x, .int .i64 h, .int .i64 d] 38) := ⟨_, rfl⟩
  have hB2 : Below W1.heap.size W1 W2 := by rw [hW2]; exact below_drew1' _
  have hB3 : Below W2.heap.size W2 W3 := by rw [hW3]; exact below_alloc _ _
  have hs2 : W2.heap.size = W1.heap.size := by rw [hW2]; rfl
  have HBa := Lib.hid (below_step hB2 hB3)
  have r2 : W2.cell? ⟨RB, 7, none⟩ = some tc := Lib.cell_of_heap (obj_kept hB2 HRo.out) 7
  have r3 : W3.cell? ⟨RB, 7, none⟩ = some tc := Lib.cell_of_heap (obj_kept HBa.out HRo.out) 7
  have hown : World.ownsRow W3 (RB + 1) 38 4 tc m.chars.length (m.chars.flatMap chC) := H1.out.mono HBa.out
  have HOw := Lib.hid hown
  have HV := Lib.hid (World.ownsRow.lt hown)
  have HH3 := Lib.hid (obj_kept HBa.out HRo.out)
  have q0 : ∀ j u, [.int .i32 c, .int .i64 x, .int .i64 h, .int .i64 d][j]? = some u → W3.cell? ((⟨W2.heap.size, 0, none⟩ : Addr).add j) = some u := fun j u hj => by
    rw [add_none, Nat.zero_add, hW3]
    exact cell_lay W2 _ _ j u (by simpa using hj)
  have hb3 : RB + 1 ≤ W3.heap.size := by have := HBa.out.size; omega
  have HW3 := Lib.hid hW3
  have S3 : (fun w' : World => w'.heap[w.heap.size]? = W1.heap[w.heap.size]? ∧ w'.heap[bc]? = W1.heap[bc]? ∧ w'.heap[bl]? = W1.heap[bl]?) W2 → (fun w' : World => w'.heap[w.heap.size]? = W1.heap[w.heap.size]? ∧ w'.heap[bc]? = W1.heap[bc]? ∧ w'.heap[bl]? = W1.heap[bl]?) W3 := fun hHeld => ⟨(hB3.block _ (by rw [hs2]; exact zw)).trans hHeld.1, (hB3.block _ (by rw [hs2]; exact zc)).trans hHeld.2.1, (hB3.block _ (by rw [hs2]; exact zl)).trans hHeld.2.2⟩
  clear hown hbw hB2 hB3 hs2 HRo hs1 hW3 hc hl hcw hlw
  go_enter Tryz.func49, Tryz.ntmps49
  go_upto_region 7 with fail
  rw [← hW1]
  clear hW1
  refine wp_region_held_drew (S := fun w' : World => w'.heap[w.heap.size]? = W1.heap[w.heap.size]? ∧ w'.heap[bc]? = W1.heap[bc]? ∧ w'.heap[bl]? = W1.heap[bl]?) (by kernel_rfl) ?_ (fun hHeld => ?_)
  · exact ⟨rfl, rfl, rfl⟩
  rw [← hW2] at hHeld ⊢
  clear hW2
  refine take_op (i := 0) (d := 35) (op := Op.move (Operand.tmp 1)) (ty := 104) (v := (.pointer (some ⟨RB, 2, none⟩))) (by kernel_rfl) (by kernel_rfl) (by kernel_rfl) (by kernel_rfl) (by kernel_rfl) (fun _ _ _ h => h) (fun wS hS => by clear hS; go_simp) hHeld ?_
  simp only [Act.put, List.setIfInBounds_toArray, List.set_cons_zero, List.set_cons_succ]
  refine take_op (i := 1) (d := 36) (op := Op.move (Operand.tmp 1)) (ty := 104) (v := (.pointer (some ⟨RB, 2, none⟩))) (by kernel_rfl) (by kernel_rfl) (by kernel_rfl) (by kernel_rfl) (by kernel_rfl) (fun _ _ _ h => h) (fun wS hS => by clear hS; go_simp) hHeld ?_
  simp only [Act.put, List.setIfInBounds_toArray, List.set_cons_zero, List.set_cons_succ]
  refine take_op (i := 2) (d := 37) (op := Op.nilCheck (Operand.tmp 36)) (ty := 0) (v := (.pointer (some ⟨RB, 2, none⟩))) (by kernel_rfl) (by kernel_rfl) (by kernel_rfl) (by kernel_rfl) (by kernel_rfl) (fun _ _ _ h => h) (fun wS hS => by clear hS; go_simp) hHeld ?_
  simp only [Act.put, List.setIfInBounds_toArray, List.set_cons_zero, List.set_cons_succ]
  refine take_op (i := 3) (d := 38) (op := Op.fieldAddr 28 (Operand.tmp 37) 2) (ty := 0) (v := (.pointer (some ⟨RB, 7, none⟩))) (by kernel_rfl) (by kernel_rfl) (by kernel_rfl) (by kernel_rfl) (by kernel_rfl) (fun _ _ _ h => h) (fun wS hS => by clear hS; go_simp) hHeld ?_
  simp only [Act.put, List.setIfInBounds_toArray, List.set_cons_zero, List.set_cons_succ]
  refine take_op (i := 5) (d := 40) (op := Op.fieldAddr 89 (Operand.tmp 2) 1) (ty := 0) (v := (.pointer (some ⟨w.heap.size, 1, none⟩))) (by kernel_rfl) (by kernel_rfl) (by kernel_rfl) (by kernel_rfl) (by kernel_rfl) (fun _ _ _ h => h) (fun wS hS => by clear hS; go_simp) hHeld ?_
  simp only [Act.put, List.setIfInBounds_toArray, List.set_cons_zero, List.set_cons_succ]
  refine take_op (i := 6) (d := 41) (op := Op.load 75 (Operand.tmp 40)) (ty := 75) (v := (.slice (some ⟨bc, oc, none⟩) 1 dc)) (by kernel_rfl) (by kernel_rfl) (by kernel_rfl) (by kernel_rfl) (by kernel_rfl) (fun _ _ _ h => h) (fun wS hS => by (try dsimp only at hS); have e0 := (World.cell?_of_block (a := ⟨w.heap.size, 1, none⟩) hS.1).trans yc; have e1 := (World.cell?_of_block (a := ⟨w.heap.size, 2, none⟩) hS.1).trans yl; have ec0 := (World.cell?_of_block (a := ⟨bc, oc, none⟩) hS.2.1).trans c0; have el0 := (World.cell?_of_block (a := ⟨bl, ol, none⟩) hS.2.2).trans l0; have el1 := (World.cell?_of_block (a := ⟨bl, ol + 1, none⟩) hS.2.2).trans l1; have el2 := (World.cell?_of_block (a := ⟨bl, ol + 2, none⟩) hS.2.2).trans l2; clear hS; go_simp) hHeld ?_
  simp only [Act.put, List.setIfInBounds_toArray, List.set_cons_zero, List.set_cons_succ]
  refine take_op (i := 7) (d := 42) (op := Op.indexAddr 75 (Operand.tmp 41) (Operand.const (Value.int IntKind.i64 0))) (ty := 0) (v := (.pointer (some ⟨bc, oc, none⟩))) (by kernel_rfl) (by kernel_rfl) (by kernel_rfl) (by kernel_rfl) (by kernel_rfl) (fun _ _ _ h => h) (fun wS hS => by clear hS; go_simp) hHeld ?_
  simp only [Act.put, List.setIfInBounds_toArray, List.set_cons_zero, List.set_cons_succ]
  refine take_op (i := 8) (d := 43) (op := Op.load 21 (Operand.tmp 42)) (ty := 21) (v := (.int .i32 c)) (by kernel_rfl) (by kernel_rfl) (by kernel_rfl) (by kernel_rfl) (by kernel_rfl) (fun _ _ _ h => h) (fun wS hS => by (try dsimp only at hS); have e0 := (World.cell?_of_block (a := ⟨w.heap.size, 1, none⟩) hS.1).trans yc; have e1 := (World.cell?_of_block (a := ⟨w.heap.size, 2, none⟩) hS.1).trans yl; have ec0 := (World.cell?_of_block (a := ⟨bc, oc, none⟩) hS.2.1).trans c0; have el0 := (World.cell?_of_block (a := ⟨bl, ol, none⟩) hS.2.2).trans l0; have el1 := (World.cell?_of_block (a := ⟨bl, ol + 1, none⟩) hS.2.2).trans l1; have el2 := (World.cell?_of_block (a := ⟨bl, ol + 2, none⟩) hS.2.2).trans l2; clear hS; go_simp) hHeld ?_
  simp only [Act.put, List.setIfInBounds_toArray, List.set_cons_zero, List.set_cons_succ]
  refine take_op (i := 9) (d := 44) (op := Op.fieldAddr 89 (Operand.tmp 2) 2) (ty := 0) (v := (.pointer (some ⟨w.heap.size, 2, none⟩))) (by kernel_rfl) (by kernel_rfl) (by kernel_rfl) (by kernel_rfl) (by kernel_rfl) (fun _ _ _ h => h) (fun wS hS => by clear hS; go_simp) hHeld ?_
  simp only [Act.put, List.setIfInBounds_toArray, List.set_cons_zero, List.set_cons_succ]
  refine take_op (i := 10) (d := 45) (op := Op.load 87 (Operand.tmp 44)) (ty := 87) (v := (.slice (some ⟨bl, ol, none⟩) 3 dl)) (by kernel_rfl) (by kernel_rfl) (by kernel_rfl) (by kernel_rfl) (by kernel_rfl) (fun _ _ _ h => h) (fun wS hS => by (try dsimp only at hS); have e0 := (World.cell?_of_block (a := ⟨w.heap.size, 1, none⟩) hS.1).trans yc; have e1 := (World.cell?_of_block (a := ⟨w.heap.size, 2, none⟩) hS.1).trans yl; have ec0 := (World.cell?_of_block (a := ⟨bc, oc, none⟩) hS.2.1).trans c0; have el0 := (World.cell?_of_block (a := ⟨bl, ol, none⟩) hS.2.2).trans l0; have el1 := (World.cell?_of_block (a := ⟨bl, ol + 1, none⟩) hS.2.2).trans l1; have el2 := (World.cell?_of_block (a := ⟨bl, ol + 2, none⟩) hS.2.2).trans l2; clear hS; go_simp) hHeld ?_
  simp only [Act.put, List.setIfInBounds_toArray, List.set_cons_zero, List.set_cons_succ]
  refine take_op (i := 11) (d := 46) (op := Op.indexAddr 87 (Operand.tmp 45) (Operand.const (Value.int IntKind.i64 0))) (ty := 0) (v := (.pointer (some ⟨bl, ol, none⟩))) (by kernel_rfl) (by kernel_rfl) (by kernel_rfl) (by kernel_rfl) (by kernel_rfl) (fun _ _ _ h => h) (fun wS hS => by clear hS; go_simp) hHeld ?_
  simp only [Act.put, List.setIfInBounds_toArray, List.set_cons_zero, List.set_cons_succ]
  refine take_op (i := 12) (d := 47) (op := Op.load 2 (Operand.tmp 46)) (ty := 2) (v := (.int .i64 x)) (by kernel_rfl) (by kernel_rfl) (by kernel_rfl) (by kernel_rfl) (by kernel_rfl) (fun _ _ _ h => h) (fun wS hS => by (try dsimp only at hS); have e0 := (World.cell?_of_block (a := ⟨w.heap.size, 1, none⟩) hS.1).trans yc; have e1 := (World.cell?_of_block (a := ⟨w.heap.size, 2, none⟩) hS.1).trans yl; have ec0 := (World.cell?_of_block (a := ⟨bc, oc, none⟩) hS.2.1).trans c0; have el0 := (World.cell?_of_block (a := ⟨bl, ol, none⟩) hS.2.2).trans l0; have el1 := (World.cell?_of_block (a := ⟨bl, ol + 1, none⟩) hS.2.2).trans l1; have el2 := (World.cell?_of_block (a := ⟨bl, ol + 2, none⟩) hS.2.2).trans l2; clear hS; go_simp) hHeld ?_
  simp only [Act.put, List.setIfInBounds_toArray, List.set_cons_zero, List.set_cons_succ]
  refine take_op (i := 13) (d := 48) (op := Op.fieldAddr 89 (Operand.tmp 2) 2) (ty := 0) (v := (.pointer (some ⟨w.heap.size, 2, none⟩))) (by kernel_rfl) (by kernel_rfl) (by kernel_rfl) (by kernel_rfl) (by kernel_rfl) (fun _ _ _ h => h) (fun wS hS => by clear hS; go_simp) hHeld ?_
  simp only [Act.put, List.setIfInBounds_toArray, List.set_cons_zero, List.set_cons_succ]
  refine take_op (i := 14) (d := 49) (op := Op.load 87 (Operand.tmp 48)) (ty := 87) (v := (.slice (some ⟨bl, ol, none⟩) 3 dl)) (by kernel_rfl) (by kernel_rfl) (by kernel_rfl) (by kernel_rfl) (by kernel_rfl) (fun _ _ _ h => h) (fun wS hS => by (try dsimp only at hS); have e0 := (World.cell?_of_block (a := ⟨w.heap.size, 1, none⟩) hS.1).trans yc; have e1 := (World.cell?_of_block (a := ⟨w.heap.size, 2, none⟩) hS.1).trans yl; have ec0 := (World.cell?_of_block (a := ⟨bc, oc, none⟩) hS.2.1).trans c0; have el0 := (World.cell?_of_block (a := ⟨bl, ol, none⟩) hS.2.2).trans l0; have el1 := (World.cell?_of_block (a := ⟨bl, ol + 1, none⟩) hS.2.2).trans l1; have el2 := (World.cell?_of_block (a := ⟨bl, ol + 2, none⟩) hS.2.2).trans l2; clear hS; go_simp) hHeld ?_
  simp only [Act.put, List.setIfInBounds_toArray, List.set_cons_zero, List.set_cons_succ]
  refine take_op (i := 15) (d := 50) (op := Op.indexAddr 87 (Operand.tmp 49) (Operand.const (Value.int IntKind.i64 1))) (ty := 0) (v := (.pointer (some ⟨bl, ol + 1, none⟩))) (by kernel_rfl) (by kernel_rfl) (by kernel_rfl) (by kernel_rfl) (by kernel_rfl) (fun _ _ _ h => h) (fun wS hS => by clear hS; go_simp) hHeld ?_
  simp only [Act.put, List.setIfInBounds_toArray, List.set_cons_zero, List.set_cons_succ]
  refine take_op (i := 16) (d := 51) (op := Op.load 2 (Operand.tmp 50)) (ty := 2) (v := (.int .i64 h)) (by kernel_rfl) (by kernel_rfl) (by kernel_rfl) (by kernel_rfl) (by kernel_rfl) (fun _ _ _ h => h) (fun wS hS => by (try dsimp only at hS); have e0 := (World.cell?_of_block (a := ⟨w.heap.size, 1, none⟩) hS.1).trans yc; have e1 := (World.cell?_of_block (a := ⟨w.heap.size, 2, none⟩) hS.1).trans yl; have ec0 := (World.cell?_of_block (a := ⟨bc, oc, none⟩) hS.2.1).trans c0; have el0 := (World.cell?_of_block (a := ⟨bl, ol, none⟩) hS.2.2).trans l0; have el1 := (World.cell?_of_block (a := ⟨bl, ol + 1, none⟩) hS.2.2).trans l1; have el2 := (World.cell?_of_block (a := ⟨bl, ol + 2, none⟩) hS.2.2).trans l2; clear hS; go_simp) hHeld ?_
  simp only [Act.put, List.setIfInBounds_toArray, List.set_cons_zero, List.set_cons_succ]
  refine take_op (i := 17) (d := 52) (op := Op.fieldAddr 89 (Operand.tmp 2) 2) (ty := 0) (v := (.pointer (some ⟨w.heap.size, 2, none⟩))) (by kernel_rfl) (by kernel_rfl) (by kernel_rfl) (by kernel_rfl) (by kernel_rfl) (fun _ _ _ h => h) (fun wS hS => by clear hS; go_simp) hHeld ?_
  simp only [Act.put, List.setIfInBounds_toArray, List.set_cons_zero, List.set_cons_succ]
  refine take_op (i := 18) (d := 53) (op := Op.load 87 (Operand.tmp 52)) (ty := 87) (v := (.slice (some ⟨bl, ol, none⟩) 3 dl)) (by kernel_rfl) (by kernel_rfl) (by kernel_rfl) (by kernel_rfl) (by kernel_rfl) (fun _ _ _ h => h) (fun wS hS => by (try dsimp only at hS); have e0 := (World.cell?_of_block (a := ⟨w.heap.size, 1, none⟩) hS.1).trans yc; have e1 := (World.cell?_of_block (a := ⟨w.heap.size, 2, none⟩) hS.1).trans yl; have ec0 := (World.cell?_of_block (a := ⟨bc, oc, none⟩) hS.2.1).trans c0; have el0 := (World.cell?_of_block (a := ⟨bl, ol, none⟩) hS.2.2).trans l0; have el1 := (World.cell?_of_block (a := ⟨bl, ol + 1, none⟩) hS.2.2).trans l1; have el2 := (World.cell?_of_block (a := ⟨bl, ol + 2, none⟩) hS.2.2).trans l2; clear hS; go_simp) hHeld ?_
  simp only [Act.put, List.setIfInBounds_toArray, List.set_cons_zero, List.set_cons_succ]
  refine take_op (i := 19) (d := 54) (op := Op.indexAddr 87 (Operand.tmp 53) (Operand.const (Value.int IntKind.i64 2))) (ty := 0) (v := (.pointer (some ⟨bl, ol + 2, none⟩))) (by kernel_rfl) (by kernel_rfl) (by kernel_rfl) (by kernel_rfl) (by kernel_rfl) (fun _ _ _ h => h) (fun wS hS => by clear hS; go_simp) hHeld ?_
  simp only [Act.put, List.setIfInBounds_toArray, List.set_cons_zero, List.set_cons_succ]
  refine take_op (i := 20) (d := 55) (op := Op.load 2 (Operand.tmp 54)) (ty := 2) (v := (.int .i64 d)) (by kernel_rfl) (by kernel_rfl) (by kernel_rfl) (by kernel_rfl) (by kernel_rfl) (fun _ _ _ h => h) (fun wS hS => by (try dsimp only at hS); have e0 := (World.cell?_of_block (a := ⟨w.heap.size, 1, none⟩) hS.1).trans yc; have e1 := (World.cell?_of_block (a := ⟨w.heap.size, 2, none⟩) hS.1).trans yl; have ec0 := (World.cell?_of_block (a := ⟨bc, oc, none⟩) hS.2.1).trans c0; have el0 := (World.cell?_of_block (a := ⟨bl, ol, none⟩) hS.2.2).trans l0; have el1 := (World.cell?_of_block (a := ⟨bl, ol + 1, none⟩) hS.2.2).trans l1; have el2 := (World.cell?_of_block (a := ⟨bl, ol + 2, none⟩) hS.2.2).trans l2; clear hS; go_simp) hHeld ?_
  simp only [Act.put, List.setIfInBounds_toArray, List.set_cons_zero, List.set_cons_succ]
  refine take_op (i := 21) (d := 56) (op := Op.build 38 #[(0, Operand.tmp 43), (1, Operand.tmp 47), (2, Operand.tmp 51), (3, Operand.tmp 55)]) (ty := 38) (v := (.agg #[.int .i32 c, .int .i64 x, .int .i64 h, .int .i64 d])) (by kernel_rfl) (by kernel_rfl) (by kernel_rfl) (by kernel_rfl) (by kernel_rfl) (fun _ _ _ h => h) (fun wS hS => by clear hS; go_simp) hHeld ?_
  simp only [Act.put, List.setIfInBounds_toArray, List.set_cons_zero, List.set_cons_succ]
  refine wpAnyH_ready (rs := [4, 22]) (by kernel_rfl) (by simp) ?_
  refine AllReadyH.cons rfl (fun K hK => ?_) (AllReadyH.cons rfl (fun K hK => ?_) AllReadyH.nil)
  · go_simp
    refine hK.out _ _ hHeld (fun _ => ?_)
    clear hK K
    refine wpAnyH_ready (rs := [22]) (by kernel_rfl) (by simp) ?_
    refine AllReadyH.cons rfl (fun K hK => ?_) AllReadyH.nil
    go_simp
    rw [← HW3.out]
    refine hK.out _ _ (S3 hHeld) (fun hHeld => ?_)
    clear hK K
    refine wpAnyH_ready (rs := [23]) (by kernel_rfl) (by simp) ?_
    refine AllReadyH.cons rfl (fun K hK => ?_) AllReadyH.nil
    refine step_append_lies _ (by rfl) _ _ _ (by rfl) (RB + 1) 38 i0 _ 4 32 Tryz.underlying24 hi hz0 hz1 hz2 rfl (by decide) tc _ _ (by rfl) HOw.out ⟨W2.heap.size, 0, none⟩ 1 1 [.int .i32 c, .int .i64 x, .int .i64 h, .int .i64 d] (by rfl) (by rfl) q0 (fun z hz => by simp at hz; rcases hz with rfl | rfl | rfl | rfl <;> rfl) (by omega) (by unfold maxLen; omega) (by omega) hb3 _ rfl ?_
    intro g9 cap9 w9 hown9 hgrow9 hat9 hlt9
    refine hK.out _ _ ⟨(hgrow9.block _ (Nat.lt_of_lt_of_le zw HBa.out.size) nw).trans hHeld.1, (hgrow9.block _ (Nat.lt_of_lt_of_le zc HBa.out.size) nc).trans hHeld.2.1, (hgrow9.block _ (Nat.lt_of_lt_of_le zl HBa.out.size) nl).trans hHeld.2.2⟩ (fun hHeld => ?_)
    clear hK K
    simp only [Act.put, List.setIfInBounds_toArray, List.set_cons_zero, List.set_cons_succ]
    have hR9 : w9.heap[RB]? = _ := obj_far HH3.out hgrow9 (fun hq => by have := (HV.out _ hq.symm).1; omega)
    have HR9 := Lib.hid hR9
    have r9 := Lib.cell_of_heap hR9 7
    have f9 := Lib.frozen_of_heap hR9 7
    have HG9 := Lib.hid hgrow9
    have HO9 := Lib.hid hown9
    clear hR9 hgrow9 hown9 hat9
    refine take_op (i := 24) (d := 59) (op := Op.nilCheck (Operand.tmp 35)) (ty := 0) (v := (.pointer (some ⟨RB, 2, none⟩))) (by kernel_rfl) (by kernel_rfl) (by kernel_rfl) (by kernel_rfl) (by kernel_rfl) (fun _ _ _ h => h) (fun wS hS => by clear hS; go_simp) hHeld ?_
    simp only [Act.put, List.setIfInBounds_toArray, List.set_cons_zero, List.set_cons_succ]
    refine take_op (i := 25) (d := 60) (op := Op.fieldAddr 28 (Operand.tmp 59) 2) (ty := 0) (v := (.pointer (some ⟨RB, 7, none⟩))) (by kernel_rfl) (by kernel_rfl) (by kernel_rfl) (by kernel_rfl) (by kernel_rfl) (fun _ _ _ h => h) (fun wS hS => by clear hS; go_simp) hHeld ?_
    simp only [Act.put, List.setIfInBounds_toArray, List.set_cons_zero, List.set_cons_succ]
    refine wpAnyH_ready (rs := [26]) (by kernel_rfl) (by simp) ?_
    refine AllReadyH.cons rfl (fun K hK => ?_) AllReadyH.nil
    go_simp
    refine hK.out _ _ ⟨(Below.heap_setCell w9 ⟨RB, 7, none⟩ _ _ mw).trans hHeld.1, (Below.heap_setCell w9 ⟨RB, 7, none⟩ _ _ mc).trans hHeld.2.1, (Below.heap_setCell w9 ⟨RB, 7, none⟩ _ _ ml).trans hHeld.2.2⟩ (fun _ => ?_)
    clear hK K
    refine wpAnyH_done (by kernel_rfl) ?_ _
    go_wp2
    go_end0
    refine ⟨rfl, ⟨_, _, _, heap_setCell_same _ _ 7 _ _ (.slice (some ⟨g9, 0, none⟩) (m.chars.length + 1) cap9) HR9.out, ?_, ?_, ?_⟩, ?_, ?_⟩
    · refine OwnR.set7 ?_ (Nat.lt_succ_self _)
      unfold OwnR
      rw [show (Mt.add m (.char c x h d)).chars = m.chars ++ [⟨c, x, h, d⟩] from rfl, List.length_append, List.flatMap_append]
      exact HO9.out
    · exact OwnR.set7 (World.ownsRow.kept (H2.out.mono HBa.out) HG9.out (own_apart (H2.out.mono HBa.out) HOw.out (by decide))) (Nat.lt_succ_self _)
    · exact OwnR.set7 (World.ownsRow.kept (H3.out.mono HBa.out) HG9.out (own_apart (H3.out.mono HBa.out) HOw.out (by decide))) (Nat.lt_succ_self _)
    · refine KeptT.set (KeptT.trans (KeptT.below (below_step HB1.out HBa.out)) (fun b c T fr hb q1 q2 q3 q4 => ?_)) HH.out
      exact obj_far hb HG9.out (own_off7 HOw.out hb q2)
    · refine (Below.grown ((below_step HB1.out HBa.out).mono (Nat.le_of_lt hlt)) HG9.out ?_ (fun q hq => by have := (HV.out q hq).1; omega)).setCell (p := ⟨RB, 7, none⟩) (Nat.le_refl _) _
      omega
  · go_simp
    rw [← HW3.out]
    refine hK.out _ _ (S3 hHeld) (fun hHeld => ?_)
    clear hK K
    refine wpAnyH_ready (rs := [4]) (by kernel_rfl) (by simp) ?_
    refine AllReadyH.cons rfl (fun K hK => ?_) AllReadyH.nil
    go_simp
    refine hK.out _ _ hHeld (fun _ => ?_)
    clear hK K
    refine wpAnyH_ready (rs := [23]) (by kernel_rfl) (by simp) ?_
    refine AllReadyH.cons rfl (fun K hK => ?_) AllReadyH.nil
    refine step_append_lies _ (by rfl) _ _ _ (by rfl) (RB + 1) 38 i0 _ 4 32 Tryz.underlying24 hi hz0 hz1 hz2 rfl (by decide) tc _ _ (by rfl) HOw.out ⟨W2.heap.size, 0, none⟩ 1 1 [.int .i32 c, .int .i64 x, .int .i64 h, .int .i64 d] (by rfl) (by rfl) q0 (fun z hz => by simp at hz; rcases hz with rfl | rfl | rfl | rfl <;> rfl) (by omega) (by unfold maxLen; omega) (by omega) hb3 _ rfl ?_
    intro g9 cap9 w9 hown9 hgrow9 hat9 hlt9
    refine hK.out _ _ ⟨(hgrow9.block _ (Nat.lt_of_lt_of_le zw HBa.out.size) nw).trans hHeld.1, (hgrow9.block _ (Nat.lt_of_lt_of_le zc HBa.out.size) nc).trans hHeld.2.1, (hgrow9.block _ (Nat.lt_of_lt_of_le zl HBa.out.size) nl).trans hHeld.2.2⟩ (fun hHeld => ?_)
    clear hK K
    simp only [Act.put, List.setIfInBounds_toArray, List.set_cons_zero, List.set_cons_succ]
    have hR9 : w9.heap[RB]? = _ := obj_far HH3.out hgrow9 (fun hq => by have := (HV.out _ hq.symm).1; omega)
    have HR9 := Lib.hid hR9
    have r9 := Lib.cell_of_heap hR9 7
    have f9 := Lib.frozen_of_heap hR9 7
    have HG9 := Lib.hid hgrow9
    have HO9 := Lib.hid hown9
    clear hR9 hgrow9 hown9 hat9
    refine take_op (i := 24) (d := 59) (op := Op.nilCheck (Operand.tmp 35)) (ty := 0) (v := (.pointer (some ⟨RB, 2, none⟩))) (by kernel_rfl) (by kernel_rfl) (by kernel_rfl) (by kernel_rfl) (by kernel_rfl) (fun _ _ _ h => h) (fun wS hS => by clear hS; go_simp) hHeld ?_
    simp only [Act.put, List.setIfInBounds_toArray, List.set_cons_zero, List.set_cons_succ]
    refine take_op (i := 25) (d := 60) (op := Op.fieldAddr 28 (Operand.tmp 59) 2) (ty := 0) (v := (.pointer (some ⟨RB, 7, none⟩))) (by kernel_rfl) (by kernel_rfl) (by kernel_rfl) (by kernel_rfl) (by kernel_rfl) (fun _ _ _ h => h) (fun wS hS => by clear hS; go_simp) hHeld ?_
    simp only [Act.put, List.setIfInBounds_toArray, List.set_cons_zero, List.set_cons_succ]
    refine wpAnyH_ready (rs := [26]) (by kernel_rfl) (by simp) ?_
    refine AllReadyH.cons rfl (fun K hK => ?_) AllReadyH.nil
    go_simp
    refine hK.out _ _ ⟨(Below.heap_setCell w9 ⟨RB, 7, none⟩ _ _ mw).trans hHeld.1, (Below.heap_setCell w9 ⟨RB, 7, none⟩ _ _ mc).trans hHeld.2.1, (Below.heap_setCell w9 ⟨RB, 7, none⟩ _ _ ml).trans hHeld.2.2⟩ (fun _ => ?_)
    clear hK K
    refine wpAnyH_done (by kernel_rfl) ?_ _
    go_wp2
    go_end0
    refine ⟨rfl, ⟨_, _, _, heap_setCell_same _ _ 7 _ _ (.slice (some ⟨g9, 0, none⟩) (m.chars.length + 1) cap9) HR9.out, ?_, ?_, ?_⟩, ?_, ?_⟩
    · refine OwnR.set7 ?_ (Nat.lt_succ_self _)
      unfold OwnR
      rw [show (Mt.add m (.char c x h d)).chars = m.chars ++ [⟨c, x, h, d⟩] from rfl, List.length_append, List.flatMap_append]
      exact HO9.out
    · exact OwnR.set7 (World.ownsRow.kept (H2.out.mono HBa.out) HG9.out (own_apart (H2.out.mono HBa.out) HOw.out (by decide))) (Nat.lt_succ_self _)
    · exact OwnR.set7 (World.ownsRow.kept (H3.out.mono HBa.out) HG9.out (own_apart (H3.out.mono HBa.out) HOw.out (by decide))) (Nat.lt_succ_self _)
    · refine KeptT.set (KeptT.trans (KeptT.below (below_step HB1.out HBa.out)) (fun b c T fr hb q1 q2 q3 q4 => ?_)) HH.out
      exact obj_far hb HG9.out (own_off7 HOw.out hb q2)
    · refine (Below.grown ((below_step HB1.out HBa.out).mono (Nat.le_of_lt hlt)) HG9.out ?_ (fun q hq => by have := (HV.out q hq).1; omega)).setCell (p := ⟨RB, 7, none⟩) (Nat.le_refl _) _
      omega
set_option maxHeartbeats 8000000 in
set_option maxRecDepth 100000 in
theorem addTo_kern (RB : Nat) (i last : Int) (m : Mt.Tab) (a b x : Int) (cv lv : Value) (w : World) (hr : ReaderIs w RB i last m) (hc : OwnI .i32 21 (RB + 1) cv [a, b] w) (hl : OwnI .i64 2 (RB + 1) lv [x] w) (hlen : m.chars.length + m.kerns.length + m.ligs.length ≤ 1073741824) :
    Calls Tryz.prog 49 #[.agg #[.int .i64 3, cv, lv], .pointer (some ⟨RB, 2, none⟩)] w (AddPost RB i last (Mt.add m (.kern a b x)) w) := by
  obtain ⟨tc, tk, tl, hh, h1, h2, h3⟩ := hr
  have hlt := lt_of_obj hh
  have hca := hc.at
  have hla := hl.at
  obtain ⟨bc, oc, dc, ec, rc⟩ := hca.2.2 (by simp)
  have hbc : RB + 1 ≤ bc := (World.ownsRow.lt hc bc (by rw [ec]; rfl)).1
  subst ec
  have x0 : w.cell? ⟨bc, oc, none⟩ = some (.int .i32 a) := rc 0 a rfl
  have x1 : w.cell? ⟨bc, oc + 1, none⟩ = some (.int .i32 b) := rc 1 b rfl
  obtain ⟨bl, ol, dl, el, rl⟩ := hla.2.2 (by simp)
  have hbl : RB + 1 ≤ bl := (World.ownsRow.lt hl bl (by rw [el]; rfl)).1
  subst el
  have u0 : w.cell? ⟨bl, ol, none⟩ = some (.int .i64 x) := rl 0 x rfl
  simp only [List.length_cons, List.length_nil, Nat.zero_add] at *
  have HRo := Lib.hid (obj_kept (below_alloc w (.cells #[.int .i64 3, .slice (some ⟨bc, oc, none⟩) 2 dc, .slice (some ⟨bl, ol, none⟩) 1 dl] 89)) hh)
  have H1 := Lib.hid (h1.mono (below_alloc w (.cells #[.int .i64 3, .slice (some ⟨bc, oc, none⟩) 2 dc, .slice (some ⟨bl, ol, none⟩) 1 dl] 89)))
  have H2 := Lib.hid (h2.mono (below_alloc w (.cells #[.int .i64 3, .slice (some ⟨bc, oc, none⟩) 2 dc, .slice (some ⟨bl, ol, none⟩) 1 dl] 89)))
  have H3 := Lib.hid (h3.mono (below_alloc w (.cells #[.int .i64 3, .slice (some ⟨bc, oc, none⟩) 2 dc, .slice (some ⟨bl, ol, none⟩) 1 dl] 89)))
  have HH := Lib.hid hh
  obtain ⟨W1, hW1⟩ : ∃ W1, W1 = w.alloc (.cells #[.int .i64 3, .slice (some ⟨bc, oc, none⟩) 2 dc, .slice (some ⟨bl, ol, none⟩) 1 dl] 89) := ⟨_, rfl⟩
  have hs1 : W1.heap.size = w.heap.size + 1 := by rw [hW1, World.size_alloc]
  have yc : W1.cell? ⟨w.heap.size, 1, none⟩ = some (.slice (some ⟨bc, oc, none⟩) 2 dc) := by rw [hW1]; exact cell_lay w _ _ 1 _ rfl
  have yl : W1.cell? ⟨w.heap.size, 2, none⟩ = some (.slice (some ⟨bl, ol, none⟩) 1 dl) := by rw [hW1]; exact cell_lay w _ _ 2 _ rfl
  have c0 : W1.cell? ⟨bc, oc, none⟩ = some (.int .i32 a) := by rw [hW1]; exact cell_below (below_alloc _ _) x0
  have c1 : W1.cell? ⟨bc, oc + 1, none⟩ = some (.int .i32 b) := by rw [hW1]; exact cell_below (below_alloc _ _) x1
  have l0 : W1.cell? ⟨bl, ol, none⟩ = some (.int .i64 x) := by rw [hW1]; exact cell_below (below_alloc _ _) u0
  rw [← hW1] at HRo H1 H2 H3
  have HB1 := Lib.hid (show Below w.heap.size w W1 by rw [hW1]; exact below_alloc _ _)
  clear hh h1 h2 h3 hca rc  hla rl  x0 x1 u0
  obtain ⟨i0, hi, hz0, hz1, hz2⟩ := info_parts infoKrn
  have hbw : W1.heap[w.heap.size]? = some (.cells #[.int .i64 3, .slice (some ⟨bc, oc, none⟩) 2 dc, .slice (some ⟨bl, ol, none⟩) 1 dl] 89 (0, 0)) := by rw [hW1]; exact obj_new w _ rfl _ _
  have zw : w.heap.size < W1.heap.size := by rw [hs1]; exact Nat.lt_succ_self _
  have nw : some w.heap.size ≠ tk.ownBlock := own_off7 H2.out hbw (by decide)
  have hcw := hc.mono7 (show Below w.heap.size w W1 from HB1.out)
  have nc : some bc ≠ tk.ownBlock := own_ne_i hcw H2.out (by decide)
  have zc : bc < W1.heap.size := (World.ownsRow.lt hcw bc rfl).2
  have hlw := hl.mono7 (show Below w.heap.size w W1 from HB1.out)
  have nl : some bl ≠ tk.ownBlock := own_ne_i hlw H2.out (by decide)
  have zl : bl < W1.heap.size := (World.ownsRow.lt hlw bl rfl).2
  have mw : w.heap.size ≠ RB := Nat.ne_of_gt hlt
  have mc : bc ≠ RB := by omega
  have ml : bl ≠ RB := by omega
  obtain ⟨W2, hW2⟩ : ∃ W2, W2 = W1.drew := ⟨_, rfl⟩
  obtain ⟨W3, hW3⟩ : ∃ W3, W3 = W2.alloc (.cells #[.int .i32 a, .int .i32 b, .int .i64 x] 52) := ⟨_, rfl⟩
  have hB2 : Below W1.heap.size W1 W2 := by rw [hW2]; exact below_drew1' _
  have hB3 : Below W2.heap.size W2 W3 := by rw [hW3]; exact below_alloc _ _
  have hs2 : W2.heap.size = W1.heap.size := by rw [hW2]; rfl
  have HBa := Lib.hid (below_step hB2 hB3)
  have r2 : W2.cell? ⟨RB, 8, none⟩ = some tk := Lib.cell_of_heap (obj_kept hB2 HRo.out) 8
  have r3 : W3.cell? ⟨RB, 8, none⟩ = some tk := Lib.cell_of_heap (obj_kept HBa.out HRo.out) 8
  have hown : World.ownsRow W3 (RB + 1) 52 3 tk m.kerns.length (m.kerns.flatMap knC) := H2.out.mono HBa.out
  have HOw := Lib.hid hown
  have HV := Lib.hid (World.ownsRow.lt hown)
  have HH3 := Lib.hid (obj_kept HBa.out HRo.out)
  have q0 : ∀ j u, [.int .i32 a, .int .i32 b, .int .i64 x][j]? = some u → W3.cell? ((⟨W2.heap.size, 0, none⟩ : Addr).add j) = some u := fun j u hj => by
    rw [add_none, Nat.zero_add, hW3]
    exact cell_lay W2 _ _ j u (by simpa using hj)
  have hb3 : RB + 1 ≤ W3.heap.size := by have := HBa.out.size; omega
  have HW3 := Lib.hid hW3
  have S3 : (fun w' : World => w'.heap[w.heap.size]? = W1.heap[w.heap.size]? ∧ w'.heap[bc]? = W1.heap[bc]? ∧ w'.heap[bl]? = W1.heap[bl]?) W2 → (fun w' : World => w'.heap[w.heap.size]? = W1.heap[w.heap.size]? ∧ w'.heap[bc]? = W1.heap[bc]? ∧ w'.heap[bl]? = W1.heap[bl]?) W3 := fun hHeld => ⟨(hB3.block _ (by rw [hs2]; exact zw)).trans hHeld.1, (hB3.block _ (by rw [hs2]; exact zc)).trans hHeld.2.1, (hB3.block _ (by rw [hs2]; exact zl)).trans hHeld.2.2⟩
  clear hown hbw hB2 hB3 hs2 HRo hs1 hW3 hc hl hcw hlw
  go_enter Tryz.func49, Tryz.ntmps49
  go_upto_region 9 with fail
  rw [← hW1]
  clear hW1
  refine wp_region_held_drew (S := fun w' : World => w'.heap[w.heap.size]? = W1.heap[w.heap.size]? ∧ w'.heap[bc]? = W1.heap[bc]? ∧ w'.heap[bl]? = W1.heap[bl]?) (by kernel_rfl) ?_ (fun hHeld => ?_)
  · exact ⟨rfl, rfl, rfl⟩
  rw [← hW2] at hHeld ⊢
  clear hW2
  refine take_op (i := 0) (d := 63) (op := Op.move (Operand.tmp 1)) (ty := 104) (v := (.pointer (some ⟨RB, 2, none⟩))) (by kernel_rfl) (by kernel_rfl) (by kernel_rfl) (by kernel_rfl) (by kernel_rfl) (fun _ _ _ h => h) (fun wS hS => by clear hS; go_simp) hHeld ?_
  simp only [Act.put, List.setIfInBounds_toArray, List.set_cons_zero, List.set_cons_succ]
  refine take_op (i := 1) (d := 64) (op := Op.move (Operand.tmp 1)) (ty := 104) (v := (.pointer (some ⟨RB, 2, none⟩))) (by kernel_rfl) (by kernel_rfl) (by kernel_rfl) (by kernel_rfl) (by kernel_rfl) (fun _ _ _ h => h) (fun wS hS => by clear hS; go_simp) hHeld ?_
  simp only [Act.put, List.setIfInBounds_toArray, List.set_cons_zero, List.set_cons_succ]
  refine take_op (i := 2) (d := 65) (op := Op.nilCheck (Operand.tmp 64)) (ty := 0) (v := (.pointer (some ⟨RB, 2, none⟩))) (by kernel_rfl) (by kernel_rfl) (by kernel_rfl) (by kernel_rfl) (by kernel_rfl) (fun _ _ _ h => h) (fun wS hS => by clear hS; go_simp) hHeld ?_
  simp only [Act.put, List.setIfInBounds_toArray, List.set_cons_zero, List.set_cons_succ]
  refine take_op (i := 3) (d := 66) (op := Op.fieldAddr 28 (Operand.tmp 65) 3) (ty := 0) (v := (.pointer (some ⟨RB, 8, none⟩))) (by kernel_rfl) (by kernel_rfl) (by kernel_rfl) (by kernel_rfl) (by kernel_rfl) (fun _ _ _ h => h) (fun wS hS => by clear hS; go_simp) hHeld ?_
  simp only [Act.put, List.setIfInBounds_toArray, List.set_cons_zero, List.set_cons_succ]
  refine take_op (i := 5) (d := 68) (op := Op.fieldAddr 89 (Operand.tmp 2) 1) (ty := 0) (v := (.pointer (some ⟨w.heap.size, 1, none⟩))) (by kernel_rfl) (by kernel_rfl) (by kernel_rfl) (by kernel_rfl) (by kernel_rfl) (fun _ _ _ h => h) (fun wS hS => by clear hS; go_simp) hHeld ?_
  simp only [Act.put, List.setIfInBounds_toArray, List.set_cons_zero, List.set_cons_succ]
  refine take_op (i := 6) (d := 69) (op := Op.load 75 (Operand.tmp 68)) (ty := 75) (v := (.slice (some ⟨bc, oc, none⟩) 2 dc)) (by kernel_rfl) (by kernel_rfl) (by kernel_rfl) (by kernel_rfl) (by kernel_rfl) (fun _ _ _ h => h) (fun wS hS => by (try dsimp only at hS); have e0 := (World.cell?_of_block (a := ⟨w.heap.size, 1, none⟩) hS.1).trans yc; have e1 := (World.cell?_of_block (a := ⟨w.heap.size, 2, none⟩) hS.1).trans yl; have ec0 := (World.cell?_of_block (a := ⟨bc, oc, none⟩) hS.2.1).trans c0; have ec1 := (World.cell?_of_block (a := ⟨bc, oc + 1, none⟩) hS.2.1).trans c1; have el0 := (World.cell?_of_block (a := ⟨bl, ol, none⟩) hS.2.2).trans l0; clear hS; go_simp) hHeld ?_
  simp only [Act.put, List.setIfInBounds_toArray, List.set_cons_zero, List.set_cons_succ]
  refine take_op (i := 7) (d := 70) (op := Op.indexAddr 75 (Operand.tmp 69) (Operand.const (Value.int IntKind.i64 0))) (ty := 0) (v := (.pointer (some ⟨bc, oc, none⟩))) (by kernel_rfl) (by kernel_rfl) (by kernel_rfl) (by kernel_rfl) (by kernel_rfl) (fun _ _ _ h => h) (fun wS hS => by clear hS; go_simp) hHeld ?_
  simp only [Act.put, List.setIfInBounds_toArray, List.set_cons_zero, List.set_cons_succ]
  refine take_op (i := 8) (d := 71) (op := Op.load 21 (Operand.tmp 70)) (ty := 21) (v := (.int .i32 a)) (by kernel_rfl) (by kernel_rfl) (by kernel_rfl) (by kernel_rfl) (by kernel_rfl) (fun _ _ _ h => h) (fun wS hS => by (try dsimp only at hS); have e0 := (World.cell?_of_block (a := ⟨w.heap.size, 1, none⟩) hS.1).trans yc; have e1 := (World.cell?_of_block (a := ⟨w.heap.size, 2, none⟩) hS.1).trans yl; have ec0 := (World.cell?_of_block (a := ⟨bc, oc, none⟩) hS.2.1).trans c0; have ec1 := (World.cell?_of_block (a := ⟨bc, oc + 1, none⟩) hS.2.1).trans c1; have el0 := (World.cell?_of_block (a := ⟨bl, ol, none⟩) hS.2.2).trans l0; clear hS; go_simp) hHeld ?_
  simp only [Act.put, List.setIfInBounds_toArray, List.set_cons_zero, List.set_cons_succ]
  refine take_op (i := 9) (d := 72) (op := Op.fieldAddr 89 (Operand.tmp 2) 1) (ty := 0) (v := (.pointer (some ⟨w.heap.size, 1, none⟩))) (by kernel_rfl) (by kernel_rfl) (by kernel_rfl) (by kernel_rfl) (by kernel_rfl) (fun _ _ _ h => h) (fun wS hS => by clear hS; go_simp) hHeld ?_
  simp only [Act.put, List.setIfInBounds_toArray, List.set_cons_zero, List.set_cons_succ]
  refine take_op (i := 10) (d := 73) (op := Op.load 75 (Operand.tmp 72)) (ty := 75) (v := (.slice (some ⟨bc, oc, none⟩) 2 dc)) (by kernel_rfl) (by kernel_rfl) (by kernel_rfl) (by kernel_rfl) (by kernel_rfl) (fun _ _ _ h => h) (fun wS hS => by (try dsimp only at hS); have e0 := (World.cell?_of_block (a := ⟨w.heap.size, 1, none⟩) hS.1).trans yc; have e1 := (World.cell?_of_block (a := ⟨w.heap.size, 2, none⟩) hS.1).trans yl; have ec0 := (World.cell?_of_block (a := ⟨bc, oc, none⟩) hS.2.1).trans c0; have ec1 := (World.cell?_of_block (a := ⟨bc, oc + 1, none⟩) hS.2.1).trans c1; have el0 := (World.cell?_of_block (a := ⟨bl, ol, none⟩) hS.2.2).trans l0; clear hS; go_simp) hHeld ?_
  simp only [Act.put, List.setIfInBounds_toArray, List.set_cons_zero, List.set_cons_succ]
  refine take_op (i := 11) (d := 74) (op := Op.indexAddr 75 (Operand.tmp 73) (Operand.const (Value.int IntKind.i64 1))) (ty := 0) (v := (.pointer (some ⟨bc, oc + 1, none⟩))) (by kernel_rfl) (by kernel_rfl) (by kernel_rfl) (by kernel_rfl) (by kernel_rfl) (fun _ _ _ h => h) (fun wS hS => by clear hS; go_simp) hHeld ?_
  simp only [Act.put, List.setIfInBounds_toArray, List.set_cons_zero, List.set_cons_succ]
  refine take_op (i := 12) (d := 75) (op := Op.load 21 (Operand.tmp 74)) (ty := 21) (v := (.int .i32 b)) (by kernel_rfl) (by kernel_rfl) (by kernel_rfl) (by kernel_rfl) (by kernel_rfl) (fun _ _ _ h => h) (fun wS hS => by (try dsimp only at hS); have e0 := (World.cell?_of_block (a := ⟨w.heap.size, 1, none⟩) hS.1).trans yc; have e1 := (World.cell?_of_block (a := ⟨w.heap.size, 2, none⟩) hS.1).trans yl; have ec0 := (World.cell?_of_block (a := ⟨bc, oc, none⟩) hS.2.1).trans c0; have ec1 := (World.cell?_of_block (a := ⟨bc, oc + 1, none⟩) hS.2.1).trans c1; have el0 := (World.cell?_of_block (a := ⟨bl, ol, none⟩) hS.2.2).trans l0; clear hS; go_simp) hHeld ?_
  simp only [Act.put, List.setIfInBounds_toArray, List.set_cons_zero, List.set_cons_succ]
  refine take_op (i := 13) (d := 76) (op := Op.fieldAddr 89 (Operand.tmp 2) 2) (ty := 0) (v := (.pointer (some ⟨w.heap.size, 2, none⟩))) (by kernel_rfl) (by kernel_rfl) (by kernel_rfl) (by kernel_rfl) (by kernel_rfl) (fun _ _ _ h => h) (fun wS hS => by clear hS; go_simp) hHeld ?_
  simp only [Act.put, List.setIfInBounds_toArray, List.set_cons_zero, List.set_cons_succ]
  refine take_op (i := 14) (d := 77) (op := Op.load 87 (Operand.tmp 76)) (ty := 87) (v := (.slice (some ⟨bl, ol, none⟩) 1 dl)) (by kernel_rfl) (by kernel_rfl) (by kernel_rfl) (by kernel_rfl) (by kernel_rfl) (fun _ _ _ h => h) (fun wS hS => by (try dsimp only at hS); have e0 := (World.cell?_of_block (a := ⟨w.heap.size, 1, none⟩) hS.1).trans yc; have e1 := (World.cell?_of_block (a := ⟨w.heap.size, 2, none⟩) hS.1).trans yl; have ec0 := (World.cell?_of_block (a := ⟨bc, oc, none⟩) hS.2.1).trans c0; have ec1 := (World.cell?_of_block (a := ⟨bc, oc + 1, none⟩) hS.2.1).trans c1; have el0 := (World.cell?_of_block (a := ⟨bl, ol, none⟩) hS.2.2).trans l0; clear hS; go_simp) hHeld ?_
  simp only [Act.put, List.setIfInBounds_toArray, List.set_cons_zero, List.set_cons_succ]
  refine take_op (i := 15) (d := 78) (op := Op.indexAddr 87 (Operand.tmp 77) (Operand.const (Value.int IntKind.i64 0))) (ty := 0) (v := (.pointer (some ⟨bl, ol, none⟩))) (by kernel_rfl) (by kernel_rfl) (by kernel_rfl) (by kernel_rfl) (by kernel_rfl) (fun _ _ _ h => h) (fun wS hS => by clear hS; go_simp) hHeld ?_
  simp only [Act.put, List.setIfInBounds_toArray, List.set_cons_zero, List.set_cons_succ]
  refine take_op (i := 16) (d := 79) (op := Op.load 2 (Operand.tmp 78)) (ty := 2) (v := (.int .i64 x)) (by kernel_rfl) (by kernel_rfl) (by kernel_rfl) (by kernel_rfl) (by kernel_rfl) (fun _ _ _ h => h) (fun wS hS => by (try dsimp only at hS); have e0 := (World.cell?_of_block (a := ⟨w.heap.size, 1, none⟩) hS.1).trans yc; have e1 := (World.cell?_of_block (a := ⟨w.heap.size, 2, none⟩) hS.1).trans yl; have ec0 := (World.cell?_of_block (a := ⟨bc, oc, none⟩) hS.2.1).trans c0; have ec1 := (World.cell?_of_block (a := ⟨bc, oc + 1, none⟩) hS.2.1).trans c1; have el0 := (World.cell?_of_block (a := ⟨bl, ol, none⟩) hS.2.2).trans l0; clear hS; go_simp) hHeld ?_
  simp only [Act.put, List.setIfInBounds_toArray, List.set_cons_zero, List.set_cons_succ]
  refine take_op (i := 17) (d := 80) (op := Op.build 52 #[(0, Operand.tmp 71), (1, Operand.tmp 75), (2, Operand.tmp 79)]) (ty := 52) (v := (.agg #[.int .i32 a, .int .i32 b, .int .i64 x])) (by kernel_rfl) (by kernel_rfl) (by kernel_rfl) (by kernel_rfl) (by kernel_rfl) (fun _ _ _ h => h) (fun wS hS => by clear hS; go_simp) hHeld ?_
  simp only [Act.put, List.setIfInBounds_toArray, List.set_cons_zero, List.set_cons_succ]
  refine wpAnyH_ready (rs := [4, 18]) (by kernel_rfl) (by simp) ?_
  refine AllReadyH.cons rfl (fun K hK => ?_) (AllReadyH.cons rfl (fun K hK => ?_) AllReadyH.nil)
  · go_simp
    refine hK.out _ _ hHeld (fun _ => ?_)
    clear hK K
    refine wpAnyH_ready (rs := [18]) (by kernel_rfl) (by simp) ?_
    refine AllReadyH.cons rfl (fun K hK => ?_) AllReadyH.nil
    go_simp
    rw [← HW3.out]
    refine hK.out _ _ (S3 hHeld) (fun hHeld => ?_)
    clear hK K
    refine wpAnyH_ready (rs := [19]) (by kernel_rfl) (by simp) ?_
    refine AllReadyH.cons rfl (fun K hK => ?_) AllReadyH.nil
    refine step_append_lies _ (by rfl) _ _ _ (by rfl) (RB + 1) 52 i0 _ 3 16 Tryz.underlying25 hi hz0 hz1 hz2 rfl (by decide) tk _ _ (by rfl) HOw.out ⟨W2.heap.size, 0, none⟩ 1 1 [.int .i32 a, .int .i32 b, .int .i64 x] (by rfl) (by rfl) q0 (fun z hz => by simp at hz; rcases hz with rfl | rfl | rfl <;> rfl) (by omega) (by unfold maxLen; omega) (by omega) hb3 _ rfl ?_
    intro g9 cap9 w9 hown9 hgrow9 hat9 hlt9
    refine hK.out _ _ ⟨(hgrow9.block _ (Nat.lt_of_lt_of_le zw HBa.out.size) nw).trans hHeld.1, (hgrow9.block _ (Nat.lt_of_lt_of_le zc HBa.out.size) nc).trans hHeld.2.1, (hgrow9.block _ (Nat.lt_of_lt_of_le zl HBa.out.size) nl).trans hHeld.2.2⟩ (fun hHeld => ?_)
    clear hK K
    simp only [Act.put, List.setIfInBounds_toArray, List.set_cons_zero, List.set_cons_succ]
    have hR9 : w9.heap[RB]? = _ := obj_far HH3.out hgrow9 (fun hq => by have := (HV.out _ hq.symm).1; omega)
    have HR9 := Lib.hid hR9
    have r9 := Lib.cell_of_heap hR9 8
    have f9 := Lib.frozen_of_heap hR9 8
    have HG9 := Lib.hid hgrow9
    have HO9 := Lib.hid hown9
    clear hR9 hgrow9 hown9 hat9
    refine take_op (i := 20) (d := 83) (op := Op.nilCheck (Operand.tmp 63)) (ty := 0) (v := (.pointer (some ⟨RB, 2, none⟩))) (by kernel_rfl) (by kernel_rfl) (by kernel_rfl) (by kernel_rfl) (by kernel_rfl) (fun _ _ _ h => h) (fun wS hS => by clear hS; go_simp) hHeld ?_
    simp only [Act.put, List.setIfInBounds_toArray, List.set_cons_zero, List.set_cons_succ]
    refine take_op (i := 21) (d := 84) (op := Op.fieldAddr 28 (Operand.tmp 83) 3) (ty := 0) (v := (.pointer (some ⟨RB, 8, none⟩))) (by kernel_rfl) (by kernel_rfl) (by kernel_rfl) (by kernel_rfl) (by kernel_rfl) (fun _ _ _ h => h) (fun wS hS => by clear hS; go_simp) hHeld ?_
    simp only [Act.put, List.setIfInBounds_toArray, List.set_cons_zero, List.set_cons_succ]
    refine wpAnyH_ready (rs := [22]) (by kernel_rfl) (by simp) ?_
    refine AllReadyH.cons rfl (fun K hK => ?_) AllReadyH.nil
    go_simp
    refine hK.out _ _ ⟨(Below.heap_setCell w9 ⟨RB, 8, none⟩ _ _ mw).trans hHeld.1, (Below.heap_setCell w9 ⟨RB, 8, none⟩ _ _ mc).trans hHeld.2.1, (Below.heap_setCell w9 ⟨RB, 8, none⟩ _ _ ml).trans hHeld.2.2⟩ (fun _ => ?_)
    clear hK K
    refine wpAnyH_done (by kernel_rfl) ?_ _
    go_wp2
    go_end0
    refine ⟨rfl, ⟨_, _, _, heap_setCell_same _ _ 8 _ _ (.slice (some ⟨g9, 0, none⟩) (m.kerns.length + 1) cap9) HR9.out, ?_, ?_, ?_⟩, ?_, ?_⟩
    · exact OwnR.set7 (World.ownsRow.kept (H1.out.mono HBa.out) HG9.out (own_apart (H1.out.mono HBa.out) HOw.out (by decide))) (Nat.lt_succ_self _)
    · refine OwnR.set7 ?_ (Nat.lt_succ_self _)
      unfold OwnR
      rw [show (Mt.add m (.kern a b x)).kerns = m.kerns ++ [⟨a, b, x⟩] from rfl, List.length_append, List.flatMap_append]
      exact HO9.out
    · exact OwnR.set7 (World.ownsRow.kept (H3.out.mono HBa.out) HG9.out (own_apart (H3.out.mono HBa.out) HOw.out (by decide))) (Nat.lt_succ_self _)
    · refine KeptT.set (KeptT.trans (KeptT.below (below_step HB1.out HBa.out)) (fun b c T fr hb q1 q2 q3 q4 => ?_)) HH.out
      exact obj_far hb HG9.out (own_off7 HOw.out hb q3)
    · refine (Below.grown ((below_step HB1.out HBa.out).mono (Nat.le_of_lt hlt)) HG9.out ?_ (fun q hq => by have := (HV.out q hq).1; omega)).setCell (p := ⟨RB, 8, none⟩) (Nat.le_refl _) _
      omega
  · go_simp
    rw [← HW3.out]
    refine hK.out _ _ (S3 hHeld) (fun hHeld => ?_)
    clear hK K
    refine wpAnyH_ready (rs := [4]) (by kernel_rfl) (by simp) ?_
    refine AllReadyH.cons rfl (fun K hK => ?_) AllReadyH.nil
    go_simp
    refine hK.out _ _ hHeld (fun _ => ?_)
    clear hK K
    refine wpAnyH_ready (rs := [19]) (by kernel_rfl) (by simp) ?_
    refine AllReadyH.cons rfl (fun K hK => ?_) AllReadyH.nil
    refine step_append_lies _ (by rfl) _ _ _ (by rfl) (RB + 1) 52 i0 _ 3 16 Tryz.underlying25 hi hz0 hz1 hz2 rfl (by decide) tk _ _ (by rfl) HOw.out ⟨W2.heap.size, 0, none⟩ 1 1 [.int .i32 a, .int .i32 b, .int .i64 x] (by rfl) (by rfl) q0 (fun z hz => by simp at hz; rcases hz with rfl | rfl | rfl <;> rfl) (by omega) (by unfold maxLen; omega) (by omega) hb3 _ rfl ?_
    intro g9 cap9 w9 hown9 hgrow9 hat9 hlt9
    refine hK.out _ _ ⟨(hgrow9.block _ (Nat.lt_of_lt_of_le zw HBa.out.size) nw).trans hHeld.1, (hgrow9.block _ (Nat.lt_of_lt_of_le zc HBa.out.size) nc).trans hHeld.2.1, (hgrow9.block _ (Nat.lt_of_lt_of_le zl HBa.out.size) nl).trans hHeld.2.2⟩ (fun hHeld => ?_)
    clear hK K
    simp only [Act.put, List.setIfInBounds_toArray, List.set_cons_zero, List.set_cons_succ]
    have hR9 : w9.heap[RB]? = _ := obj_far HH3.out hgrow9 (fun hq => by have := (HV.out _ hq.symm).1; omega)
    have HR9 := Lib.hid hR9
    have r9 := Lib.cell_of_heap hR9 8
    have f9 := Lib.frozen_of_heap hR9 8
    have HG9 := Lib.hid hgrow9
    have HO9 := Lib.hid hown9
    clear hR9 hgrow9 hown9 hat9
    refine take_op (i := 20) (d := 83) (op := Op.nilCheck (Operand.tmp 63)) (ty := 0) (v := (.pointer (some ⟨RB, 2, none⟩))) (by kernel_rfl) (by kernel_rfl) (by kernel_rfl) (by kernel_rfl) (by kernel_rfl) (fun _ _ _ h => h) (fun wS hS => by clear hS; go_simp) hHeld ?_
    simp only [Act.put, List.setIfInBounds_toArray, List.set_cons_zero, List.set_cons_succ]
    refine take_op (i := 21) (d := 84) (op := Op.fieldAddr 28 (Operand.tmp 83) 3) (ty := 0) (v := (.pointer (some ⟨RB, 8, none⟩))) (by kernel_rfl) (by kernel_rfl) (by kernel_rfl) (by kernel_rfl) (by kernel_rfl) (fun _ _ _ h => h) (fun wS hS => by clear hS; go_simp) hHeld ?_
    simp only [Act.put, List.setIfInBounds_toArray, List.set_cons_zero, List.set_cons_succ]
    refine wpAnyH_ready (rs := [22]) (by kernel_rfl) (by simp) ?_
    refine AllReadyH.cons rfl (fun K hK => ?_) AllReadyH.nil
    go_simp
    refine hK.out _ _ ⟨(Below.heap_setCell w9 ⟨RB, 8, none⟩ _ _ mw).trans hHeld.1, (Below.heap_setCell w9 ⟨RB, 8, none⟩ _ _ mc).trans hHeld.2.1, (Below.heap_setCell w9 ⟨RB, 8, none⟩ _ _ ml).trans hHeld.2.2⟩ (fun _ => ?_)
    clear hK K
    refine wpAnyH_done (by kernel_rfl) ?_ _
    go_wp2
    go_end0
    refine ⟨rfl, ⟨_, _, _, heap_setCell_same _ _ 8 _ _ (.slice (some ⟨g9, 0, none⟩) (m.kerns.length + 1) cap9) HR9.out, ?_, ?_, ?_⟩, ?_, ?_⟩
    · exact OwnR.set7 (World.ownsRow.kept (H1.out.mono HBa.out) HG9.out (own_apart (H1.out.mono HBa.out) HOw.out (by decide))) (Nat.lt_succ_self _)
    · refine OwnR.set7 ?_ (Nat.lt_succ_self _)
      unfold OwnR
      rw [show (Mt.add m (.kern a b x)).kerns = m.kerns ++ [⟨a, b, x⟩] from rfl, List.length_append, List.flatMap_append]
      exact HO9.out
    · exact OwnR.set7 (World.ownsRow.kept (H3.out.mono HBa.out) HG9.out (own_apart (H3.out.mono HBa.out) HOw.out (by decide))) (Nat.lt_succ_self _)
    · refine KeptT.set (KeptT.trans (KeptT.below (below_step HB1.out HBa.out)) (fun b c T fr hb q1 q2 q3 q4 => ?_)) HH.out
      exact obj_far hb HG9.out (own_off7 HOw.out hb q3)
    · refine (Below.grown ((below_step HB1.out HBa.out).mono (Nat.le_of_lt hlt)) HG9.out ?_ (fun q hq => by have := (HV.out q hq).1; omega)).setCell (p := ⟨RB, 8, none⟩) (Nat.le_refl _) _
      omega
set_option maxHeartbeats 8000000 in
set_option maxRecDepth 100000 in
theorem addTo_lig (RB : Nat) (i last : Int) (m : Mt.Tab) (a b t : Int) (cv lv : Value) (w : World) (hr : ReaderIs w RB i last m) (hc : OwnI .i32 21 (RB + 1) cv [a, b, t] w) (hl : OwnI .i64 2 (RB + 1) lv [] w) (hlen : m.chars.length + m.kerns.length + m.ligs.length ≤ 1073741824) :
    Calls Tryz.prog 49 #[.agg #[.int .i64 4, cv, lv], .pointer (some ⟨RB, 2, none⟩)] w (AddPost RB i last (Mt.add m (.lig a b t)) w) := by
  obtain ⟨tc, tk, tl, hh, h1, h2, h3⟩ := hr
  have hlt := lt_of_obj hh
  have hca := hc.at
  have hla := hl.at
  obtain ⟨bc, oc, dc, ec, rc⟩ := hca.2.2 (by simp)
  have hbc : RB + 1 ≤ bc := (World.ownsRow.lt hc bc (by rw [ec]; rfl)).1
  subst ec
  have x0 : w.cell? ⟨bc, oc, none⟩ = some (.int .i32 a) := rc 0 a rfl
  have x1 : w.cell? ⟨bc, oc + 1, none⟩ = some (.int .i32 b) := rc 1 b rfl
  have x2 : w.cell? ⟨bc, oc + 2, none⟩ = some (.int .i32 t) := rc 2 t rfl
  obtain ⟨⟨pw, qw, el, _⟩, _, _⟩ := hla
  subst el
  simp only [List.length_cons, List.length_nil, Nat.zero_add] at *
  have HRo := Lib.hid (obj_kept (below_alloc w (.cells #[.int .i64 4, .slice (some ⟨bc, oc, none⟩) 3 dc, .slice pw 0 qw] 89)) hh)
  have H1 := Lib.hid (h1.mono (below_alloc w (.cells #[.int .i64 4, .slice (some ⟨bc, oc, none⟩) 3 dc, .slice pw 0 qw] 89)))
  have H2 := Lib.hid (h2.mono (below_alloc w (.cells #[.int .i64 4, .slice (some ⟨bc, oc, none⟩) 3 dc, .slice pw 0 qw] 89)))
  have H3 := Lib.hid (h3.mono (below_alloc w (.cells #[.int .i64 4, .slice (some ⟨bc, oc, none⟩) 3 dc, .slice pw 0 qw] 89)))
  have HH := Lib.hid hh
  obtain ⟨W1, hW1⟩ : ∃ W1, W1 = w.alloc (.cells #[.int .i64 4, .slice (some ⟨bc, oc, none⟩) 3 dc, .slice pw 0 qw] 89) := ⟨_, rfl⟩
  have hs1 : W1.heap.size = w.heap.size + 1 := by rw [hW1, World.size_alloc]
  have yc : W1.cell? ⟨w.heap.size, 1, none⟩ = some (.slice (some ⟨bc, oc, none⟩) 3 dc) := by rw [hW1]; exact cell_lay w _ _ 1 _ rfl
  have yl : W1.cell? ⟨w.heap.size, 2, none⟩ = some (.slice pw 0 qw) := by rw [hW1]; exact cell_lay w _ _ 2 _ rfl
  have c0 : W1.cell? ⟨bc, oc, none⟩ = some (.int .i32 a) := by rw [hW1]; exact cell_below (below_alloc _ _) x0
  have c1 : W1.cell? ⟨bc, oc + 1, none⟩ = some (.int .i32 b) := by rw [hW1]; exact cell_below (below_alloc _ _) x1
  have c2 : W1.cell? ⟨bc, oc + 2, none⟩ = some (.int .i32 t) := by rw [hW1]; exact cell_below (below_alloc _ _) x2
  rw [← hW1] at HRo H1 H2 H3
  have HB1 := Lib.hid (show Below w.heap.size w W1 by rw [hW1]; exact below_alloc _ _)
  clear hh h1 h2 h3 hca rc  x0 x1 x2 
  obtain ⟨i0, hi, hz0, hz1, hz2⟩ := info_parts infoLig
  have hbw : W1.heap[w.heap.size]? = some (.cells #[.int .i64 4, .slice (some ⟨bc, oc, none⟩) 3 dc, .slice pw 0 qw] 89 (0, 0)) := by rw [hW1]; exact obj_new w _ rfl _ _
  have zw : w.heap.size < W1.heap.size := by rw [hs1]; exact Nat.lt_succ_self _
  have nw : some w.heap.size ≠ tl.ownBlock := own_off7 H3.out hbw (by decide)
  have hcw := hc.mono7 (show Below w.heap.size w W1 from HB1.out)
  have nc : some bc ≠ tl.ownBlock := own_ne_i hcw H3.out (by decide)
  have zc : bc < W1.heap.size := (World.ownsRow.lt hcw bc rfl).2
  have mw : w.heap.size ≠ RB := Nat.ne_of_gt hlt
  have mc : bc ≠ RB := by omega
  obtain ⟨W2, hW2⟩ : ∃ W2, W2 = W1.drew := ⟨_, rfl⟩
  obtain ⟨W3, hW3⟩ : ∃ W3, W3 = W2.alloc (.cells #[.int .i32 a, .int .i32 b, .int .i32 t] 54) := ⟨_, rfl⟩
  have hB2 : Below W1.heap.size W1 W2 := by rw [hW2]; exact below_drew1' _
  have hB3 : Below W2.heap.size W2 W3 := by rw [hW3]; exact below_alloc _ _
  have hs2 : W2.heap.size = W1.heap.size := by rw [hW2]; rfl
  have HBa := Lib.hid (below_step hB2 hB3)
  have r2 : W2.cell? ⟨RB, 9, none⟩ = some tl := Lib.cell_of_heap (obj_kept hB2 HRo.out) 9
  have r3 : W3.cell? ⟨RB, 9, none⟩ = some tl := Lib.cell_of_heap (obj_kept HBa.out HRo.out) 9
  have hown : World.ownsRow W3 (RB + 1) 54 3 tl m.ligs.length (m.ligs.flatMap lgC) := H3.out.mono HBa.out
  have HOw := Lib.hid hown
  have HV := Lib.hid (World.ownsRow.lt hown)
  have HH3 := Lib.hid (obj_kept HBa.out HRo.out)
  have q0 : ∀ j u, [.int .i32 a, .int .i32 b, .int .i32 t][j]? = some u → W3.cell? ((⟨W2.heap.size, 0, none⟩ : Addr).add j) = some u := fun j u hj => by
    rw [add_none, Nat.zero_add, hW3]
    exact cell_lay W2 _ _ j u (by simpa using hj)
  have hb3 : RB + 1 ≤ W3.heap.size := by have := HBa.out.size; omega
  have HW3 := Lib.hid hW3
  have S3 : (fun w' : World => w'.heap[w.heap.size]? = W1.heap[w.heap.size]? ∧ w'.heap[bc]? = W1.heap[bc]?) W2 → (fun w' : World => w'.heap[w.heap.size]? = W1.heap[w.heap.size]? ∧ w'.heap[bc]? = W1.heap[bc]?) W3 := fun hHeld => ⟨(hB3.block _ (by rw [hs2]; exact zw)).trans hHeld.1, (hB3.block _ (by rw [hs2]; exact zc)).trans hHeld.2⟩
  clear hown hbw hB2 hB3 hs2 HRo hs1 hW3 hc hl hcw
  go_enter Tryz.func49, Tryz.ntmps49
  go_upto_region 11 with fail
  rw [← hW1]
  clear hW1
  refine wp_region_held_drew (S := fun w' : World => w'.heap[w.heap.size]? = W1.heap[w.heap.size]? ∧ w'.heap[bc]? = W1.heap[bc]?) (by kernel_rfl) ?_ (fun hHeld => ?_)
  · exact ⟨rfl, rfl⟩
  rw [← hW2] at hHeld ⊢
  clear hW2
  refine take_op (i := 0) (d := 87) (op := Op.move (Operand.tmp 1)) (ty := 104) (v := (.pointer (some ⟨RB, 2, none⟩))) (by kernel_rfl) (by kernel_rfl) (by kernel_rfl) (by kernel_rfl) (by kernel_rfl) (fun _ _ _ h => h) (fun wS hS => by clear hS; go_simp) hHeld ?_
  simp only [Act.put, List.setIfInBounds_toArray, List.set_cons_zero, List.set_cons_succ]
  refine take_op (i := 1) (d := 88) (op := Op.move (Operand.tmp 1)) (ty := 104) (v := (.pointer (some ⟨RB, 2, none⟩))) (by kernel_rfl) (by kernel_rfl) (by kernel_rfl) (by kernel_rfl) (by kernel_rfl) (fun _ _ _ h => h) (fun wS hS => by clear hS; go_simp) hHeld ?_
  simp only [Act.put, List.setIfInBounds_toArray, List.set_cons_zero, List.set_cons_succ]
  refine take_op (i := 2) (d := 89) (op := Op.nilCheck (Operand.tmp 88)) (ty := 0) (v := (.pointer (some ⟨RB, 2, none⟩))) (by kernel_rfl) (by kernel_rfl) (by kernel_rfl) (by kernel_rfl) (by kernel_rfl) (fun _ _ _ h => h) (fun wS hS => by clear hS; go_simp) hHeld ?_
  simp only [Act.put, List.setIfInBounds_toArray, List.set_cons_zero, List.set_cons_succ]
  refine take_op (i := 3) (d := 90) (op := Op.fieldAddr 28 (Operand.tmp 89) 4) (ty := 0) (v := (.pointer (some ⟨RB, 9, none⟩))) (by kernel_rfl) (by kernel_rfl) (by kernel_rfl) (by kernel_rfl) (by kernel_rfl) (fun _ _ _ h => h) (fun wS hS => by clear hS; go_simp) hHeld ?_
  simp only [Act.put, List.setIfInBounds_toArray, List.set_cons_zero, List.set_cons_succ]
  refine take_op (i := 5) (d := 92) (op := Op.fieldAddr 89 (Operand.tmp 2) 1) (ty := 0) (v := (.pointer (some ⟨w.heap.size, 1, none⟩))) (by kernel_rfl) (by kernel_rfl) (by kernel_rfl) (by kernel_rfl) (by kernel_rfl) (fun _ _ _ h => h) (fun wS hS => by clear hS; go_simp) hHeld ?_
  simp only [Act.put, List.setIfInBounds_toArray, List.set_cons_zero, List.set_cons_succ]
  refine take_op (i := 6) (d := 93) (op := Op.load 75 (Operand.tmp 92)) (ty := 75) (v := (.slice (some ⟨bc, oc, none⟩) 3 dc)) (by kernel_rfl) (by kernel_rfl) (by kernel_rfl) (by kernel_rfl) (by kernel_rfl) (fun _ _ _ h => h) (fun wS hS => by (try dsimp only at hS); have e0 := (World.cell?_of_block (a := ⟨w.heap.size, 1, none⟩) hS.1).trans yc; have ec0 := (World.cell?_of_block (a := ⟨bc, oc, none⟩) hS.2).trans c0; have ec1 := (World.cell?_of_block (a := ⟨bc, oc + 1, none⟩) hS.2).trans c1; have ec2 := (World.cell?_of_block (a := ⟨bc, oc + 2, none⟩) hS.2).trans c2; clear hS; go_simp) hHeld ?_
  simp only [Act.put, List.setIfInBounds_toArray, List.set_cons_zero, List.set_cons_succ]
  refine take_op (i := 7) (d := 94) (op := Op.indexAddr 75 (Operand.tmp 93) (Operand.const (Value.int IntKind.i64 0))) (ty := 0) (v := (.pointer (some ⟨bc, oc, none⟩))) (by kernel_rfl) (by kernel_rfl) (by kernel_rfl) (by kernel_rfl) (by kernel_rfl) (fun _ _ _ h => h) (fun wS hS => by clear hS; go_simp) hHeld ?_
  simp only [Act.put, List.setIfInBounds_toArray, List.set_cons_zero, List.set_cons_succ]
  refine take_op (i := 8) (d := 95) (op := Op.load 21 (Operand.tmp 94)) (ty := 21) (v := (.int .i32 a)) (by kernel_rfl) (by kernel_rfl) (by kernel_rfl) (by kernel_rfl) (by kernel_rfl) (fun _ _ _ h => h) (fun wS hS => by (try dsimp only at hS); have e0 := (World.cell?_of_block (a := ⟨w.heap.size, 1, none⟩) hS.1).trans yc; have ec0 := (World.cell?_of_block (a := ⟨bc, oc, none⟩) hS.2).trans c0; have ec1 := (World.cell?_of_block (a := ⟨bc, oc + 1, none⟩) hS.2).trans c1; have ec2 := (World.cell?_of_block (a := ⟨bc, oc + 2, none⟩) hS.2).trans c2; clear hS; go_simp) hHeld ?_
  simp only [Act.put, List.setIfInBounds_toArray, List.set_cons_zero, List.set_cons_succ]
  refine take_op (i := 9) (d := 96) (op := Op.fieldAddr 89 (Operand.tmp 2) 1) (ty := 0) (v := (.pointer (some ⟨w.heap.size, 1, none⟩))) (by kernel_rfl) (by kernel_rfl) (by kernel_rfl) (by kernel_rfl) (by kernel_rfl) (fun _ _ _ h => h) (fun wS hS => by clear hS; go_simp) hHeld ?_
  simp only [Act.put, List.setIfInBounds_toArray, List.set_cons_zero, List.set_cons_succ]
  refine take_op (i := 10) (d := 97) (op := Op.load 75 (Operand.tmp 96)) (ty := 75) (v := (.slice (some ⟨bc, oc, none⟩) 3 dc)) (by kernel_rfl) (by kernel_rfl) (by kernel_rfl) (by kernel_rfl) (by kernel_rfl) (fun _ _ _ h => h) (fun wS hS => by (try dsimp only at hS); have e0 := (World.cell?_of_block (a := ⟨w.heap.size, 1, none⟩) hS.1).trans yc; have ec0 := (World.cell?_of_block (a := ⟨bc, oc, none⟩) hS.2).trans c0; have ec1 := (World.cell?_of_block (a := ⟨bc, oc + 1, none⟩) hS.2).trans c1; have ec2 := (World.cell?_of_block (a := ⟨bc, oc + 2, none⟩) hS.2).trans c2; clear hS; go_simp) hHeld ?_
  simp only [Act.put, List.setIfInBounds_toArray, List.set_cons_zero, List.set_cons_succ]
  refine take_op (i := 11) (d := 98) (op := Op.indexAddr 75 (Operand.tmp 97) (Operand.const (Value.int IntKind.i64 1))) (ty := 0) (v := (.pointer (some ⟨bc, oc + 1, none⟩))) (by kernel_rfl) (by kernel_rfl) (by kernel_rfl) (by kernel_rfl) (by kernel_rfl) (fun _ _ _ h => h) (fun wS hS => by clear hS; go_simp) hHeld ?_
  simp only [Act.put, List.setIfInBounds_toArray, List.set_cons_zero, List.set_cons_succ]
  refine take_op (i := 12) (d := 99) (op := Op.load 21 (Operand.tmp 98)) (ty := 21) (v := (.int .i32 b)) (by kernel_rfl) (by kernel_rfl) (by kernel_rfl) (by kernel_rfl) (by kernel_rfl) (fun _ _ _ h => h) (fun wS hS => by (try dsimp only at hS); have e0 := (World.cell?_of_block (a := ⟨w.heap.size, 1, none⟩) hS.1).trans yc; have ec0 := (World.cell?_of_block (a := ⟨bc, oc, none⟩) hS.2).trans c0; have ec1 := (World.cell?_of_block (a := ⟨bc, oc + 1, none⟩) hS.2).trans c1; have ec2 := (World.cell?_of_block (a := ⟨bc, oc + 2, none⟩) hS.2).trans c2; clear hS; go_simp) hHeld ?_
  simp only [Act.put, List.setIfInBounds_toArray, List.set_cons_zero, List.set_cons_succ]
  refine take_op (i := 13) (d := 100) (op := Op.fieldAddr 89 (Operand.tmp 2) 1) (ty := 0) (v := (.pointer (some ⟨w.heap.size, 1, none⟩))) (by kernel_rfl) (by kernel_rfl) (by kernel_rfl) (by kernel_rfl) (by kernel_rfl) (fun _ _ _ h => h) (fun wS hS => by clear hS; go_simp) hHeld ?_
  simp only [Act.put, List.setIfInBounds_toArray, List.set_cons_zero, List.set_cons_succ]
  refine take_op (i := 14) (d := 101) (op := Op.load 75 (Operand.tmp 100)) (ty := 75) (v := (.slice (some ⟨bc, oc, none⟩) 3 dc)) (by kernel_rfl) (by kernel_rfl) (by kernel_rfl) (by kernel_rfl) (by kernel_rfl) (fun _ _ _ h => h) (fun wS hS => by (try dsimp only at hS); have e0 := (World.cell?_of_block (a := ⟨w.heap.size, 1, none⟩) hS.1).trans yc; have ec0 := (World.cell?_of_block (a := ⟨bc, oc, none⟩) hS.2).trans c0; have ec1 := (World.cell?_of_block (a := ⟨bc, oc + 1, none⟩) hS.2).trans c1; have ec2 := (World.cell?_of_block (a := ⟨bc, oc + 2, none⟩) hS.2).trans c2; clear hS; go_simp) hHeld ?_
  simp only [Act.put, List.setIfInBounds_toArray, List.set_cons_zero, List.set_cons_succ]
  refine take_op (i := 15) (d := 102) (op := Op.indexAddr 75 (Operand.tmp 101) (Operand.const (Value.int IntKind.i64 2))) (ty := 0) (v := (.pointer (some ⟨bc, oc + 2, none⟩))) (by kernel_rfl) (by kernel_rfl) (by kernel_rfl) (by kernel_rfl) (by kernel_rfl) (fun _ _ _ h => h) (fun wS hS => by clear hS; go_simp) hHeld ?_
  simp only [Act.put, List.setIfInBounds_toArray, List.set_cons_zero, List.set_cons_succ]
  refine take_op (i := 16) (d := 103) (op := Op.load 21 (Operand.tmp 102)) (ty := 21) (v := (.int .i32 t)) (by kernel_rfl) (by kernel_rfl) (by kernel_rfl) (by kernel_rfl) (by kernel_rfl) (fun _ _ _ h => h) (fun wS hS => by (try dsimp only at hS); have e0 := (World.cell?_of_block (a := ⟨w.heap.size, 1, none⟩) hS.1).trans yc; have ec0 := (World.cell?_of_block (a := ⟨bc, oc, none⟩) hS.2).trans c0; have ec1 := (World.cell?_of_block (a := ⟨bc, oc + 1, none⟩) hS.2).trans c1; have ec2 := (World.cell?_of_block (a := ⟨bc, oc + 2, none⟩) hS.2).trans c2; clear hS; go_simp) hHeld ?_
  simp only [Act.put, List.setIfInBounds_toArray, List.set_cons_zero, List.set_cons_succ]
  refine take_op (i := 17) (d := 104) (op := Op.build 54 #[(0, Operand.tmp 95), (1, Operand.tmp 99), (2, Operand.tmp 103)]) (ty := 54) (v := (.agg #[.int .i32 a, .int .i32 b, .int .i32 t])) (by kernel_rfl) (by kernel_rfl) (by kernel_rfl) (by kernel_rfl) (by kernel_rfl) (fun _ _ _ h => h) (fun wS hS => by clear hS; go_simp) hHeld ?_
  simp only [Act.put, List.setIfInBounds_toArray, List.set_cons_zero, List.set_cons_succ]
  refine wpAnyH_ready (rs := [4, 18]) (by kernel_rfl) (by simp) ?_
  refine AllReadyH.cons rfl (fun K hK => ?_) (AllReadyH.cons rfl (fun K hK => ?_) AllReadyH.nil)
  · go_simp
    refine hK.out _ _ hHeld (fun _ => ?_)
    clear hK K
    refine wpAnyH_ready (rs := [18]) (by kernel_rfl) (by simp) ?_
    refine AllReadyH.cons rfl (fun K hK => ?_) AllReadyH.nil
    go_simp
    rw [← HW3.out]
    refine hK.out _ _ (S3 hHeld) (fun hHeld => ?_)
    clear hK K
    refine wpAnyH_ready (rs := [19]) (by kernel_rfl) (by simp) ?_
    refine AllReadyH.cons rfl (fun K hK => ?_) AllReadyH.nil
    refine step_append_lies _ (by rfl) _ _ _ (by rfl) (RB + 1) 54 i0 _ 3 12 Tryz.underlying26 hi hz0 hz1 hz2 rfl (by decide) tl _ _ (by rfl) HOw.out ⟨W2.heap.size, 0, none⟩ 1 1 [.int .i32 a, .int .i32 b, .int .i32 t] (by rfl) (by rfl) q0 (fun z hz => by simp at hz; rcases hz with rfl | rfl | rfl <;> rfl) (by omega) (by unfold maxLen; omega) (by omega) hb3 _ rfl ?_
    intro g9 cap9 w9 hown9 hgrow9 hat9 hlt9
    refine hK.out _ _ ⟨(hgrow9.block _ (Nat.lt_of_lt_of_le zw HBa.out.size) nw).trans hHeld.1, (hgrow9.block _ (Nat.lt_of_lt_of_le zc HBa.out.size) nc).trans hHeld.2⟩ (fun hHeld => ?_)
    clear hK K
    simp only [Act.put, List.setIfInBounds_toArray, List.set_cons_zero, List.set_cons_succ]
    have hR9 : w9.heap[RB]? = _ := obj_far HH3.out hgrow9 (fun hq => by have := (HV.out _ hq.symm).1; omega)
    have HR9 := Lib.hid hR9
    have r9 := Lib.cell_of_heap hR9 9
    have f9 := Lib.frozen_of_heap hR9 9
    have HG9 := Lib.hid hgrow9
    have HO9 := Lib.hid hown9
    clear hR9 hgrow9 hown9 hat9
    refine take_op (i := 20) (d := 107) (op := Op.nilCheck (Operand.tmp 87)) (ty := 0) (v := (.pointer (some ⟨RB, 2, none⟩))) (by kernel_rfl) (by kernel_rfl) (by kernel_rfl) (by kernel_rfl) (by kernel_rfl) (fun _ _ _ h => h) (fun wS hS => by clear hS; go_simp) hHeld ?_
    simp only [Act.put, List.setIfInBounds_toArray, List.set_cons_zero, List.set_cons_succ]
    refine take_op (i := 21) (d := 108) (op := Op.fieldAddr 28 (Operand.tmp 107) 4) (ty := 0) (v := (.pointer (some ⟨RB, 9, none⟩))) (by kernel_rfl) (by kernel_rfl) (by kernel_rfl) (by kernel_rfl) (by kernel_rfl) (fun _ _ _ h => h) (fun wS hS => by clear hS; go_simp) hHeld ?_
    simp only [Act.put, List.setIfInBounds_toArray, List.set_cons_zero, List.set_cons_succ]
    refine wpAnyH_ready (rs := [22]) (by kernel_rfl) (by simp) ?_
    refine AllReadyH.cons rfl (fun K hK => ?_) AllReadyH.nil
    go_simp
    refine hK.out _ _ ⟨(Below.heap_setCell w9 ⟨RB, 9, none⟩ _ _ mw).trans hHeld.1, (Below.heap_setCell w9 ⟨RB, 9, none⟩ _ _ mc).trans hHeld.2⟩ (fun _ => ?_)
    clear hK K
    refine wpAnyH_done (by kernel_rfl) ?_ _
    go_wp2
    go_end0
    refine ⟨rfl, ⟨_, _, _, heap_setCell_same _ _ 9 _ _ (.slice (some ⟨g9, 0, none⟩) (m.ligs.length + 1) cap9) HR9.out, ?_, ?_, ?_⟩, ?_, ?_⟩
    · exact OwnR.set7 (World.ownsRow.kept (H1.out.mono HBa.out) HG9.out (own_apart (H1.out.mono HBa.out) HOw.out (by decide))) (Nat.lt_succ_self _)
    · exact OwnR.set7 (World.ownsRow.kept (H2.out.mono HBa.out) HG9.out (own_apart (H2.out.mono HBa.out) HOw.out (by decide))) (Nat.lt_succ_self _)
    · refine OwnR.set7 ?_ (Nat.lt_succ_self _)
      unfold OwnR
      rw [show (Mt.add m (.lig a b t)).ligs = m.ligs ++ [⟨a, b, t⟩] from rfl, List.length_append, List.flatMap_append]
      exact HO9.out
    · refine KeptT.set (KeptT.trans (KeptT.below (below_step HB1.out HBa.out)) (fun b c T fr hb q1 q2 q3 q4 => ?_)) HH.out
      exact obj_far hb HG9.out (own_off7 HOw.out hb q4)
    · refine (Below.grown ((below_step HB1.out HBa.out).mono (Nat.le_of_lt hlt)) HG9.out ?_ (fun q hq => by have := (HV.out q hq).1; omega)).setCell (p := ⟨RB, 9, none⟩) (Nat.le_refl _) _
      omega
  · go_simp
    rw [← HW3.out]
    refine hK.out _ _ (S3 hHeld) (fun hHeld => ?_)
    clear hK K
    refine wpAnyH_ready (rs := [4]) (by kernel_rfl) (by simp) ?_
    refine AllReadyH.cons rfl (fun K hK => ?_) AllReadyH.nil
    go_simp
    refine hK.out _ _ hHeld (fun _ => ?_)
    clear hK K
    refine wpAnyH_ready (rs := [19]) (by kernel_rfl) (by simp) ?_
    refine AllReadyH.cons rfl (fun K hK => ?_) AllReadyH.nil
    refine step_append_lies _ (by rfl) _ _ _ (by rfl) (RB + 1) 54 i0 _ 3 12 Tryz.underlying26 hi hz0 hz1 hz2 rfl (by decide) tl _ _ (by rfl) HOw.out ⟨W2.heap.size, 0, none⟩ 1 1 [.int .i32 a, .int .i32 b, .int .i32 t] (by rfl) (by rfl) q0 (fun z hz => by simp at hz; rcases hz with rfl | rfl | rfl <;> rfl) (by omega) (by unfold maxLen; omega) (by omega) hb3 _ rfl ?_
    intro g9 cap9 w9 hown9 hgrow9 hat9 hlt9
    refine hK.out _ _ ⟨(hgrow9.block _ (Nat.lt_of_lt_of_le zw HBa.out.size) nw).trans hHeld.1, (hgrow9.block _ (Nat.lt_of_lt_of_le zc HBa.out.size) nc).trans hHeld.2⟩ (fun hHeld => ?_)
    clear hK K
    simp only [Act.put, List.setIfInBounds_toArray, List.set_cons_zero, List.set_cons_succ]
    have hR9 : w9.heap[RB]? = _ := obj_far HH3.out hgrow9 (fun hq => by have := (HV.out _ hq.symm).1; omega)
    have HR9 := Lib.hid hR9
    have r9 := Lib.cell_of_heap hR9 9
    have f9 := Lib.frozen_of_heap hR9 9
    have HG9 := Lib.hid hgrow9
    have HO9 := Lib.hid hown9
    clear hR9 hgrow9 hown9 hat9
    refine take_op (i := 20) (d := 107) (op := Op.nilCheck (Operand.tmp 87)) (ty := 0) (v := (.pointer (some ⟨RB, 2, none⟩))) (by kernel_rfl) (by kernel_rfl) (by kernel_rfl) (by kernel_rfl) (by kernel_rfl) (fun _ _ _ h => h) (fun wS hS => by clear hS; go_simp) hHeld ?_
    simp only [Act.put, List.setIfInBounds_toArray, List.set_cons_zero, List.set_cons_succ]
    refine take_op (i := 21) (d := 108) (op := Op.fieldAddr 28 (Operand.tmp 107) 4) (ty := 0) (v := (.pointer (some ⟨RB, 9, none⟩))) (by kernel_rfl) (by kernel_rfl) (by kernel_rfl) (by kernel_rfl) (by kernel_rfl) (fun _ _ _ h => h) (fun wS hS => by clear hS; go_simp) hHeld ?_
    simp only [Act.put, List.setIfInBounds_toArray, List.set_cons_zero, List.set_cons_succ]
    refine wpAnyH_ready (rs := [22]) (by kernel_rfl) (by simp) ?_
    refine AllReadyH.cons rfl (fun K hK => ?_) AllReadyH.nil
    go_simp
    refine hK.out _ _ ⟨(Below.heap_setCell w9 ⟨RB, 9, none⟩ _ _ mw).trans hHeld.1, (Below.heap_setCell w9 ⟨RB, 9, none⟩ _ _ mc).trans hHeld.2⟩ (fun _ => ?_)
    clear hK K
    refine wpAnyH_done (by kernel_rfl) ?_ _
    go_wp2
    go_end0
    refine ⟨rfl, ⟨_, _, _, heap_setCell_same _ _ 9 _ _ (.slice (some ⟨g9, 0, none⟩) (m.ligs.length + 1) cap9) HR9.out, ?_, ?_, ?_⟩, ?_, ?_⟩
    · exact OwnR.set7 (World.ownsRow.kept (H1.out.mono HBa.out) HG9.out (own_apart (H1.out.mono HBa.out) HOw.out (by decide))) (Nat.lt_succ_self _)
    · exact OwnR.set7 (World.ownsRow.kept (H2.out.mono HBa.out) HG9.out (own_apart (H2.out.mono HBa.out) HOw.out (by decide))) (Nat.lt_succ_self _)
    · refine OwnR.set7 ?_ (Nat.lt_succ_self _)
      unfold OwnR
      rw [show (Mt.add m (.lig a b t)).ligs = m.ligs ++ [⟨a, b, t⟩] from rfl, List.length_append, List.flatMap_append]
      exact HO9.out
    · refine KeptT.set (KeptT.trans (KeptT.below (below_step HB1.out HBa.out)) (fun b c T fr hb q1 q2 q3 q4 => ?_)) HH.out
      exact obj_far hb HG9.out (own_off7 HOw.out hb q4)
    · refine (Below.grown ((below_step HB1.out HBa.out).mono (Nat.le_of_lt hlt)) HG9.out ?_ (fun q hq => by have := (HV.out q hq).1; omega)).setCell (p := ⟨RB, 9, none⟩) (Nat.le_refl _) _
      omega
theorem addTo_any (RB : Nat) (i last : Int) (m : Mt.Tab) (ln : Mt.Ln) (cv lv : Value) (w : World) (hr : ReaderIs w RB i last m) (hc : OwnI .i32 21 (RB + 1) cv (lnCodes ln) w) (hl : OwnI .i64 2 (RB + 1) lv (lnLens ln) w) (hlen : m.chars.length + m.kerns.length + m.ligs.length ≤ 1073741824) :
    Calls Tryz.prog 49 #[.agg #[.int .i64 (Mt.kind ln : Int), cv, lv], .pointer (some ⟨RB, 2, none⟩)] w (AddPost RB i last (Mt.add m ln) w) := by
  cases ln with
  | space a b c => exact addTo_space RB i last m a b c cv lv w hr hc hl hlen
  | hyphen c => exact addTo_hyphen RB i last m c cv lv w hr hc hl hlen
  | char c x h d => exact addTo_char RB i last m c x h d cv lv w hr hc hl hlen
  | kern a b x => exact addTo_kern RB i last m a b x cv lv w hr hc hl hlen
  | lig a b t => exact addTo_lig RB i last m a b t cv lv w hr hc hl hlen
end Go.Proofs.YtmehldekebphfaaGreatDoor
