/-
  The landed done: the plans behind the last break.
-/
import Derived.Test.YtdimfmpolbijeaaPlan11
import Derived.Test.YtdimfmpolbijeaaFixed10
set_option linter.unusedVariables false
set_option linter.unusedSimpArgs false
namespace Go.Proofs.Ytdimfmpolbijeaa
open Go.RowKit

def doneV : Array Value := #[.int .i64 0, .int .i64 0, .int .i64 0, .bool true, .int .i64 0, .int .i64 0, .int .i64 0, .bool true, .int .i64 0, .int .i64 0, .int .i64 0, .bool true, .int .i64 0, .int .i64 0, .int .i64 0, .bool true]
/-- sixteen cells set anew -/
theorem sixteen_set {w0 : World} {p : Nat} {cs : Array Value} {T : TypeId} (h : w0.heap[p]? = some (.cells cs T (0, 0))) (hn : cs.size = 16) (a0 a1 a2 a3 a4 a5 a6 a7 a8 a9 a10 a11 a12 a13 a14 a15 : Value) :
    ((((((((((((((((w0.setCell ⟨p, 0, none⟩ a0).setCell ⟨p, 1, none⟩ a1).setCell ⟨p, 2, none⟩ a2).setCell ⟨p, 3, none⟩ a3).setCell ⟨p, 4, none⟩ a4).setCell ⟨p, 5, none⟩ a5).setCell ⟨p, 6, none⟩ a6).setCell ⟨p, 7, none⟩ a7).setCell ⟨p, 8, none⟩ a8).setCell ⟨p, 9, none⟩ a9).setCell ⟨p, 10, none⟩ a10).setCell ⟨p, 11, none⟩ a11).setCell ⟨p, 12, none⟩ a12).setCell ⟨p, 13, none⟩ a13).setCell ⟨p, 14, none⟩ a14).setCell ⟨p, 15, none⟩ a15).heap[p]? = some (.cells #[a0, a1, a2, a3, a4, a5, a6, a7, a8, a9, a10, a11, a12, a13, a14, a15] T (0, 0)) := by
  have h5 := (heap_setCell_same _ p 15 _ T a15 (heap_setCell_same _ p 14 _ T a14 (heap_setCell_same _ p 13 _ T a13 (heap_setCell_same _ p 12 _ T a12 (heap_setCell_same _ p 11 _ T a11 (heap_setCell_same _ p 10 _ T a10 (heap_setCell_same _ p 9 _ T a9 (heap_setCell_same _ p 8 _ T a8 (heap_setCell_same _ p 7 _ T a7 (heap_setCell_same _ p 6 _ T a6 (heap_setCell_same _ p 5 _ T a5 (heap_setCell_same _ p 4 _ T a4 (heap_setCell_same _ p 3 _ T a3 (heap_setCell_same _ p 2 _ T a2 (heap_setCell_same _ p 1 _ T a1 (heap_setCell_same _ p 0 _ T a0 h))))))))))))))))
  rw [h5]
  obtain ⟨l⟩ := cs
  have hl : l.length = 16 := hn
  clear hn h h5
  match l, hl with
  | [x0, x1, x2, x3, x4, x5, x6, x7, x8, x9, x10, x11, x12, x13, x14, x15], _ => simp only [List.setIfInBounds_toArray, List.set_cons_zero, List.set_cons_succ]
theorem below_sixteen {w0 w1 : World} {p B : Nat} (h : Below B w0 w1) (hp : B ≤ p) (a0 a1 a2 a3 a4 a5 a6 a7 a8 a9 a10 a11 a12 a13 a14 a15 : Value) :
    Below B w0 ((((((((((((((((w1.setCell ⟨p, 0, none⟩ a0).setCell ⟨p, 1, none⟩ a1).setCell ⟨p, 2, none⟩ a2).setCell ⟨p, 3, none⟩ a3).setCell ⟨p, 4, none⟩ a4).setCell ⟨p, 5, none⟩ a5).setCell ⟨p, 6, none⟩ a6).setCell ⟨p, 7, none⟩ a7).setCell ⟨p, 8, none⟩ a8).setCell ⟨p, 9, none⟩ a9).setCell ⟨p, 10, none⟩ a10).setCell ⟨p, 11, none⟩ a11).setCell ⟨p, 12, none⟩ a12).setCell ⟨p, 13, none⟩ a13).setCell ⟨p, 14, none⟩ a14).setCell ⟨p, 15, none⟩ a15) := ((((((((((((((((h.setCell (p := ⟨p, 0, none⟩) hp _).setCell (p := ⟨p, 1, none⟩) hp _).setCell (p := ⟨p, 2, none⟩) hp _).setCell (p := ⟨p, 3, none⟩) hp _).setCell (p := ⟨p, 4, none⟩) hp _).setCell (p := ⟨p, 5, none⟩) hp _).setCell (p := ⟨p, 6, none⟩) hp _).setCell (p := ⟨p, 7, none⟩) hp _).setCell (p := ⟨p, 8, none⟩) hp _).setCell (p := ⟨p, 9, none⟩) hp _).setCell (p := ⟨p, 10, none⟩) hp _).setCell (p := ⟨p, 11, none⟩) hp _).setCell (p := ⟨p, 12, none⟩) hp _).setCell (p := ⟨p, 13, none⟩) hp _).setCell (p := ⟨p, 14, none⟩) hp _).setCell (p := ⟨p, 15, none⟩) hp _)

set_option maxHeartbeats 16000000 in
set_option maxRecDepth 100000 in
theorem done_any (w : World) : Calls Try.prog 24 #[] w (Ret (.agg doneV) w) := by
  obtain ⟨W1, hW1⟩ : ∃ W1, W1 = (w.alloc (.cells #[.int .i64 0, .int .i64 0, .int .i64 0, .bool false, .int .i64 0, .int .i64 0, .int .i64 0, .bool false, .int .i64 0, .int .i64 0, .int .i64 0, .bool false, .int .i64 0, .int .i64 0, .int .i64 0, .bool false] 59)).alloc (.cells #[.int .i64 0, .int .i64 0, .int .i64 0, .bool false, .int .i64 0, .int .i64 0, .int .i64 0, .bool false, .int .i64 0, .int .i64 0, .int .i64 0, .bool false, .int .i64 0, .int .i64 0, .int .i64 0, .bool false] 59) := ⟨_, rfl⟩
  have b1 := below_alloc w (.cells #[.int .i64 0, .int .i64 0, .int .i64 0, .bool false, .int .i64 0, .int .i64 0, .int .i64 0, .bool false, .int .i64 0, .int .i64 0, .int .i64 0, .bool false, .int .i64 0, .int .i64 0, .int .i64 0, .bool false] 59)
  have b2 := below_alloc (w.alloc (.cells #[.int .i64 0, .int .i64 0, .int .i64 0, .bool false, .int .i64 0, .int .i64 0, .int .i64 0, .bool false, .int .i64 0, .int .i64 0, .int .i64 0, .bool false, .int .i64 0, .int .i64 0, .int .i64 0, .bool false] 59)) (.cells #[.int .i64 0, .int .i64 0, .int .i64 0, .bool false, .int .i64 0, .int .i64 0, .int .i64 0, .bool false, .int .i64 0, .int .i64 0, .int .i64 0, .bool false, .int .i64 0, .int .i64 0, .int .i64 0, .bool false] 59)
  have H0 : Hid (W1.heap[w.heap.size]? = some (.cells #[.int .i64 0, .int .i64 0, .int .i64 0, .bool false, .int .i64 0, .int .i64 0, .int .i64 0, .bool false, .int .i64 0, .int .i64 0, .int .i64 0, .bool false, .int .i64 0, .int .i64 0, .int .i64 0, .bool false] 59 (0, 0))) := Lib.hid (by rw [hW1]; exact obj_kept b2 (obj_new w _ rfl _ _))
  have H1 : Hid (W1.heap[w.heap.size + 1]? = some (.cells #[.int .i64 0, .int .i64 0, .int .i64 0, .bool false, .int .i64 0, .int .i64 0, .int .i64 0, .bool false, .int .i64 0, .int .i64 0, .int .i64 0, .bool false, .int .i64 0, .int .i64 0, .int .i64 0, .bool false] 59 (0, 0))) := Lib.hid (by rw [hW1]; exact obj_new (w.alloc _) _ (World.size_alloc _ _) _ _)
  have HB : Hid (Below w.heap.size w W1) := Lib.hid (by rw [hW1]; exact below_step b1 b2)
  clear b1 b2
  go_enter Try.func24, Try.ntmps24
  go_wp2_with fail
  rw [← hW1]
  clear hW1
  go_loopw [3] (fun kv wr => ∃ k : Nat, k ≤ 4 ∧ kv = .int .i64 k ∧ Hid (wr.heap[w.heap.size]? = some (.cells #[.int .i64 0, .int .i64 0, .int .i64 0, .bool false, .int .i64 0, .int .i64 0, .int .i64 0, .bool false, .int .i64 0, .int .i64 0, .int .i64 0, .bool false, .int .i64 0, .int .i64 0, .int .i64 0, .bool false] 59 (0, 0))) ∧ Hid (∀ j, k = j → wr.heap[w.heap.size + 1]? = some (.cells (if j = 0 then #[.int .i64 0, .int .i64 0, .int .i64 0, .bool false, .int .i64 0, .int .i64 0, .int .i64 0, .bool false, .int .i64 0, .int .i64 0, .int .i64 0, .bool false, .int .i64 0, .int .i64 0, .int .i64 0, .bool false] else if j = 1 then #[.int .i64 0, .int .i64 0, .int .i64 0, .bool true, .int .i64 0, .int .i64 0, .int .i64 0, .bool false, .int .i64 0, .int .i64 0, .int .i64 0, .bool false, .int .i64 0, .int .i64 0, .int .i64 0, .bool false] else if j = 2 then #[.int .i64 0, .int .i64 0, .int .i64 0, .bool true, .int .i64 0, .int .i64 0, .int .i64 0, .bool true, .int .i64 0, .int .i64 0, .int .i64 0, .bool false, .int .i64 0, .int .i64 0, .int .i64 0, .bool false] else if j = 3 then #[.int .i64 0, .int .i64 0, .int .i64 0, .bool true, .int .i64 0, .int .i64 0, .int .i64 0, .bool true, .int .i64 0, .int .i64 0, .int .i64 0, .bool true, .int .i64 0, .int .i64 0, .int .i64 0, .bool false] else #[.int .i64 0, .int .i64 0, .int .i64 0, .bool true, .int .i64 0, .int .i64 0, .int .i64 0, .bool true, .int .i64 0, .int .i64 0, .int .i64 0, .bool true, .int .i64 0, .int .i64 0, .int .i64 0, .bool true]) 59 (0, 0))) ∧ Hid (Below w.heap.size w wr)) (fun kv _ => 4 - (intOf kv).toNat)
  case atStart => exact ⟨0, Nat.zero_le _, rfl, H0, Lib.hid (fun j hj => by subst hj; exact H1.out), HB⟩
  case round =>
    obtain ⟨k, hk, rfl, H0r, H1r, HBr⟩ := hrel
    clear H0 H1 HB
    by_cases hlt : k < 4
    · obtain rfl | rfl | rfl | rfl : k = 0 ∨ k = 1 ∨ k = 2 ∨ k = 3 := by omega
      · have h1 : wr.heap[w.heap.size + 1]? = some (.cells #[.int .i64 0, .int .i64 0, .int .i64 0, .bool false, .int .i64 0, .int .i64 0, .int .i64 0, .bool false, .int .i64 0, .int .i64 0, .int .i64 0, .bool false, .int .i64 0, .int .i64 0, .int .i64 0, .bool false] 59 (0, 0)) := H1r.out 0 rfl
        have c1 : wr.cell? ⟨w.heap.size + 1, 3, none⟩ = some (.bool false) := Lib.cell_of_heap h1 3
        have f1 := Lib.frozen_of_heap h1 3
        have HN : Hid ((wr.setCell ⟨w.heap.size + 1, 3, none⟩ (.bool true)).heap[w.heap.size + 1]? = some (.cells #[.int .i64 0, .int .i64 0, .int .i64 0, .bool true, .int .i64 0, .int .i64 0, .int .i64 0, .bool false, .int .i64 0, .int .i64 0, .int .i64 0, .bool false, .int .i64 0, .int .i64 0, .int .i64 0, .bool false] 59 (0, 0))) := Lib.hid (heap_setCell_same wr _ 3 _ _ _ h1)
        have HZ : Hid ((wr.setCell ⟨w.heap.size + 1, 3, none⟩ (.bool true)).heap[w.heap.size]? = some (.cells #[.int .i64 0, .int .i64 0, .int .i64 0, .bool false, .int .i64 0, .int .i64 0, .int .i64 0, .bool false, .int .i64 0, .int .i64 0, .int .i64 0, .bool false, .int .i64 0, .int .i64 0, .int .i64 0, .bool false] 59 (0, 0))) := Lib.hid (obj_set H0r.out (by omega))
        have HBn := Lib.hid (HBr.out.setCell (p := ⟨w.heap.size + 1, 3, none⟩) (Nat.le_add_right _ _) (.bool true))
        clear h1
        go_wp2
        go_roundw
        case rel => exact ⟨1, by omega, by go_num, HZ, Lib.hid (fun j hj => by subst hj; exact HN.out), HBn⟩
        case measure => simp [intOf]
      · have h1 : wr.heap[w.heap.size + 1]? = some (.cells #[.int .i64 0, .int .i64 0, .int .i64 0, .bool true, .int .i64 0, .int .i64 0, .int .i64 0, .bool false, .int .i64 0, .int .i64 0, .int .i64 0, .bool false, .int .i64 0, .int .i64 0, .int .i64 0, .bool false] 59 (0, 0)) := H1r.out 1 rfl
        have c1 : wr.cell? ⟨w.heap.size + 1, 7, none⟩ = some (.bool false) := Lib.cell_of_heap h1 7
        have f1 := Lib.frozen_of_heap h1 7
        have HN : Hid ((wr.setCell ⟨w.heap.size + 1, 7, none⟩ (.bool true)).heap[w.heap.size + 1]? = some (.cells #[.int .i64 0, .int .i64 0, .int .i64 0, .bool true, .int .i64 0, .int .i64 0, .int .i64 0, .bool true, .int .i64 0, .int .i64 0, .int .i64 0, .bool false, .int .i64 0, .int .i64 0, .int .i64 0, .bool false] 59 (0, 0))) := Lib.hid (heap_setCell_same wr _ 7 _ _ _ h1)
        have HZ : Hid ((wr.setCell ⟨w.heap.size + 1, 7, none⟩ (.bool true)).heap[w.heap.size]? = some (.cells #[.int .i64 0, .int .i64 0, .int .i64 0, .bool false, .int .i64 0, .int .i64 0, .int .i64 0, .bool false, .int .i64 0, .int .i64 0, .int .i64 0, .bool false, .int .i64 0, .int .i64 0, .int .i64 0, .bool false] 59 (0, 0))) := Lib.hid (obj_set H0r.out (by omega))
        have HBn := Lib.hid (HBr.out.setCell (p := ⟨w.heap.size + 1, 7, none⟩) (Nat.le_add_right _ _) (.bool true))
        clear h1
        go_wp2
        go_roundw
        case rel => exact ⟨2, by omega, by go_num, HZ, Lib.hid (fun j hj => by subst hj; exact HN.out), HBn⟩
        case measure => simp [intOf]
      · have h1 : wr.heap[w.heap.size + 1]? = some (.cells #[.int .i64 0, .int .i64 0, .int .i64 0, .bool true, .int .i64 0, .int .i64 0, .int .i64 0, .bool true, .int .i64 0, .int .i64 0, .int .i64 0, .bool false, .int .i64 0, .int .i64 0, .int .i64 0, .bool false] 59 (0, 0)) := H1r.out 2 rfl
        have c1 : wr.cell? ⟨w.heap.size + 1, 11, none⟩ = some (.bool false) := Lib.cell_of_heap h1 11
        have f1 := Lib.frozen_of_heap h1 11
        have HN : Hid ((wr.setCell ⟨w.heap.size + 1, 11, none⟩ (.bool true)).heap[w.heap.size + 1]? = some (.cells #[.int .i64 0, .int .i64 0, .int .i64 0, .bool true, .int .i64 0, .int .i64 0, .int .i64 0, .bool true, .int .i64 0, .int .i64 0, .int .i64 0, .bool true, .int .i64 0, .int .i64 0, .int .i64 0, .bool false] 59 (0, 0))) := Lib.hid (heap_setCell_same wr _ 11 _ _ _ h1)
        have HZ : Hid ((wr.setCell ⟨w.heap.size + 1, 11, none⟩ (.bool true)).heap[w.heap.size]? = some (.cells #[.int .i64 0, .int .i64 0, .int .i64 0, .bool false, .int .i64 0, .int .i64 0, .int .i64 0, .bool false, .int .i64 0, .int .i64 0, .int .i64 0, .bool false, .int .i64 0, .int .i64 0, .int .i64 0, .bool false] 59 (0, 0))) := Lib.hid (obj_set H0r.out (by omega))
        have HBn := Lib.hid (HBr.out.setCell (p := ⟨w.heap.size + 1, 11, none⟩) (Nat.le_add_right _ _) (.bool true))
        clear h1
        go_wp2
        go_roundw
        case rel => exact ⟨3, by omega, by go_num, HZ, Lib.hid (fun j hj => by subst hj; exact HN.out), HBn⟩
        case measure => simp [intOf]
      · have h1 : wr.heap[w.heap.size + 1]? = some (.cells #[.int .i64 0, .int .i64 0, .int .i64 0, .bool true, .int .i64 0, .int .i64 0, .int .i64 0, .bool true, .int .i64 0, .int .i64 0, .int .i64 0, .bool true, .int .i64 0, .int .i64 0, .int .i64 0, .bool false] 59 (0, 0)) := H1r.out 3 rfl
        have c1 : wr.cell? ⟨w.heap.size + 1, 15, none⟩ = some (.bool false) := Lib.cell_of_heap h1 15
        have f1 := Lib.frozen_of_heap h1 15
        have HN : Hid ((wr.setCell ⟨w.heap.size + 1, 15, none⟩ (.bool true)).heap[w.heap.size + 1]? = some (.cells #[.int .i64 0, .int .i64 0, .int .i64 0, .bool true, .int .i64 0, .int .i64 0, .int .i64 0, .bool true, .int .i64 0, .int .i64 0, .int .i64 0, .bool true, .int .i64 0, .int .i64 0, .int .i64 0, .bool true] 59 (0, 0))) := Lib.hid (heap_setCell_same wr _ 15 _ _ _ h1)
        have HZ : Hid ((wr.setCell ⟨w.heap.size + 1, 15, none⟩ (.bool true)).heap[w.heap.size]? = some (.cells #[.int .i64 0, .int .i64 0, .int .i64 0, .bool false, .int .i64 0, .int .i64 0, .int .i64 0, .bool false, .int .i64 0, .int .i64 0, .int .i64 0, .bool false, .int .i64 0, .int .i64 0, .int .i64 0, .bool false] 59 (0, 0))) := Lib.hid (obj_set H0r.out (by omega))
        have HBn := Lib.hid (HBr.out.setCell (p := ⟨w.heap.size + 1, 15, none⟩) (Nat.le_add_right _ _) (.bool true))
        clear h1
        go_wp2
        go_roundw
        case rel => exact ⟨4, by omega, by go_num, HZ, Lib.hid (fun j hj => by subst hj; exact HN.out), HBn⟩
        case measure => simp [intOf]
    · obtain rfl : k = 4 := by omega
      have h1 : wr.heap[w.heap.size + 1]? = some (.cells #[.int .i64 0, .int .i64 0, .int .i64 0, .bool true, .int .i64 0, .int .i64 0, .int .i64 0, .bool true, .int .i64 0, .int .i64 0, .int .i64 0, .bool true, .int .i64 0, .int .i64 0, .int .i64 0, .bool true] 59 (0, 0)) := H1r.out 4 rfl
      have h0 := H0r.out
      have c0 : wr.cell? ⟨w.heap.size + 1, 0, none⟩ = some (.int .i64 0) := Lib.cell_of_heap h1 0
      have c1 : wr.cell? ⟨w.heap.size + 1, 1, none⟩ = some (.int .i64 0) := Lib.cell_of_heap h1 1
      have c2 : wr.cell? ⟨w.heap.size + 1, 2, none⟩ = some (.int .i64 0) := Lib.cell_of_heap h1 2
      have c3 : wr.cell? ⟨w.heap.size + 1, 3, none⟩ = some (.bool true) := Lib.cell_of_heap h1 3
      have c4 : wr.cell? ⟨w.heap.size + 1, 4, none⟩ = some (.int .i64 0) := Lib.cell_of_heap h1 4
      have c5 : wr.cell? ⟨w.heap.size + 1, 5, none⟩ = some (.int .i64 0) := Lib.cell_of_heap h1 5
      have c6 : wr.cell? ⟨w.heap.size + 1, 6, none⟩ = some (.int .i64 0) := Lib.cell_of_heap h1 6
      have c7 : wr.cell? ⟨w.heap.size + 1, 7, none⟩ = some (.bool true) := Lib.cell_of_heap h1 7
      have c8 : wr.cell? ⟨w.heap.size + 1, 8, none⟩ = some (.int .i64 0) := Lib.cell_of_heap h1 8
      have c9 : wr.cell? ⟨w.heap.size + 1, 9, none⟩ = some (.int .i64 0) := Lib.cell_of_heap h1 9
      have c10 : wr.cell? ⟨w.heap.size + 1, 10, none⟩ = some (.int .i64 0) := Lib.cell_of_heap h1 10
      have c11 : wr.cell? ⟨w.heap.size + 1, 11, none⟩ = some (.bool true) := Lib.cell_of_heap h1 11
      have c12 : wr.cell? ⟨w.heap.size + 1, 12, none⟩ = some (.int .i64 0) := Lib.cell_of_heap h1 12
      have c13 : wr.cell? ⟨w.heap.size + 1, 13, none⟩ = some (.int .i64 0) := Lib.cell_of_heap h1 13
      have c14 : wr.cell? ⟨w.heap.size + 1, 14, none⟩ = some (.int .i64 0) := Lib.cell_of_heap h1 14
      have c15 : wr.cell? ⟨w.heap.size + 1, 15, none⟩ = some (.bool true) := Lib.cell_of_heap h1 15
      have d0 : wr.cell? ⟨w.heap.size, 0, none⟩ = some (.int .i64 0) := Lib.cell_of_heap h0 0
      have f0 := Lib.frozen_of_heap h0 0
      have d1 : wr.cell? ⟨w.heap.size, 1, none⟩ = some (.int .i64 0) := Lib.cell_of_heap h0 1
      have f1 := Lib.frozen_of_heap h0 1
      have d2 : wr.cell? ⟨w.heap.size, 2, none⟩ = some (.int .i64 0) := Lib.cell_of_heap h0 2
      have f2 := Lib.frozen_of_heap h0 2
      have d3 : wr.cell? ⟨w.heap.size, 3, none⟩ = some (.bool false) := Lib.cell_of_heap h0 3
      have f3 := Lib.frozen_of_heap h0 3
      have d4 : wr.cell? ⟨w.heap.size, 4, none⟩ = some (.int .i64 0) := Lib.cell_of_heap h0 4
      have f4 := Lib.frozen_of_heap h0 4
      have d5 : wr.cell? ⟨w.heap.size, 5, none⟩ = some (.int .i64 0) := Lib.cell_of_heap h0 5
      have f5 := Lib.frozen_of_heap h0 5
      have d6 : wr.cell? ⟨w.heap.size, 6, none⟩ = some (.int .i64 0) := Lib.cell_of_heap h0 6
      have f6 := Lib.frozen_of_heap h0 6
      have d7 : wr.cell? ⟨w.heap.size, 7, none⟩ = some (.bool false) := Lib.cell_of_heap h0 7
      have f7 := Lib.frozen_of_heap h0 7
      have d8 : wr.cell? ⟨w.heap.size, 8, none⟩ = some (.int .i64 0) := Lib.cell_of_heap h0 8
      have f8 := Lib.frozen_of_heap h0 8
      have d9 : wr.cell? ⟨w.heap.size, 9, none⟩ = some (.int .i64 0) := Lib.cell_of_heap h0 9
      have f9 := Lib.frozen_of_heap h0 9
      have d10 : wr.cell? ⟨w.heap.size, 10, none⟩ = some (.int .i64 0) := Lib.cell_of_heap h0 10
      have f10 := Lib.frozen_of_heap h0 10
      have d11 : wr.cell? ⟨w.heap.size, 11, none⟩ = some (.bool false) := Lib.cell_of_heap h0 11
      have f11 := Lib.frozen_of_heap h0 11
      have d12 : wr.cell? ⟨w.heap.size, 12, none⟩ = some (.int .i64 0) := Lib.cell_of_heap h0 12
      have f12 := Lib.frozen_of_heap h0 12
      have d13 : wr.cell? ⟨w.heap.size, 13, none⟩ = some (.int .i64 0) := Lib.cell_of_heap h0 13
      have f13 := Lib.frozen_of_heap h0 13
      have d14 : wr.cell? ⟨w.heap.size, 14, none⟩ = some (.int .i64 0) := Lib.cell_of_heap h0 14
      have f14 := Lib.frozen_of_heap h0 14
      have d15 : wr.cell? ⟨w.heap.size, 15, none⟩ = some (.bool false) := Lib.cell_of_heap h0 15
      have f15 := Lib.frozen_of_heap h0 15
      obtain ⟨WX, hWX⟩ : ∃ WX, WX = ((((((((((((((((wr.setCell ⟨w.heap.size, 0, none⟩ (.int .i64 0)).setCell ⟨w.heap.size, 1, none⟩ (.int .i64 0)).setCell ⟨w.heap.size, 2, none⟩ (.int .i64 0)).setCell ⟨w.heap.size, 3, none⟩ (.bool true)).setCell ⟨w.heap.size, 4, none⟩ (.int .i64 0)).setCell ⟨w.heap.size, 5, none⟩ (.int .i64 0)).setCell ⟨w.heap.size, 6, none⟩ (.int .i64 0)).setCell ⟨w.heap.size, 7, none⟩ (.bool true)).setCell ⟨w.heap.size, 8, none⟩ (.int .i64 0)).setCell ⟨w.heap.size, 9, none⟩ (.int .i64 0)).setCell ⟨w.heap.size, 10, none⟩ (.int .i64 0)).setCell ⟨w.heap.size, 11, none⟩ (.bool true)).setCell ⟨w.heap.size, 12, none⟩ (.int .i64 0)).setCell ⟨w.heap.size, 13, none⟩ (.int .i64 0)).setCell ⟨w.heap.size, 14, none⟩ (.int .i64 0)).setCell ⟨w.heap.size, 15, none⟩ (.bool true)) := ⟨_, rfl⟩
      have HX : Hid (WX.heap[w.heap.size]? = some (.cells #[.int .i64 0, .int .i64 0, .int .i64 0, .bool true, .int .i64 0, .int .i64 0, .int .i64 0, .bool true, .int .i64 0, .int .i64 0, .int .i64 0, .bool true, .int .i64 0, .int .i64 0, .int .i64 0, .bool true] 59 (0, 0))) := Lib.hid (by rw [hWX]; exact sixteen_set h0 rfl _ _ _ _ _ _ _ _ _ _ _ _ _ _ _ _)
      have HBX : Hid (Below w.heap.size w WX) := Lib.hid (by rw [hWX]; exact below_sixteen HBr.out (Nat.le_refl _) _ _ _ _ _ _ _ _ _ _ _ _ _ _ _ _)
      clear h0 h1
      go_wp2
      rw [← hWX]
      clear hWX
      have q0 := Lib.cell_of_heap HX.out 0
      have q1 := Lib.cell_of_heap HX.out 1
      have q2 := Lib.cell_of_heap HX.out 2
      have q3 := Lib.cell_of_heap HX.out 3
      have q4 := Lib.cell_of_heap HX.out 4
      have q5 := Lib.cell_of_heap HX.out 5
      have q6 := Lib.cell_of_heap HX.out 6
      have q7 := Lib.cell_of_heap HX.out 7
      have q8 := Lib.cell_of_heap HX.out 8
      have q9 := Lib.cell_of_heap HX.out 9
      have q10 := Lib.cell_of_heap HX.out 10
      have q11 := Lib.cell_of_heap HX.out 11
      have q12 := Lib.cell_of_heap HX.out 12
      have q13 := Lib.cell_of_heap HX.out 13
      have q14 := Lib.cell_of_heap HX.out 14
      have q15 := Lib.cell_of_heap HX.out 15
      exact bodyPost_ret (v := .agg doneV) (by unfold doneV; simp [results, Try.results24, go_sem, q0, q1, q2, q3, q4, q5, q6, q7, q8, q9, q10, q11, q12, q13, q14, q15]) rfl ⟨rfl, HBX.out⟩
end Go.Proofs.Ytdimfmpolbijeaa
