/-
  The landed glue.Set: how a list of glue is set.
-/
import Derived.Test.YthcilpijiindeaaBad10
import Derived.Test.YthcilpijiindeaaTotal9
set_option linter.unusedVariables false
set_option linter.unusedSimpArgs false
namespace Go.Proofs.Ythcilpijiindeaa
open Go.RowKit

def stgV (s : It.Stg) : Value := .agg #[.int .i64 s.sg, .int .i64 s.o, .int .i64 s.e, .int .i64 s.bad]
/-- four cells set anew -/
theorem four_set {w0 : World} {p : Nat} {cs : Array Value} {T : TypeId} (h : w0.heap[p]? = some (.cells cs T (0, 0))) (hn : cs.size = 4) (a b c d : Value) :
    ((((w0.setCell ⟨p, 0, none⟩ a).setCell ⟨p, 1, none⟩ b).setCell ⟨p, 2, none⟩ c).setCell ⟨p, 3, none⟩ d).heap[p]? = some (.cells #[a, b, c, d] T (0, 0)) := by
  have h3 := heap_setCell_same _ p 3 _ T d (heap_setCell_same _ p 2 _ T c (heap_setCell_same _ p 1 _ T b (heap_setCell_same w0 p 0 _ T a h)))
  rw [h3]
  obtain ⟨l⟩ := cs
  have hl : l.length = 4 := hn
  clear hn h h3
  match l, hl with
  | [x0, x1, x2, x3], _ => simp only [List.setIfInBounds_toArray, List.set_cons_zero, List.set_cons_succ]
theorem below_four {w0 w1 : World} {p B : Nat} (h : Below B w0 w1) (hp : B ≤ p) (a b c d : Value) :
    Below B w0 ((((w1.setCell ⟨p, 0, none⟩ a).setCell ⟨p, 1, none⟩ b).setCell ⟨p, 2, none⟩ c).setCell ⟨p, 3, none⟩ d) :=
  ((((h.setCell (p := ⟨p, 0, none⟩) hp _).setCell (p := ⟨p, 1, none⟩) hp _).setCell (p := ⟨p, 2, none⟩) hp _).setCell (p := ⟨p, 3, none⟩) hp _)

set_option maxHeartbeats 4000000 in
set_option maxRecDepth 100000 in
theorem stretched_any (a k o0 o1 o2 o3 e : Int) (he : 0 < e ∧ e ≤ 1073741823) (h0 : 0 ≤ o0 ∧ o0 ≤ 1073741823) (w : World) :
    Calls Try.prog 67 #[.agg #[.int .i64 a, .int .i64 k, .int .i64 o0, .int .i64 o1, .int .i64 o2, .int .i64 o3], .int .i64 e] w (Ret (stgV (It.strE e o0 o1 o2 o3)) w) := by
  obtain ⟨r, hr⟩ : ∃ r, r = It.strE e o0 o1 o2 o3 := ⟨_, rfl⟩
  have HQ := Lib.hid hr
  rw [← hr]
  clear hr
  have HBd := Lib.hid (fun w => badness_any e o0 (by omega) (by omega) (by omega) (by omega) w)
  have Hne : Hid (e ≠ 0) := Lib.hid (by omega)
  obtain ⟨W1, hW1⟩ : ∃ W1, W1 = (w.alloc (.cells #[.int .i64 a, .int .i64 k, .int .i64 o0, .int .i64 o1, .int .i64 o2, .int .i64 o3] 87)).alloc (.cells #[.int .i64 0, .int .i64 0, .int .i64 0, .int .i64 0] 56) := ⟨_, rfl⟩
  have b1 := below_alloc w (.cells #[.int .i64 a, .int .i64 k, .int .i64 o0, .int .i64 o1, .int .i64 o2, .int .i64 o3] 87)
  have b2 := below_alloc (w.alloc (.cells #[.int .i64 a, .int .i64 k, .int .i64 o0, .int .i64 o1, .int .i64 o2, .int .i64 o3] 87)) (.cells #[.int .i64 0, .int .i64 0, .int .i64 0, .int .i64 0] 56)
  have HS := Lib.hid (obj_kept b2 (obj_new w _ rfl #[.int .i64 a, .int .i64 k, .int .i64 o0, .int .i64 o1, .int .i64 o2, .int .i64 o3] 87))
  have HR := Lib.hid (obj_new (w.alloc (.cells #[.int .i64 a, .int .i64 k, .int .i64 o0, .int .i64 o1, .int .i64 o2, .int .i64 o3] 87)) (w.heap.size + 1) (World.size_alloc _ _) #[.int .i64 0, .int .i64 0, .int .i64 0, .int .i64 0] 56)
  have HB := Lib.hid (below_step b1 b2)
  rw [← hW1] at HS HR HB
  clear b1 b2 he h0
  go_enter Try.func67, Try.ntmps67
  go_wp2_with fail
  rw [← hW1]
  clear hW1
  have y2 := Lib.cell_of_heap HS.out 2
  have y3 := Lib.cell_of_heap HS.out 3
  have y4 := Lib.cell_of_heap HS.out 4
  have y5 := Lib.cell_of_heap HS.out 5
  go_loopw [5] (fun iv wr => wr = W1 ∧ ((iv = .int .i64 3) ∨ (iv = .int .i64 2 ∧ o3 = 0) ∨ (iv = .int .i64 1 ∧ o3 = 0 ∧ o2 = 0) ∨ (iv = .int .i64 0 ∧ o3 = 0 ∧ o2 = 0 ∧ o1 = 0))) (fun iv _ => (intOf iv).toNat)
  case atStart => exact ⟨rfl, .inl rfl⟩
  case round =>
    obtain ⟨rfl, hrel⟩ := hrel
    rcases hrel with rfl | ⟨rfl, z3⟩ | ⟨rfl, z3, z2⟩ | ⟨rfl, z3, z2, z1⟩
    · by_cases n : o3 = 0
      · go_wp2
        go_roundw
        case rel => exact ⟨trivial, .inr (.inl ⟨rfl, n⟩)⟩
        case measure => simp [intOf]
      · have HE : Hid (r = ⟨1, 3, e, 0⟩) := Lib.hid (by rw [HQ.out]; unfold It.strE; rw [if_pos n])
        have H4 := Lib.hid (four_set HR.out rfl (.int .i64 1) (.int .i64 3) (.int .i64 e) (.int .i64 0))
        have HBx := Lib.hid (below_four HB.out (Nat.le_succ _) (.int .i64 1) (.int .i64 3) (.int .i64 e) (.int .i64 0))
        have cz0 := Lib.cell_of_heap HR.out 0
        have cz1 := Lib.cell_of_heap HR.out 1
        have cz2 := Lib.cell_of_heap HR.out 2
        have cz3 := Lib.cell_of_heap HR.out 3
        have fz0 := Lib.frozen_of_heap HR.out 0
        have fz1 := Lib.frozen_of_heap HR.out 1
        have fz2 := Lib.frozen_of_heap HR.out 2
        have fz3 := Lib.frozen_of_heap HR.out 3
        go_wp2
        obtain ⟨WX, hWX⟩ : ∃ WX, WX = ((((wr.setCell ⟨w.heap.size + 1, 0, none⟩ (.int .i64 1)).setCell ⟨w.heap.size + 1, 1, none⟩ (.int .i64 3)).setCell ⟨w.heap.size + 1, 2, none⟩ (.int .i64 e)).setCell ⟨w.heap.size + 1, 3, none⟩ (.int .i64 0)) := ⟨_, rfl⟩
        rw [← hWX] at H4 HBx ⊢
        clear hWX
        have q0 := Lib.cell_of_heap H4.out 0
        have q1 := Lib.cell_of_heap H4.out 1
        have q2 := Lib.cell_of_heap H4.out 2
        have q3 := Lib.cell_of_heap H4.out 3
        exact bodyPost_ret (v := .agg #[.int .i64 1, .int .i64 3, .int .i64 e, .int .i64 0]) (by simp [results, Try.results67, go_sem, q0, q1, q2, q3]) rfl ⟨by rw [HE.out]; rfl, HBx.out⟩
    · by_cases n : o2 = 0
      · go_wp2
        go_roundw
        case rel => exact ⟨trivial, .inr (.inr (.inl ⟨rfl, z3, n⟩))⟩
        case measure => simp [intOf]
      · have HE : Hid (r = ⟨1, 2, e, 0⟩) := Lib.hid (by rw [HQ.out]; unfold It.strE; rw [if_neg (show ¬ (o3 ≠ 0) from fun h => h z3)]; rw [if_pos n])
        have H4 := Lib.hid (four_set HR.out rfl (.int .i64 1) (.int .i64 2) (.int .i64 e) (.int .i64 0))
        have HBx := Lib.hid (below_four HB.out (Nat.le_succ _) (.int .i64 1) (.int .i64 2) (.int .i64 e) (.int .i64 0))
        have cz0 := Lib.cell_of_heap HR.out 0
        have cz1 := Lib.cell_of_heap HR.out 1
        have cz2 := Lib.cell_of_heap HR.out 2
        have cz3 := Lib.cell_of_heap HR.out 3
        have fz0 := Lib.frozen_of_heap HR.out 0
        have fz1 := Lib.frozen_of_heap HR.out 1
        have fz2 := Lib.frozen_of_heap HR.out 2
        have fz3 := Lib.frozen_of_heap HR.out 3
        go_wp2
        obtain ⟨WX, hWX⟩ : ∃ WX, WX = ((((wr.setCell ⟨w.heap.size + 1, 0, none⟩ (.int .i64 1)).setCell ⟨w.heap.size + 1, 1, none⟩ (.int .i64 2)).setCell ⟨w.heap.size + 1, 2, none⟩ (.int .i64 e)).setCell ⟨w.heap.size + 1, 3, none⟩ (.int .i64 0)) := ⟨_, rfl⟩
        rw [← hWX] at H4 HBx ⊢
        clear hWX
        have q0 := Lib.cell_of_heap H4.out 0
        have q1 := Lib.cell_of_heap H4.out 1
        have q2 := Lib.cell_of_heap H4.out 2
        have q3 := Lib.cell_of_heap H4.out 3
        exact bodyPost_ret (v := .agg #[.int .i64 1, .int .i64 2, .int .i64 e, .int .i64 0]) (by simp [results, Try.results67, go_sem, q0, q1, q2, q3]) rfl ⟨by rw [HE.out]; rfl, HBx.out⟩
    · by_cases n : o1 = 0
      · go_wp2
        go_roundw
        case rel => exact ⟨trivial, .inr (.inr (.inr ⟨rfl, z3, z2, n⟩))⟩
        case measure => simp [intOf]
      · have HE : Hid (r = ⟨1, 1, e, 0⟩) := Lib.hid (by rw [HQ.out]; unfold It.strE; rw [if_neg (show ¬ (o3 ≠ 0) from fun h => h z3)]; rw [if_neg (show ¬ (o2 ≠ 0) from fun h => h z2)]; rw [if_pos n])
        have H4 := Lib.hid (four_set HR.out rfl (.int .i64 1) (.int .i64 1) (.int .i64 e) (.int .i64 0))
        have HBx := Lib.hid (below_four HB.out (Nat.le_succ _) (.int .i64 1) (.int .i64 1) (.int .i64 e) (.int .i64 0))
        have cz0 := Lib.cell_of_heap HR.out 0
        have cz1 := Lib.cell_of_heap HR.out 1
        have cz2 := Lib.cell_of_heap HR.out 2
        have cz3 := Lib.cell_of_heap HR.out 3
        have fz0 := Lib.frozen_of_heap HR.out 0
        have fz1 := Lib.frozen_of_heap HR.out 1
        have fz2 := Lib.frozen_of_heap HR.out 2
        have fz3 := Lib.frozen_of_heap HR.out 3
        go_wp2
        obtain ⟨WX, hWX⟩ : ∃ WX, WX = ((((wr.setCell ⟨w.heap.size + 1, 0, none⟩ (.int .i64 1)).setCell ⟨w.heap.size + 1, 1, none⟩ (.int .i64 1)).setCell ⟨w.heap.size + 1, 2, none⟩ (.int .i64 e)).setCell ⟨w.heap.size + 1, 3, none⟩ (.int .i64 0)) := ⟨_, rfl⟩
        rw [← hWX] at H4 HBx ⊢
        clear hWX
        have q0 := Lib.cell_of_heap H4.out 0
        have q1 := Lib.cell_of_heap H4.out 1
        have q2 := Lib.cell_of_heap H4.out 2
        have q3 := Lib.cell_of_heap H4.out 3
        exact bodyPost_ret (v := .agg #[.int .i64 1, .int .i64 1, .int .i64 e, .int .i64 0]) (by simp [results, Try.results67, go_sem, q0, q1, q2, q3]) rfl ⟨by rw [HE.out]; rfl, HBx.out⟩
    · by_cases n : o0 = 0
      · have HE : Hid (r = ⟨0, 0, e, 10000⟩) := Lib.hid (by rw [HQ.out]; unfold It.strE; rw [if_neg (show ¬ (o3 ≠ 0) from fun h => h z3), if_neg (show ¬ (o2 ≠ 0) from fun h => h z2), if_neg (show ¬ (o1 ≠ 0) from fun h => h z1), if_neg (show ¬ (o0 ≠ 0) from fun h => h n)])
        have H4 := Lib.hid (four_set HR.out rfl (.int .i64 0) (.int .i64 0) (.int .i64 e) (.int .i64 10000))
        have HBx := Lib.hid (below_four HB.out (Nat.le_succ _) (.int .i64 0) (.int .i64 0) (.int .i64 e) (.int .i64 10000))
        have cz0 := Lib.cell_of_heap HR.out 0
        have cz1 := Lib.cell_of_heap HR.out 1
        have cz2 := Lib.cell_of_heap HR.out 2
        have cz3 := Lib.cell_of_heap HR.out 3
        have fz0 := Lib.frozen_of_heap HR.out 0
        have fz1 := Lib.frozen_of_heap HR.out 1
        have fz2 := Lib.frozen_of_heap HR.out 2
        have fz3 := Lib.frozen_of_heap HR.out 3
        go_wp2
        obtain ⟨WX, hWX⟩ : ∃ WX, WX = ((((wr.setCell ⟨w.heap.size + 1, 0, none⟩ (.int .i64 0)).setCell ⟨w.heap.size + 1, 1, none⟩ (.int .i64 0)).setCell ⟨w.heap.size + 1, 2, none⟩ (.int .i64 e)).setCell ⟨w.heap.size + 1, 3, none⟩ (.int .i64 10000)) := ⟨_, rfl⟩
        rw [← hWX] at H4 HBx ⊢
        clear hWX
        have q0 := Lib.cell_of_heap H4.out 0
        have q1 := Lib.cell_of_heap H4.out 1
        have q2 := Lib.cell_of_heap H4.out 2
        have q3 := Lib.cell_of_heap H4.out 3
        exact bodyPost_ret (v := .agg #[.int .i64 0, .int .i64 0, .int .i64 e, .int .i64 10000]) (by simp [results, Try.results67, go_sem, q0, q1, q2, q3]) rfl ⟨by rw [HE.out]; rfl, HBx.out⟩
      · have HE : Hid (r = ⟨1, 0, e, It.bdn e o0⟩) := Lib.hid (by rw [HQ.out]; unfold It.strE; rw [if_neg (show ¬ (o3 ≠ 0) from fun h => h z3), if_neg (show ¬ (o2 ≠ 0) from fun h => h z2), if_neg (show ¬ (o1 ≠ 0) from fun h => h z1), if_pos n])
        generalize It.bdn e o0 = bd at HBd HE
        go_wp2_with fail
        refine (HBd.out _).mono ?_
        rintro e9 w9 ⟨rfl, rfl⟩
        have H4 := Lib.hid (four_set HR.out rfl (.int .i64 1) (.int .i64 0) (.int .i64 e) (.int .i64 bd))
        have HBx := Lib.hid (below_four HB.out (Nat.le_succ _) (.int .i64 1) (.int .i64 0) (.int .i64 e) (.int .i64 bd))
        have cz0 := Lib.cell_of_heap HR.out 0
        have cz1 := Lib.cell_of_heap HR.out 1
        have cz2 := Lib.cell_of_heap HR.out 2
        have cz3 := Lib.cell_of_heap HR.out 3
        have fz0 := Lib.frozen_of_heap HR.out 0
        have fz1 := Lib.frozen_of_heap HR.out 1
        have fz2 := Lib.frozen_of_heap HR.out 2
        have fz3 := Lib.frozen_of_heap HR.out 3
        go_wp2
        obtain ⟨WX, hWX⟩ : ∃ WX, WX = ((((wr.setCell ⟨w.heap.size + 1, 0, none⟩ (.int .i64 1)).setCell ⟨w.heap.size + 1, 1, none⟩ (.int .i64 0)).setCell ⟨w.heap.size + 1, 2, none⟩ (.int .i64 e)).setCell ⟨w.heap.size + 1, 3, none⟩ (.int .i64 bd)) := ⟨_, rfl⟩
        rw [← hWX] at H4 HBx ⊢
        clear hWX
        have q0 := Lib.cell_of_heap H4.out 0
        have q1 := Lib.cell_of_heap H4.out 1
        have q2 := Lib.cell_of_heap H4.out 2
        have q3 := Lib.cell_of_heap H4.out 3
        exact bodyPost_ret (v := .agg #[.int .i64 1, .int .i64 0, .int .i64 e, .int .i64 bd]) (by simp [results, Try.results67, go_sem, q0, q1, q2, q3]) rfl ⟨by rw [HE.out]; rfl, HBx.out⟩

set_option maxHeartbeats 4000000 in
set_option maxRecDepth 100000 in
theorem shrunk_any (a k o0 o1 o2 o3 e : Int) (he : e < 0 ∧ -1073741823 ≤ e) (h0 : 0 ≤ k ∧ k ≤ 1073741823) (w : World) :
    Calls Try.prog 68 #[.agg #[.int .i64 a, .int .i64 k, .int .i64 o0, .int .i64 o1, .int .i64 o2, .int .i64 o3], .int .i64 e] w (Ret (stgV (It.shrE e k)) w) := by
  obtain ⟨r, hr⟩ : ∃ r, r = It.shrE e k := ⟨_, rfl⟩
  have HQ := Lib.hid hr
  rw [← hr]
  clear hr
  have HBd := Lib.hid (fun w => badness_any (-e) k (by omega) (by omega) (by omega) (by omega) w)
  obtain ⟨W1, hW1⟩ : ∃ W1, W1 = (w.alloc (.cells #[.int .i64 a, .int .i64 k, .int .i64 o0, .int .i64 o1, .int .i64 o2, .int .i64 o3] 87)).alloc (.cells #[.int .i64 0, .int .i64 0, .int .i64 0, .int .i64 0] 56) := ⟨_, rfl⟩
  have b1 := below_alloc w (.cells #[.int .i64 a, .int .i64 k, .int .i64 o0, .int .i64 o1, .int .i64 o2, .int .i64 o3] 87)
  have b2 := below_alloc (w.alloc (.cells #[.int .i64 a, .int .i64 k, .int .i64 o0, .int .i64 o1, .int .i64 o2, .int .i64 o3] 87)) (.cells #[.int .i64 0, .int .i64 0, .int .i64 0, .int .i64 0] 56)
  have HS := Lib.hid (obj_kept b2 (obj_new w _ rfl #[.int .i64 a, .int .i64 k, .int .i64 o0, .int .i64 o1, .int .i64 o2, .int .i64 o3] 87))
  have HR := Lib.hid (obj_new (w.alloc (.cells #[.int .i64 a, .int .i64 k, .int .i64 o0, .int .i64 o1, .int .i64 o2, .int .i64 o3] 87)) (w.heap.size + 1) (World.size_alloc _ _) #[.int .i64 0, .int .i64 0, .int .i64 0, .int .i64 0] 56)
  have HB := Lib.hid (below_step b1 b2)
  rw [← hW1] at HS HR HB
  clear b1 b2
  have y1 := Lib.cell_of_heap HS.out 1
  have hwr : IntKind.i64.wrap (-e) = -e := It.wr_in (by omega) (by omega)
  by_cases n : -e ≤ k
  · have HE : Hid (r = ⟨-1, 0, e, It.bdn (-e) k⟩) := Lib.hid (by rw [HQ.out]; unfold It.shrE; rw [if_pos n])
    generalize It.bdn (-e) k = bd at HBd HE
    go_enter Try.func68, Try.ntmps68
    go_wp2_with fail
    rw [← hW1]
    clear hW1
    refine (HBd.out _).mono ?_
    rintro e9 w9 ⟨rfl, rfl⟩
    have H4 := Lib.hid (four_set HR.out rfl (.int .i64 (-1)) (.int .i64 0) (.int .i64 e) (.int .i64 bd))
    have HBx := Lib.hid (below_four HB.out (Nat.le_succ _) (.int .i64 (-1)) (.int .i64 0) (.int .i64 e) (.int .i64 bd))
    have cz0 := Lib.cell_of_heap HR.out 0
    have cz1 := Lib.cell_of_heap HR.out 1
    have cz2 := Lib.cell_of_heap HR.out 2
    have cz3 := Lib.cell_of_heap HR.out 3
    have fz0 := Lib.frozen_of_heap HR.out 0
    have fz1 := Lib.frozen_of_heap HR.out 1
    have fz2 := Lib.frozen_of_heap HR.out 2
    have fz3 := Lib.frozen_of_heap HR.out 3
    go_wp2
    obtain ⟨WX, hWX⟩ : ∃ WX, WX = ((((W1.setCell ⟨w.heap.size + 1, 0, none⟩ (.int .i64 (-1))).setCell ⟨w.heap.size + 1, 1, none⟩ (.int .i64 0)).setCell ⟨w.heap.size + 1, 2, none⟩ (.int .i64 e)).setCell ⟨w.heap.size + 1, 3, none⟩ (.int .i64 bd)) := ⟨_, rfl⟩
    rw [← hWX] at H4 HBx ⊢
    clear hWX
    have q0 := Lib.cell_of_heap H4.out 0
    have q1 := Lib.cell_of_heap H4.out 1
    have q2 := Lib.cell_of_heap H4.out 2
    have q3 := Lib.cell_of_heap H4.out 3
    exact bodyPost_ret (v := .agg #[.int .i64 (-1), .int .i64 0, .int .i64 e, .int .i64 bd]) (by simp [results, Try.results68, go_sem, q0, q1, q2, q3]) rfl ⟨by rw [HE.out]; rfl, HBx.out⟩
  · have HE : Hid (r = ⟨-1, 0, e, 1000000⟩) := Lib.hid (by rw [HQ.out]; unfold It.shrE; rw [if_neg n])
    have n' : k < -e := by omega
    go_enter Try.func68, Try.ntmps68
    go_wp2
    obtain ⟨WX, hWX⟩ : ∃ WX, WX = (w.alloc (.cells #[.int .i64 a, .int .i64 k, .int .i64 o0, .int .i64 o1, .int .i64 o2, .int .i64 o3] 87)).alloc (.cells #[.int .i64 (-1), .int .i64 0, .int .i64 e, .int .i64 1000000] 56) := ⟨_, rfl⟩
    have H4 := Lib.hid (obj_new (w.alloc (.cells #[.int .i64 a, .int .i64 k, .int .i64 o0, .int .i64 o1, .int .i64 o2, .int .i64 o3] 87)) (w.heap.size + 1) (World.size_alloc _ _) #[.int .i64 (-1), .int .i64 0, .int .i64 e, .int .i64 1000000] 56)
    have HBx := Lib.hid (below_step (below_alloc w (.cells #[.int .i64 a, .int .i64 k, .int .i64 o0, .int .i64 o1, .int .i64 o2, .int .i64 o3] 87)) (below_alloc (w.alloc (.cells #[.int .i64 a, .int .i64 k, .int .i64 o0, .int .i64 o1, .int .i64 o2, .int .i64 o3] 87)) (.cells #[.int .i64 (-1), .int .i64 0, .int .i64 e, .int .i64 1000000] 56)))
    rw [← hWX] at H4 HBx ⊢
    clear hWX
    have q0 := Lib.cell_of_heap H4.out 0
    have q1 := Lib.cell_of_heap H4.out 1
    have q2 := Lib.cell_of_heap H4.out 2
    have q3 := Lib.cell_of_heap H4.out 3
    exact bodyPost_ret (v := .agg #[.int .i64 (-1), .int .i64 0, .int .i64 e, .int .i64 1000000]) (by simp [results, Try.results68, go_sem, q0, q1, q2, q3]) rfl ⟨by rw [HE.out]; rfl, HBx.out⟩
end Go.Proofs.Ythcilpijiindeaa
