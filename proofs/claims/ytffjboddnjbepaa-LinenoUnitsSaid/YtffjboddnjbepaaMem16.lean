/-
  Rows, numbers and bools of this seat in memory; units and numbers held against one another; the landed Unit and next.
-/
import Derived.Test.YtffjboddnjbepaaApp9
import Derived.Test.YtffjboddnjbepaaLn16
import Derived.ChangeKeysEq
set_option linter.unusedVariables false
set_option linter.unusedSimpArgs false
namespace Go.Proofs.Ytffjboddnjbepaa
open Go.RowKit

def rwC (r : Ln.Rw) : List Value := [.int .i64 r.pg, .int .i64 r.ch, .int .i64 r.pa, .int .i64 r.st, .bool r.sb, .bool r.sk, .bool r.lk]
def rwV (r : Ln.Rw) : Value := .agg #[.int .i64 r.pg, .int .i64 r.ch, .int .i64 r.pa, .int .i64 r.st, .bool r.sb, .bool r.sk, .bool r.lk]
def nmC (x : Int × Int) : List Value := [.int .i64 x.1, .int .i64 x.2]
def nmV (x : Int × Int) : Value := .agg #[.int .i64 x.1, .int .i64 x.2]
def unV (x : Int × Int × Int) : Value := .agg #[.int .i64 x.1, .int .i64 x.2.1, .int .i64 x.2.2]
def blC (b : Bool) : List Value := [.bool b]
theorem rwC_len (x : Ln.Rw) : (rwC x).length = 7 := rfl
theorem nmC_len (x : Int × Int) : (nmC x).length = 2 := rfl
theorem blC_len (x : Bool) : (blC x).length = 1 := rfl
abbrev RwsAt (w : World) (v : Value) (l : List Ln.Rw) : Prop := SlcAt rwC 7 w v l
abbrev NmsAt (w : World) (v : Value) (l : List (Int × Int)) : Prop := SlcAt nmC 2 w v l
abbrev BlsAt (w : World) (v : Value) (l : List Bool) : Prop := SlcAt blC 1 w v l
theorem rw_cells {w : World} {b o : Nat} {x : Ln.Rw} (h : RecAt w b o (rwC x)) : w.cell? ⟨b, o, none⟩ = some (.int .i64 x.pg) ∧ w.cell? ⟨b, o + 1, none⟩ = some (.int .i64 x.ch) ∧ w.cell? ⟨b, o + 2, none⟩ = some (.int .i64 x.pa) ∧ w.cell? ⟨b, o + 3, none⟩ = some (.int .i64 x.st) ∧ w.cell? ⟨b, o + 4, none⟩ = some (.bool x.sb) ∧ w.cell? ⟨b, o + 5, none⟩ = some (.bool x.sk) ∧ w.cell? ⟨b, o + 6, none⟩ = some (.bool x.lk) :=
  ⟨h 0 _ rfl, h 1 _ rfl, h 2 _ rfl, h 3 _ rfl, h 4 _ rfl, h 5 _ rfl, h 6 _ rfl⟩
theorem nm_cells {w : World} {b o : Nat} {x : Int × Int} (h : RecAt w b o (nmC x)) : w.cell? ⟨b, o, none⟩ = some (.int .i64 x.1) ∧ w.cell? ⟨b, o + 1, none⟩ = some (.int .i64 x.2) := ⟨h 0 _ rfl, h 1 _ rfl⟩
theorem bl_cell {w : World} {b o : Nat} {x : Bool} (h : RecAt w b o (blC x)) : w.cell? ⟨b, o, none⟩ = some (.bool x) := h 0 _ rfl
theorem infoRw : (Try.prog.info? 29).map (fun i => (i.zero, i.size, i.bytes)) = some (some (.agg #[.int .i64 0, .int .i64 0, .int .i64 0, .int .i64 0, .bool false, .bool false, .bool false]), 7, 40) := by kernel_rfl
theorem infoNm : (Try.prog.info? 31).map (fun i => (i.zero, i.size, i.bytes)) = some (some (.agg #[.int .i64 0, .int .i64 0]), 2, 16) := by kernel_rfl
theorem infoBl : (Try.prog.info? 4).map (fun i => (i.zero, i.size, i.bytes)) = some (some (.bool false), 1, 1) := by kernel_rfl
theorem rwC_cell (l : List Ln.Rw) : ∀ u ∈ l.flatMap rwC, u.oneCell' = true := by
  intro u hu
  obtain ⟨t, _, h⟩ := List.mem_flatMap.1 hu
  simp [rwC] at h
  rcases h with rfl | rfl | rfl | rfl | rfl | rfl | rfl <;> rfl
theorem nmC_cell (l : List (Int × Int)) : ∀ u ∈ l.flatMap nmC, u.oneCell' = true := by
  intro u hu
  obtain ⟨t, _, h⟩ := List.mem_flatMap.1 hu
  simp [nmC] at h
  rcases h with rfl | rfl <;> rfl

/-! ### held against one another -/
theorem fNm16 : (Try.prog.fieldsOf 31).toList.map (fun f => (f.name, f.type, f.offset)) = [("Line", 3, 0), ("Sub", 3, 1)] := by kernel_rfl
theorem uNm16 : Try.prog.underlying 31 = some (.struct (Try.prog.fieldsOf 31)) := by kernel_rfl
theorem hNm16 : Try.prog.stoodInHeld 31 = false := by kernel_rfl
theorem eqin_num (d : Nat) (a b a' b' : Int) (w : World) : (Op.equalIn (d + 3) 31 (.agg #[.int .i64 a, .int .i64 b]) (.agg #[.int .i64 a', .int .i64 b'])).run Try.prog w = .ok (decide ((a, b) = (a', b'))) w := by
  rw [run_equalIn_agg w (d + 2) 31 _ _ uNm16 hNm16]
  obtain ⟨f1, h1, e1⟩ := eq_step (d + 2) #[.int .i64 a, .int .i64 b] #[.int .i64 a', .int .i64 b'] _ _ _ _ _ fNm16 (by decide) w (.int .i64 a) (.int .i64 a') (a == a') (by kernel_rfl) (by kernel_rfl) (run_equalIn_int w (d + 1) _ .i64 .i64 a a' Try.underlying3)
  obtain ⟨f2, h2, e2⟩ := eq_step (d + 2) #[.int .i64 a, .int .i64 b] #[.int .i64 a', .int .i64 b'] _ _ _ _ _ h1 (by decide) w (.int .i64 b) (.int .i64 b') (b == b') (by kernel_rfl) (by kernel_rfl) (run_equalIn_int w (d + 1) _ .i64 .i64 b b' Try.underlying3)
  rw [e1, e2, eq_done _ _ _ _ h2]
  by_cases q1 : a = a'
  · by_cases q2 : b = b' <;> simp [q1, q2]
  · simp [q1]
theorem eq_num (a b a' b' : Int) (w : World) : (Op.equalIn 10000 31 (.agg #[.int .i64 a, .int .i64 b]) (.agg #[.int .i64 a', .int .i64 b'])).run Try.prog w = .ok (decide ((a, b) = (a', b'))) w := eqin_num 9997 a b a' b' w
theorem uUn16 : Try.prog.underlying 26 = some (.array 3 3) := by kernel_rfl
theorem cInt16 : Try.prog.cellsOf 3 = 1 := by kernel_rfl
theorem eqin_unit (d : Nat) (a b c a' b' c' : Int) (w : World) : (Op.equalIn (d + 2) 26 (.agg #[.int .i64 a, .int .i64 b, .int .i64 c]) (.agg #[.int .i64 a', .int .i64 b', .int .i64 c'])).run Try.prog w = .ok (decide ((a, b, c) = (a', b', c'))) w := by
  obtain ⟨i, hi⟩ := info_of_underlying Try.underlying3
  rw [run_equalIn_array w (d + 1) _ _ uUn16 hi, cInt16]
  have p0 : ∀ x y z : Int, (part 3 #[.int .i64 x, .int .i64 y, .int .i64 z] (0 * 1)).run Try.prog w = .ok (.int .i64 x) w := fun x y z => by kernel_rfl
  have p1 : ∀ x y z : Int, (part 3 #[.int .i64 x, .int .i64 y, .int .i64 z] (1 * 1)).run Try.prog w = .ok (.int .i64 y) w := fun x y z => by kernel_rfl
  have p2 : ∀ x y z : Int, (part 3 #[.int .i64 x, .int .i64 y, .int .i64 z] (2 * 1)).run Try.prog w = .ok (.int .i64 z) w := fun x y z => by kernel_rfl
  have q : ∀ x y : Int, (Op.equalIn (d + 1) 3 (.int .i64 x) (.int .i64 y)).run Try.prog w = .ok (x == y) w := fun x y => run_equalIn_int w d _ .i64 .i64 x y Try.underlying3
  have hr : List.range 3 = [0, 1, 2] := by decide
  rw [hr]
  simp only [Op.eqItems, Sem.run_bind, p0, p1, p2, q, Result.andThen_ok]
  by_cases q1 : a = a'
  · by_cases q2 : b = b'
    · by_cases q3 : c = c' <;> simp [q1, q2, q3, p1, p2, q, Sem.run_bind]
    · simp [q1, q2, p1, p2, q, Sem.run_bind]
  · simp [q1]
theorem eq_unit (a b c a' b' c' : Int) (w : World) : (Op.equalIn 10000 26 (.agg #[.int .i64 a, .int .i64 b, .int .i64 c]) (.agg #[.int .i64 a', .int .i64 b', .int .i64 c'])).run Try.prog w = .ok (decide ((a, b, c) = (a', b', c'))) w := eqin_unit 9998 a b c a' b' c' w

/-! ### the landed Unit and next -/
def putU (w : World) (P : Nat) (x : Int × Int × Int) : World := ((w.setCell ⟨P, 0, none⟩ (.int .i64 x.1)).setCell ⟨P, 1, none⟩ (.int .i64 x.2.1)).setCell ⟨P, 2, none⟩ (.int .i64 x.2.2)
theorem putU_obj {w : World} {P : Nat} {a b c : Value} (h : w.heap[P]? = some (.cells #[a, b, c] 26 (0, 0))) (x : Int × Int × Int) : (putU w P x).heap[P]? = some (.cells #[.int .i64 x.1, .int .i64 x.2.1, .int .i64 x.2.2] 26 (0, 0)) :=
  heap_setCell_same _ P 2 _ _ (.int .i64 x.2.2) (heap_setCell_same _ P 1 _ _ (.int .i64 x.2.1) (heap_setCell_same w P 0 _ _ (.int .i64 x.1) h))
theorem putU_below {B : Nat} {w0 w : World} {P : Nat} (h : Below B w0 w) (hP : B ≤ P) (x : Int × Int × Int) : Below B w0 (putU w P x) := ((h.setCell (p := ⟨P, 0, none⟩) hP _).setCell (p := ⟨P, 1, none⟩) hP _).setCell (p := ⟨P, 2, none⟩) hP _
def putN (w : World) (P : Nat) (x : Int × Int) : World := (w.setCell ⟨P, 0, none⟩ (.int .i64 x.1)).setCell ⟨P, 1, none⟩ (.int .i64 x.2)
theorem putN_obj {w : World} {P : Nat} {a b : Value} (h : w.heap[P]? = some (.cells #[a, b] 31 (0, 0))) (x : Int × Int) : (putN w P x).heap[P]? = some (.cells #[.int .i64 x.1, .int .i64 x.2] 31 (0, 0)) :=
  heap_setCell_same _ P 1 _ _ (.int .i64 x.2) (heap_setCell_same w P 0 _ _ (.int .i64 x.1) h)
theorem putN_below {B : Nat} {w0 w : World} {P : Nat} (h : Below B w0 w) (hP : B ≤ P) (x : Int × Int) : Below B w0 (putN w P x) := (h.setCell (p := ⟨P, 0, none⟩) hP _).setCell (p := ⟨P, 1, none⟩) hP _
set_option maxHeartbeats 4000000 in
set_option maxRecDepth 100000 in
theorem unit_any (r : Ln.Rw) (u : Int) (w : World) : Calls Try.prog 9 #[rwV r, .int .i64 u] w fun e w' => e = .returned (unV (Ln.unit u r)) ∧ Below w.heap.size w w' := by
  obtain ⟨W1, hW1⟩ : ∃ W, W = w.alloc (.cells #[.int .i64 r.pg, .int .i64 r.ch, .int .i64 r.pa, .int .i64 r.st, .bool r.sb, .bool r.sk, .bool r.lk] 29) := ⟨_, rfl⟩
  have b1 := below_alloc w (.cells #[.int .i64 r.pg, .int .i64 r.ch, .int .i64 r.pa, .int .i64 r.st, .bool r.sb, .bool r.sk, .bool r.lk] 29)
  have X1 := obj_new w _ rfl #[.int .i64 r.pg, .int .i64 r.ch, .int .i64 r.pa, .int .i64 r.st, .bool r.sb, .bool r.sk, .bool r.lk] 29
  rw [← hW1] at b1 X1
  obtain ⟨W2, hW2⟩ : ∃ W, W = W1.alloc (.cells #[.int .i64 0, .int .i64 0, .int .i64 0] 26) := ⟨_, rfl⟩
  have b2 := below_alloc W1 (.cells #[.int .i64 0, .int .i64 0, .int .i64 0] 26)
  have X2 := obj_new W1 _ rfl #[.int .i64 0, .int .i64 0, .int .i64 0] 26
  rw [← hW2] at b2 X2
  have Y1 := obj_kept b2 X1
  have B2 := below_step b1 b2
  obtain ⟨Q, hQ⟩ : ∃ Q, Q = w.heap.size := ⟨_, rfl⟩
  obtain ⟨P, hP⟩ : ∃ P, P = Q + 1 := ⟨_, rfl⟩
  have hs : W1.heap.size = P := by rw [hP, hQ, hW1]; exact World.size_alloc _ _
  have hle : w.heap.size ≤ P := by omega
  rw [hs] at X2
  rw [← hQ] at Y1
  have HX := Lib.hid (fun x => putU_obj X2 x)
  have HB := Lib.hid (fun x => putU_below B2 hle x)
  have q0 : W2.cell? ⟨Q, 0, none⟩ = some (.int .i64 r.pg) := Lib.cell_of_heap Y1 0
  have q1 : W2.cell? ⟨Q, 1, none⟩ = some (.int .i64 r.ch) := Lib.cell_of_heap Y1 1
  have q2 : W2.cell? ⟨Q, 2, none⟩ = some (.int .i64 r.pa) := Lib.cell_of_heap Y1 2
  have p0 : W2.cell? ⟨P, 0, none⟩ = some (.int .i64 0) := Lib.cell_of_heap X2 0
  have p1 : W2.cell? ⟨P, 1, none⟩ = some (.int .i64 0) := Lib.cell_of_heap X2 1
  have p2 : W2.cell? ⟨P, 2, none⟩ = some (.int .i64 0) := Lib.cell_of_heap X2 2
  have f0 := Lib.frozen_of_heap X2 0
  have f1 := Lib.frozen_of_heap X2 1
  have f2 := Lib.frozen_of_heap X2 2
  clear b1 X1 b2 X2 Y1 B2 hle
  unfold rwV
  go_enter Try.func9, Try.ntmps9
  go_upto_region 1 with fail
  rw [← hW1, ← hQ, ← hP, ← hW2]
  clear hW1 hW2 hP hQ hs
  by_cases h0 : u = 0
  · have HU : Hid ((r.pg, 0, 0) = Ln.unit u r) := Lib.hid (by unfold Ln.unit; rw [if_pos h0])
    have c0 : (u == 0) = true := by simp [h0]
    clear h0
    have X := HX.out (r.pg, 0, 0)
    have B := HB.out (r.pg, 0, 0)
    unfold putU at X B
    simp only [] at X B
    obtain ⟨WF, hWF⟩ : ∃ W, W = ((W2.setCell ⟨P, 0, none⟩ (.int .i64 r.pg)).setCell ⟨P, 1, none⟩ (.int .i64 0)).setCell ⟨P, 2, none⟩ (.int .i64 0) := ⟨_, rfl⟩
    rw [← hWF] at X B
    go_wp2
    rw [← hWF]
    clear hWF q0 q1 q2 p0 p1 p2 f0 f1 f2
    have k0 := Lib.cell_of_heap X 0
    have k1 := Lib.cell_of_heap X 1
    have k2 := Lib.cell_of_heap X 2
    exact bodyPost_ret (v := .agg #[.int .i64 r.pg, .int .i64 0, .int .i64 0]) (by simp [results, Try.results9, go_sem, k0, k1, k2]) rfl ⟨by rw [← HU.out]; rfl, B⟩
  have c0 : (u == 0) = false := by simp [h0]
  by_cases h1 : u = 1
  · have HU : Hid ((r.ch, 0, 0) = Ln.unit u r) := Lib.hid (by unfold Ln.unit; rw [if_neg h0, if_pos h1])
    have c1 : (u == 1) = true := by simp [h1]
    clear h0 h1
    have X := HX.out (r.ch, 0, 0)
    have B := HB.out (r.ch, 0, 0)
    unfold putU at X B
    simp only [] at X B
    obtain ⟨WF, hWF⟩ : ∃ W, W = ((W2.setCell ⟨P, 0, none⟩ (.int .i64 r.ch)).setCell ⟨P, 1, none⟩ (.int .i64 0)).setCell ⟨P, 2, none⟩ (.int .i64 0) := ⟨_, rfl⟩
    rw [← hWF] at X B
    go_wp2
    rw [← hWF]
    clear hWF q0 q1 q2 p0 p1 p2 f0 f1 f2
    have k0 := Lib.cell_of_heap X 0
    have k1 := Lib.cell_of_heap X 1
    have k2 := Lib.cell_of_heap X 2
    exact bodyPost_ret (v := .agg #[.int .i64 r.ch, .int .i64 0, .int .i64 0]) (by simp [results, Try.results9, go_sem, k0, k1, k2]) rfl ⟨by rw [← HU.out]; rfl, B⟩
  have c1 : (u == 1) = false := by simp [h1]
  by_cases h2 : u = 2
  · have HU : Hid ((r.ch, r.pa, 1) = Ln.unit u r) := Lib.hid (by unfold Ln.unit; rw [if_neg h0, if_neg h1, if_pos h2])
    have c2 : (u == 2) = true := by simp [h2]
    clear h0 h1 h2
    have X := HX.out (r.ch, r.pa, 1)
    have B := HB.out (r.ch, r.pa, 1)
    unfold putU at X B
    simp only [] at X B
    obtain ⟨WF, hWF⟩ : ∃ W, W = ((W2.setCell ⟨P, 0, none⟩ (.int .i64 r.ch)).setCell ⟨P, 1, none⟩ (.int .i64 r.pa)).setCell ⟨P, 2, none⟩ (.int .i64 1) := ⟨_, rfl⟩
    rw [← hWF] at X B
    go_wp2
    rw [← hWF]
    clear hWF q0 q1 q2 p0 p1 p2 f0 f1 f2
    have k0 := Lib.cell_of_heap X 0
    have k1 := Lib.cell_of_heap X 1
    have k2 := Lib.cell_of_heap X 2
    exact bodyPost_ret (v := .agg #[.int .i64 r.ch, .int .i64 r.pa, .int .i64 1]) (by simp [results, Try.results9, go_sem, k0, k1, k2]) rfl ⟨by rw [← HU.out]; rfl, B⟩
  · have HU : Hid ((0, 0, 0) = Ln.unit u r) := Lib.hid (by unfold Ln.unit; rw [if_neg h0, if_neg h1, if_neg h2])
    have c2 : (u == 2) = false := by simp [h2]
    clear h0 h1 h2
    have X := HX.out (0, 0, 0)
    have B := HB.out (0, 0, 0)
    unfold putU at X B
    simp only [] at X B
    obtain ⟨WF, hWF⟩ : ∃ W, W = ((W2.setCell ⟨P, 0, none⟩ (.int .i64 0)).setCell ⟨P, 1, none⟩ (.int .i64 0)).setCell ⟨P, 2, none⟩ (.int .i64 0) := ⟨_, rfl⟩
    rw [← hWF] at X B
    go_wp2
    rw [← hWF]
    clear hWF q0 q1 q2 p0 p1 p2 f0 f1 f2
    have k0 := Lib.cell_of_heap X 0
    have k1 := Lib.cell_of_heap X 1
    have k2 := Lib.cell_of_heap X 2
    exact bodyPost_ret (v := .agg #[.int .i64 0, .int .i64 0, .int .i64 0]) (by simp [results, Try.results9, go_sem, k0, k1, k2]) rfl ⟨by rw [← HU.out]; rfl, B⟩
theorem wr_is16 (x : Int) : Ln.wr x = wrap64 x := IntWalk.i64_left x
theorem max_top (x : Int) : Ln.top1 x = max x 1 := by unfold Ln.top1; split <;> omega
set_option maxHeartbeats 4000000 in
set_option maxRecDepth 100000 in
theorem next_any (a : Int × Int) (r : Ln.Rw) (w : World) : Calls Try.prog 12 #[nmV a, rwV r] w fun e w' => e = .returned (nmV (Ln.next a r)) ∧ Below w.heap.size w w' := by
  obtain ⟨x, y⟩ := a
  obtain ⟨W0, hW0⟩ : ∃ W, W = w.alloc (.cells #[.int .i64 x, .int .i64 y] 31) := ⟨_, rfl⟩
  have b0 := below_alloc w (.cells #[.int .i64 x, .int .i64 y] 31)
  have X0 := obj_new w _ rfl #[.int .i64 x, .int .i64 y] 31
  rw [← hW0] at b0 X0
  obtain ⟨W1, hW1⟩ : ∃ W, W = W0.alloc (.cells #[.int .i64 r.pg, .int .i64 r.ch, .int .i64 r.pa, .int .i64 r.st, .bool r.sb, .bool r.sk, .bool r.lk] 29) := ⟨_, rfl⟩
  have b1 := below_alloc W0 (.cells #[.int .i64 r.pg, .int .i64 r.ch, .int .i64 r.pa, .int .i64 r.st, .bool r.sb, .bool r.sk, .bool r.lk] 29)
  have X1 := obj_new W0 _ rfl #[.int .i64 r.pg, .int .i64 r.ch, .int .i64 r.pa, .int .i64 r.st, .bool r.sb, .bool r.sk, .bool r.lk] 29
  rw [← hW1] at b1 X1
  obtain ⟨W2, hW2⟩ : ∃ W, W = W1.alloc (.cells #[.int .i64 0, .int .i64 0] 31) := ⟨_, rfl⟩
  have b2 := below_alloc W1 (.cells #[.int .i64 0, .int .i64 0] 31)
  have X2 := obj_new W1 _ rfl #[.int .i64 0, .int .i64 0] 31
  rw [← hW2] at b2 X2
  have Y0 := obj_kept b2 (obj_kept b1 X0)
  have Y1 := obj_kept b2 X1
  have B2 := below_step (below_step b0 b1) b2
  obtain ⟨N, hN⟩ : ∃ Q, Q = w.heap.size := ⟨_, rfl⟩
  obtain ⟨Q, hQ⟩ : ∃ Q, Q = N + 1 := ⟨_, rfl⟩
  obtain ⟨P, hP⟩ : ∃ P, P = Q + 1 := ⟨_, rfl⟩
  have hs0 : W0.heap.size = Q := by rw [hQ, hN, hW0]; exact World.size_alloc _ _
  have hs : W1.heap.size = P := by rw [hP, ← hs0, hW1]; exact World.size_alloc _ _
  have hle : w.heap.size ≤ P := by omega
  rw [hs] at X2
  rw [hs0] at Y1
  rw [← hN] at Y0
  have HX := Lib.hid (fun x => putN_obj X2 x)
  have HB := Lib.hid (fun x => putN_below B2 hle x)
  have a0 : W2.cell? ⟨N, 0, none⟩ = some (.int .i64 x) := Lib.cell_of_heap Y0 0
  have a1 : W2.cell? ⟨N, 1, none⟩ = some (.int .i64 y) := Lib.cell_of_heap Y0 1
  have q3 : W2.cell? ⟨Q, 3, none⟩ = some (.int .i64 r.st) := Lib.cell_of_heap Y1 3
  have q4 : W2.cell? ⟨Q, 4, none⟩ = some (.bool r.sb) := Lib.cell_of_heap Y1 4
  have q6 : W2.cell? ⟨Q, 6, none⟩ = some (.bool r.lk) := Lib.cell_of_heap Y1 6
  have p0 : W2.cell? ⟨P, 0, none⟩ = some (.int .i64 0) := Lib.cell_of_heap X2 0
  have p1 : W2.cell? ⟨P, 1, none⟩ = some (.int .i64 0) := Lib.cell_of_heap X2 1
  have f0 := Lib.frozen_of_heap X2 0
  have f1 := Lib.frozen_of_heap X2 1
  clear b0 b1 X0 X1 b2 X2 Y0 Y1 B2 hle
  unfold rwV nmV
  go_enter Try.func12, Try.ntmps12
  go_upto_region 1 with fail
  rw [← hW0, ← hN, ← hQ, ← hW1, ← hP, ← hW2]
  clear hW0 hW1 hW2 hP hQ hN hs hs0
  by_cases h0 : 0 < r.st
  · have HU : Hid ((r.st, 0) = Ln.next (x, y) r) := Lib.hid (by unfold Ln.next; rw [if_pos h0])
    have X := HX.out (r.st, 0)
    have B := HB.out (r.st, 0)
    unfold putN at X B
    simp only [] at X B
    obtain ⟨WF, hWF⟩ : ∃ W, W = (W2.setCell ⟨P, 0, none⟩ (.int .i64 (r.st))).setCell ⟨P, 1, none⟩ (.int .i64 (0)) := ⟨_, rfl⟩
    rw [← hWF] at X B
    go_wp2
    rw [← hWF]
    clear hWF
    have k0 := Lib.cell_of_heap X 0
    have k1 := Lib.cell_of_heap X 1
    exact bodyPost_ret (v := .agg #[.int .i64 (r.st), .int .i64 (0)]) (by simp [results, Try.results12, go_sem, k0, k1]) rfl ⟨by rw [← HU.out], B⟩
  cases h1 : r.lk with
  | true =>
    have HU : Hid ((max x 1, y) = Ln.next (x, y) r) := Lib.hid (by rw [← max_top]; unfold Ln.next; rw [if_neg h0, if_pos h1])
    rw [h1] at q6
    clear h1
    have X := HX.out (max x 1, y)
    have B := HB.out (max x 1, y)
    unfold putN at X B
    simp only [] at X B
    obtain ⟨WF, hWF⟩ : ∃ W, W = (W2.setCell ⟨P, 0, none⟩ (.int .i64 (max x 1))).setCell ⟨P, 1, none⟩ (.int .i64 (y)) := ⟨_, rfl⟩
    rw [← hWF] at X B
    go_wp2
    rw [← hWF]
    clear hWF
    have k0 := Lib.cell_of_heap X 0
    have k1 := Lib.cell_of_heap X 1
    exact bodyPost_ret (v := .agg #[.int .i64 (max x 1), .int .i64 (y)]) (by simp [results, Try.results12, go_sem, k0, k1]) rfl ⟨by rw [← HU.out], B⟩
  | false =>
    rw [h1] at q6
    cases h2 : r.sb with
    | true =>
      have HU : Hid ((max x 1, wrap64 (y + 1)) = Ln.next (x, y) r) := Lib.hid (by rw [← max_top, ← wr_is16]; unfold Ln.next; rw [if_neg h0, if_neg (by rw [h1]; decide), if_pos h2])
      rw [h2] at q4
      clear h1 h2
      have X := HX.out (max x 1, wrap64 (y + 1))
      have B := HB.out (max x 1, wrap64 (y + 1))
      unfold putN at X B
      simp only [] at X B
      obtain ⟨WF, hWF⟩ : ∃ W, W = (W2.setCell ⟨P, 0, none⟩ (.int .i64 (max x 1))).setCell ⟨P, 1, none⟩ (.int .i64 (wrap64 (y + 1))) := ⟨_, rfl⟩
      rw [← hWF] at X B
      go_wp2
      rw [← hWF]
      clear hWF
      have k0 := Lib.cell_of_heap X 0
      have k1 := Lib.cell_of_heap X 1
      exact bodyPost_ret (v := .agg #[.int .i64 (max x 1), .int .i64 (wrap64 (y + 1))]) (by simp [results, Try.results12, go_sem, k0, k1]) rfl ⟨by rw [← HU.out], B⟩
    | false =>
      have HU : Hid ((wrap64 (x + 1), 0) = Ln.next (x, y) r) := Lib.hid (by rw [← wr_is16]; unfold Ln.next; rw [if_neg h0, if_neg (by rw [h1]; decide), if_neg (by rw [h2]; decide)])
      rw [h2] at q4
      clear h1 h2
      have X := HX.out (wrap64 (x + 1), 0)
      have B := HB.out (wrap64 (x + 1), 0)
      unfold putN at X B
      simp only [] at X B
      obtain ⟨WF, hWF⟩ : ∃ W, W = (W2.setCell ⟨P, 0, none⟩ (.int .i64 (wrap64 (x + 1)))).setCell ⟨P, 1, none⟩ (.int .i64 (0)) := ⟨_, rfl⟩
      rw [← hWF] at X B
      go_wp2
      rw [← hWF]
      clear hWF
      have k0 := Lib.cell_of_heap X 0
      have k1 := Lib.cell_of_heap X 1
      exact bodyPost_ret (v := .agg #[.int .i64 (wrap64 (x + 1)), .int .i64 (0)]) (by simp [results, Try.results12, go_sem, k0, k1]) rfl ⟨by rw [← HU.out], B⟩
end Go.Proofs.Ytffjboddnjbepaa
