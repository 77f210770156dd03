/-
  The landed Parse: one token is taken.
-/
import Derived.Test.YtimpadooknclkaaEnd6
set_option linter.unusedVariables false
set_option linter.unusedSimpArgs false
namespace Go.Proofs.Ytimpadooknclkaa
open Go.RowKit

theorem inv_node {k : Nat} {pre : List Nd} {R : Tr.Frames} (h : Inv k pre R) (c : Bool) (x : List UInt8) (l : Int) : Inv (k + 1) (pre ++ [.mk c x [] l]) R := by
  refine ⟨?_, h.deep, h.cmds⟩
  have h1 := h.size
  cases R with
  | nil => simp only [Tr.sizeS, Tr.sizeL_append, Tr.sizeL, Tr.sizeN, Tr.sizeA] at h1 ⊢; omega
  | cons f R => simp only [Tr.sizeS, Tr.sizeL_append, Tr.sizeL, Tr.sizeN, Tr.sizeA] at h1 ⊢; omega
theorem tok_box (w : World) (k : Int) (s : ByteArray) (a : Int) : (w.alloc (.cells #[.int .i64 k, .string s, .int .i64 a] 36)).cell? ⟨w.heap.size, 0, none⟩ = some (.int .i64 k) ∧ (w.alloc (.cells #[.int .i64 k, .string s, .int .i64 a] 36)).cell? ⟨w.heap.size, 1, none⟩ = some (.string s) ∧ (w.alloc (.cells #[.int .i64 k, .string s, .int .i64 a] 36)).cell? ⟨w.heap.size, 2, none⟩ = some (.int .i64 a) := by
  refine ⟨?_, ?_, ?_⟩ <;> simp

set_option maxHeartbeats 2000000 in
set_option maxRecDepth 100000 in
theorem take_node {B Bo k : Nat} {w : World} {gb gc : Nat} {M : List MF} {nv : Value} {D : Nat → Prop} {S : List UInt8} {A : Int} {pre : List Nd} {a : Int} {R : Tr.Frames} (c : Bool) (h : Stk B Bo w gb gc ((nv, D) :: M) ((pre, a) :: R)) (hI : Inv k pre R) (hk : k ≤ 1073741824) :
    Calls Try.prog 20 #[.pointer (some ⟨Bo, 0, none⟩), .agg #[.int .i64 (if c then 1 else 0), .string (str S), .int .i64 A]] w (TakePost B Bo k ⟨if c then 1 else 0, S, A⟩ pre a R w) := by
  have HM : Hid (∀ r, Tr.mch (⟨if c then 1 else 0, S, A⟩ :: r) pre a R = Tr.mch r (pre ++ [.mk c S [] A]) a R) := Lib.hid (fun r => by
    cases c
    · exact Tr.mch_word rfl r pre a R
    · exact Tr.mch_cmd rfl r pre a R)
  have HJ := Lib.hid (inv_node hI c S A)
  obtain ⟨W1, hW1⟩ : ∃ W1, W1 = w.alloc (.cells #[.int .i64 (if c then 1 else 0), .string (str S), .int .i64 A] 36) := ⟨_, rfl⟩
  have hb1 : Below w.heap.size w W1 := by rw [hW1]; exact below_alloc _ _
  have hS1 := h.mono hb1
  have hbx := tok_box w (if c then 1 else 0) (str S) A
  rw [← hW1] at hbx
  have cT := Lib.hid (innermost_any Bo gb R.length gc W1 hS1.c0 (by have := hI.deep; omega))
  have hpl := hI.len
  have HB1 := Lib.hid (hb1.mono h.low)
  have HS1 := Lib.hid hS1
  have htop := hS1.ctop.1
  clear h hI hb1 hS1
  cases c
  all_goals simp only [if_true, Bool.false_eq_true, if_false] at *
  · go_enter Try.func20, Try.ntmps20
    go_wp2_with fail
    rw [← hW1]
    refine cT.out.mono ?_
    rintro e w2 ⟨rfl, m, rfl⟩
    have HSd := Lib.hid (HS1.out.mono (below_drew W1 (m + 1)))
    have t1 := drew_cell W1 (m + 1) ⟨gb, R.length * 2, none⟩
    rw [htop] at t1
    have t2 := drew_cell W1 (m + 1) ⟨w.heap.size, 0, none⟩
    rw [hbx.1] at t2
    have t3 := drew_cell W1 (m + 1) ⟨w.heap.size, 1, none⟩
    rw [hbx.2.1] at t3
    have t4 := drew_cell W1 (m + 1) ⟨w.heap.size, 2, none⟩
    rw [hbx.2.2] at t4
    obtain ⟨cs, K, r1, r2, r3, r4⟩ := HSd.out.frs.1.row
    have hbA := below_alloc (W1.drewN (m + 1)) (.cells #[.bool false, .string (str S), .slice none 0 0, .int .i64 A] 43)
    have hrow := World.ownsRow.alloc r1 (.cells #[.bool false, .string (str S), .slice none 0 0, .int .i64 A] 43)
    have HSa := Lib.hid (HSd.out.mono hbA)
    have HR := Lib.hid (And.intro (r2.move (w' := (W1.drewN (m + 1)).alloc (.cells #[.bool false, .string (str S), .slice none 0 0, .int .i64 A] 43)) (fun b _ => stays_below hbA b) (fun _ h => h)) (And.intro r3 r4))
    have a1 := cell_below hbA t1
    have hgl : gb < ((W1.drewN (m + 1)).alloc (.cells #[.bool false, .string (str S), .slice none 0 0, .int .i64 A] 43)).heap.size := HSa.out.row_lt.2
    have hgv : some gb ≠ nv.ownBlock := fun e => (HSd.out.off _ (List.mem_cons_self ..)).2 (r4 gb e.symm)
    obtain ⟨csg, Tg, hg0⟩ := (row_clear HSa.out.row (b := gb) rfl).2
    have hlow : B ≤ ((W1.drewN (m + 1)).alloc (.cells #[.bool false, .string (str S), .slice none 0 0, .int .i64 A] 43)).heap.size := HSa.out.low
    have HBa := Lib.hid ((HB1.out.trans ((below_drew W1 (m + 1)).mono HS1.out.low)).trans (hbA.mono HSd.out.low))
    have HVL := Lib.hid (World.ownsRow.lt hrow)
    obtain ⟨iN, hiN, hN0, hN1, hN2⟩ := info_parts infoNode
    clear r1 r2 r3 r4 hbA htop hbx hW1
    go_wp2_with fail
    go_region_law (first
      | (refine step_append_lies _ (by rfl) _ _ _ (by rfl) B 43 iN _ 4 56 Try.underlying23 hiN hN0 hN1 hN2 rfl (by decide) nv _ cs (by rfl) hrow ⟨(W1.drewN (m + 1)).heap.size, 0, none⟩ 1 1 (ndCells false S (.slice none 0 0) A) (by rfl) (by rfl) (cell_nd_new _ _ _ _ _ _) (fun z hz => by simp [ndCells] at hz; rcases hz with rfl | rfl | rfl | rfl <;> rfl) (by omega) (by unfold maxLen; omega) (by omega) hlow _ rfl ?_; intro g9 cap9 w9 hown9 hgrow9 hat9 hlt9; have h9 : w9.heap[gb]? = _ := (hgrow9.block gb hgl hgv).trans hg0; have c9 : w9.cell? ⟨gb, R.length * 2, none⟩ = some nv := (World.cell?_of_block (a := ⟨gb, R.length * 2, none⟩) (h9.trans hg0.symm)).trans a1; have f9 : w9.frozen? ⟨gb, R.length * 2, none⟩ = false := Lib.frozen_of_heap h9 _))
    all_goals (
      go_wp2
      go_ret
      refine .inr ⟨_, a, R, gb, gc, _, HM.out, HJ.out, rfl, HSa.out.node HR.out.1 HR.out.2.1 HR.out.2.2 hown9 hgrow9 (hat9.imp id (fun h => by rw [h]; exact Nat.le_refl _)), ?_⟩
      exact (HBa.out.grown hgrow9 hlow (fun q hq => (HVL.out q hq).1)).setCell (p := ⟨gb, R.length * 2, none⟩) HSa.out.row_lt.1 _)
  · go_enter Try.func20, Try.ntmps20
    go_wp2_with fail
    rw [← hW1]
    refine cT.out.mono ?_
    rintro e w2 ⟨rfl, m, rfl⟩
    have HSd := Lib.hid (HS1.out.mono (below_drew W1 (m + 1)))
    have t1 := drew_cell W1 (m + 1) ⟨gb, R.length * 2, none⟩
    rw [htop] at t1
    have t2 := drew_cell W1 (m + 1) ⟨w.heap.size, 0, none⟩
    rw [hbx.1] at t2
    have t3 := drew_cell W1 (m + 1) ⟨w.heap.size, 1, none⟩
    rw [hbx.2.1] at t3
    have t4 := drew_cell W1 (m + 1) ⟨w.heap.size, 2, none⟩
    rw [hbx.2.2] at t4
    obtain ⟨cs, K, r1, r2, r3, r4⟩ := HSd.out.frs.1.row
    have hbA := below_alloc (W1.drewN (m + 1)) (.cells #[.bool true, .string (str S), .slice none 0 0, .int .i64 A] 43)
    have hrow := World.ownsRow.alloc r1 (.cells #[.bool true, .string (str S), .slice none 0 0, .int .i64 A] 43)
    have HSa := Lib.hid (HSd.out.mono hbA)
    have HR := Lib.hid (And.intro (r2.move (w' := (W1.drewN (m + 1)).alloc (.cells #[.bool true, .string (str S), .slice none 0 0, .int .i64 A] 43)) (fun b _ => stays_below hbA b) (fun _ h => h)) (And.intro r3 r4))
    have a1 := cell_below hbA t1
    have hgl : gb < ((W1.drewN (m + 1)).alloc (.cells #[.bool true, .string (str S), .slice none 0 0, .int .i64 A] 43)).heap.size := HSa.out.row_lt.2
    have hgv : some gb ≠ nv.ownBlock := fun e => (HSd.out.off _ (List.mem_cons_self ..)).2 (r4 gb e.symm)
    obtain ⟨csg, Tg, hg0⟩ := (row_clear HSa.out.row (b := gb) rfl).2
    have hlow : B ≤ ((W1.drewN (m + 1)).alloc (.cells #[.bool true, .string (str S), .slice none 0 0, .int .i64 A] 43)).heap.size := HSa.out.low
    have HBa := Lib.hid ((HB1.out.trans ((below_drew W1 (m + 1)).mono HS1.out.low)).trans (hbA.mono HSd.out.low))
    have HVL := Lib.hid (World.ownsRow.lt hrow)
    obtain ⟨iN, hiN, hN0, hN1, hN2⟩ := info_parts infoNode
    clear r1 r2 r3 r4 hbA htop hbx hW1
    go_wp2_with fail
    go_region_law (first
      | (refine step_append_lies _ (by rfl) _ _ _ (by rfl) B 43 iN _ 4 56 Try.underlying23 hiN hN0 hN1 hN2 rfl (by decide) nv _ cs (by rfl) hrow ⟨(W1.drewN (m + 1)).heap.size, 0, none⟩ 1 1 (ndCells true S (.slice none 0 0) A) (by rfl) (by rfl) (cell_nd_new _ _ _ _ _ _) (fun z hz => by simp [ndCells] at hz; rcases hz with rfl | rfl | rfl | rfl <;> rfl) (by omega) (by unfold maxLen; omega) (by omega) hlow _ rfl ?_; intro g9 cap9 w9 hown9 hgrow9 hat9 hlt9; have h9 : w9.heap[gb]? = _ := (hgrow9.block gb hgl hgv).trans hg0; have c9 : w9.cell? ⟨gb, R.length * 2, none⟩ = some nv := (World.cell?_of_block (a := ⟨gb, R.length * 2, none⟩) (h9.trans hg0.symm)).trans a1; have f9 : w9.frozen? ⟨gb, R.length * 2, none⟩ = false := Lib.frozen_of_heap h9 _))
    all_goals (
      go_wp2
      go_ret
      refine .inr ⟨_, a, R, gb, gc, _, HM.out, HJ.out, rfl, HSa.out.node HR.out.1 HR.out.2.1 HR.out.2.2 hown9 hgrow9 (hat9.imp id (fun h => by rw [h]; exact Nat.le_refl _)), ?_⟩
      exact (HBa.out.grown hgrow9 hlow (fun q hq => (HVL.out q hq).1)).setCell (p := ⟨gb, R.length * 2, none⟩) HSa.out.row_lt.1 _)
end Go.Proofs.Ytimpadooknclkaa
