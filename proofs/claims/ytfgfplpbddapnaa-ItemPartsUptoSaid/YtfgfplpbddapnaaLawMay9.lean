/-
  The laws ItemMay and ItemBuilds.
-/
import Derived.Test.YtfgfplpbddapnaaFixed9
set_option linter.unusedVariables false
set_option linter.unusedSimpArgs false
namespace Go.Proofs.Ytfgfplpbddapnaa
open Go.RowKit

set_option maxHeartbeats 8000000 in
set_option maxRecDepth 100000 in
theorem lawMay9 (v : Value) (l : List It.Itm) (w : World) (h : ItsAt w v l) (hlen : l.length * 72 ≤ 140737488355328) : Calls Try.prog 4 #[v] w (Ret (.bool true) w) := by
  have HF := Lib.hid (fixed9 w)
  have HA := Lib.hid h
  have HL := Lib.hid hlen
  obtain ⟨⟨a, cp, rfl, hcap⟩, hm, _⟩ := h
  have hbe : ∀ (q : Bool) (w : World), (binOp .eql 4 (.bool q) (.bool q)).run Try.prog w = .ok (.bool true) w := fun q w => by
    cases q <;> rfl
  clear hcap hm hlen
  go_enter Try.func4, Try.ntmps4
  go_wp2_with fail
  refine HF.out.mono ?_
  rintro e w1 ⟨rfl, hb1⟩
  have HB1 := Lib.hid hb1
  have HM1 := Lib.hid (itemMay_any _ l w1 (SlcAt.mono HA.out hb1))
  clear hb1
  go_wp2_with fail
  refine HM1.out.mono ?_
  rintro e w2 ⟨rfl, hb2⟩
  have HB2 := Lib.hid (below_step HB1.out hb2)
  have HM2 := Lib.hid (refItMay_any _ l w2 (SlcAt.mono HA.out HB2.out))
  clear hb2
  go_wp2_with fail
  refine HM2.out.mono ?_
  rintro e w3 ⟨rfl, hb3⟩
  have HB3 := Lib.hid (below_step HB2.out hb3)
  have HX := Lib.hid (itemBoxes_any _ l w3 (SlcAt.mono HA.out HB3.out) HL.out)
  clear hb3
  generalize It.may l = q
  go_wp2_with fail
  refine HX.out.mono ?_
  rintro e w4 ⟨u4, rfl, ho4, hb4⟩
  have HB4 := Lib.hid (below_step HB3.out hb4)
  have HO4 := Lib.hid (ho4.at itC_len)
  have HY := Lib.hid (refBoxes_any _ l w4 (SlcAt.mono HA.out HB4.out) HL.out)
  clear hb4 ho4
  go_wp2_with fail
  refine HY.out.mono ?_
  rintro e w5 ⟨u5, rfl, ho5, hb5⟩
  have HB5 := Lib.hid (below_step HB4.out hb5)
  have HS := Lib.hid (same_any u4 u5 _ _ w5 (SlcAt.mono HO4.out hb5) (ho5.at itC_len))
  rw [decide_eq_true (rfl : It.boxes l = It.boxes l)] at HS
  clear hb5 ho5
  go_wp2_with fail
  refine HS.out.mono ?_
  rintro e w6 ⟨rfl, hb6⟩
  have HB6 := Lib.hid (below_step HB5.out hb6)
  clear hb6
  go_wp2
  go_ret
  exact ⟨rfl, HB6.out⟩

/-! ### what Verse answers, in one form -/
def vL (t : List It.Itm) : List It.Itm := if It.may t then t else []
def vC (t : List It.Itm) : Int := if It.may t then 0 else 90
def VOut (t : List It.Itm) (w : World) (e : Ending) (w' : World) : Prop := ∃ v, e = .returned (.tuple #[v, .agg #[.int .i64 (vC t), .int .i64 0]]) ∧ ItsAt w' v (vL t) ∧ Below w.heap.size w w'
theorem VersePost.out {sp : It.Gl} {hy : Int} {ls : List (List (List It.Pt))} {w w' : World} {e : Ending} (h : VersePost sp hy ls w e w') : VOut (It.versI sp hy 0 ls) w e w' := by
  obtain ⟨h1, h2⟩ := h
  unfold VOut vL vC
  rcases h1 with ⟨hm, v, rfl, ho⟩ | ⟨hm, rfl⟩
  · rw [hm]
    exact ⟨v, rfl, ho.at itC_len, h2⟩
  · rw [hm]
    exact ⟨_, rfl, slc_none _ _ _, h2⟩
theorem met_cells9 {w : World} {p : Nat} {a b c d x4 x5 x6 x7 : Value} {T : TypeId} (h : w.heap[p]? = some (.cells #[a, b, c, d, x4, x5, x6, x7] T (0, 0))) : w.cell? ⟨p, 0, none⟩ = some a ∧ w.cell? ⟨p, 1, none⟩ = some b ∧ w.cell? ⟨p, 2, none⟩ = some c ∧ w.cell? ⟨p, 3, none⟩ = some d ∧ w.cell? ⟨p, 4, none⟩ = some x4 ∧ w.cell? ⟨p, 5, none⟩ = some x5 ∧ w.cell? ⟨p, 6, none⟩ = some x6 ∧ w.cell? ⟨p, 7, none⟩ = some x7 :=
  ⟨Lib.cell_of_heap h 0, Lib.cell_of_heap h 1, Lib.cell_of_heap h 2, Lib.cell_of_heap h 3, Lib.cell_of_heap h 4, Lib.cell_of_heap h 5, Lib.cell_of_heap h 6, Lib.cell_of_heap h 7⟩
theorem words_new (w : World) (p : Nat) (hp : w.heap.size = p) : WordsAt (w.alloc (.cells #[] 43)) (.slice (some ⟨p, 0, none⟩) 0 0) [] := ⟨⟨_, 0, rfl, Nat.le_refl _⟩, by unfold maxLen; simp, fun h => by simp at h⟩
end Go.Proofs.Ytfgfplpbddapnaa
