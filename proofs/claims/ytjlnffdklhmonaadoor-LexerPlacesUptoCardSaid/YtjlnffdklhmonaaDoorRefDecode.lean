/-
  The reference's Decode: the letters of bytes, or the fault where there is none first.
-/
import Derived.Test.YtjlnffdklhmonaaDoorRefWalk
set_option linter.unusedVariables false
set_option linter.unusedSimpArgs false
namespace Go.Proofs.YtjlnffdklhmonaaDoor
open Go.RowKit

set_option maxHeartbeats 2000000 in
set_option maxRecDepth 100000 in
theorem refDecode_any (s : ByteArray) (hs : s.size * 8 ≤ 140737488355328) (w : World) : Calls Tryd.prog 29 #[.string s] w (DecPost s.data.toList w) := by
  have HW := Lib.hid (fun w => refWalk_any s hs w)
  have HB0 := Lib.hid (below_alloc w (.cells #[.int .i64 0, .int .i64 0] 25))
  have HF0 := Lib.hid (flt_new w 0 0)
  cases hc : Ut.clean s.data.toList with
  | true =>
    have HD := Lib.hid (dec_yes hc)
    clear hc
    go_enter Tryd.func29, Tryd.ntmps29
    go_wp2_with fail
    refine (HW.out _).mono ?_
    rintro e w1 ⟨v1, v2, rfl, h1, h2, hb1⟩
    rw [HD.out.2.2.2]
    have HV : Hid (OwnI .i32 21 (w.heap.size + 1) v1 (asInts (Ut.dec s.data.toList).1) w1) := Lib.hid (by simpa using h1)
    have HB1 := Lib.hid (below_step HB0.out hb1)
    have HF1 := Lib.hid (HF0.out.mono hb1)
    clear h1 h2 hb1
    have c0 := HF1.out.c0
    have c1 := HF1.out.c1
    have f0 := HF1.out.f0
    have f1 := HF1.out.f1
    go_wp2_with fail
    exact bodyPost_ret (v := .tuple #[v1, .agg #[.int .i64 0, .int .i64 0]]) (by simp [results, Tryd.results29, go_sem, c0, c1]) rfl ⟨v1, ret_dec HD.out.2.1.symm HD.out.2.2.1.symm, by rw [HD.out.1]; exact own_two HV.out, (HB1.out.setCell (Nat.le_refl _) _).setCell (Nat.le_refl _) _⟩
  | false =>
    have HD := Lib.hid (dec_no hc)
    obtain ⟨st, hst⟩ : ∃ st : Nat, st = Ut.stop s.data.toList := ⟨_, rfl⟩
    have HS := Lib.hid hst
    have s0 : 0 ≤ (st : Int) := by omega
    clear hc
    go_enter Tryd.func29, Tryd.ntmps29
    go_wp2_with fail
    refine (HW.out _).mono ?_
    rintro e w1 ⟨v1, v2, rfl, h1, h2, hb1⟩
    rw [HD.out.2.2.2, ← hst]
    have HB1 := Lib.hid (below_step HB0.out hb1)
    have HF1 := Lib.hid (HF0.out.mono hb1)
    clear h1 h2 hb1 hst
    have c0 := HF1.out.c0
    have c1 := HF1.out.c1
    have f0 := HF1.out.f0
    have f1 := HF1.out.f1
    go_wp2_with fail
    exact bodyPost_ret (v := .tuple #[.slice none 0 0, .agg #[.int .i64 40, .int .i64 (st : Int)]]) (by simp [results, Tryd.results29, go_sem, c0, c1]) rfl ⟨.slice none 0 0, ret_dec HD.out.2.1.symm (by rw [HD.out.2.2.1, HS.out]), by rw [HD.out.1]; exact ownI_nil _ _ _ _, (HB1.out.setCell (Nat.le_refl _) _).setCell (Nat.le_refl _) _⟩
end Go.Proofs.YtjlnffdklhmonaaDoor
