/-
  The landed Parse: a token that begins or ends a group is taken, or one of another kind.
-/
import Derived.Test.YtimpadooknclkaaEnd6
set_option linter.unusedVariables false
set_option linter.unusedSimpArgs false
namespace Go.Proofs.Ytimpadooknclkaa
open Go.RowKit

set_option maxHeartbeats 2000000 in
set_option maxRecDepth 100000 in
theorem take_open {B Bo k : Nat} {w : World} {gb gc : Nat} {M : List MF} {nv : Value} {D : Nat → Prop} {S : List UInt8} {A : Int} {pre : List Nd} {a : Int} {R : Tr.Frames} (h : Stk B Bo w gb gc ((nv, D) :: M) ((pre, a) :: R)) (hI : Inv k pre R) (hk : k ≤ 1073741824) :
    Calls Try.prog 20 #[.pointer (some ⟨Bo, 0, none⟩), .agg #[.int .i64 2, .string (str S), .int .i64 A]] w (TakePost B Bo k ⟨2, S, A⟩ pre a R w) := by
  have hb1 := below_alloc w (.cells #[.int .i64 2, .string (str S), .int .i64 A] 36)
  have cT := Lib.hid (begin_any (t := ⟨2, S, A⟩) (h.mono hb1) hI hk rfl)
  have HB := Lib.hid (hb1.mono h.low)
  have HB1 := Lib.hid hb1
  clear h hI hb1
  go_enter Try.func20, Try.ntmps20
  go_wp2_with fail
  refine cT.out.mono ?_
  rintro e w2 (⟨c, hc, hm, rfl, hb⟩ | ⟨pre', a', R', gb', gc', M', hm, hJ, rfl, hS, hb⟩)
  · go_wp2
    go_ret
    exact .inl ⟨c, hc, hm, rfl, below_step HB1.out hb⟩
  · go_wp2
    go_ret
    exact .inr ⟨pre', a', R', gb', gc', M', hm, hJ, rfl, hS, HB.out.trans hb⟩
set_option maxHeartbeats 2000000 in
set_option maxRecDepth 100000 in
theorem take_close {B Bo k : Nat} {w : World} {gb gc : Nat} {M : List MF} {nv : Value} {D : Nat → Prop} {S : List UInt8} {A : Int} {pre : List Nd} {a : Int} {R : Tr.Frames} (h : Stk B Bo w gb gc ((nv, D) :: M) ((pre, a) :: R)) (hI : Inv k pre R) (hk : k ≤ 1073741824) :
    Calls Try.prog 20 #[.pointer (some ⟨Bo, 0, none⟩), .agg #[.int .i64 3, .string (str S), .int .i64 A]] w (TakePost B Bo k ⟨3, S, A⟩ pre a R w) := by
  have hb1 := below_alloc w (.cells #[.int .i64 3, .string (str S), .int .i64 A] 36)
  have cT : Hid (Calls Try.prog 38 #[.pointer (some ⟨Bo, 0, none⟩)] (w.alloc (.cells #[.int .i64 3, .string (str S), .int .i64 A] 36)) (TakePost B Bo k ⟨3, S, A⟩ pre a R (w.alloc (.cells #[.int .i64 3, .string (str S), .int .i64 A] 36)))) := Lib.hid (by
    have hS := h.mono hb1
    match R, M, hS, hI with
    | [], [], hS, hI => exact end_none (t := ⟨3, S, A⟩) hS rfl
    | [], _ :: _, hS, hI => exact hS.frs.2.elim
    | (q, b) :: R, (pv, Dp) :: M, hS, hI => exact end_some (t := ⟨3, S, A⟩) hS hI hk rfl
    | _ :: _, [], hS, hI => exact hS.frs.2.elim)
  have HB := Lib.hid (hb1.mono h.low)
  have HB1 := Lib.hid hb1
  clear h hI hb1
  go_enter Try.func20, Try.ntmps20
  go_wp2_with fail
  refine cT.out.mono ?_
  rintro e w2 (⟨c, hc, hm, rfl, hb⟩ | ⟨pre', a', R', gb', gc', M', hm, hJ, rfl, hS, hb⟩)
  · go_wp2
    go_ret
    exact .inl ⟨c, hc, hm, rfl, below_step HB1.out hb⟩
  · go_wp2
    go_ret
    exact .inr ⟨pre', a', R', gb', gc', M', hm, hJ, rfl, hS, HB.out.trans hb⟩
set_option maxHeartbeats 2000000 in
set_option maxRecDepth 100000 in
theorem take_other {B Bo k : Nat} {w : World} {gb gc : Nat} {M : List MF} {nv : Value} {D : Nat → Prop} {Kd : Int} {S : List UInt8} {A : Int} {pre : List Nd} {a : Int} {R : Tr.Frames} (h : Stk B Bo w gb gc ((nv, D) :: M) ((pre, a) :: R)) (hI : Inv k pre R) (hk : ¬ Tr.real ⟨Kd, S, A⟩) :
    Calls Try.prog 20 #[.pointer (some ⟨Bo, 0, none⟩), .agg #[.int .i64 Kd, .string (str S), .int .i64 A]] w (TakePost B Bo k ⟨Kd, S, A⟩ pre a R w) := by
  have hb1 := below_alloc w (.cells #[.int .i64 Kd, .string (str S), .int .i64 A] 36)
  have HM := Lib.hid (fun r => Tr.mch_other hk r pre a R)
  have HS := Lib.hid (h.mono hb1)
  have HI : Hid (Inv (k + 1) pre R) := Lib.hid ⟨Nat.le_succ_of_le hI.size, hI.deep, hI.cmds⟩
  have HB := Lib.hid (hb1.mono h.low)
  have g0 : (Kd == 0) = false := tk_bne0 (fun e => hk (.inl e))
  have g1 : (Kd == 1) = false := tk_bne0 (fun e => hk (.inr (.inl e)))
  have g2 : (Kd == 2) = false := tk_bne0 (fun e => hk (.inr (.inr (.inl e))))
  have g3 : (Kd == 3) = false := tk_bne0 (fun e => hk (.inr (.inr (.inr e))))
  clear h hI hb1 hk
  go_enter Try.func20, Try.ntmps20
  go_wp2
  go_ret
  exact .inr ⟨pre, a, R, gb, gc, _, HM.out, HI.out, rfl, HS.out, HB.out⟩
end Go.Proofs.Ytimpadooknclkaa
