/-
  The answers that the document fixes: the statements' 'fixed' returns true.
-/
import Derived.Test.YtjlnffdklhmonaaDoorEq5
set_option linter.unusedVariables false
set_option linter.unusedSimpArgs false
namespace Go.Proofs.YtjlnffdklhmonaaDoor
open Go.RowKit

def want : List Tok := [⟨1, [112], 0⟩, ⟨2, [], 2⟩, ⟨0, [97, 123, 98], 3⟩, ⟨3, [], 7⟩]

theorem want_cells : (allCells want).toArray = #[.int .i64 1, .string ⟨#[112]⟩, .int .i64 0, .int .i64 2, .string ⟨#[]⟩, .int .i64 2, .int .i64 0, .string ⟨#[97, 123, 98]⟩, .int .i64 3, .int .i64 3, .string ⟨#[]⟩, .int .i64 7] := rfl

set_option maxHeartbeats 2000000 in
set_option maxRecDepth 100000 in
theorem fixed_any (w : World) (hT : Tabs w) : Calls Tryd.prog 12 #[] w (Ret (.bool true) w) := by
  have HT := Lib.hid hT
  clear hT
  have H1 := Lib.hid (fun w hT => lex_is ⟨#[92, 112, 123, 97, 92, 123, 98, 125, 32, 37, 32, 105, 116]⟩ (by decide) want 0 0 (by decide +kernel) (by decide +kernel) (by decide +kernel) w hT)
  have H2 := Lib.hid (fun w hT => lex_is ⟨#[92, 49]⟩ (by decide) [] 50 0 (by decide +kernel) (by decide +kernel) (by decide +kernel) w hT)
  have H3 := Lib.hid (fun w hT => lex_is ⟨#[97, 92]⟩ (by decide) [] 50 1 (by decide +kernel) (by decide +kernel) (by decide +kernel) w hT)
  have HP : Hid (∀ v w, Tabs w → ToksAt w v want → Calls Tryd.prog 16 #[v] w (Ret (.string ⟨#[92, 112, 32, 123, 32, 97, 92, 123, 98, 32, 125]⟩) w)) := Lib.hid (fun v w hT h => by
    have hp := print_any v want (by decide) w hT h
    have e : Lx.print want = [92, 112, 32, 123, 32, 97, 92, 123, 98, 32, 125] := by decide +kernel
    rw [e] at hp
    exact hp)
  go_enter Tryd.func12, Tryd.ntmps12
  go_wp2_with fail
  refine (H1.out _ HT.out).mono ?_
  rintro e w1 ⟨v1, rfl, h1, hb1⟩
  have hb1' := below_step hb1 (below_alloc w1 (.cells #[.int .i64 0, .int .i64 0] 25))
  have HB1 := Lib.hid hb1'
  have HF1 := Lib.hid (flt_new w1 0 0)
  have HV1 := Lib.hid (h1.mono (below_alloc w1 (.cells #[.int .i64 0, .int .i64 0] 25)))
  clear h1 hb1 hb1'
  go_wp2_with fail
  refine (H2.out _ (HT.out.mono HB1.out)).mono ?_
  rintro e w2 ⟨v2, rfl, h2, hb2⟩
  have hb2' := below_step hb2 (below_alloc w2 (.cells #[.int .i64 50, .int .i64 0] 25))
  have HB2 := Lib.hid (below_step HB1.out hb2')
  have HF2 := Lib.hid (HF1.out.mono hb2')
  have HG2 := Lib.hid (flt_new w2 50 0)
  have HV2 := Lib.hid (HV1.out.mono hb2')
  clear h2 hb2 hb2'
  go_wp2_with fail
  refine (H3.out _ (HT.out.mono HB2.out)).mono ?_
  rintro e w3 ⟨v3, rfl, h3, hb3⟩
  have hb3' := below_step hb3 (below_alloc w3 (.cells #[.int .i64 50, .int .i64 1] 25))
  have HB3 := Lib.hid (below_step HB2.out hb3')
  have HF3 := Lib.hid (HF2.out.mono hb3')
  have HG3 := Lib.hid (HG2.out.mono hb3')
  have HH3 := Lib.hid (flt_new w3 50 1)
  have HV3 := Lib.hid (HV2.out.mono hb3')
  clear h3 hb3 hb3'
  obtain ⟨W, hW⟩ : ∃ W, W = w3.alloc (.cells #[.int .i64 50, .int .i64 1] 25) := ⟨_, rfl⟩
  have eW : W.heap.size = w3.heap.size + 1 := by rw [hW, World.size_alloc]
  rw [← hW] at HB3 HF3 HG3 HH3 HV3
  have hb4 := below_alloc W (.cells (allCells want).toArray 38)
  have HB4 := Lib.hid (below_step HB3.out hb4)
  have HF4 := Lib.hid (HF3.out.mono hb4)
  have HG4 := Lib.hid (HG3.out.mono hb4)
  have HH4 := Lib.hid (HH3.out.mono hb4)
  have HV4 := Lib.hid (HV3.out.mono hb4)
  have HW4 : Hid (ToksAt (W.alloc (.cells (allCells want).toArray 38)) (.slice (some ⟨w3.heap.size + 1, 0, none⟩) 4 4) want) := Lib.hid (by
    have h := toks_new W want 38 (by decide)
    rw [eW] at h
    exact h)
  clear hb4
  rw [hW, want_cells] at HB4 HF4 HG4 HH4 HV4 HW4
  have x0 := HF4.out.c0
  have x1 := HF4.out.c1
  have y0 := HG4.out.c0
  have y1 := HG4.out.c1
  have z0 := HH4.out.c0
  have z1 := HH4.out.c1
  have q1 : ∀ wx, (binOp .eql 25 (.agg #[.int .i64 0, .int .i64 0]) (.agg #[.int .i64 0, .int .i64 0])).run Tryd.prog wx = .ok (.bool true) wx := fun wx => by rw [eqFlt]; rfl
  have q2 : ∀ wx, (binOp .eql 25 (.agg #[.int .i64 50, .int .i64 0]) (.agg #[.int .i64 50, .int .i64 0])).run Tryd.prog wx = .ok (.bool true) wx := fun wx => by rw [eqFlt]; rfl
  have q3 : ∀ wx, (binOp .eql 25 (.agg #[.int .i64 50, .int .i64 1]) (.agg #[.int .i64 50, .int .i64 1])).run Tryd.prog wx = .ok (.bool true) wx := fun wx => by rw [eqFlt]; rfl
  clear hW eW
  go_wp2_with fail
  refine (same_any v1 _ want want _ HV4.out.at HW4.out).mono ?_
  rintro e w5 ⟨rfl, hb5⟩
  have HB5 := Lib.hid (below_step HB4.out hb5)
  have HG5 := Lib.hid (HG4.out.mono hb5)
  have HH5 := Lib.hid (HH4.out.mono hb5)
  have HV5 := Lib.hid (HV4.out.mono hb5)
  clear hb5 x0 x1 y0 y1 z0 z1
  have y0 := HG5.out.c0
  have y1 := HG5.out.c1
  have z0 := HH5.out.c0
  have z1 := HH5.out.c1
  go_wp2_with fail
  refine (HP.out _ _ (HT.out.mono HB5.out) HV5.out.at).mono ?_
  rintro e w6 ⟨rfl, hb6⟩
  have HB6 := Lib.hid (below_step HB5.out hb6)
  clear hb6 y0 y1 z0 z1
  go_wp2_with fail
  go_ret
  exact ⟨rfl, HB6.out⟩
end Go.Proofs.YtjlnffdklhmonaaDoor
