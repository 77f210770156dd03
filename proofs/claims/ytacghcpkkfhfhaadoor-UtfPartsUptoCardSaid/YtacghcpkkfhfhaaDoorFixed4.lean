/-
  The answers that the document fixes: the statements' 'fixed' returns true.
-/
import Derived.Test.YtacghcpkkfhfhaaDoorEq
set_option linter.unusedVariables false
set_option linter.unusedSimpArgs false
namespace Go.Proofs.YtacghcpkkfhfhaaDoor
open Go.RowKit

set_option maxHeartbeats 1000000 in
set_option maxRecDepth 100000 in
theorem fixed_any (w : World) (hT : Tabs w) : Calls Tryd.prog 12 #[] w (Ret (.bool true) w) := by
  have HT := Lib.hid hT
  clear hT
  have H1 := Lib.hid (fun w hT => decode_is ⟨#[228]⟩ (by decide) [] 40 0 (by decide +kernel) (by decide +kernel) (by decide +kernel) w hT)
  have H2 := Lib.hid (fun w hT => decode_is ⟨#[195, 164]⟩ (by decide) [228] 0 0 (by decide +kernel) (by decide +kernel) (by decide +kernel) w hT)
  have H3 := Lib.hid (fun w hT => decode_is ⟨#[192, 128]⟩ (by decide) [] 40 0 (by decide +kernel) (by decide +kernel) (by decide +kernel) w hT)
  have H4 := Lib.hid (fun w hT => decode_is ⟨#[97, 237, 160, 128]⟩ (by decide) [] 40 1 (by decide +kernel) (by decide +kernel) (by decide +kernel) w hT)
  go_enter Tryd.func12, Tryd.ntmps12
  go_wp2_with fail
  refine (H1.out _ HT.out).mono ?_
  rintro e w1 ⟨v1, rfl, h1, hb1⟩
  have HB1 := Lib.hid (below_step hb1 (below_alloc w1 (.cells #[.int .i64 40, .int .i64 0] 25)))
  have HF1_1 := Lib.hid (flt_new w1 40 0)
  clear h1 hb1
  go_wp2_with fail
  refine (H2.out _ (HT.out.mono HB1.out)).mono ?_
  rintro e w2 ⟨v2, rfl, h2, hb2⟩
  have HB2 := Lib.hid (below_step HB1.out (below_step hb2 (below_alloc w2 (.cells #[.int .i64 0, .int .i64 0] 25))))
  have HF1_2 := Lib.hid (HF1_1.out.mono (below_step hb2 (below_alloc w2 (.cells #[.int .i64 0, .int .i64 0] 25))))
  have HF2_2 := Lib.hid (flt_new w2 0 0)
  have HV2 := Lib.hid (h2.mono (below_alloc w2 (.cells #[.int .i64 0, .int .i64 0] 25)))
  clear h2 hb2
  go_wp2_with fail
  refine (H3.out _ (HT.out.mono HB2.out)).mono ?_
  rintro e w3 ⟨v3, rfl, h3, hb3⟩
  have HB3 := Lib.hid (below_step HB2.out (below_step hb3 (below_alloc w3 (.cells #[.int .i64 40, .int .i64 0] 25))))
  have HF1_3 := Lib.hid (HF1_2.out.mono (below_step hb3 (below_alloc w3 (.cells #[.int .i64 40, .int .i64 0] 25))))
  have HF2_3 := Lib.hid (HF2_2.out.mono (below_step hb3 (below_alloc w3 (.cells #[.int .i64 40, .int .i64 0] 25))))
  have HF3_3 := Lib.hid (flt_new w3 40 0)
  have HV3 := Lib.hid (HV2.out.mono (below_step hb3 (below_alloc w3 (.cells #[.int .i64 40, .int .i64 0] 25))))
  clear h3 hb3
  go_wp2_with fail
  refine (H4.out _ (HT.out.mono HB3.out)).mono ?_
  rintro e w4 ⟨v4, rfl, h4, hb4⟩
  have HB4 := Lib.hid (below_step HB3.out (below_step hb4 (below_alloc w4 (.cells #[.int .i64 40, .int .i64 1] 25))))
  have HF1_4 := Lib.hid (HF1_3.out.mono (below_step hb4 (below_alloc w4 (.cells #[.int .i64 40, .int .i64 1] 25))))
  have HF2_4 := Lib.hid (HF2_3.out.mono (below_step hb4 (below_alloc w4 (.cells #[.int .i64 40, .int .i64 1] 25))))
  have HF3_4 := Lib.hid (HF3_3.out.mono (below_step hb4 (below_alloc w4 (.cells #[.int .i64 40, .int .i64 1] 25))))
  have HF4_4 := Lib.hid (flt_new w4 40 1)
  have HV4 := Lib.hid (HV3.out.mono (below_step hb4 (below_alloc w4 (.cells #[.int .i64 40, .int .i64 1] 25))))
  clear h4 hb4
  have HG1 := Lib.hid (HF1_4.out.mono (below_alloc (w4.alloc (.cells #[.int .i64 40, .int .i64 1] 25)) (.cells #[.int .i64 40, .int .i64 0] 25)))
  have HG2 := Lib.hid (HF2_4.out.mono (below_alloc (w4.alloc (.cells #[.int .i64 40, .int .i64 1] 25)) (.cells #[.int .i64 40, .int .i64 0] 25)))
  have HG3 := Lib.hid (HF3_4.out.mono (below_alloc (w4.alloc (.cells #[.int .i64 40, .int .i64 1] 25)) (.cells #[.int .i64 40, .int .i64 0] 25)))
  have HG4 := Lib.hid (HF4_4.out.mono (below_alloc (w4.alloc (.cells #[.int .i64 40, .int .i64 1] 25)) (.cells #[.int .i64 40, .int .i64 0] 25)))
  have HG5 : Hid (FltAt ((w4.alloc (.cells #[.int .i64 40, .int .i64 1] 25)).alloc (.cells #[.int .i64 40, .int .i64 0] 25)) (w4.heap.size + 1) 40 0) := Lib.hid (by
    have h := flt_new (w4.alloc (.cells #[.int .i64 40, .int .i64 1] 25)) 40 0
    simp only [World.size_alloc] at h
    exact h)
  have HB5 := Lib.hid (below_step HB4.out (below_alloc _ (.cells #[.int .i64 40, .int .i64 0] 25)))
  have HV5 := Lib.hid (HV4.out.mono (below_alloc _ (.cells #[.int .i64 40, .int .i64 0] 25)))
  have x10 := HG1.out.c0
  have x11 := HG1.out.c1
  have x20 := HG2.out.c0
  have x21 := HG2.out.c1
  have x30 := HG3.out.c0
  have x31 := HG3.out.c1
  have x40 := HG4.out.c0
  have x41 := HG4.out.c1
  have x50 := HG5.out.c0
  have x51 := HG5.out.c1
  have q1 : ∀ wx, (binOp .eql 25 (.agg #[.int .i64 40, .int .i64 0]) (.agg #[.int .i64 40, .int .i64 0])).run Tryd.prog wx = .ok (.bool true) wx := fun wx => by rw [eqFlt]; rfl
  have q2 : ∀ wx, (binOp .eql 25 (.agg #[.int .i64 0, .int .i64 0]) (.agg #[.int .i64 0, .int .i64 0])).run Tryd.prog wx = .ok (.bool true) wx := fun wx => by rw [eqFlt]; rfl
  have q3 : ∀ wx, (binOp .eql 25 (.agg #[.int .i64 40, .int .i64 1]) (.agg #[.int .i64 40, .int .i64 1])).run Tryd.prog wx = .ok (.bool true) wx := fun wx => by rw [eqFlt]; rfl
  go_wp2_with fail
  have HI : Hid (IntsAt .i32 (((w4.alloc (.cells #[.int .i64 40, .int .i64 1] 25)).alloc (.cells #[.int .i64 40, .int .i64 0] 25)).alloc (.cells #[.int .i32 228] 21)) (.slice (some ⟨w4.heap.size + 1 + 1, 0, none⟩) 1 1) [228]) := Lib.hid (by
    have h := ints_one ((w4.alloc (.cells #[.int .i64 40, .int .i64 1] 25)).alloc (.cells #[.int .i64 40, .int .i64 0] 25)) 228
    simp only [World.size_alloc] at h
    exact h)
  have HR : Hid (Calls Tryd.prog 13 #[v2, .slice (some ⟨w4.heap.size + 1 + 1, 0, none⟩) 1 1] (((w4.alloc (.cells #[.int .i64 40, .int .i64 1] 25)).alloc (.cells #[.int .i64 40, .int .i64 0] 25)).alloc (.cells #[.int .i32 228] 21)) (Ret (.bool true) _)) := Lib.hid (runes_any v2 _ [228] [228] _ (HV5.out.mono (below_alloc _ _)).at HI.out)
  refine HR.out.mono ?_
  rintro e w6 ⟨rfl, hb6⟩
  have HB6 := Lib.hid (below_step HB5.out (below_step (below_alloc _ _) hb6))
  have HK3 := Lib.hid ((HG3.out.mono (below_alloc _ (.cells #[.int .i32 228] 21))).mono hb6)
  have HK4 := Lib.hid ((HG4.out.mono (below_alloc _ (.cells #[.int .i32 228] 21))).mono hb6)
  have HK5 := Lib.hid ((HG5.out.mono (below_alloc _ (.cells #[.int .i32 228] 21))).mono hb6)
  clear hb6 x10 x11 x20 x21 x30 x31 x40 x41 x50 x51
  have x30 := HK3.out.c0
  have x31 := HK3.out.c1
  have x40 := HK4.out.c0
  have x41 := HK4.out.c1
  have x50 := HK5.out.c0
  have x51 := HK5.out.c1
  have L1 : Hid (∀ w, Calls Tryd.prog 17 #[.int .i32 1114111] w (Ret (.bool true) w)) := Lib.hid (fun w => letter_any 1114111 w)
  have L2 : Hid (∀ w, Calls Tryd.prog 17 #[.int .i32 55296] w (Ret (.bool false) w)) := Lib.hid (fun w => letter_any 55296 w)
  go_wp2_with fail
  refine (L1.out _).mono ?_
  rintro e w7 ⟨rfl, hb7⟩
  have HB7 := Lib.hid (below_step HB6.out hb7)
  clear hb7
  go_wp2_with fail
  refine (L2.out _).mono ?_
  rintro e w8 ⟨rfl, hb8⟩
  have HB8 := Lib.hid (below_step HB7.out hb8)
  clear hb8
  go_wp2_with fail
  go_ret
  exact ⟨rfl, HB8.out⟩
end Go.Proofs.YtacghcpkkfhfhaaDoor
