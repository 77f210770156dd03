/-
  The law TreeParses: any tokens' nodes, or fault, are the reference's, where the program's calls keep their contracts.
-/
import Derived.Test.YtimpadooknclkaaCalls6
set_option linter.unusedVariables false
set_option linter.unusedSimpArgs false
namespace Go.Proofs.Ytimpadooknclkaa
open Go.RowKit

/-- what the statements' fixed answers -/
def FixC : Prop := ∀ w, Calls Try.prog 9 #[] w (Ret (.bool true) w)

set_option maxHeartbeats 2000000 in
set_option maxRecDepth 100000 in
theorem lawParses_any (C : TreeC) (F : FixC) (v : Value) (ts : List Tok) (hn : ts.length ≤ 1073741824) (w : World) (h : ToksAt w v ts) : Calls Try.prog 3 #[v] w (Ret (.bool true) w) := by
  have HF := Lib.hid F
  by_cases hc : Tr.code ts = 0
  · obtain ⟨hp, ns, hG⟩ := Tr.parse_yes hc
    have cA : Hid (∀ w, ToksAt w v ts → Calls Try.prog 7 #[v] w (fun e w' => ∃ v K, e = .returned (.tuple #[v, .agg #[.int .i64 0, .int .i64 0]]) ∧ NodesAt w' K v ns ∧ Below w.heap.size w w')) := Lib.hid (fun w h => C.yes v ts ns w hn hG h)
    have cB : Hid (∀ w, ToksAt w v ts → Calls Try.prog 8 #[v] w (fun e w' => ∃ v K, e = .returned (.tuple #[v, .agg #[.int .i64 0, .int .i64 0]]) ∧ NodesAt w' K v ns ∧ Below w.heap.size w w')) := Lib.hid (fun w h => refParse_yes v ts (by omega) ns hG w h)
    have H := Lib.hid h
    have q1 : ∀ wx, (binOp .eql 26 (.agg #[.int .i64 0, .int .i64 0]) (.agg #[.int .i64 0, .int .i64 0])).run Try.prog wx = .ok (.bool true) wx := fun wx => by rw [eqFlt]; rfl
    clear h hc hp hG C F hn
    go_enter Try.func3, Try.ntmps3
    go_wp2_with fail
    refine (cA.out _ H.out).mono ?_
    rintro e w1 ⟨v1, K1, rfl, h1, hb1⟩
    have hb1' := below_step hb1 (below_alloc w1 (.cells #[.int .i64 0, .int .i64 0] 26))
    have HB1 := Lib.hid hb1'
    have HV1 := Lib.hid (h1.mono (below_alloc w1 (.cells #[.int .i64 0, .int .i64 0] 26)))
    have HG1 := Lib.hid (flt_new w1 0 0)
    clear h1 hb1 hb1'
    go_wp2_with fail
    refine (cB.out _ (H.out.mono HB1.out)).mono ?_
    rintro e w2 ⟨v2, K2, rfl, h2, hb2⟩
    have hb2' := below_step hb2 (below_alloc w2 (.cells #[.int .i64 0, .int .i64 0] 26))
    have HB2 := Lib.hid (below_step HB1.out hb2')
    have HV2 := Lib.hid (HV1.out.mono hb2')
    have HW2 := Lib.hid (h2.mono (below_alloc w2 (.cells #[.int .i64 0, .int .i64 0] 26)))
    have HG2 := Lib.hid (HG1.out.mono hb2')
    have HH2 := Lib.hid (flt_new w2 0 0)
    clear h2 hb2 hb2'
    go_wp2_with fail
    refine (HF.out _).mono ?_
    rintro e w3 ⟨rfl, hb3⟩
    have HB3 := Lib.hid (below_step HB2.out hb3)
    have HV3 := Lib.hid (HV2.out.mono hb3)
    have HW3 := Lib.hid (HW2.out.mono hb3)
    have HG3 := Lib.hid (HG2.out.mono hb3)
    have HH3 := Lib.hid (HH2.out.mono hb3)
    clear hb3
    go_wp2_with fail
    refine (places_self v1 v2 ns _ _ _ HV3.out HW3.out).mono ?_
    rintro e w4 ⟨rfl, n4, rfl⟩
    have x0 := HG3.out.c0
    have x1 := HG3.out.c1
    have y0 := HH3.out.c0
    have y1 := HH3.out.c1
    go_wp2_with fail
    go_ret
    exact ⟨rfl, below_step HB3.out (below_drew _ _)⟩
  · obtain ⟨Cd, hCd⟩ : ∃ Cd, Cd = Tr.code ts := ⟨_, rfl⟩
    obtain ⟨Pl, hPl⟩ : ∃ Pl, Pl = Tr.place ts := ⟨_, rfl⟩
    have cA : Hid (∀ w, ToksAt w v ts → Calls Try.prog 7 #[v] w (fun e w' => ∃ v K, e = .returned (.tuple #[v, .agg #[.int .i64 Cd, .int .i64 Pl]]) ∧ NodesAt w' K v [] ∧ Below w.heap.size w w')) := Lib.hid (fun w h => by rw [hCd, hPl]; exact C.no v ts w hn hc h)
    have cB : Hid (∀ w, ToksAt w v ts → Calls Try.prog 8 #[v] w (Ret (.tuple #[.slice none 0 0, .agg #[.int .i64 Cd, .int .i64 Pl]]) w)) := Lib.hid (fun w h => by rw [hCd, hPl]; exact refParse_no v ts (by omega) hc w h)
    have H := Lib.hid h
    have q1 : ∀ wx, (binOp .eql 26 (.agg #[.int .i64 Cd, .int .i64 Pl]) (.agg #[.int .i64 Cd, .int .i64 Pl])).run Try.prog wx = .ok (.bool true) wx := fun wx => by rw [eqFlt]; simp
    clear h hc C F hn hCd hPl
    go_enter Try.func3, Try.ntmps3
    go_wp2_with fail
    refine (cA.out _ H.out).mono ?_
    rintro e w1 ⟨v1, K1, rfl, h1, hb1⟩
    have hb1' := below_step hb1 (below_alloc w1 (.cells #[.int .i64 Cd, .int .i64 Pl] 26))
    have HB1 := Lib.hid hb1'
    have HV1 := Lib.hid (h1.mono (below_alloc w1 (.cells #[.int .i64 Cd, .int .i64 Pl] 26)))
    have HG1 := Lib.hid (flt_new w1 Cd Pl)
    clear h1 hb1 hb1'
    go_wp2_with fail
    refine (cB.out _ (H.out.mono HB1.out)).mono ?_
    rintro e w2 ⟨rfl, hb2⟩
    have hb2' := below_step hb2 (below_alloc w2 (.cells #[.int .i64 Cd, .int .i64 Pl] 26))
    have HB2 := Lib.hid (below_step HB1.out hb2')
    have HV2 := Lib.hid (HV1.out.mono hb2')
    have HG2 := Lib.hid (HG1.out.mono hb2')
    have HH2 := Lib.hid (flt_new w2 Cd Pl)
    clear hb2 hb2'
    go_wp2_with fail
    refine (HF.out _).mono ?_
    rintro e w3 ⟨rfl, hb3⟩
    have HB3 := Lib.hid (below_step HB2.out hb3)
    have HV3 := Lib.hid (HV2.out.mono hb3)
    have HG3 := Lib.hid (HG2.out.mono hb3)
    have HH3 := Lib.hid (HH2.out.mono hb3)
    clear hb3
    go_wp2_with fail
    refine (places_self v1 _ [] _ _ _ HV3.out (nodes_none _ (fun _ => True))).mono ?_
    rintro e w4 ⟨rfl, n4, rfl⟩
    have x0 := HG3.out.c0
    have x1 := HG3.out.c1
    have y0 := HH3.out.c0
    have y1 := HH3.out.c1
    go_wp2_with fail
    go_ret
    exact ⟨rfl, below_step HB3.out (below_drew _ _)⟩
end Go.Proofs.Ytimpadooknclkaa
