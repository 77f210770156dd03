/-
  What is asked of the program's package metric, at every world in which the package-level variables stand; and the reference's fixed table under it.
-/
import Derived.Test.YtmehldekebphfaaGreatDoorFixed7
set_option linter.unusedVariables false
set_option linter.unusedSimpArgs false
namespace Go.Proofs.YtmehldekebphfaaGreatDoor
open Go.RowKit

/-- (at every world in which what W0 holds still stands) -/
structure MetW (W0 : World) : Prop where
  check : ∀ (v : Value) (m : Mt.Tab) (w : World), MetAt w v m → Calls Tryz.prog 16 #[v] w (Ret (.int .i64 (if Mt.may m then 0 else 71)) w)
  print : ∀ (v : Value) (m : Mt.Tab) (w : World), Below W0.heap.size W0 w → MetAt w v m → Calls Tryz.prog 18 #[v] w (Ret (.string (str (Mt.print m))) w)
  parse : ∀ (s : ByteArray) (w : World), Below W0.heap.size W0 w → s.size ≤ 1073741824 → Calls Tryz.prog 8 #[.string s] w (ParsePost s.data.toList w)
  find : ∀ (v : Value) (m : Mt.Tab) (c : Int) (w : World), MetAt w v m → Calls Tryz.prog 12 #[v, .int .i32 c] w (Ret (findV (Mt.find m c)) w)
  kern : ∀ (v : Value) (m : Mt.Tab) (a b : Int) (w : World), MetAt w v m → Calls Tryz.prog 20 #[v, .int .i32 a, .int .i32 b] w (Ret (.int .i64 (Mt.kern m a b)) w)
  lig : ∀ (v : Value) (m : Mt.Tab) (a b : Int) (w : World), MetAt w v m → Calls Tryz.prog 14 #[v, .int .i32 a, .int .i32 b] w (Ret (ligV (Mt.lig m a b)) w)

set_option maxHeartbeats 4000000 in
set_option maxRecDepth 100000 in
theorem fixedW7 {W0 : World} (C : MetW W0) (w : World) (hw : Below W0.heap.size W0 w) : Calls Tryz.prog 10 #[] w (Ret (.bool true) w) := by
  have cPl := Lib.hid plain7
  have cP1 : Hid (∀ w', Below w.heap.size w w' → Calls Tryz.prog 8 #[.string (str plainL)] w' (fun e w2 => ∃ v, e = .returned (.tuple #[v, .agg #[.int .i64 0, .int .i64 0]]) ∧ MetAt w2 v tabP ∧ Below w'.heap.size w' w2)) := Lib.hid (fun w' hb => (C.parse (str plainL) w' (below_step hw hb) (by decide)).mono fun e w2 h => parse_inl (by rw [str_data]; exact parse_plain) h)
  have cP2 : Hid (∀ w', Below w.heap.size w w' → Calls Tryz.prog 8 #[.string ⟨#[]⟩] w' (Ret (.tuple #[zeroM, .agg #[.int .i64 70, .int .i64 0]]) w')) := Lib.hid (fun w' hb => (C.parse ⟨#[]⟩ w' (below_step hw hb) (by decide)).mono fun e w2 h => parse_inr (x := (70, 0)) parse_0 h)
  have cP3 : Hid (∀ w', Below w.heap.size w w' → Calls Tryz.prog 8 #[.string ⟨#[115, 112, 97, 99, 101, 32, 51, 46, 48, 32, 49, 46, 48, 32, 49, 46, 48, 10, 104, 121, 112, 104, 101, 110, 32, 52, 54, 10]⟩] w' (Ret (.tuple #[zeroM, .agg #[.int .i64 71, .int .i64 (-1)]]) w')) := Lib.hid (fun w' hb => (C.parse ⟨#[115, 112, 97, 99, 101, 32, 51, 46, 48, 32, 49, 46, 48, 32, 49, 46, 48, 10, 104, 121, 112, 104, 101, 110, 32, 52, 54, 10]⟩ w' (below_step hw hb) (by decide)).mono fun e w2 h => parse_inr (x := (71, -1)) parse_46 h)
  have cP4 : Hid (∀ w', Below w.heap.size w w' → Calls Tryz.prog 8 #[.string ⟨#[115, 112, 97, 99, 101, 32, 51, 46, 48, 32, 49, 46, 48, 32, 49, 46, 48, 10, 104, 121, 112, 104, 101, 110, 32, 52, 53, 32, 10]⟩] w' (Ret (.tuple #[zeroM, .agg #[.int .i64 70, .int .i64 1]]) w')) := Lib.hid (fun w' hb => (C.parse ⟨#[115, 112, 97, 99, 101, 32, 51, 46, 48, 32, 49, 46, 48, 32, 49, 46, 48, 10, 104, 121, 112, 104, 101, 110, 32, 52, 53, 32, 10]⟩ w' (below_step hw hb) (by decide)).mono fun e w2 h => parse_inr (x := (70, 1)) parse_45 h)
  unfold zeroM at cP2 cP3 cP4
  have cF : Hid (∀ v w, MetAt w v tabP → Calls Tryz.prog 12 #[v, .int .i32 45] w (Ret (.tuple #[.agg #[.int .i32 45, .int .i64 131072, .int .i64 65536, .int .i64 0], .bool true]) w)) := Lib.hid (fun v w h => by
    have := C.find v tabP 45 w h
    rw [show Mt.find tabP 45 = some ⟨45, 131072, 65536, 0⟩ by decide +kernel] at this
    exact this)
  have cPr : Hid (∀ v w', Below w.heap.size w w' → MetAt w' v tabP → Calls Tryz.prog 18 #[v] w' (Ret (.string (str plainL)) w')) := Lib.hid (fun v w' hb h => by
    have := C.print v tabP w' (below_step hw hb) h
    rw [(Mt.print_parse parse_plain).2] at this
    exact this)
  clear C hw
  go_enter Tryz.func10, Tryz.ntmps10
  go_wp2_with fail
  refine (cPl.out _).mono ?_
  rintro e w0 ⟨rfl, hb0⟩
  have HB0 := Lib.hid hb0
  clear hb0
  go_wp2_with fail
  refine (cP1.out _ HB0.out).mono ?_
  rintro e w1 ⟨v1, rfl, hm, hb1⟩
  obtain ⟨pc, cc, pk, ck, pl, cl, rfl⟩ := met_P hm
  obtain ⟨W1, hW1⟩ : ∃ W1, W1 = (w1.alloc (.cells #[.int .i64 196608, .int .i64 65536, .int .i64 65536, .int .i64 0, .int .i32 45, .slice pc 1 cc, .slice pk 0 ck, .slice pl 0 cl] 28)).alloc (.cells #[.int .i64 0, .int .i64 0] 31) := ⟨_, rfl⟩
  have hb2 : Below w1.heap.size w1 W1 := by rw [hW1]; exact below_two _ _ _
  have HM1 := Lib.hid (hm.mono hb2)
  have HB1 := Lib.hid (below_step HB0.out (below_step hb1 hb2))
  have hbx : Below (w1.heap.size + 1) (w1.alloc (.cells #[.int .i64 196608, .int .i64 65536, .int .i64 65536, .int .i64 0, .int .i32 45, .slice pc 1 cc, .slice pk 0 ck, .slice pl 0 cl] 28)) W1 := by rw [hW1]; have h := below_alloc (w1.alloc (.cells #[.int .i64 196608, .int .i64 65536, .int .i64 65536, .int .i64 0, .int .i32 45, .slice pc 1 cc, .slice pk 0 ck, .slice pl 0 cl] 28)) (.cells #[.int .i64 0, .int .i64 0] 31); rw [World.size_alloc] at h; exact h
  have HC1 : Hid (∀ j u, (#[.int .i64 196608, .int .i64 65536, .int .i64 65536, .int .i64 0, .int .i32 45, .slice pc 1 cc, .slice pk 0 ck, .slice pl 0 cl] : Array Value)[j]? = some u → W1.cell? ⟨w1.heap.size, j, none⟩ = some u) := Lib.hid (fun j u hj => (hbx.cell (p := ⟨w1.heap.size, j, none⟩) (Nat.lt_succ_self _)).trans (cell_lay w1 _ _ j u hj))
  have HF1 : Hid (FltAt W1 (w1.heap.size + 1) 0 0) := Lib.hid (by rw [hW1]; have h := flt_new (w1.alloc (.cells #[.int .i64 196608, .int .i64 65536, .int .i64 65536, .int .i64 0, .int .i32 45, .slice pc 1 cc, .slice pk 0 ck, .slice pl 0 cl] 28)) 0 0; rw [World.size_alloc] at h; exact h)
  clear hm hb1 hb2 hbx
  go_wp2_with fail
  rw [← hW1]
  clear hW1
  refine (cP2.out _ HB1.out).mono ?_
  rintro e w2 ⟨rfl, hb2⟩
  have HB2 := Lib.hid (below_step HB1.out (below_step hb2 (below_two w2 (.cells #[.int .i64 0, .int .i64 0, .int .i64 0, .int .i64 0, .int .i32 0, .slice none 0 0, .slice none 0 0, .slice none 0 0] 28) (.cells #[.int .i64 70, .int .i64 (0)] 31))))
  have HF2 := Lib.hid (flt_two7 w2 (.cells #[.int .i64 0, .int .i64 0, .int .i64 0, .int .i64 0, .int .i32 0, .slice none 0 0, .slice none 0 0, .slice none 0 0] 28) 70 (0))
  have hbs2 := below_step hb2 (below_two w2 (.cells #[.int .i64 0, .int .i64 0, .int .i64 0, .int .i64 0, .int .i32 0, .slice none 0 0, .slice none 0 0, .slice none 0 0] 28) (.cells #[.int .i64 70, .int .i64 (0)] 31))
  have HF1 := Lib.hid (HF1.out.mono hbs2)
  have HM1 := Lib.hid (HM1.out.mono hbs2)
  have HC1 := Lib.hid (fun j u hj => cell_below hbs2 (HC1.out j u hj))
  clear hb2 hbs2
  go_wp2_with fail
  refine (cP3.out _ HB2.out).mono ?_
  rintro e w3 ⟨rfl, hb3⟩
  have HB3 := Lib.hid (below_step HB2.out (below_step hb3 (below_two w3 (.cells #[.int .i64 0, .int .i64 0, .int .i64 0, .int .i64 0, .int .i32 0, .slice none 0 0, .slice none 0 0, .slice none 0 0] 28) (.cells #[.int .i64 71, .int .i64 (-1)] 31))))
  have HF3 := Lib.hid (flt_two7 w3 (.cells #[.int .i64 0, .int .i64 0, .int .i64 0, .int .i64 0, .int .i32 0, .slice none 0 0, .slice none 0 0, .slice none 0 0] 28) 71 (-1))
  have hbs3 := below_step hb3 (below_two w3 (.cells #[.int .i64 0, .int .i64 0, .int .i64 0, .int .i64 0, .int .i32 0, .slice none 0 0, .slice none 0 0, .slice none 0 0] 28) (.cells #[.int .i64 71, .int .i64 (-1)] 31))
  have HF1 := Lib.hid (HF1.out.mono hbs3)
  have HF2 := Lib.hid (HF2.out.mono hbs3)
  have HM1 := Lib.hid (HM1.out.mono hbs3)
  have HC1 := Lib.hid (fun j u hj => cell_below hbs3 (HC1.out j u hj))
  clear hb3 hbs3
  go_wp2_with fail
  refine (cP4.out _ HB3.out).mono ?_
  rintro e w4 ⟨rfl, hb4⟩
  have HB4 := Lib.hid (below_step HB3.out (below_step hb4 (below_two w4 (.cells #[.int .i64 0, .int .i64 0, .int .i64 0, .int .i64 0, .int .i32 0, .slice none 0 0, .slice none 0 0, .slice none 0 0] 28) (.cells #[.int .i64 70, .int .i64 (1)] 31))))
  have HF4 := Lib.hid (flt_two7 w4 (.cells #[.int .i64 0, .int .i64 0, .int .i64 0, .int .i64 0, .int .i32 0, .slice none 0 0, .slice none 0 0, .slice none 0 0] 28) 70 (1))
  have hbs4 := below_step hb4 (below_two w4 (.cells #[.int .i64 0, .int .i64 0, .int .i64 0, .int .i64 0, .int .i32 0, .slice none 0 0, .slice none 0 0, .slice none 0 0] 28) (.cells #[.int .i64 70, .int .i64 (1)] 31))
  have HF1 := Lib.hid (HF1.out.mono hbs4)
  have HF2 := Lib.hid (HF2.out.mono hbs4)
  have HF3 := Lib.hid (HF3.out.mono hbs4)
  have HM1 := Lib.hid (HM1.out.mono hbs4)
  have HC1 := Lib.hid (fun j u hj => cell_below hbs4 (HC1.out j u hj))
  clear hb4 hbs4
  have y0 := HC1.out 0 _ rfl
  have y1 := HC1.out 1 _ rfl
  have y2 := HC1.out 2 _ rfl
  have y3 := HC1.out 3 _ rfl
  have y4 := HC1.out 4 _ rfl
  have y5 := HC1.out 5 _ rfl
  have y6 := HC1.out 6 _ rfl
  have y7 := HC1.out 7 _ rfl
  go_wp2_with fail
  refine (cF.out _ _ HM1.out).mono ?_
  rintro e w5 ⟨rfl, hb5⟩
  clear y0 y1 y2 y3 y4 y5 y6 y7
  have hbs5 := below_step hb5 (below_alloc w5 (.cells #[.int .i32 45, .int .i64 131072, .int .i64 65536, .int .i64 0] 38))
  have HB5 := Lib.hid (below_step HB4.out hbs5)
  have HM1 := Lib.hid (HM1.out.mono hbs5)
  have HC1 := Lib.hid (fun j u hj => cell_below hbs5 (HC1.out j u hj))
  have HF1 := Lib.hid (HF1.out.mono hbs5)
  have HF2 := Lib.hid (HF2.out.mono hbs5)
  have HF3 := Lib.hid (HF3.out.mono hbs5)
  have HF4 := Lib.hid (HF4.out.mono hbs5)
  clear hb5 hbs5
  have y0 := HC1.out 0 _ rfl
  have y1 := HC1.out 1 _ rfl
  have y2 := HC1.out 2 _ rfl
  have y3 := HC1.out 3 _ rfl
  have y4 := HC1.out 4 _ rfl
  have y5 := HC1.out 5 _ rfl
  have y6 := HC1.out 6 _ rfl
  have y7 := HC1.out 7 _ rfl
  have f0 := HF1.out.c0
  have f1 := HF1.out.c1
  have q1 : ∀ wx, (binOp .eql 31 (.agg #[.int .i64 0, .int .i64 0]) (.agg #[.int .i64 0, .int .i64 0])).run Tryz.prog wx = .ok (.bool true) wx := fun wx => by rw [eqFlt]; rfl
  go_wp2_with fail
  refine (cPr.out _ _ HB5.out HM1.out).mono ?_
  rintro e w6 ⟨rfl, hb6⟩
  have HB6 := Lib.hid (below_step HB5.out hb6)
  have HF2 := Lib.hid (HF2.out.mono hb6)
  have HF3 := Lib.hid (HF3.out.mono hb6)
  have HF4 := Lib.hid (HF4.out.mono hb6)
  clear hb6 y0 y1 y2 y3 y4 y5 y6 y7 f0 f1
  go_wp2_with fail
  refine (cPl.out _).mono ?_
  rintro e w7 ⟨rfl, hb7⟩
  have HB7 := Lib.hid (below_step HB6.out hb7)
  have HF2 := Lib.hid (HF2.out.mono hb7)
  have HF3 := Lib.hid (HF3.out.mono hb7)
  have HF4 := Lib.hid (HF4.out.mono hb7)
  clear hb7
  have g0 := HF2.out.c0
  have g1 := HF2.out.c1
  have h0 := HF3.out.c0
  have h1 := HF3.out.c1
  have i0 := HF4.out.c0
  have i1 := HF4.out.c1
  have q2 : ∀ wx, (binOp .eql 31 (.agg #[.int .i64 70, .int .i64 0]) (.agg #[.int .i64 70, .int .i64 0])).run Tryz.prog wx = .ok (.bool true) wx := fun wx => by rw [eqFlt]; rfl
  have q3 : ∀ wx, (binOp .eql 31 (.agg #[.int .i64 71, .int .i64 (-1)]) (.agg #[.int .i64 71, .int .i64 (-1)])).run Tryz.prog wx = .ok (.bool true) wx := fun wx => by rw [eqFlt]; rfl
  have q4 : ∀ wx, (binOp .eql 31 (.agg #[.int .i64 70, .int .i64 1]) (.agg #[.int .i64 70, .int .i64 1])).run Tryz.prog wx = .ok (.bool true) wx := fun wx => by rw [eqFlt]; rfl
  go_wp2
  go_ret
  exact ⟨rfl, HB7.out⟩
end Go.Proofs.YtmehldekebphfaaGreatDoor
