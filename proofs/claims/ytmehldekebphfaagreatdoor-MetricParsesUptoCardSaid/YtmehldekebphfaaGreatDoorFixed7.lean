/-
  The answers that the document fixes (layer 7): the statements' 'fixed' returns true, where the program's calls keep their contracts.
-/
import Derived.Test.YtmehldekebphfaaGreatDoorCalls7
set_option linter.unusedVariables false
set_option linter.unusedSimpArgs false
namespace Go.Proofs.YtmehldekebphfaaGreatDoor
open Go.RowKit

def spaceL : List UInt8 := [115, 112, 97, 99, 101, 32, 51, 46, 48, 32, 49, 46, 48, 32, 49, 46, 48, 10]
def plainL : List UInt8 := spaceL ++ [104, 121, 112, 104, 101, 110, 32, 52, 53, 10, 99, 104, 97, 114, 32, 52, 53, 32, 50, 46, 48, 32, 49, 46, 48, 32, 48, 46, 48, 10]
def hyph46 : List UInt8 := spaceL ++ [104, 121, 112, 104, 101, 110, 32, 52, 54, 10]
def hyph45 : List UInt8 := spaceL ++ [104, 121, 112, 104, 101, 110, 32, 52, 53, 32, 10]
def tabP : Mt.Tab := { sw := 196608, st := 65536, sk := 65536, hyph := 45, chars := [⟨45, 131072, 65536, 0⟩] }
theorem parse_plain : Mt.parse plainL = .inl tabP := by decide +kernel
theorem parse_46 : Mt.parse hyph46 = .inr (71, -1) := by decide +kernel
theorem parse_45 : Mt.parse hyph45 = .inr (70, 1) := by decide +kernel
theorem parse_0 : Mt.parse [] = .inr (70, 0) := by decide +kernel

set_option maxHeartbeats 1000000 in
set_option maxRecDepth 100000 in
theorem plain7 (w : World) : Calls Tryz.prog 28 #[] w (Ret (.string (str plainL)) w) := by
  go_enter Tryz.func28, Tryz.ntmps28
  go_wp2
  go_ret
  exact ⟨rfl, Below.refl _ _⟩
theorem rec_new (w : World) (cs : List Value) (T : TypeId) : RecAt (w.alloc (.cells cs.toArray T)) w.heap.size 0 cs := fun j u hj => by
  have h1 : (w.alloc (.cells cs.toArray T)).heap[w.heap.size]? = some (.cells cs.toArray T (0, 0)) := heap_alloc_new _ _
  rw [Lib.cell_of_heap h1]
  simpa using hj
/-- the eight cells of a table that was laid -/
def metCells (m : Mt.Tab) (cv kv lv : Value) : List Value := [.int .i64 m.sw, .int .i64 m.st, .int .i64 m.sk, .int .i64 m.order, .int .i32 m.hyph, cv, kv, lv]
theorem met_cells {w : World} {b : Nat} {m : Mt.Tab} {cv kv lv : Value} (h : RecAt w b 0 (metCells m cv kv lv)) : w.cell? ⟨b, 0, none⟩ = some (.int .i64 m.sw) ∧ w.cell? ⟨b, 1, none⟩ = some (.int .i64 m.st) ∧ w.cell? ⟨b, 2, none⟩ = some (.int .i64 m.sk) ∧ w.cell? ⟨b, 3, none⟩ = some (.int .i64 m.order) ∧
    w.cell? ⟨b, 4, none⟩ = some (.int .i32 m.hyph) ∧ w.cell? ⟨b, 5, none⟩ = some cv ∧ w.cell? ⟨b, 6, none⟩ = some kv ∧ w.cell? ⟨b, 7, none⟩ = some lv := by
  refine ⟨?_, ?_, ?_, ?_, ?_, ?_, ?_, ?_⟩
  · simpa using h 0 _ rfl
  · simpa using h 1 _ rfl
  · simpa using h 2 _ rfl
  · simpa using h 3 _ rfl
  · simpa using h 4 _ rfl
  · simpa using h 5 _ rfl
  · simpa using h 6 _ rfl
  · simpa using h 7 _ rfl

theorem met_P {w : World} {v : Value} (h : MetAt w v tabP) : ∃ pc cc pk ck pl cl, v = .agg #[.int .i64 196608, .int .i64 65536, .int .i64 65536, .int .i64 0, .int .i32 45, .slice pc 1 cc, .slice pk 0 ck, .slice pl 0 cl] := by
  obtain ⟨cv, kv, lv, rfl, ⟨⟨pc, cc, rfl, _⟩, _⟩, ⟨⟨pk, ck, rfl, _⟩, _⟩, ⟨⟨pl, cl, rfl, _⟩, _⟩⟩ := h
  exact ⟨pc, cc, pk, ck, pl, cl, rfl⟩
theorem cell_lay (w : World) (cs : Array Value) (T : TypeId) (j : Nat) (u : Value) (hj : cs[j]? = some u) : (w.alloc (.cells cs T)).cell? ⟨w.heap.size, j, none⟩ = some u := by
  have h1 : (w.alloc (.cells cs T)).heap[w.heap.size]? = some (.cells cs T (0, 0)) := heap_alloc_new _ _
  rw [Lib.cell_of_heap h1]
  exact hj
theorem flt_two7 (w : World) (o : Obj) (c a : Int) : FltAt ((w.alloc o).alloc (.cells #[.int .i64 c, .int .i64 a] 31)) (w.heap.size + 1) c a := by
  have h := flt_new (w.alloc o) c a
  rw [World.size_alloc] at h
  exact h
theorem met_open {w : World} {v : Value} {m : Mt.Tab} (h : MetAt w v m) : ∃ sw st sk so hy pc na cc pk nb ck pl nc cl, v = .agg #[.int .i64 sw, .int .i64 st, .int .i64 sk, .int .i64 so, .int .i32 hy, .slice pc na cc, .slice pk nb ck, .slice pl nc cl] := by
  obtain ⟨cv, kv, lv, rfl, ⟨⟨pc, cc, rfl, _⟩, _⟩, ⟨⟨pk, ck, rfl, _⟩, _⟩, ⟨⟨pl, cl, rfl, _⟩, _⟩⟩ := h
  exact ⟨_, _, _, _, _, _, _, _, _, _, _, _, _, _, rfl⟩
/-- the cells cs are laid in block b -/
structure Laid (w : World) (b : Nat) (cs : Array Value) : Prop where
  at_ : ∀ j u, cs[j]? = some u → w.cell? ⟨b, j, none⟩ = some u
theorem Laid.mono {w w' : World} {b : Nat} {cs : Array Value} (h : Laid w b cs) (hb : Below w.heap.size w w') : Laid w' b cs := ⟨fun j u hj => cell_below hb (h.at_ j u hj)⟩
theorem laid_one (w : World) (cs : Array Value) (T : TypeId) : Laid (w.alloc (.cells cs T)) w.heap.size cs := ⟨fun j u hj => cell_lay w cs T j u hj⟩
theorem laid_two (w : World) (cs : Array Value) (T : TypeId) (o : Obj) : Laid ((w.alloc (.cells cs T)).alloc o) w.heap.size cs := (laid_one w cs T).mono (below_alloc _ _)
theorem str_size (l : List UInt8) : (str l).size = l.length := by simp [str, ByteArray.size]
theorem below_two (w : World) (o o' : Obj) : Below w.heap.size w ((w.alloc o).alloc o') := below_step (below_alloc _ _) (below_alloc _ _)
set_option maxHeartbeats 4000000 in
set_option maxRecDepth 100000 in
theorem fixed7 (C : MetC) (w : World) : Calls Tryz.prog 10 #[] w (Ret (.bool true) w) := by
  have cPl := Lib.hid plain7
  have cP1 : Hid (∀ w, Calls Tryz.prog 8 #[.string (str plainL)] w (fun e w' => ∃ v, e = .returned (.tuple #[v, .agg #[.int .i64 0, .int .i64 0]]) ∧ MetAt w' v tabP ∧ Below w.heap.size w w')) := Lib.hid (fun w => (C.parse (str plainL) w (by decide)).mono fun e w' h => parse_inl (by rw [str_data]; exact parse_plain) h)
  have cP2 : Hid (∀ w, Calls Tryz.prog 8 #[.string ⟨#[]⟩] w (Ret (.tuple #[zeroM, .agg #[.int .i64 70, .int .i64 0]]) w)) := Lib.hid (fun w => (C.parse ⟨#[]⟩ w (by decide)).mono fun e w' h => parse_inr (x := (70, 0)) parse_0 h)
  have cP3 : Hid (∀ w, Calls Tryz.prog 8 #[.string ⟨#[115, 112, 97, 99, 101, 32, 51, 46, 48, 32, 49, 46, 48, 32, 49, 46, 48, 10, 104, 121, 112, 104, 101, 110, 32, 52, 54, 10]⟩] w (Ret (.tuple #[zeroM, .agg #[.int .i64 71, .int .i64 (-1)]]) w)) := Lib.hid (fun w => (C.parse ⟨#[115, 112, 97, 99, 101, 32, 51, 46, 48, 32, 49, 46, 48, 32, 49, 46, 48, 10, 104, 121, 112, 104, 101, 110, 32, 52, 54, 10]⟩ w (by decide)).mono fun e w' h => parse_inr (x := (71, -1)) parse_46 h)
  have cP4 : Hid (∀ w, Calls Tryz.prog 8 #[.string ⟨#[115, 112, 97, 99, 101, 32, 51, 46, 48, 32, 49, 46, 48, 32, 49, 46, 48, 10, 104, 121, 112, 104, 101, 110, 32, 52, 53, 32, 10]⟩] w (Ret (.tuple #[zeroM, .agg #[.int .i64 70, .int .i64 1]]) w)) := Lib.hid (fun w => (C.parse ⟨#[115, 112, 97, 99, 101, 32, 51, 46, 48, 32, 49, 46, 48, 32, 49, 46, 48, 10, 104, 121, 112, 104, 101, 110, 32, 52, 53, 32, 10]⟩ w (by decide)).mono fun e w' h => parse_inr (x := (70, 1)) parse_45 h)
  unfold zeroM at cP2 cP3 cP4
  have hS : Small tabP := ⟨by decide, by decide, by decide⟩
  have hT : TabIn tabP := tabIn_may (by decide +kernel)
  have cF : Hid (∀ v w, MetAt w v tabP → Calls Tryz.prog 12 #[v, .int .i32 45] w (Ret (.tuple #[.agg #[.int .i32 45, .int .i64 131072, .int .i64 65536, .int .i64 0], .bool true]) w)) := Lib.hid (fun v w h => by
    have := C.find v tabP 45 w h hS
    rw [show Mt.find tabP 45 = some ⟨45, 131072, 65536, 0⟩ by decide +kernel] at this
    exact this)
  have cPr : Hid (∀ v w, MetAt w v tabP → Calls Tryz.prog 18 #[v] w (Ret (.string (str plainL)) w)) := Lib.hid (fun v w h => by
    have := C.print v tabP w hT hS h
    rw [(Mt.print_parse parse_plain).2] at this
    exact this)
  clear C hS hT
  go_enter Tryz.func10, Tryz.ntmps10
  go_wp2_with fail
  refine (cPl.out _).mono ?_
  rintro e w0 ⟨rfl, hb0⟩
  have HB0 := Lib.hid hb0
  clear hb0
  go_wp2_with fail
  refine (cP1.out _).mono ?_
  rintro e w1 ⟨v1, rfl, hm, hb1⟩
  obtain ⟨pc, cc, pk, ck, pl, cl, rfl⟩ := met_P hm
  obtain ⟨W1, hW1⟩ : ∃ W1, W1 = (w1.alloc (.cells #[.int .i64 196608, .int .i64 65536, .int .i64 65536, .int .i64 0, .int .i32 45, .slice pc 1 cc, .slice pk 0 ck, .slice pl 0 cl] 28)).alloc (.cells #[.int .i64 0, .int .i64 0] 31) := ⟨_, rfl⟩
  have hb2 : Below w1.heap.size w1 W1 := by rw [hW1]; exact below_two _ _ _
  have HM1 := Lib.hid (hm.mono hb2)
  have HB1 := Lib.hid (below_step HB0.out (below_step hb1 hb2))
  have hbx : Below (w1.heap.size + 1) (w1.alloc (.cells #[.int .i64 196608, .int .i64 65536, .int .i64 65536, .int .i64 0, .int .i32 45, .slice pc 1 cc, .slice pk 0 ck, .slice pl 0 cl] 28)) W1 := by rw [hW1]; have h := below_alloc (w1.alloc (.cells #[.int .i64 196608, .int .i64 65536, .int .i64 65536, .int .i64 0, .int .i32 45, .slice pc 1 cc, .slice pk 0 ck, .slice pl 0 cl] 28)) (.cells #[.int .i64 0, .int .i64 0] 31); rw [World.size_alloc] at h; exact h
  have HC1 : Hid (∀ j u, (#[.int .i64 196608, .int .i64 65536, .int .i64 65536, .int .i64 0, .int .i32 45, .slice pc 1 cc, .slice pk 0 ck, .slice pl 0 cl] : Array Value)[j]? = some u → W1.cell? ⟨w1.heap.size, j, none⟩ = some u) := Lib.hid (fun j u hj => (hbx.cell (p := ⟨w1.heap.size, j, none⟩) (Nat.lt_succ_self _)).trans (cell_lay w1 _ _ j u hj))
  have HF1 : Hid (FltAt W1 (w1.heap.size + 1) 0 0) := Lib.hid (by rw [hW1]; have h := flt_new (w1.alloc (.cells #[.int .i64 196608, .int .i64 65536, .int .i64 65536, .int .i64 0, .int .i32 45, .slice pc 1 cc, .slice pk 0 ck, .slice pl 0 cl] 28)) 0 0; rw [World.size_alloc] at h; exact h)
  clear hm hb1 hb2 hbx
  go_wp2_with fail
  rw [← hW1]
  clear hW1
  refine (cP2.out _).mono ?_
  rintro e w2 ⟨rfl, hb2⟩
  have HB2 := Lib.hid (below_step HB1.out (below_step hb2 (below_two w2 (.cells #[.int .i64 0, .int .i64 0, .int .i64 0, .int .i64 0, .int .i32 0, .slice none 0 0, .slice none 0 0, .slice none 0 0] 28) (.cells #[.int .i64 70, .int .i64 (0)] 31))))
  have HF2 := Lib.hid (flt_two7 w2 (.cells #[.int .i64 0, .int .i64 0, .int .i64 0, .int .i64 0, .int .i32 0, .slice none 0 0, .slice none 0 0, .slice none 0 0] 28) 70 (0))
  have hbs2 := below_step hb2 (below_two w2 (.cells #[.int .i64 0, .int .i64 0, .int .i64 0, .int .i64 0, .int .i32 0, .slice none 0 0, .slice none 0 0, .slice none 0 0] 28) (.cells #[.int .i64 70, .int .i64 (0)] 31))
  have HF1 := Lib.hid (HF1.out.mono hbs2)
  have HM1 := Lib.hid (HM1.out.mono hbs2)
  have HC1 := Lib.hid (fun j u hj => cell_below hbs2 (HC1.out j u hj))
  clear hb2 hbs2
  go_wp2_with fail
  refine (cP3.out _).mono ?_
  rintro e w3 ⟨rfl, hb3⟩
  have HB3 := Lib.hid (below_step HB2.out (below_step hb3 (below_two w3 (.cells #[.int .i64 0, .int .i64 0, .int .i64 0, .int .i64 0, .int .i32 0, .slice none 0 0, .slice none 0 0, .slice none 0 0] 28) (.cells #[.int .i64 71, .int .i64 (-1)] 31))))
  have HF3 := Lib.hid (flt_two7 w3 (.cells #[.int .i64 0, .int .i64 0, .int .i64 0, .int .i64 0, .int .i32 0, .slice none 0 0, .slice none 0 0, .slice none 0 0] 28) 71 (-1))
  have hbs3 := below_step hb3 (below_two w3 (.cells #[.int .i64 0, .int .i64 0, .int .i64 0, .int .i64 0, .int .i32 0, .slice none 0 0, .slice none 0 0, .slice none 0 0] 28) (.cells #[.int .i64 71, .int .i64 (-1)] 31))
  have HF1 := Lib.hid (HF1.out.mono hbs3)
  have HF2 := Lib.hid (HF2.out.mono hbs3)
  have HM1 := Lib.hid (HM1.out.mono hbs3)
  have HC1 := Lib.hid (fun j u hj => cell_below hbs3 (HC1.out j u hj))
  clear hb3 hbs3
  go_wp2_with fail
  refine (cP4.out _).mono ?_
  rintro e w4 ⟨rfl, hb4⟩
  have HB4 := Lib.hid (below_step HB3.out (below_step hb4 (below_two w4 (.cells #[.int .i64 0, .int .i64 0, .int .i64 0, .int .i64 0, .int .i32 0, .slice none 0 0, .slice none 0 0, .slice none 0 0] 28) (.cells #[.int .i64 70, .int .i64 (1)] 31))))
  have HF4 := Lib.hid (flt_two7 w4 (.cells #[.int .i64 0, .int .i64 0, .int .i64 0, .int .i64 0, .int .i32 0, .slice none 0 0, .slice none 0 0, .slice none 0 0] 28) 70 (1))
  have hbs4 := below_step hb4 (below_two w4 (.cells #[.int .i64 0, .int .i64 0, .int .i64 0, .int .i64 0, .int .i32 0, .slice none 0 0, .slice none 0 0, .slice none 0 0] 28) (.cells #[.int .i64 70, .int .i64 (1)] 31))
  have HF1 := Lib.hid (HF1.out.mono hbs4)
  have HF2 := Lib.hid (HF2.out.mono hbs4)
  have HF3 := Lib.hid (HF3.out.mono hbs4)
  have HM1 := Lib.hid (HM1.out.mono hbs4)
  have HC1 := Lib.hid (fun j u hj => cell_below hbs4 (HC1.out j u hj))
  clear hb4 hbs4
  have y0 := HC1.out 0 _ rfl
  have y1 := HC1.out 1 _ rfl
  have y2 := HC1.out 2 _ rfl
  have y3 := HC1.out 3 _ rfl
  have y4 := HC1.out 4 _ rfl
  have y5 := HC1.out 5 _ rfl
  have y6 := HC1.out 6 _ rfl
  have y7 := HC1.out 7 _ rfl
  go_wp2_with fail
  refine (cF.out _ _ HM1.out).mono ?_
  rintro e w5 ⟨rfl, hb5⟩
  clear y0 y1 y2 y3 y4 y5 y6 y7
  have hbs5 := below_step hb5 (below_alloc w5 (.cells #[.int .i32 45, .int .i64 131072, .int .i64 65536, .int .i64 0] 38))
  have HB5 := Lib.hid (below_step HB4.out hbs5)
  have HM1 := Lib.hid (HM1.out.mono hbs5)
  have HC1 := Lib.hid (fun j u hj => cell_below hbs5 (HC1.out j u hj))
  have HF1 := Lib.hid (HF1.out.mono hbs5)
  have HF2 := Lib.hid (HF2.out.mono hbs5)
  have HF3 := Lib.hid (HF3.out.mono hbs5)
  have HF4 := Lib.hid (HF4.out.mono hbs5)
  clear hb5 hbs5
  have y0 := HC1.out 0 _ rfl
  have y1 := HC1.out 1 _ rfl
  have y2 := HC1.out 2 _ rfl
  have y3 := HC1.out 3 _ rfl
  have y4 := HC1.out 4 _ rfl
  have y5 := HC1.out 5 _ rfl
  have y6 := HC1.out 6 _ rfl
  have y7 := HC1.out 7 _ rfl
  have f0 := HF1.out.c0
  have f1 := HF1.out.c1
  have q1 : ∀ wx, (binOp .eql 31 (.agg #[.int .i64 0, .int .i64 0]) (.agg #[.int .i64 0, .int .i64 0])).run Tryz.prog wx = .ok (.bool true) wx := fun wx => by rw [eqFlt]; rfl
  go_wp2_with fail
  refine (cPr.out _ _ HM1.out).mono ?_
  rintro e w6 ⟨rfl, hb6⟩
  have HB6 := Lib.hid (below_step HB5.out hb6)
  have HF2 := Lib.hid (HF2.out.mono hb6)
  have HF3 := Lib.hid (HF3.out.mono hb6)
  have HF4 := Lib.hid (HF4.out.mono hb6)
  clear hb6 y0 y1 y2 y3 y4 y5 y6 y7 f0 f1
  go_wp2_with fail
  refine (cPl.out _).mono ?_
  rintro e w7 ⟨rfl, hb7⟩
  have HB7 := Lib.hid (below_step HB6.out hb7)
  have HF2 := Lib.hid (HF2.out.mono hb7)
  have HF3 := Lib.hid (HF3.out.mono hb7)
  have HF4 := Lib.hid (HF4.out.mono hb7)
  clear hb7
  have g0 := HF2.out.c0
  have g1 := HF2.out.c1
  have h0 := HF3.out.c0
  have h1 := HF3.out.c1
  have i0 := HF4.out.c0
  have i1 := HF4.out.c1
  have q2 : ∀ wx, (binOp .eql 31 (.agg #[.int .i64 70, .int .i64 0]) (.agg #[.int .i64 70, .int .i64 0])).run Tryz.prog wx = .ok (.bool true) wx := fun wx => by rw [eqFlt]; rfl
  have q3 : ∀ wx, (binOp .eql 31 (.agg #[.int .i64 71, .int .i64 (-1)]) (.agg #[.int .i64 71, .int .i64 (-1)])).run Tryz.prog wx = .ok (.bool true) wx := fun wx => by rw [eqFlt]; rfl
  have q4 : ∀ wx, (binOp .eql 31 (.agg #[.int .i64 70, .int .i64 1]) (.agg #[.int .i64 70, .int .i64 1])).run Tryz.prog wx = .ok (.bool true) wx := fun wx => by rw [eqFlt]; rfl
  go_wp2
  go_ret
  exact ⟨rfl, HB7.out⟩
end Go.Proofs.YtmehldekebphfaaGreatDoor
