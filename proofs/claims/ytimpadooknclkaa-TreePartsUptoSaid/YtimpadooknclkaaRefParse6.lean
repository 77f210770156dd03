/-
  The reference's Parse (layer 6): the nodes of tokens, or what is wrong with them first.
-/
import Derived.Test.YtimpadooknclkaaRefNodes6
import Derived.Deep.RegionHeld3
set_option linter.unusedVariables false
set_option linter.unusedSimpArgs false
namespace Go.Proofs.Ytimpadooknclkaa
open Go.RowKit

/-- what a parse of tokens that form ns answers -/
def ParsedPost (ns : List Nd) (w : World) (e : Ending) (w' : World) : Prop := ∃ v K, e = .returned (.tuple #[v, flt 0 0]) ∧ NodesAt w' K v ns ∧ Below w.heap.size w w'
theorem stays_set {w : World} {p b : Nat} (h : b ≠ p) (i : Nat) (x : Value) : Stays w (w.setCell ⟨p, i, none⟩ x) b := stays_block (Below.heap_setCell w ⟨p, i, none⟩ x b (fun e => h (by rw [e])))
theorem stays_two {w : World} {p b : Nat} (h : b ≠ p) (x y : Value) : Stays w ((w.setCell ⟨p, 0, none⟩ x).setCell ⟨p, 1, none⟩ y) b := fun o v hv => stays_set h 1 y o v (stays_set h 0 x o v hv)
theorem code_fC (ts : List Tok) : Tr.code ts = fC (Tr.reals ts) ∧ Tr.place ts = fA (Tr.reals ts) := ⟨rfl, rfl⟩

/-- Fault, wherever the tokens lie -/
theorem fault_any (v : Value) (ts : List Tok) (hn : ts.length ≤ 4611686018427387904) (w : World) (h : ToksAt w v ts) : Calls Try.prog 23 #[v] w (Ret (flt (fC ts) (fA ts)) w) := by
  obtain ⟨⟨p, c, rfl, _⟩, m, k⟩ := h
  rcases Nat.eq_zero_or_pos ts.length with h0 | h0
  · obtain rfl : ts = [] := List.eq_nil_of_length_eq_zero h0
    exact fault_nil p c w
  · obtain ⟨b, o, d, e, q⟩ := k h0
    obtain ⟨rfl, rfl⟩ : p = some ⟨b, o, none⟩ ∧ c = d := by injection e with a1 a2 a3; exact ⟨a1, a3⟩
    exact fault_some b o _ ts hn w q
theorem two_far6 (W : World) {b b' i : Nat} (h : b ≠ b') (x y : Value) : ((W.setCell ⟨b, 0, none⟩ x).setCell ⟨b, 1, none⟩ y).cell? ⟨b', i, none⟩ = W.cell? ⟨b', i, none⟩ := by
  rw [World.cell?_setCell_other _ _ _ _ (by intro e; injection e with e _ _; exact h e), World.cell?_setCell_other _ _ _ _ (by intro e; injection e with e _ _; exact h e)]

set_option maxHeartbeats 3000000 in
set_option maxRecDepth 100000 in
theorem refParse_yes (v : Value) (ts : List Tok) (hbig : ts.length ≤ 1099511627776) (ns : List Nd) (hG : Tr.G 0 (Tr.reals ts) ns) (w : World) (h : ToksAt w v ts) : Calls Try.prog 8 #[v] w (ParsedPost ns w) := by
  have hf := fCA_none (Tr.flt_none hG)
  have hrl : (Tr.reals ts).length ≤ ts.length := List.length_filter_le ..
  have cR := Lib.hid (fun w h => real_any v ts (by omega) w h)
  have cF := Lib.hid (fun v w h => fault_any v (Tr.reals ts) (by omega) w h)
  rw [hf.1, hf.2] at cF
  unfold flt at cF
  have cN := Lib.hid (fun v w h => nodes_any v (Tr.reals ts) (by omega) 0 ns hG w h)
  have HB0 := Lib.hid (below_alloc w (.cells #[.int .i64 0, .int .i64 0] 26))
  have HF0 := Lib.hid (flt_new w 0 0)
  have H := Lib.hid (h.mono HB0.out)
  clear h hf hG hrl
  go_enter Try.func8, Try.ntmps8
  go_wp2_with fail
  refine (cR.out _ H.out).mono ?_
  rintro e w1 ⟨v1, rfl, h1, hb1⟩
  have HB1 := Lib.hid (below_step HB0.out hb1)
  have HF1 := Lib.hid (HF0.out.mono hb1)
  have H1 := Lib.hid h1.at
  clear h1 hb1
  go_wp2_with fail
  refine (cF.out _ _ H1.out).mono ?_
  rintro e w2 ⟨rfl, hb2⟩
  have hb2' := below_step hb2 (below_alloc w2 (.cells #[.int .i64 0, .int .i64 0] 26))
  have HB2 := Lib.hid (below_step HB1.out hb2')
  have HF2 := Lib.hid (HF1.out.mono hb2')
  have HFz := Lib.hid (flt_new w2 0 0)
  have H2 := Lib.hid (H1.out.mono hb2')
  have HSz : Hid (w1.heap.size ≤ w2.heap.size) := Lib.hid hb2.size
  obtain ⟨W2, hW2⟩ : ∃ W2, W2 = w2.alloc (.cells #[.int .i64 0, .int .i64 0] 26) := ⟨_, rfl⟩
  have x0 := HFz.out.c0
  clear hb2 hb2'
  go_wp2_with fail
  rw [← hW2] at HB2 HF2 HFz H2 ⊢
  clear x0 hW2
  have HNE : Hid (w.heap.size ≠ w2.heap.size) := Lib.hid (by have h1 : w.heap.size < w1.heap.size := block_lt_of_cell HF1.out.c0; have := HSz.out; omega)
  have HD : Hid (Below W2.heap.size W2 W2.drew) := Lib.hid (Below.refl _ _).drew
  have HpW : Hid (w.heap.size < W2.heap.size) := Lib.hid (block_lt_of_cell HF2.out.c0)
  go_region_held3 (fun w' => w'.cell? ⟨w2.heap.size, 0, none⟩ = some (.int .i64 0) ∧ w'.cell? ⟨w2.heap.size, 1, none⟩ = some (.int .i64 0)) (first | exact ⟨HFz.out.c0, HFz.out.c1⟩ | exact ⟨cell_below HB3.out HFz.out.c0, cell_below HB3.out HFz.out.c1⟩ | exact ⟨(two_far6 _ HNE.out _ _).trans (cell_below HB3.out HFz.out.c0), (two_far6 _ HNE.out _ _).trans (cell_below HB3.out HFz.out.c1)⟩ | go_keep)
    ((go_at_call 24; refine (cN.out _ _ (H2.out.mono HD.out)).mono ?_; rintro e w3 ⟨v3, K3, rfl, h3, hk3, hb3⟩; have HB3 := Lib.hid (below_step HD.out hb3); have HF3 := Lib.hid (HF2.out.mono HB3.out); have H3 := Lib.hid h3.at; have HK3 := Lib.hid (h3.own_ge hk3); have r0 := HF3.out.c0; have r1 := HF3.out.c1; have r2 := HF3.out.f0; have r3 := HF3.out.f1; clear h3 hk3 hb3))
  go_wp2_with fail
  have hne3 : ∀ b, Own K3 v3 b → b ≠ w.heap.size := fun b hb e => by
    have h1 := HK3.out b hb
    have h2 : W2.drew.heap.size = W2.heap.size := rfl
    have := HpW.out
    omega
  have HNW : Hid (NodesAt ((w3.setCell ⟨w.heap.size, 0, none⟩ (.int .i64 0)).setCell ⟨w.heap.size, 1, none⟩ (.int .i64 0)) (Own K3 v3) v3 ns) := Lib.hid (H3.out.move (fun b hb => stays_two (hne3 b hb) _ _) (fun _ h => h))
  have HBW : Hid (Below w.heap.size w ((w3.setCell ⟨w.heap.size, 0, none⟩ (.int .i64 0)).setCell ⟨w.heap.size, 1, none⟩ (.int .i64 0))) := Lib.hid (Below.setCell (Below.setCell (below_step HB2.out HB3.out) (Nat.le_refl _) _) (Nat.le_refl _) _)
  exact bodyPost_ret (v := .tuple #[v3, .agg #[.int .i64 0, .int .i64 0]]) (by simp [results, Try.results8, go_sem, r0, r1]) rfl ⟨v3, _, rfl, HNW.out, HBW.out⟩

set_option maxHeartbeats 3000000 in
set_option maxRecDepth 100000 in
theorem refParse_no (v : Value) (ts : List Tok) (hbig : ts.length ≤ 1099511627776) (hc : Tr.code ts ≠ 0) (w : World) (h : ToksAt w v ts) : Calls Try.prog 8 #[v] w (Ret (.tuple #[.slice none 0 0, flt (Tr.code ts) (Tr.place ts)]) w) := by
  have hrl : (Tr.reals ts).length ≤ ts.length := List.length_filter_le ..
  have cR := Lib.hid (fun w h => real_any v ts (by omega) w h)
  have cF := Lib.hid (fun v w h => fault_any v (Tr.reals ts) (by omega) w h)
  rw [← (code_fC ts).1, ← (code_fC ts).2] at cF
  obtain ⟨C, hC⟩ : ∃ C, C = Tr.code ts := ⟨_, rfl⟩
  obtain ⟨P, hP⟩ : ∃ P, P = Tr.place ts := ⟨_, rfl⟩
  rw [← hC] at hc
  rw [← hC, ← hP] at cF ⊢
  unfold flt at cF ⊢
  have hc0 : (C == 0) = false := tk_bne0 hc
  have hc1 : (C != 0) = true := by simp only [bne, hc0]; rfl
  have HB0 := Lib.hid (below_alloc w (.cells #[.int .i64 0, .int .i64 0] 26))
  have HF0 := Lib.hid (flt_new w 0 0)
  have H := Lib.hid (h.mono HB0.out)
  clear h hrl hC hP hc
  go_enter Try.func8, Try.ntmps8
  go_wp2_with fail
  refine (cR.out _ H.out).mono ?_
  rintro e w1 ⟨v1, rfl, h1, hb1⟩
  have HB1 := Lib.hid (below_step HB0.out hb1)
  have HF1 := Lib.hid (HF0.out.mono hb1)
  have H1 := Lib.hid h1.at
  clear h1 hb1
  go_wp2_with fail
  refine (cF.out _ _ H1.out).mono ?_
  rintro e w2 ⟨rfl, hb2⟩
  have hb2' := below_step hb2 (below_alloc w2 (.cells #[.int .i64 C, .int .i64 P] 26))
  have HB2 := Lib.hid (below_step HB1.out hb2')
  have HF2 := Lib.hid (HF1.out.mono hb2')
  have HFz := Lib.hid (flt_new w2 C P)
  have x0 := HFz.out.c0
  have x1 := HFz.out.c1
  have y0 := HF2.out.c0
  have y1 := HF2.out.c1
  have z0 := HF2.out.f0
  have z1 := HF2.out.f1
  clear hb2 hb2'
  go_wp2_with fail
  go_region
  all_goals (try go_wp2)
  all_goals exact bodyPost_ret (v := .tuple #[.slice none 0 0, .agg #[.int .i64 C, .int .i64 P]]) (by simp [results, Try.results8, go_sem, x0, x1, y0, y1]) rfl ⟨rfl, by first | exact ((HB2.out.setCell (Nat.le_refl _) _).setCell (Nat.le_refl _) _) | exact (((HB2.out.drew).setCell (Nat.le_refl _) _).setCell (Nat.le_refl _) _)⟩
end Go.Proofs.Ytimpadooknclkaa
