/-
  The landed Parse: it answers what the machine ends with.
-/
import Derived.Test.YtimpadooknclkaaTake6
import Derived.Test.YtimpadooknclkaaTake62
import Derived.Test.YtimpadooknclkaaRefParse6
set_option linter.unusedVariables false
set_option linter.unusedSimpArgs false
namespace Go.Proofs.Ytimpadooknclkaa
open Go.RowKit

theorem take_any {B Bo k : Nat} {w : World} {gb gc : Nat} {M : List MF} {t : Tok} {pre : List Nd} {a : Int} {R : Tr.Frames} (h : Stk B Bo w gb gc M ((pre, a) :: R)) (hI : Inv k pre R) (hk : k ≤ 1073741824) :
    Calls Try.prog 20 #[.pointer (some ⟨Bo, 0, none⟩), tokV t] w (TakePost B Bo k t pre a R w) := by
  obtain ⟨Kd, S, A⟩ := t
  match M, h with
  | [], h => exact h.frs.elim
  | (nv, D) :: M, h =>
    by_cases hr : Tr.real ⟨Kd, S, A⟩
    · rcases hr with e | e | e | e
      · obtain rfl : Kd = 0 := e
        exact take_node false h hI hk
      · obtain rfl : Kd = 1 := e
        exact take_node true h hI hk
      · obtain rfl : Kd = 2 := e
        exact take_open h hI hk
      · obtain rfl : Kd = 3 := e
        exact take_close h hI hk
    · exact take_other h hI hr
def ParseOut (o : Tr.Out) (w : World) (e : Ending) (w' : World) : Prop := match o with
  | .good ns => ∃ v K, e = .returned (.tuple #[v, flt 0 0]) ∧ NodesAt w' K v ns ∧ (∀ b, K b → Clear w' b) ∧ Below w.heap.size w w'
  | .bad c p => e = .returned (.tuple #[.slice none 0 0, flt c p]) ∧ Below w.heap.size w w'
theorem stk_start (w : World) : Stk (w.heap.size) (w.heap.size + 1) ((w.alloc (.cells #[.slice none 0 0, .int .i64 0] 47)).alloc (.cells #[.slice (some ⟨w.heap.size, 0, none⟩) 1 1] 49)) w.heap.size 1 [(.slice none 0 0, fun _ => False)] [([], 0)] := by
  refine ⟨?_, ?_, ⟨by omega, by omega⟩, ⟨fr_nil _ _, trivial⟩, fun m hm => ?_, ?_⟩
  · have := heap_alloc_new (w.alloc (.cells #[.slice none 0 0, .int .i64 0] 47)) (.cells #[.slice (some ⟨w.heap.size, 0, none⟩) 1 1] 49)
    rw [World.size_alloc] at this
    exact this
  · refine World.ownsRow.alloc ⟨rfl, .inr ⟨w.heap.size, 1, #[.slice none 0 0, .int .i64 0], rfl, Nat.le_refl _, heap_alloc_new _ _, Nat.le_refl _, by unfold maxLen; omega, rfl, rfl⟩⟩ _
  · rcases List.mem_singleton.1 hm with rfl
    exact ⟨fun h => h, fun h => h⟩
  · exact List.pairwise_singleton _ _

set_option maxHeartbeats 4000000 in
set_option maxRecDepth 100000 in
theorem parse_any (v : Value) (ts : List Tok) (hn : ts.length ≤ 1073741824) (w : World) (h : ToksAt w v ts) : Calls Try.prog 7 #[v] w (ParseOut (Tr.mch ts [] 0 []) w) := by
  obtain ⟨O, hO⟩ : ∃ O, O = Tr.mch ts [] 0 [] := ⟨_, rfl⟩
  rw [← hO]
  obtain ⟨⟨p1, c1, rfl, hc1⟩, m1, k1⟩ := h
  have HT := Lib.hid k1
  have hz : ts.length ≤ 9223372036854775807 := by omega
  obtain ⟨W0, hW0⟩ : ∃ W0, W0 = w.alloc (.cells #[.int .i64 0, .int .i64 0] 26) := ⟨_, rfl⟩
  have HF0 : Hid (FltAt W0 w.heap.size 0 0) := Lib.hid (by rw [hW0]; exact flt_new w 0 0)
  have HB0 : Hid (Below w.heap.size w W0) := Lib.hid (by rw [hW0]; exact below_alloc _ _)
  have HZ0 : W0.heap.size = w.heap.size + 1 := by rw [hW0, World.size_alloc]
  have HS0 := Lib.hid (stk_start W0)
  have HO := Lib.hid hO
  clear k1 m1 hO
  go_enter Try.func7, Try.ntmps7
  go_wp2_with fail
  rw [← hW0]
  go_loopw [12] (fun iv wr => ∃ (k : Nat) (pre : List Nd) (a : Int) (R : Tr.Frames) (gb gc : Nat) (M : List MF), k ≤ ts.length ∧ iv = .int .i64 k ∧ Hid (Stk (w.heap.size + 1) (w.heap.size + 1 + 1) wr gb gc M ((pre, a) :: R)) ∧ Hid (Inv k pre R) ∧ Hid (O = Tr.mch (ts.drop k) pre a R) ∧ Hid (Below (w.heap.size + 1) W0 wr)) (fun iv _ => ts.length - (intOf iv).toNat)
  case atStart =>
    refine ⟨0, [], 0, [], _, _, _, Nat.zero_le _, rfl, Lib.hid (by have := HS0.out; rw [HZ0] at this; exact this), Lib.hid ⟨by simp [Tr.sizeS, Tr.sizeL], by simp, fun f hf => by cases hf⟩, HO, Lib.hid ?_⟩
    exact ((Below.refl _ _).alloc (by omega) _).alloc (by rw [World.size_alloc]; omega) _
  case round =>
    obtain ⟨k, pre, a, R, gb, gc, M, hk, rfl, HS, HI, HM, HB⟩ := hrel
    clear HS0
    by_cases hlt : k < ts.length
    · obtain ⟨⟨Kd, S, A⟩, ht⟩ : ∃ t, ts[k]? = some t := ⟨_, List.getElem?_eq_getElem hlt⟩
      obtain ⟨b, o, cp, ec, hq⟩ := HT.out (by omega)
      obtain ⟨rfl, rfl⟩ : p1 = some ⟨b, o, none⟩ ∧ c1 = cp := by injection ec with a1 a2 a3; exact ⟨a1, a3⟩
      have DT := hq k _ ht
      have hBw : Below w.heap.size w wr := HB0.out.trans (HB.out.mono (by omega))
      have d1 := cell_below hBw DT.k
      have d2 := cell_below hBw DT.s
      have d3 := cell_below hBw DT.a
      simp only [] at d1 d2 d3
      have k0 : (0 : Int) ≤ (k : Int) := by omega
      have kl : (k : Int) < (ts.length : Int) := by omega
      have hM1 := HM.out
      rw [drop_tok ht] at hM1
      have HM1 := Lib.hid hM1
      have hbA := below_alloc wr (.cells #[.int .i64 Kd, .string (str S), .int .i64 A] 36)
      have HSa := Lib.hid (HS.out.mono hbA)
      have HBa := Lib.hid (HB.out.trans (hbA.mono HS.out.low))
      have cT := Lib.hid (take_any (t := ⟨Kd, S, A⟩) HSa.out HI.out (by omega))
      have HTa := Lib.hid (tok_box wr Kd (str S) A)
      have hal : wr.heap.size < (wr.alloc (.cells #[.int .i64 Kd, .string (str S), .int .i64 A] 36)).heap.size := by rw [World.size_alloc]; omega
      have HAl := Lib.hid hal
      clear hq ec DT ht hM1 hbA HS hBw hal
      go_wp2_with fail
      refine cT.out.mono ?_
      rintro e w2 (⟨c, hc, hm, rfl, hb⟩ | ⟨pre', a', R', gb', gc', M', hm, hJ, rfl, hS, hb⟩)
      · have HE : Hid (O = .bad c A) := Lib.hid (HM1.out.trans (hm _))
        have g1 : (c != 0) = true := by simp only [bne, tk_bne0 hc]; rfl
        have u2 := cell_below hb HTa.out.2.2
        have HB2 := Lib.hid (HBa.out.trans (hb.mono HSa.out.low))
        have HF2 := Lib.hid (flt_below6 HF0.out HB2.out (Nat.lt_succ_self _))
        have HBf := Lib.hid (HB0.out.trans (HB2.out.mono (by omega)))
        have y0 := HF2.out.c0
        have y1 := HF2.out.c1
        have z0 := HF2.out.f0
        have z1 := HF2.out.f1
        clear hb hm
        go_wp2_with fail
        go_region
        all_goals (try go_wp2)
        all_goals exact bodyPost_ret (v := .tuple #[.slice none 0 0, .agg #[.int .i64 c, .int .i64 A]]) (by simp [results, Try.results7, go_sem, u2, y0, y1, z0, z1]) rfl (by
          rw [HE.out]
          exact ⟨rfl, by first | exact (HBf.out.setCell (p := ⟨w.heap.size, 0, none⟩) (Nat.le_refl _) _).setCell (p := ⟨w.heap.size, 1, none⟩) (Nat.le_refl _) _ | exact ((HBf.out.drew).setCell (p := ⟨w.heap.size, 0, none⟩) (Nat.le_refl _) _).setCell (p := ⟨w.heap.size, 1, none⟩) (Nat.le_refl _) _⟩)
      · have HE : Hid (O = Tr.mch (ts.drop (k + 1)) pre' a' R') := Lib.hid (HM1.out.trans (hm _))
        have HS2 := Lib.hid hS
        have HI2 := Lib.hid hJ
        have HB2 := Lib.hid (HBa.out.trans hb)
        clear hm hS hJ hb
        go_wp2
        go_roundw
        case rel => exact ⟨k + 1, pre', a', R', gb', gc', M', by omega, by go_num, HS2, HI2, HE, HB2⟩
        case measure => simp [intOf]; omega
    · have HE : Hid (O = Tr.mch [] pre a R) := Lib.hid (by have h := HM.out; rw [List.drop_eq_nil_of_le (by omega)] at h; exact h)
      have hBw : Below w.heap.size w wr := HB0.out.trans (HB.out.mono (by omega))
      have HF2 := Lib.hid (flt_below6 HF0.out HB.out (Nat.lt_succ_self _))
      have hc := HS.out.c0
      cases R with
      | nil =>
        have cI := Lib.hid (inside_any _ 0 gc _ wr hc (by omega))
        have cT := Lib.hid (innermost_any _ gb 0 gc wr hc (by omega))
        match M, HS with
        | [], HS => exact HS.out.frs.elim
        | (nv, D) :: M, HS =>
          have htop := HS.out.ctop.1
          go_wp2_with fail
          refine cI.out.mono ?_
          rintro e w2 ⟨rfl, hw2⟩
          replace hw2 := hw2.symm
          subst hw2
          go_wp2_with fail
          refine cT.out.mono ?_
          rintro e w2 ⟨rfl, m, rfl⟩
          have t1 : (wr.drewN m).cell? ⟨gb, 0, none⟩ = some nv := htop
          have y0 : (wr.drewN m).cell? ⟨w.heap.size, 0, none⟩ = _ := HF2.out.c0
          have y1 : (wr.drewN m).cell? ⟨w.heap.size, 1, none⟩ = _ := HF2.out.c1
          have z0 : (wr.drewN m).frozen? ⟨w.heap.size, 0, none⟩ = _ := HF2.out.f0
          have z1 : (wr.drewN m).frozen? ⟨w.heap.size, 1, none⟩ = _ := HF2.out.f1
          have HF := Lib.hid HS.out.frs.1
          have hne : ∀ b, D b → b ≠ w.heap.size := fun b hb e => by have := (HF.out.blk b hb).1; omega
          go_wp2_with fail
          exact bodyPost_ret (v := .tuple #[nv, .agg #[.int .i64 0, .int .i64 0]]) (by simp [results, Try.results7, go_sem, t1, y0, y1, z0, z1]) rfl (by
            rw [HE.out]
            refine ⟨nv, D, rfl, ?_, ?_, ?_⟩
            · exact (HF.out.at.drew m).move (fun b hb => stays_two (hne b hb) _ _) (fun _ h => h)
            · exact fun b hb => ((HF.out.blk b hb).2.set _ _ _).set _ _ _
            · exact ((hBw.trans ((below_drew wr m).mono hBw.size)).setCell (p := ⟨w.heap.size, 0, none⟩) (Nat.le_refl _) _).setCell (p := ⟨w.heap.size, 1, none⟩) (Nat.le_refl _) _)
      | cons f R =>
        obtain ⟨q, b0⟩ := f
        have hdl : R.length + 1 ≤ 64 := HI.out.deep
        match M, HS with
        | [], HS => exact HS.out.frs.elim
        | (nv, D) :: M, HS =>
          have hc' : wr.cell? ⟨w.heap.size + 1 + 1, 0, none⟩ = some (.slice (some ⟨gb, 0, none⟩) (R.length + 1 + 1) gc) := hc
          have htop : wr.cell? ⟨gb, (R.length + 1) * 2 + 1, none⟩ = some (.int .i64 a) := HS.out.ctop.2
          obtain ⟨n, hn0⟩ : ∃ n, n = R.length := ⟨_, rfl⟩
          rw [← hn0] at hc' htop hdl
          have cI := Lib.hid (inside_any _ (n + 1) gc _ wr hc' (by omega))
          have cT := Lib.hid (fun q => innermost_any _ gb (n + 1) gc (wr.drewN q) hc' (by omega))
          have HNe : Hid (O = .bad 62 a) := HE
          have g1 : (0 : Int) < (n : Int) + 1 := by omega
          clear hn0 hc
          go_wp2_with fail
          refine cI.out.mono ?_
          rintro e w2 ⟨rfl, hw2⟩
          replace hw2 := hw2.symm
          subst hw2
          have y0 := HF2.out.c0
          have y1 := HF2.out.c1
          have z0 := HF2.out.f0
          have z1 := HF2.out.f1
          go_wp2_with fail
          go_region_law (first | (go_simp; go_at_call 22; refine (cT.out _).mono ?_; rintro e w7 ⟨rfl, m7, rfl⟩))
          all_goals (try go_wp2)
          all_goals exact bodyPost_ret (v := .tuple #[.slice none 0 0, .agg #[.int .i64 62, .int .i64 a]]) (by simp [results, Try.results7, go_sem, y0, y1, z0, z1]) rfl (by
            rw [HNe.out]
            exact ⟨rfl, ((hBw.trans ((below_drew wr _).mono hBw.size)).setCell (p := ⟨w.heap.size, 0, none⟩) (Nat.le_refl _) _).setCell (p := ⟨w.heap.size, 1, none⟩) (Nat.le_refl _) _⟩)
/-- Parse, where the tokens form nodes; and where they don't. -/
theorem parse_yes6 (v : Value) (ts : List Tok) (ns : List Nd) (w : World) (hn : ts.length ≤ 1073741824) (hG : Tr.G 0 (Tr.reals ts) ns) (h : ToksAt w v ts) :
    Calls Try.prog 7 #[v] w (fun e w' => ∃ v' K, e = .returned (.tuple #[v', flt 0 0]) ∧ NodesAt w' K v' ns ∧ (∀ b, K b → Clear w' b) ∧ Below w.heap.size w w') := by
  have := parse_any v ts hn w h
  rw [Tr.mch_yes hG] at this
  exact this
theorem parse_no6 (v : Value) (ts : List Tok) (w : World) (hn : ts.length ≤ 1073741824) (hc : Tr.code ts ≠ 0) (h : ToksAt w v ts) :
    Calls Try.prog 7 #[v] w (Ret (.tuple #[.slice none 0 0, flt (Tr.code ts) (Tr.place ts)]) w) := by
  have := parse_any v ts hn w h
  rw [Tr.mch_no hc] at this
  exact this
end Go.Proofs.Ytimpadooknclkaa
