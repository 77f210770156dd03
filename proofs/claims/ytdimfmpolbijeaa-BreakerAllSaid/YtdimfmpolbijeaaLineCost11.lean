/-
  The landed cost: a line's cost, asked of a short line with the same sums.
-/
import Derived.Test.YtdimfmpolbijeaaPar11
set_option linter.unusedVariables false
set_option linter.unusedSimpArgs false
namespace Go.Proofs.Ytdimfmpolbijeaa
open Go.RowKit

theorem costV_is (o : Option (Int × Int)) : ∃ d c q, costV o = .tuple #[.int .i64 d, .int .i64 c, .bool q] := by
  cases o with
  | none => exact ⟨0, 0, false, rfl⟩
  | some x => exact ⟨x.1, x.2, true, rfl⟩
theorem u4_11 : Try.prog.underlying 78 = some (.array 4 2) := by kernel_rfl
theorem i64_11 : (Try.prog.info? 2).map (fun i => (i.zero, i.size, i.bytes)) = some (some (.int .i64 0), 1, 8) := by kernel_rfl
theorem idx11_0 (a b c d : Int) (w : World) : (Instr.index 78 (.agg #[.int .i64 a, .int .i64 b, .int .i64 c, .int .i64 d]) (.int .i64 0)).run Try.prog w = .ok (.int .i64 a) w := by
  obtain ⟨i, h1, h2, h3, h4⟩ := info_parts i64_11
  simp [Instr.index, run_underlying u4_11, asIntOf, go_sem, sizeOf, typeInfo, h1, h2, h3, h4, Result.andThen]
theorem idx11_1 (a b c d : Int) (w : World) : (Instr.index 78 (.agg #[.int .i64 a, .int .i64 b, .int .i64 c, .int .i64 d]) (.int .i64 1)).run Try.prog w = .ok (.int .i64 b) w := by
  obtain ⟨i, h1, h2, h3, h4⟩ := info_parts i64_11
  simp [Instr.index, run_underlying u4_11, asIntOf, go_sem, sizeOf, typeInfo, h1, h2, h3, h4, Result.andThen]
theorem idx11_2 (a b c d : Int) (w : World) : (Instr.index 78 (.agg #[.int .i64 a, .int .i64 b, .int .i64 c, .int .i64 d]) (.int .i64 2)).run Try.prog w = .ok (.int .i64 c) w := by
  obtain ⟨i, h1, h2, h3, h4⟩ := info_parts i64_11
  simp [Instr.index, run_underlying u4_11, asIntOf, go_sem, sizeOf, typeInfo, h1, h2, h3, h4, Result.andThen]
theorem idx11_3 (a b c d : Int) (w : World) : (Instr.index 78 (.agg #[.int .i64 a, .int .i64 b, .int .i64 c, .int .i64 d]) (.int .i64 3)).run Try.prog w = .ok (.int .i64 d) w := by
  obtain ⟨i, h1, h2, h3, h4⟩ := info_parts i64_11
  simp [Instr.index, run_underlying u4_11, asIntOf, go_sem, sizeOf, typeInfo, h1, h2, h3, h4, Result.andThen]
def strB (s : It.Sm) : List It.Itm := [It.boxS 0 s.o0, It.boxS 1 s.o1, It.boxS 2 s.o2, It.boxS 3 s.o3]

set_option maxHeartbeats 16000000 in
set_option maxRecDepth 100000 in
theorem lineCost_first (v : Value) (l : List It.Itm) (t tol : Int) (w0 : World) (ip bp : Nat) (F : Nat → Nat → It.Pln) (b : Nat) (x : It.Itm) (sm : It.Sm) (w : World) (hI : ItsAt w0 v l) (hmay : It.may l = true) (hx : l[b]? = some x) (hlb : It.legal l (b : Int) = true) (hst : It.st l 0 ≤ b) (hf : ((l.take b).drop 0).any It.forced = false) (hsm : sm = It.sumG (It.glB l (It.st l 0) b)) (hP : ParW v l.length t tol w0 ip bp F w) :
    Calls Try.prog 52 #[.pointer (some ⟨ip, 0, none⟩), .int .i64 (-1), .int .i64 (b : Int), .agg (smC sm)] w fun e w' => e = .returned (costV (It.costOf l (-1) (b : Int) t tol)) ∧ ParW v l.length t tol w0 ip bp F w' ∧ Kept ip w w' := by
  have hbl : b < l.length := (List.getElem?_eq_some_iff.1 hx).1
  have hlen := (It.may_yes hmay).1
  have HS := Lib.hid (It.short_first hmay hx hlb hst hf t tol)
  rw [← hsm] at HS
  obtain ⟨sv, l0, ho, hs⟩ := hP.ho
  obtain ⟨hb0, hi0, hne⟩ := hP.h0
  obtain ⟨cs, hcs⟩ : ∃ cs : Array Value, cs = #[v, .int .i64 t, .int .i64 tol, .slice (some ⟨bp, 0, none⟩) (l.length + 1) (l.length + 1), sv] := ⟨_, rfl⟩
  rw [← hcs] at ho
  have hB1 := below_alloc w (.cells (smC sm) 80)
  have HX1 := Lib.hid (obj_new w _ rfl (smC sm) 80)
  have HC1 := Lib.hid (CoW.mk (w1 := w.alloc (.cells (smC sm) 80)) (obj_kept hB1 ho) (hs.mono hB1) (Kept.refl ip _) (Below.refl w0.heap.size _) (Nat.le_trans hP.hb.size hB1.size))
  have HK1 := Lib.hid (Kept.below (ip := ip) hB1)
  have HB1 := Lib.hid (hP.hb.trans (hB1.mono hP.hb.size))
  have HPl := Lib.hid (And.intro hP.hp (And.intro hb0 (And.intro hi0 hne)))
  have hipn : w.heap.size ≠ ip := by have := lt_of_obj ho; omega
  obtain ⟨W1, hW1⟩ : ∃ W1, W1 = w.alloc (.cells (smC sm) 80) := ⟨_, rfl⟩
  rw [← hW1] at HX1 HC1 HK1 HB1
  obtain ⟨u0, hu1, hu2, hu3⟩ := own_head0 HC1.out.hu
  have HC2 := Lib.hid (HC1.out.u hu3)
  have HCs := Lib.hid hcs
  have HA := Lib.hid hI
  have Hx := Lib.hid hx
  have k0 : (0 : Int) ≤ (b : Int) := by omega
  have kl : (b : Int) < (l.length : Int) := by omega
  obtain ⟨⟨p, cp, rfl, hcap⟩, hm, _⟩ := hI
  have hza : l.length ≤ 9223372036854775807 := by omega
  obtain ⟨b1, o1, d1, e1, r1⟩ := HA.out.2.2 (by omega)
  obtain ⟨rfl, rfl⟩ : p = some ⟨b1, o1, none⟩ ∧ cp = d1 := by injection e1 with a1 a2 a3; exact ⟨a1, a3⟩
  have HR := Lib.hid r1
  obtain ⟨n, hn⟩ : ∃ n, n = l.length := ⟨_, rfl⟩
  have Hn := Lib.hid hn
  have z0 : W1.cell? ⟨ip, 0, none⟩ = some (.slice (some ⟨b1, o1, none⟩) l.length cp) := by rw [Lib.cell_of_heap HC1.out.ho 0, hcs]; rfl
  have z4 : W1.cell? ⟨ip, 4, none⟩ = some sv := by rw [Lib.cell_of_heap HC1.out.ho 4, hcs]; rfl
  have c0 : W1.cell? ⟨w.heap.size, 0, none⟩ = some (.int .i64 sm.w) := Lib.cell_of_heap HX1.out 0
  have c1 : W1.cell? ⟨w.heap.size, 1, none⟩ = some (.int .i64 sm.k) := Lib.cell_of_heap HX1.out 1
  obtain ⟨P, hPs⟩ : ∃ P, P = w.heap.size := ⟨_, rfl⟩
  rw [← hPs] at HX1 c0 c1 hipn
  rw [← hn] at z0 kl HPl ⊢
  clear r1 e1 hcap hm hx ho hs hB1 hsm hf hst hmay hP hu3 hcs hn hb0 hi0 hne hbl hlen hlb
  unfold smC at hW1 HX1 ⊢
  obtain ⟨dd, dc, dq, hdq⟩ := costV_is (It.costOf l (-1) (b : Int) t tol)
  have Hdq := Lib.hid hdq
  rw [hdq]
  clear hdq
  go_enter Try.func52, Try.ntmps52
  go_upto_region 1 with fail
  rw [← hW1, ← hPs]
  clear hW1 hPs
  have HC4 := Lib.hid (HC2.out.below (below_alloc W1 (.cells #[.int .i64 0, .int .i64 sm.w, .int .i64 0, .int .i64 sm.k, .int .i64 0, .int .i64 0, .bool false, .int .i64 0, .int .i64 0] 47)))
  have HS4 := Lib.hid (slc_new itC_len W1 _ rfl [It.boxW sm.w sm.k] 47 (by simp) #[.int .i64 0, .int .i64 sm.w, .int .i64 0, .int .i64 sm.k, .int .i64 0, .int .i64 0, .bool false, .int .i64 0, .int .i64 0] rfl)
  go_upto_region 6 with (at_builtin; refine wpList_append_slc Try.underlying22 infoIt rfl (by decide) itC_len itC_cell rfl _ _ rfl w0.heap.size _ _ [] [It.boxW sm.w sm.k] rfl HC4.out.hu rfl HS4.out (by simp) (by unfold maxLen; simp) HC4.out.hz ?_; intro v9 w9 h9 hg9; have HC9 := Lib.hid (HC4.out.app hg9 h9); clear h9 hg9)
  clear HS4 HC4
  have d2 : w9.cell? ⟨P, 2, none⟩ = some (.int .i64 sm.o0) := Lib.cell_of_heap (HC9.out.hk P _ _ _ hipn (by decide) HX1.out) 2
  have d3 : w9.cell? ⟨P, 3, none⟩ = some (.int .i64 sm.o1) := Lib.cell_of_heap (HC9.out.hk P _ _ _ hipn (by decide) HX1.out) 3
  have d4 : w9.cell? ⟨P, 4, none⟩ = some (.int .i64 sm.o2) := Lib.cell_of_heap (HC9.out.hk P _ _ _ hipn (by decide) HX1.out) 4
  have d5 : w9.cell? ⟨P, 5, none⟩ = some (.int .i64 sm.o3) := Lib.cell_of_heap (HC9.out.hk P _ _ _ hipn (by decide) HX1.out) 5
  go_wp2_with fail
  go_loopw [11, 47] (fun lv kv wr => ∃ k : Nat, k ≤ 4 ∧ kv = .int .i64 k ∧ Hid (CoW ip w0.heap.size cs W1 lv ([It.boxW sm.w sm.k] ++ (strB sm).take k) wr)) (fun _ kv _ => 4 - (intOf kv).toNat)
  case atStart => exact ⟨0, Nat.zero_le _, rfl, HC9⟩
  case round =>
    obtain ⟨k, hk, rfl, HC⟩ := hrel
    clear HC9 d2 d3 d4 d5
    by_cases hlt : k < 4
    · obtain rfl | rfl | rfl | rfl : k = 0 ∨ k = 1 ∨ k = 2 ∨ k = 3 := by omega
      · have hix := fun w => idx11_0 sm.o0 sm.o1 sm.o2 sm.o3 w
        have HC4 := Lib.hid (HC.out.below (below_alloc wr (.cells #[.int .i64 0, .int .i64 0, .int .i64 sm.o0, .int .i64 0, .int .i64 0, .int .i64 0, .bool false, .int .i64 0, .int .i64 0] 47)))
        have HS4 := Lib.hid (slc_new itC_len wr _ rfl [It.boxS 0 sm.o0] 47 (by simp) #[.int .i64 0, .int .i64 0, .int .i64 sm.o0, .int .i64 0, .int .i64 0, .int .i64 0, .bool false, .int .i64 0, .int .i64 0] rfl)
        go_wp2_with (at_builtin; refine wpList_append_slc Try.underlying22 infoIt rfl (by decide) itC_len itC_cell rfl _ _ rfl w0.heap.size _ _ ([It.boxW sm.w sm.k] ++ (strB sm).take 0) [It.boxS 0 sm.o0] rfl HC4.out.hu rfl HS4.out (by simp [strB]) (by unfold maxLen; simp [strB]) HC4.out.hz ?_; intro v5 w5 h9 hg9; have HC5 := Lib.hid (HC4.out.app hg9 h9); clear h9 hg9)
        clear HS4 HC4
        go_roundw
        case rel => exact ⟨1, by omega, by go_num, Lib.hid HC5.out⟩
        case measure => simp [intOf]
      · have hix := fun w => idx11_1 sm.o0 sm.o1 sm.o2 sm.o3 w
        have HC4 := Lib.hid (HC.out.below (below_alloc wr (.cells #[.int .i64 0, .int .i64 0, .int .i64 sm.o1, .int .i64 0, .int .i64 1, .int .i64 0, .bool false, .int .i64 0, .int .i64 0] 47)))
        have HS4 := Lib.hid (slc_new itC_len wr _ rfl [It.boxS 1 sm.o1] 47 (by simp) #[.int .i64 0, .int .i64 0, .int .i64 sm.o1, .int .i64 0, .int .i64 1, .int .i64 0, .bool false, .int .i64 0, .int .i64 0] rfl)
        go_wp2_with (at_builtin; refine wpList_append_slc Try.underlying22 infoIt rfl (by decide) itC_len itC_cell rfl _ _ rfl w0.heap.size _ _ ([It.boxW sm.w sm.k] ++ (strB sm).take 1) [It.boxS 1 sm.o1] rfl HC4.out.hu rfl HS4.out (by simp [strB]) (by unfold maxLen; simp [strB]) HC4.out.hz ?_; intro v5 w5 h9 hg9; have HC5 := Lib.hid (HC4.out.app hg9 h9); clear h9 hg9)
        clear HS4 HC4
        go_roundw
        case rel => exact ⟨2, by omega, by go_num, Lib.hid HC5.out⟩
        case measure => simp [intOf]
      · have hix := fun w => idx11_2 sm.o0 sm.o1 sm.o2 sm.o3 w
        have HC4 := Lib.hid (HC.out.below (below_alloc wr (.cells #[.int .i64 0, .int .i64 0, .int .i64 sm.o2, .int .i64 0, .int .i64 2, .int .i64 0, .bool false, .int .i64 0, .int .i64 0] 47)))
        have HS4 := Lib.hid (slc_new itC_len wr _ rfl [It.boxS 2 sm.o2] 47 (by simp) #[.int .i64 0, .int .i64 0, .int .i64 sm.o2, .int .i64 0, .int .i64 2, .int .i64 0, .bool false, .int .i64 0, .int .i64 0] rfl)
        go_wp2_with (at_builtin; refine wpList_append_slc Try.underlying22 infoIt rfl (by decide) itC_len itC_cell rfl _ _ rfl w0.heap.size _ _ ([It.boxW sm.w sm.k] ++ (strB sm).take 2) [It.boxS 2 sm.o2] rfl HC4.out.hu rfl HS4.out (by simp [strB]) (by unfold maxLen; simp [strB]) HC4.out.hz ?_; intro v5 w5 h9 hg9; have HC5 := Lib.hid (HC4.out.app hg9 h9); clear h9 hg9)
        clear HS4 HC4
        go_roundw
        case rel => exact ⟨3, by omega, by go_num, Lib.hid HC5.out⟩
        case measure => simp [intOf]
      · have hix := fun w => idx11_3 sm.o0 sm.o1 sm.o2 sm.o3 w
        have HC4 := Lib.hid (HC.out.below (below_alloc wr (.cells #[.int .i64 0, .int .i64 0, .int .i64 sm.o3, .int .i64 0, .int .i64 3, .int .i64 0, .bool false, .int .i64 0, .int .i64 0] 47)))
        have HS4 := Lib.hid (slc_new itC_len wr _ rfl [It.boxS 3 sm.o3] 47 (by simp) #[.int .i64 0, .int .i64 0, .int .i64 sm.o3, .int .i64 0, .int .i64 3, .int .i64 0, .bool false, .int .i64 0, .int .i64 0] rfl)
        go_wp2_with (at_builtin; refine wpList_append_slc Try.underlying22 infoIt rfl (by decide) itC_len itC_cell rfl _ _ rfl w0.heap.size _ _ ([It.boxW sm.w sm.k] ++ (strB sm).take 3) [It.boxS 3 sm.o3] rfl HC4.out.hu rfl HS4.out (by simp [strB]) (by unfold maxLen; simp [strB]) HC4.out.hz ?_; intro v5 w5 h9 hg9; have HC5 := Lib.hid (HC4.out.app hg9 h9); clear h9 hg9)
        clear HS4 HC4
        go_roundw
        case rel => exact ⟨4, by omega, by go_num, Lib.hid HC5.out⟩
        case measure => simp [intOf]
    · obtain rfl : k = 4 := by omega
      have HC2' : Hid (CoW ip w0.heap.size cs W1 u11 (It.boxesOf sm) wr) := Lib.hid HC.out
      clear HC
      obtain ⟨x0, x1, x2, x3, x4, x5, x6, x7, x8⟩ := it_cells ((HR.out b x Hx.out).mono (HB1.out.trans HC2'.out.hb))
      have z0 : wr.cell? ⟨ip, 0, none⟩ = some (.slice (some ⟨b1, o1, none⟩) n cp) := by rw [Lib.cell_of_heap HC2'.out.ho 0, HCs.out, Hn.out]; rfl
      obtain ⟨WA, hWA⟩ : ∃ WA, WA = wr.alloc (.cells #[.int .i64 x.k, .int .i64 x.g.w, .int .i64 x.g.st, .int .i64 x.g.sk, .int .i64 x.g.o, .int .i64 x.p, .bool x.f, .int .i64 x.n, .int .i64 x.q] 47) := ⟨_, rfl⟩
      have HC4 := Lib.hid (HC2'.out.below (below_alloc wr (.cells #[.int .i64 x.k, .int .i64 x.g.w, .int .i64 x.g.st, .int .i64 x.g.sk, .int .i64 x.g.o, .int .i64 x.p, .bool x.f, .int .i64 x.n, .int .i64 x.q] 47)))
      have HS4 := Lib.hid (slc_new itC_len wr _ rfl [x] 47 (by simp) #[.int .i64 x.k, .int .i64 x.g.w, .int .i64 x.g.st, .int .i64 x.g.sk, .int .i64 x.g.o, .int .i64 x.p, .bool x.f, .int .i64 x.n, .int .i64 x.q] rfl)
      go_upto_region 12 with (at_builtin; refine wpList_append_slc Try.underlying22 infoIt rfl (by decide) itC_len itC_cell rfl _ _ rfl w0.heap.size _ _ (It.boxesOf sm) [x] rfl HC4.out.hu rfl HS4.out (by simp [It.boxesOf]) (by unfold maxLen; simp [It.boxesOf]) HC4.out.hz ?_; intro vA wA hA hgA; have HCA := Lib.hid (HC4.out.app hgA hA); obtain ⟨gA, cpA, eA, _, _⟩ := HCA.out.hu.form (by simp); replace eA : vA = .slice (some ⟨gA, 0, none⟩) 6 cpA := eA; subst eA; have zA := Lib.cell_of_heap HCA.out.ho 4; have fA := Lib.frozen_of_heap HCA.out.ho 4; rw [HCs.out] at zA; clear hA hgA)
      obtain ⟨WS, hWS⟩ : ∃ WS, WS = wA.setCell ⟨ip, 4, none⟩ (.slice (some ⟨gA, 0, none⟩) 6 cpA) := ⟨_, rfl⟩
      have HCS := Lib.hid (HCA.out.set (i := 4) (y := .slice (some ⟨gA, 0, none⟩) 6 cpA) HPl.out.2.2.1)
      rw [← hWS] at HCS ⊢
      have eS : cs.setIfInBounds 4 (.slice (some ⟨gA, 0, none⟩) 6 cpA) = #[.slice (some ⟨b1, o1, none⟩) n cp, .int .i64 t, .int .i64 tol, .slice (some ⟨bp, 0, none⟩) (n + 1) (n + 1), .slice (some ⟨gA, 0, none⟩) 6 cpA] := by rw [HCs.out, Hn.out]; rfl
      rw [eS] at HCS
      have s1 : WS.cell? ⟨ip, 1, none⟩ = some (.int .i64 t) := Lib.cell_of_heap HCS.out.ho 1
      have s2 : WS.cell? ⟨ip, 2, none⟩ = some (.int .i64 tol) := Lib.cell_of_heap HCS.out.ho 2
      have s4 : WS.cell? ⟨ip, 4, none⟩ = some (.slice (some ⟨gA, 0, none⟩) 6 cpA) := Lib.cell_of_heap HCS.out.ho 4
      have hw5 : IntKind.i64.wrap 5 = 5 := It.wr_in (by omega) (by omega)
      have HD := Lib.hid (below_drew10 WS)
      have HIt := Lib.hid (SlcAt.mono (HCS.out.hu.at itC_len) HD.out)
      have HCall := Lib.hid (fun w h => cost_any (.slice (some ⟨gA, 0, none⟩) 6 cpA) ((It.boxesOf sm) ++ [x]) (-1) 5 t tol w h (by simp [It.boxesOf]))
      rw [show (It.boxesOf sm) ++ [x] = (It.boxesOf sm ++ [x]) from rfl, HS.out] at HCall
      rw [Hdq.out] at HCall
      clear zA fA HCA HS4 HC4 hWA hWS x0 x1 x2 x3 x4 x5 x6 x7 x8 z0 eS HC2' hk hlt
      go_region_held3 (fun w' => w'.cell? ⟨ip, 1, none⟩ = some (.int .i64 t) ∧ w'.cell? ⟨ip, 2, none⟩ = some (.int .i64 tol) ∧ w'.cell? ⟨ip, 4, none⟩ = some (.slice (some ⟨gA, 0, none⟩) 6 cpA)) (first | go_keep | exact ⟨cell_below HX.out s1, cell_below HX.out s2, cell_below HX.out s4⟩) (((with_reducible refine (HCall.out _ HIt.out).mono ?_); rintro e w8 ⟨rfl, hb8⟩; have HX := Lib.hid (below_step HD.out hb8); clear hb8))
      clear s1 s2 s4
      go_wp2
      go_ret3
      have HF := HCS.out.below HX.out
      exact ⟨rfl, ⟨⟨_, _, HF.ho, HF.hu⟩, HPl.out.1.kept (HK1.out.trans HF.hk) HPl.out.2.2.2, HB1.out.trans HF.hb, HPl.out.2⟩, HK1.out.trans HF.hk⟩
end Go.Proofs.Ytdimfmpolbijeaa
