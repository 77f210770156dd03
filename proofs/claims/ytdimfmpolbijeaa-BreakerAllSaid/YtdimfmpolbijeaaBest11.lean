/-
  The landed Best: the best breaks of items that may be.
-/
import Derived.Test.YtdimfmpolbijeaaBreaks11
import Derived.Test.YtdimfmpolbijeaaDone11
import Derived.Test.YtdimfmpolbijeaaFindL11
set_option linter.unusedVariables false
set_option linter.unusedSimpArgs false
namespace Go.Proofs.Ytdimfmpolbijeaa
open Go.RowKit

def zeroPl : Array Value := #[.int .i64 0, .int .i64 0, .int .i64 0, .bool false, .int .i64 0, .int .i64 0, .int .i64 0, .bool false, .int .i64 0, .int .i64 0, .int .i64 0, .bool false, .int .i64 0, .int .i64 0, .int .i64 0, .bool false]
theorem infoPl11 : (Try.prog.info? 59).map (fun i => (i.zero, i.size, i.bytes)) = some (some (.agg zeroPl), 16, 128) := by kernel_rfl
/-- plans, as they are made -/
theorem PlAt.made {w w' : World} {base n : Nat} (h : w'.ownsRow base 59 16 (.slice (some ⟨w.heap.size, 0, none⟩) (n + 1) (n + 1)) (n + 1) (madeCells zeroPl ((n + 1) * 16)).toList) : PlAt w.heap.size n (fun _ _ => ⟨0, 0, 0, false⟩) w' := by
  rcases h.2 with ⟨hv, _⟩ | ⟨g, cap, cu, hv, _, hg, hnc, _, hsz, htk⟩
  · cases hv
  · injection hv with h1 h2 h3
    injection h1 with h1
    injection h1 with h1
    subst h1
    subst h3
    have hcu : cu = madeCells zeroPl ((n + 1) * 16) := by
      rw [List.take_of_length_le (by rw [Array.length_toList, hsz]; exact Nat.le_refl _)] at htk
      exact Array.toList_inj.1 htk
    refine ⟨cu, hg, hsz, fun k q hk hq j u hu => ?_⟩
    have hj : j < 4 := by
      have := (List.getElem?_eq_some_iff.1 hu).1
      simpa [plC] using this
    have hi : k * 16 + q * 4 + j < (n + 1) * 16 := by omega
    rw [hcu]
    unfold madeCells
    rw [Array.getElem?_map, Array.getElem?_range, if_pos hi]
    simp only [Option.map_some]
    rw [← hu]
    have hm : (k * 16 + q * 4 + j) % zeroPl.size = q * 4 + j := by
      show (k * 16 + q * 4 + j) % 16 = q * 4 + j
      omega
    rw [hm]
    obtain rfl | rfl | rfl | rfl : q = 0 ∨ q = 1 ∨ q = 2 ∨ q = 3 := by omega
    all_goals (obtain rfl | rfl | rfl | rfl : j = 0 ∨ j = 1 ∨ j = 2 ∨ j = 3 := by omega)
    all_goals rfl
/-- rows from m on are done -/
def tabM (l : List It.Itm) (t tol : Int) (m : Nat) : Nat → Nat → It.Pln := fun k q => if m ≤ k then It.plOf (It.way l t tol k q) else ⟨0, 0, 0, false⟩
theorem tabM_row (l : List It.Itm) (t tol : Int) (m : Nat) : tabM l t tol (m + 1) = tabR l t tol m (fun _ => none) := by
  funext k q
  unfold tabM tabR
  by_cases h : m + 1 ≤ k
  · rw [if_pos h, if_pos (by omega)]
  · rw [if_neg h, if_neg (by omega)]
    split <;> rfl
theorem tabM_done (l : List It.Itm) (t tol : Int) (m : Nat) : tabR l t tol m (fun q : Nat => It.way l t tol m q) = tabM l t tol m := by
  funext k q
  unfold tabM tabR
  by_cases h : m < k
  · rw [if_pos h, if_pos (by omega)]
  · rw [if_neg h]
    by_cases h2 : k = m
    · rw [if_pos h2, if_pos (by omega), h2]
    · rw [if_neg h2, if_neg (by omega)]
theorem tabM_skip {l : List It.Itm} {t tol : Int} {m : Nat} (hm : m < l.length) (h : It.legal l ((m : Int) - 1) = false) (h0 : (m : Int) - 1 ≠ -1) : tabM l t tol (m + 1) = tabM l t tol m := by
  rw [tabM_row, ← tabM_done]
  congr 1
  funext q
  rw [It.way_eq l t tol q (by omega)]
  exact (It.accW_none fun i hi => cand_none (It.cost_illegalA h h0 _ t tol)).symm
theorem tabM_start (l : List It.Itm) (t tol : Int) : ∀ k q, k ≤ l.length → q < 4 → updF (updF (updF (updF (fun _ _ => ⟨0, 0, 0, false⟩) l.length 0 ⟨0, 0, 0, true⟩) l.length 1 ⟨0, 0, 0, true⟩) l.length 2 ⟨0, 0, 0, true⟩) l.length 3 ⟨0, 0, 0, true⟩ k q = tabM l t tol l.length k q := by
  intro k q hk hq
  unfold updF tabM
  by_cases h : k = l.length
  · subst h
    rw [if_pos (Nat.le_refl _), It.way_end]
    obtain rfl | rfl | rfl | rfl : q = 0 ∨ q = 1 ∨ q = 2 ∨ q = 3 := by omega
    all_goals simp [It.plOf]
  · rw [if_neg (fun e => h e.1), if_neg (fun e => h e.1), if_neg (fun e => h e.1), if_neg (fun e => h e.1), if_neg (by omega)]
theorem best_no {l : List It.Itm} {t tol : Int} (h : It.may l = false ∨ l.length = 0) : bestW l t tol = none := by
  unfold bestW
  rw [if_neg]
  intro e
  rcases h with h | h
  · rw [h] at e; cases e.1
  · omega
theorem best_yes {l : List It.Itm} {t tol : Int} (h : It.may l = true) (h0 : 0 < l.length) : bestW l t tol = It.way l t tol 0 2 := by
  unfold bestW
  rw [if_pos ⟨h, h0⟩]

set_option maxHeartbeats 16000000 in
set_option maxRecDepth 100000 in
theorem best_any (v : Value) (l : List It.Itm) (t tol : Int) (w : World) (hI : ItsAt w v l) : Calls Try.prog 9 #[v, .int .i64 t, .int .i64 tol] w (BestPost (bestW l t tol) w) := by
  have HA := Lib.hid hI
  have HM := Lib.hid (fun w h => itemMay_any v l w h)
  have HIv := Lib.hid hI
  obtain ⟨⟨p, cp, rfl, hcap⟩, hm, _⟩ := hI
  have hza : l.length ≤ 9223372036854775807 := by unfold maxLen at hm; omega
  by_cases h0 : l.length = 0
  · have hE := best_no (t := t) (tol := tol) (.inr h0)
    rw [hE, h0]
    unfold BestPost bz bl
    go_enter Try.func9, Try.ntmps9
    go_wp2
    go_ret3
    exact ⟨_, rfl, ownR_nil _ _ _ _ _, Below.refl _ _⟩
  · have hl0 : (l.length == 0) = false := by simp [h0]
    have hl0' : ¬ (l.length : Int) = 0 := by omega
    cases hmay : It.may l with
    | false =>
      have hE := best_no (t := t) (tol := tol) (.inl hmay)
      rw [hE]
      rw [hmay] at HM
      obtain ⟨n, hn⟩ : ∃ n, n = l.length := ⟨_, rfl⟩
      have hA' := HA.out
      rw [← hn] at HM hl0 hl0' hza hA' ⊢
      have HA' := Lib.hid hA'
      clear hn h0 hmay hE hcap hm hA'
      unfold BestPost bz bl
      go_enter Try.func9, Try.ntmps9
      go_wp2_with fail
      refine (HM.out _ HA'.out).mono ?_
      rintro e w1 ⟨rfl, hb1⟩
      have HB1 := Lib.hid hb1
      clear hb1
      go_wp2
      go_ret3
      exact ⟨_, rfl, ownR_nil _ _ _ _ _, HB1.out⟩
    | true =>
      have hE := best_yes (t := t) (tol := tol) hmay (by omega)
      rw [hE]
      rw [hmay] at HM
      have hlen := (It.may_yes hmay).1
      have HMay := Lib.hid hmay
      have hln : 0 < l.length := by omega
      have HFi := Lib.hid (fun a s ip bp wx h2 h3 h4 hp => findLines_any (.slice p l.length cp) l t tol w ip bp a s wx HA.out HMay.out h2 h3 h4 hp)
      have HBr := Lib.hid (fun ip bp x wx h1 h2 => breaks_any (.slice p l.length cp) l t tol w ip bp (tabM l t tol 0) x wx HA.out HMay.out hln h1 (fun k q hk hq => by unfold tabM; rw [if_pos (Nat.zero_le _)]) h2)
      have HLg := Lib.hid (fun w h b => legal_any (.slice p l.length cp) l b w h)
      have HTS := Lib.hid (tabM_start l t tol)
      obtain ⟨n, hn⟩ : ∃ n, n = l.length := ⟨_, rfl⟩
      have Hn := Lib.hid hn
      rw [← hn] at HM HFi HBr HLg HTS hl0 hl0' hza hlen hln ⊢
      clear h0 hmay hE hcap hm
      have hA' := HA.out
      rw [← hn] at hA'
      have HA' := Lib.hid hA'
      clear hA' hn
      go_enter Try.func9, Try.ntmps9
      go_wp2_with fail
      refine (HM.out _ HA'.out).mono ?_
      rintro e w1 ⟨rfl, hb1⟩
      have HB1 := Lib.hid hb1
      clear hb1
      obtain ⟨i0, hi0, hz0, hz1, hz2⟩ := info_parts infoPl11
      obtain ⟨W4, hrun, hown4, hg4⟩ := run_make_full (P := Try.prog) w1 w.heap.size 53 59 i0 _ 16 Try.underlying53 hi0 hz0 hz1 .i64 .i64 (n + 1) (by rw [hz2]; omega) (by unfold maxLen; omega) HB1.out.size
      have hrun' : (Instr.makeSlice 53 (.int .i64 ((n : Int) + 1)) (.int .i64 ((n : Int) + 1))).run Try.prog w1 = .ok (.slice (some ⟨w1.heap.size, 0, none⟩) (n + 1) (n + 1)) W4 := hrun
      have HPl4 := Lib.hid (PlAt.made hown4)
      have HB4 : Hid (Below w.heap.size w W4) := Lib.hid (HB1.out.grown (row := none) hg4 HB1.out.size (fun q h => by cases h))
      have hbw : w.heap.size ≤ w1.heap.size := HB1.out.size
      have hbi : w1.heap.size < W4.heap.size := by
        obtain ⟨cs, h1, _⟩ := HPl4.out
        exact lt_of_obj h1
      clear hown4 hg4 hrun hi0 hz0 hz1 hz2
      obtain ⟨bp, hbp⟩ : ∃ bp, bp = w1.heap.size := ⟨_, rfl⟩
      rw [← hbp] at hrun' HPl4 hbw hbi
      obtain ⟨ip, hip⟩ : ∃ ip, ip = W4.heap.size := ⟨_, rfl⟩
      obtain ⟨W5, hW5⟩ : ∃ W5, W5 = W4.alloc (.cells #[.slice p n cp, .int .i64 t, .int .i64 tol, .slice (some ⟨bp, 0, none⟩) (n + 1) (n + 1), .slice none 0 0] 55) := ⟨_, rfl⟩
      have hb5 := below_alloc W4 (.cells #[.slice p n cp, .int .i64 t, .int .i64 tol, .slice (some ⟨bp, 0, none⟩) (n + 1) (n + 1), .slice none 0 0] 55)
      have ho5 := obj_new W4 _ rfl #[.slice p n cp, .int .i64 t, .int .i64 tol, .slice (some ⟨bp, 0, none⟩) (n + 1) (n + 1), .slice none 0 0] 55
      rw [← hW5] at hb5 ho5
      rw [← hip] at ho5 hbi
      have HP5 : Hid (ParW (.slice p n cp) n t tol w ip bp (fun _ _ => ⟨0, 0, 0, false⟩) W5) := Lib.hid ⟨⟨_, [], ho5, ownR_nil _ _ _ _ _⟩, HPl4.out.below hb5, HB4.out.trans (hb5.mono HB4.out.size), hbw, by omega, by omega⟩
      clear hb5 ho5
      have HDn := Lib.hid (fun w => done_any w)
      have HBh := Lib.hid (fun w h => behind_any ip bp (n + 1) n ((n : Int) - 1) (by omega) (by omega) (by omega) w h)
      have HB0 : Hid (∀ w, w.cell? ⟨ip, 3, none⟩ = some (.slice (some ⟨bp, 0, none⟩) (n + 1) (n + 1)) → Calls Try.prog 25 #[.pointer (some ⟨ip, 0, none⟩), .int .i64 (-1)] w (Is (.pointer (some ⟨bp, 0, none⟩)) w)) := Lib.hid (fun w h => by simpa using behind_any ip bp (n + 1) 0 (-1) (by omega) (by omega) (by omega) w h)
      unfold doneV at HDn
      go_upto_region 4 with fail
      rw [← hbp, ← hip, ← hW5]
      clear hrun' hbp hip hW5
      go_wp2_with fail
      refine (HBh.out _ HP5.out.cells.2.2.2).mono ?_
      rintro e w6 ⟨rfl, rfl⟩
      go_wp2_with fail
      refine (HDn.out _).mono ?_
      rintro e w6 ⟨rfl, hb6⟩
      have HP6 := Lib.hid (HP5.out.below hb6)
      clear hb6
      have d0 : w6.cell? ⟨bp, n * 16, none⟩ = some (.int .i64 0) := (HP6.out.hp.rec (k := n) (q := 0) (Nat.le_refl _) (by omega)).1 0 _ rfl
      have f0 : w6.frozen? ⟨bp, n * 16, none⟩ = false := (HP6.out.hp.rec (k := n) (q := 0) (Nat.le_refl _) (by omega)).2 0
      have d1 : w6.cell? ⟨bp, n * 16 + 1, none⟩ = some (.int .i64 0) := (HP6.out.hp.rec (k := n) (q := 0) (Nat.le_refl _) (by omega)).1 1 _ rfl
      have f1 : w6.frozen? ⟨bp, n * 16 + 1, none⟩ = false := (HP6.out.hp.rec (k := n) (q := 0) (Nat.le_refl _) (by omega)).2 1
      have d2 : w6.cell? ⟨bp, n * 16 + 2, none⟩ = some (.int .i64 0) := (HP6.out.hp.rec (k := n) (q := 0) (Nat.le_refl _) (by omega)).1 2 _ rfl
      have f2 : w6.frozen? ⟨bp, n * 16 + 2, none⟩ = false := (HP6.out.hp.rec (k := n) (q := 0) (Nat.le_refl _) (by omega)).2 2
      have d3 : w6.cell? ⟨bp, n * 16 + 3, none⟩ = some (.bool false) := (HP6.out.hp.rec (k := n) (q := 0) (Nat.le_refl _) (by omega)).1 3 _ rfl
      have f3 : w6.frozen? ⟨bp, n * 16 + 3, none⟩ = false := (HP6.out.hp.rec (k := n) (q := 0) (Nat.le_refl _) (by omega)).2 3
      have d4 : w6.cell? ⟨bp, n * 16 + 4, none⟩ = some (.int .i64 0) := (HP6.out.hp.rec (k := n) (q := 1) (Nat.le_refl _) (by omega)).1 0 _ rfl
      have f4 : w6.frozen? ⟨bp, n * 16 + 4, none⟩ = false := (HP6.out.hp.rec (k := n) (q := 1) (Nat.le_refl _) (by omega)).2 0
      have d5 : w6.cell? ⟨bp, n * 16 + 5, none⟩ = some (.int .i64 0) := (HP6.out.hp.rec (k := n) (q := 1) (Nat.le_refl _) (by omega)).1 1 _ rfl
      have f5 : w6.frozen? ⟨bp, n * 16 + 5, none⟩ = false := (HP6.out.hp.rec (k := n) (q := 1) (Nat.le_refl _) (by omega)).2 1
      have d6 : w6.cell? ⟨bp, n * 16 + 6, none⟩ = some (.int .i64 0) := (HP6.out.hp.rec (k := n) (q := 1) (Nat.le_refl _) (by omega)).1 2 _ rfl
      have f6 : w6.frozen? ⟨bp, n * 16 + 6, none⟩ = false := (HP6.out.hp.rec (k := n) (q := 1) (Nat.le_refl _) (by omega)).2 2
      have d7 : w6.cell? ⟨bp, n * 16 + 7, none⟩ = some (.bool false) := (HP6.out.hp.rec (k := n) (q := 1) (Nat.le_refl _) (by omega)).1 3 _ rfl
      have f7 : w6.frozen? ⟨bp, n * 16 + 7, none⟩ = false := (HP6.out.hp.rec (k := n) (q := 1) (Nat.le_refl _) (by omega)).2 3
      have d8 : w6.cell? ⟨bp, n * 16 + 8, none⟩ = some (.int .i64 0) := (HP6.out.hp.rec (k := n) (q := 2) (Nat.le_refl _) (by omega)).1 0 _ rfl
      have f8 : w6.frozen? ⟨bp, n * 16 + 8, none⟩ = false := (HP6.out.hp.rec (k := n) (q := 2) (Nat.le_refl _) (by omega)).2 0
      have d9 : w6.cell? ⟨bp, n * 16 + 9, none⟩ = some (.int .i64 0) := (HP6.out.hp.rec (k := n) (q := 2) (Nat.le_refl _) (by omega)).1 1 _ rfl
      have f9 : w6.frozen? ⟨bp, n * 16 + 9, none⟩ = false := (HP6.out.hp.rec (k := n) (q := 2) (Nat.le_refl _) (by omega)).2 1
      have d10 : w6.cell? ⟨bp, n * 16 + 10, none⟩ = some (.int .i64 0) := (HP6.out.hp.rec (k := n) (q := 2) (Nat.le_refl _) (by omega)).1 2 _ rfl
      have f10 : w6.frozen? ⟨bp, n * 16 + 10, none⟩ = false := (HP6.out.hp.rec (k := n) (q := 2) (Nat.le_refl _) (by omega)).2 2
      have d11 : w6.cell? ⟨bp, n * 16 + 11, none⟩ = some (.bool false) := (HP6.out.hp.rec (k := n) (q := 2) (Nat.le_refl _) (by omega)).1 3 _ rfl
      have f11 : w6.frozen? ⟨bp, n * 16 + 11, none⟩ = false := (HP6.out.hp.rec (k := n) (q := 2) (Nat.le_refl _) (by omega)).2 3
      have d12 : w6.cell? ⟨bp, n * 16 + 12, none⟩ = some (.int .i64 0) := (HP6.out.hp.rec (k := n) (q := 3) (Nat.le_refl _) (by omega)).1 0 _ rfl
      have f12 : w6.frozen? ⟨bp, n * 16 + 12, none⟩ = false := (HP6.out.hp.rec (k := n) (q := 3) (Nat.le_refl _) (by omega)).2 0
      have d13 : w6.cell? ⟨bp, n * 16 + 13, none⟩ = some (.int .i64 0) := (HP6.out.hp.rec (k := n) (q := 3) (Nat.le_refl _) (by omega)).1 1 _ rfl
      have f13 : w6.frozen? ⟨bp, n * 16 + 13, none⟩ = false := (HP6.out.hp.rec (k := n) (q := 3) (Nat.le_refl _) (by omega)).2 1
      have d14 : w6.cell? ⟨bp, n * 16 + 14, none⟩ = some (.int .i64 0) := (HP6.out.hp.rec (k := n) (q := 3) (Nat.le_refl _) (by omega)).1 2 _ rfl
      have f14 : w6.frozen? ⟨bp, n * 16 + 14, none⟩ = false := (HP6.out.hp.rec (k := n) (q := 3) (Nat.le_refl _) (by omega)).2 2
      have d15 : w6.cell? ⟨bp, n * 16 + 15, none⟩ = some (.bool false) := (HP6.out.hp.rec (k := n) (q := 3) (Nat.le_refl _) (by omega)).1 3 _ rfl
      have f15 : w6.frozen? ⟨bp, n * 16 + 15, none⟩ = false := (HP6.out.hp.rec (k := n) (q := 3) (Nat.le_refl _) (by omega)).2 3
      obtain ⟨WX, hWX⟩ : ∃ WX, WX = ((((((((((((((((w6.setCell ⟨bp, n * 16, none⟩ (.int .i64 0)).setCell ⟨bp, n * 16 + 1, none⟩ (.int .i64 0)).setCell ⟨bp, n * 16 + 2, none⟩ (.int .i64 0)).setCell ⟨bp, n * 16 + 3, none⟩ (.bool true)).setCell ⟨bp, n * 16 + 4, none⟩ (.int .i64 0)).setCell ⟨bp, n * 16 + 5, none⟩ (.int .i64 0)).setCell ⟨bp, n * 16 + 6, none⟩ (.int .i64 0)).setCell ⟨bp, n * 16 + 7, none⟩ (.bool true)).setCell ⟨bp, n * 16 + 8, none⟩ (.int .i64 0)).setCell ⟨bp, n * 16 + 9, none⟩ (.int .i64 0)).setCell ⟨bp, n * 16 + 10, none⟩ (.int .i64 0)).setCell ⟨bp, n * 16 + 11, none⟩ (.bool true)).setCell ⟨bp, n * 16 + 12, none⟩ (.int .i64 0)).setCell ⟨bp, n * 16 + 13, none⟩ (.int .i64 0)).setCell ⟨bp, n * 16 + 14, none⟩ (.int .i64 0)).setCell ⟨bp, n * 16 + 15, none⟩ (.bool true)) := ⟨_, rfl⟩
      have HPX : Hid (ParW (.slice p n cp) n t tol w ip bp (tabM l t tol n) WX) := Lib.hid (by
        rw [hWX]
        exact ((((HP6.out.put (k := n) (q := 0) (Nat.le_refl _) (by omega) ⟨0, 0, 0, true⟩).put (k := n) (q := 1) (Nat.le_refl _) (by omega) ⟨0, 0, 0, true⟩).put (k := n) (q := 2) (Nat.le_refl _) (by omega) ⟨0, 0, 0, true⟩).put (k := n) (q := 3) (Nat.le_refl _) (by omega) ⟨0, 0, 0, true⟩).congr HTS.out)
      go_wp2_with fail
      rw [← hWX]
      clear hWX d0 f0 d1 f1 d2 f2 d3 f3 d4 f4 d5 f5 d6 f6 d7 f7 d8 f8 d9 f9 d10 f10 d11 f11 d12 f12 d13 f13 d14 f14 d15 f15
      go_loopw [10] (fun av wr => ∃ (a : Int) (m : Nat), a + 2 = (m : Int) ∧ m ≤ n ∧ av = .int .i64 a ∧ Hid (ParW (.slice p n cp) n t tol w ip bp (tabM l t tol m) wr)) (fun av _ => (intOf av + 2).toNat)
      case atStart => exact ⟨(n : Int) - 2, n, by omega, Nat.le_refl _, by go_num, HPX⟩
      case round =>
        obtain ⟨a, m, ham, hmn, rfl, HPr⟩ := hrel
        clear HPX HP6
        have haw : IntKind.i64.wrap (a - 1) = a - 1 := It.wr_in (by omega) (by omega)
        by_cases hge : -1 ≤ a
        · obtain ⟨s, rfl⟩ : ∃ s, m = s + 1 := ⟨m - 1, by omega⟩
          have hRow := Lib.hid HPr.out
          rw [tabM_row] at hRow
          have HFs := Lib.hid (fun h3 => HFi.out a s ip bp wr (by omega) h3 (by omega) hRow.out)
          rw [tabM_done] at HFs
          by_cases h1 : a = -1
          · subst h1
            go_wp2_with fail
            refine (HFs.out (by simp)).mono ?_
            rintro e w7 ⟨rfl, hp7⟩
            have HP7 := Lib.hid hp7
            clear hp7
            go_wp2
            go_roundw
            case rel => exact ⟨-2, s, by omega, by omega, by go_num, HP7⟩
            case measure => simp [intOf]
          · have h1b : (a == -1) = false := by simp [h1]
            have HIr := Lib.hid (SlcAt.mono HA'.out HPr.out.hb)
            have HLr := Lib.hid (HLg.out wr HIr.out a)
            cases hlg : It.legal l a with
            | true =>
              rw [hlg] at HLr
              have HFs2 := Lib.hid (HFs.out (.inr hlg))
              clear hlg
              go_wp2_with fail
              refine HLr.out.mono ?_
              rintro e wg ⟨rfl, rfl⟩
              go_wp2_with fail
              refine HFs2.out.mono ?_
              rintro e w7 ⟨rfl, hp7⟩
              have HP7 := Lib.hid hp7
              clear hp7
              go_wp2
              go_roundw
              case rel => exact ⟨a - 1, s, by omega, by omega, by go_num, HP7⟩
              case measure => simp [intOf]; omega
            | false =>
              rw [hlg] at HLr
              have HP7 : Hid (ParW (.slice p n cp) n t tol w ip bp (tabM l t tol s) wr) := Lib.hid (by
                have e : It.legal l ((s : Int) - 1) = false := by rw [show (s : Int) - 1 = a by omega]; exact hlg
                rw [← tabM_skip (by rw [← Hn.out]; omega) e (by omega)]
                exact HPr.out)
              clear hlg
              go_wp2_with fail
              refine HLr.out.mono ?_
              rintro e wg ⟨rfl, rfl⟩
              go_wp2
              go_roundw
              case rel => exact ⟨a - 1, s, by omega, by omega, by go_num, HP7⟩
              case measure => simp [intOf]; omega
        · obtain rfl : m = 0 := by omega
          have hrec := (HPr.out.hp.rec (k := 0) (q := 2) (Nat.zero_le _) (by omega)).1
          have eF : tabM l t tol 0 0 2 = It.plOf (It.way l t tol 0 2) := by unfold tabM; rw [if_pos (Nat.le_refl _)]; rfl
          rw [eF] at hrec
          clear eF
          cases hw : It.way l t tol 0 2 with
          | none =>
            rw [hw] at hrec
            have g0 : wr.cell? ⟨bp, 8, none⟩ = some (.int .i64 0) := hrec 0 _ rfl
            have g1 : wr.cell? ⟨bp, 9, none⟩ = some (.int .i64 0) := hrec 1 _ rfl
            have g2 : wr.cell? ⟨bp, 10, none⟩ = some (.int .i64 0) := hrec 2 _ rfl
            have g3 : wr.cell? ⟨bp, 11, none⟩ = some (.bool false) := hrec 3 _ rfl
            have HBX := Lib.hid (HPr.out.hb.trans ((below_alloc wr (.cells #[.int .i64 0, .int .i64 0, .int .i64 0, .bool false] 57)).mono HPr.out.hb.size))
            have Hw := Lib.hid hw
            clear hrec hw
            go_wp2_with fail
            refine (HB0.out _ HPr.out.cells.2.2.2).mono ?_
            rintro e wg ⟨rfl, rfl⟩
            go_wp2
            go_ret3
            rw [Hw.out]
            exact ⟨_, rfl, ownR_nil _ _ _ _ _, HBX.out⟩
          | some x =>
            rw [hw] at hrec
            obtain ⟨PL, hPL⟩ : ∃ PL, PL = It.plOf (some x) := ⟨_, rfl⟩
            rw [← hPL] at hrec
            have HPLd : Hid (PL.d = x.1) := Lib.hid (by rw [hPL]; rfl)
            have hPLo : PL.ok = true := by rw [hPL]; rfl
            have g0 : wr.cell? ⟨bp, 8, none⟩ = some (.int .i64 PL.d) := hrec 0 _ rfl
            have g1 : wr.cell? ⟨bp, 9, none⟩ = some (.int .i64 PL.n) := hrec 1 _ rfl
            have g2 : wr.cell? ⟨bp, 10, none⟩ = some (.int .i64 PL.c) := hrec 2 _ rfl
            have g3 : wr.cell? ⟨bp, 11, none⟩ = some (.bool PL.ok) := hrec 3 _ rfl
            rw [hPLo] at g3
            obtain ⟨W8, hW8⟩ : ∃ W8, W8 = wr.alloc (.cells #[.int .i64 PL.d, .int .i64 PL.n, .int .i64 PL.c, .bool true] 57) := ⟨_, rfl⟩
            have hb8 := below_alloc wr (.cells #[.int .i64 PL.d, .int .i64 PL.n, .int .i64 PL.c, .bool true] 57)
            have HX8 := Lib.hid (obj_new wr _ rfl #[.int .i64 PL.d, .int .i64 PL.n, .int .i64 PL.c, .bool true] 57)
            rw [← hW8] at hb8 HX8
            have HP8 := Lib.hid (HPr.out.below hb8)
            have HBk := Lib.hid (HBr.out ip bp x W8.drew hw (HP8.out.below (below_drew10 W8)))
            rw [hw, ← hPL] at HBk
            unfold plV at HBk
            rw [hPLo] at HBk
            have Hw := Lib.hid hw
            clear hrec hw hb8 hPL hPLo
            obtain ⟨Q, hQ⟩ : ∃ Q, Q = wr.heap.size := ⟨_, rfl⟩
            rw [← hQ] at HX8
            go_wp2_with fail
            refine (HB0.out _ HPr.out.cells.2.2.2).mono ?_
            rintro e wg ⟨rfl, rfl⟩
            go_upto_region 11 with fail
            rw [← hW8, ← hQ]
            clear hW8 hQ g0 g1 g2 g3
            have q0 : W8.cell? ⟨Q, 0, none⟩ = some (.int .i64 PL.d) := Lib.cell_of_heap HX8.out 0
            have q1 : W8.cell? ⟨Q, 1, none⟩ = some (.int .i64 PL.n) := Lib.cell_of_heap HX8.out 1
            have q2 : W8.cell? ⟨Q, 2, none⟩ = some (.int .i64 PL.c) := Lib.cell_of_heap HX8.out 2
            have q3 : W8.cell? ⟨Q, 3, none⟩ = some (.bool true) := Lib.cell_of_heap HX8.out 3
            have HD := Lib.hid (below_drew10 W8)
            go_upto_region 13 with fail
            go_region_held3 (fun w' => w'.cell? ⟨Q, 0, none⟩ = some (.int .i64 PL.d) ∧ w'.cell? ⟨Q, 1, none⟩ = some (.int .i64 PL.n) ∧ w'.cell? ⟨Q, 2, none⟩ = some (.int .i64 PL.c) ∧ w'.cell? ⟨Q, 3, none⟩ = some (.bool true)) (first | go_keep | exact ⟨cell_below HX.out q0, cell_below HX.out q1, cell_below HX.out q2, cell_below HX.out q3⟩) (((with_reducible refine HBk.out.mono ?_); rintro e w9 ⟨u, rfl, hu, hb9⟩; have HX := Lib.hid (below_step HD.out hb9); have HU := Lib.hid hu; clear hb9 hu))
            clear q0 q1 q2 q3
            go_wp2
            go_ret3
            rw [Hw.out]
            refine ⟨u, ?_, own_le11 HU.out HP8.out.hb.size, HP8.out.hb.trans (HX.out.mono HP8.out.hb.size)⟩
            unfold bz
            simp only []
            rw [← HPLd.out]
            rfl
end Go.Proofs.Ytdimfmpolbijeaa
