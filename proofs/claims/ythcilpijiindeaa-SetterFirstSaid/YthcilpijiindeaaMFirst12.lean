/-
  PROVED: the law SetterFirst at every argument: the first lines of a paragraph are those of its items up to their last break; what comes behind changes nothing in them.
-/
import Derived.Test.YthcilpijiindeaaFixedM12
import Derived.Test.YthcilpijiindeaaRefLines12
import Derived.Test.YthcilpijiindeaaIn10
import Derived.Test.YthcilpijiindeaaFrame10
set_option linter.unusedVariables false
set_option linter.unusedSimpArgs false
namespace Go.Proofs.Ythcilpijiindeaa
open Go.RowKit

namespace It
theorem goL_bad (l : List Itm) (t : Int) : ∀ (bs : List Int) (a : Int) (k : Nat) (ls : List Lin), (goL l t a k ls bs).2.1 ≠ 0 → (goL l t a k ls bs).1 = []
  | [], a, k, ls, h => by
    unfold goL at h ⊢
    split
    · rfl
    · rename_i hc; rw [if_neg hc] at h; exact absurd rfl h
  | b :: r, a, k, ls, h => by
    unfold goL at h ⊢
    cases e : linV l a b t with
    | none => rfl
    | some x =>
      rw [e] at h
      exact goL_bad l t r b (k + 1) _ h
theorem setR_bad {l : List Itm} {bs : List Int} {t : Int} (h : (setR l bs t).2.1 ≠ 0) : (setR l bs t).1 = [] := by
  unfold setR at h ⊢
  split
  · rfl
  · rename_i hc
    rw [if_neg hc] at h
    exact goL_bad l t bs _ _ _ h
end It
theorem words_keys {l : List It.Itm} {bs : List Int} {t : Int} (h : (It.setR l bs t).2.1 = 0) : (wordsL (It.setR l bs t).1).map It.keyP = (It.boxes l).map It.keyI := by
  obtain ⟨R, hR⟩ : ∃ R, R = It.setR l bs t := ⟨_, rfl⟩
  rw [← hR] at h ⊢
  obtain ⟨m, c, z⟩ := R
  simp only [] at h ⊢
  subst h
  exact It.keys_all hR.symm
theorem words_bound {l : List It.Itm} {bs : List Int} {t : Int} : (wordsL (It.setR l bs t).1).length ≤ l.length := by
  by_cases h : (It.setR l bs t).2.1 = 0
  · have := congrArg List.length (words_keys h)
    rw [List.length_map, List.length_map] at this
    rw [this]
    exact List.length_filter_le ..
  · rw [It.setR_bad h]
    simp [wordsL]
set_option maxHeartbeats 8000000 in
set_option maxRecDepth 100000 in
theorem lawLines (v u : Value) (l : List It.Itm) (bs : List Int) (t : Int) (w : World) (hI : ItsAt w v l) (hN : NumsAt w u bs) : Calls Try.prog 3 #[v, u, .int .i64 t] w (Ret (.bool true) w) := by
  have HF := Lib.hid (fun w => fixed12 w)
  have HA := Lib.hid hI
  have HN := Lib.hid hN
  have HL1 := Lib.hid (fun w (hb : bs.length ≤ 100000) h g => lines_any v u l bs t w h g hb)
  have HL2 := Lib.hid (fun w (hb : bs.length ≤ 100000) h g => refLines_any v u l bs t w h g hb)
  have HWb := Lib.hid (words_bound (l := l) (bs := bs) (t := t))
  obtain ⟨⟨p, cp, rfl, hcap⟩, hm, _⟩ := hI
  obtain ⟨⟨pb, cb, rfl, hcapb⟩, hmb, _⟩ := hN
  have hzl : l.length ≤ 9223372036854775807 := by unfold maxLen at hm; omega
  have hzb : bs.length ≤ 9223372036854775807 := by unfold maxLen at hmb; omega
  obtain ⟨n, hn⟩ : ∃ n, n = l.length := ⟨_, rfl⟩
  obtain ⟨nb, hnb⟩ : ∃ n, n = bs.length := ⟨_, rfl⟩
  have B0 := Lib.hid (Below.refl w.heap.size w)
  rw [← hn] at HA HL1 HL2 HWb hzl ⊢
  rw [← hnb] at HN HL1 HL2 hzb ⊢
  clear hn hnb hcap hm hcapb hmb
  by_cases h1 : 300 < n
  · have h1' : (300 : Int) < (n : Int) := by omega
    go_enter Try.func3, Try.ntmps3
    go_wp2_with fail
    refine (HF.out _).mono ?_
    rintro e w1 ⟨rfl, b1⟩
    go_wp2
    go_ret
    exact ⟨rfl, b1⟩
  · have h1' : ¬ (300 : Int) < (n : Int) := by omega
    by_cases h2 : 100 < nb
    · have h2' : (100 : Int) < (nb : Int) := by omega
      go_enter Try.func3, Try.ntmps3
      go_wp2_with fail
      refine (HF.out _).mono ?_
      rintro e w1 ⟨rfl, b1⟩
      go_wp2
      go_ret
      exact ⟨rfl, b1⟩
    · have h2' : ¬ (100 : Int) < (nb : Int) := by omega
      have H1 := Lib.hid (fun w h g => HL1.out w (by omega) h g)
      have H2 := Lib.hid (fun w h g => HL2.out w (by omega) h g)
      have HW2 : Hid ((wordsL (It.setR l bs t).1).length ≤ 100000) := Lib.hid (by have := HWb.out; omega)
      unfold LinesPost at H1 H2
      generalize It.setR l bs t = R at H1 H2 HW2
      obtain ⟨ls, c, z⟩ := R
      simp only [] at H1 H2 HW2
      have hEq := fun w => eq_fl c z c z w
      simp only [and_self, decide_true] at hEq
      clear HL1 HL2 HWb
      go_enter Try.func3, Try.ntmps3
      go_wp2_with fail
      refine (H1.out _ HA.out HN.out).mono ?_
      rintro e w1 ⟨x1, rfl, l1, b1⟩
      have hbA := below_step b1 (below_alloc w1 (.cells #[.int .i64 c, .int .i64 z] 28))
      have X1 := Lib.hid (obj_new w1 _ rfl #[.int .i64 c, .int .i64 z] 28)
      have L1 := Lib.hid (LinsAt.mono l1 (below_alloc w1 (.cells #[.int .i64 c, .int .i64 z] 28)))
      obtain ⟨WA, hWA⟩ : ∃ WA, WA = w1.alloc (.cells #[.int .i64 c, .int .i64 z] 28) := ⟨_, rfl⟩
      obtain ⟨P, hP⟩ : ∃ P, P = w1.heap.size := ⟨_, rfl⟩
      rw [← hWA] at hbA X1 L1
      rw [← hP] at X1
      have BA := Lib.hid hbA
      clear hbA l1 b1
      go_upto_region 4 with fail
      rw [← hWA, ← hP]
      clear hWA hP
      go_wp2_with fail
      refine (H2.out _ (SlcAt.mono HA.out BA.out) (SlcAt.mono HN.out BA.out)).mono ?_
      rintro e w2 ⟨x2, rfl, l2, b2⟩
      have hbB := below_step b2 (below_alloc w2 (.cells #[.int .i64 c, .int .i64 z] 28))
      have Y1 := Lib.hid (obj_new w2 _ rfl #[.int .i64 c, .int .i64 z] 28)
      have M1 := Lib.hid (LinsAt.mono l2 (below_alloc w2 (.cells #[.int .i64 c, .int .i64 z] 28)))
      obtain ⟨WB, hWB⟩ : ∃ WB, WB = w2.alloc (.cells #[.int .i64 c, .int .i64 z] 28) := ⟨_, rfl⟩
      obtain ⟨Q, hQ⟩ : ∃ Q, Q = w2.heap.size := ⟨_, rfl⟩
      rw [← hWB] at hbB Y1 M1
      rw [← hQ] at Y1
      have X2 := Lib.hid (obj_kept hbB X1.out)
      have L2 := Lib.hid (LinsAt.mono L1.out hbB)
      have BB := Lib.hid (below_step BA.out hbB)
      clear hbB l2 b2
      go_upto_region 5 with fail
      rw [← hWB, ← hQ]
      clear hWB hQ
      go_wp2_with fail
      refine (HF.out _).mono ?_
      rintro e w3 ⟨rfl, b3⟩
      have X3 := Lib.hid (obj_kept b3 X2.out)
      have Y3 := Lib.hid (obj_kept b3 Y1.out)
      have L3 := Lib.hid (LinsAt.mono L2.out b3)
      have M3 := Lib.hid (LinsAt.mono M1.out b3)
      have B3 := Lib.hid (below_step BB.out b3)
      clear b3
      have HS := Lib.hid (sameL_any x1 x2 ls ls w3 L3.out M3.out)
      rw [decide_eq_true rfl] at HS
      go_wp2_with fail
      refine HS.out.mono ?_
      rintro e w4 ⟨rfl, b4⟩
      have X4 := Lib.hid (obj_kept b4 X3.out)
      have Y4 := Lib.hid (obj_kept b4 Y3.out)
      have L4 := Lib.hid (LinsAt.mono L3.out b4)
      have M4 := Lib.hid (LinsAt.mono M3.out b4)
      have B4 := Lib.hid (below_step B3.out b4)
      clear b4
      have q0 : w4.cell? ⟨P, 0, none⟩ = some (.int .i64 c) := Lib.cell_of_heap X4.out 0
      have q1 : w4.cell? ⟨P, 1, none⟩ = some (.int .i64 z) := Lib.cell_of_heap X4.out 1
      have r0 : w4.cell? ⟨Q, 0, none⟩ = some (.int .i64 c) := Lib.cell_of_heap Y4.out 0
      have r1 : w4.cell? ⟨Q, 1, none⟩ = some (.int .i64 z) := Lib.cell_of_heap Y4.out 1
      go_wp2_with fail
      refine (words_any x1 ls w4 L4.out HW2.out).mono ?_
      rintro e w5 ⟨u5, rfl, o5, b5⟩
      have O5 := Lib.hid (OwnR.at o5 pcC_len)
      have M5 := Lib.hid (LinsAt.mono M4.out b5)
      have B5 := Lib.hid (below_step B4.out b5)
      clear b5 o5
      go_wp2_with fail
      refine (refWords_any x2 ls w5 M5.out HW2.out).mono ?_
      rintro e w6 ⟨u6, rfl, o6, b6⟩
      have O6 := Lib.hid (OwnR.at o6 pcC_len)
      have O5b := Lib.hid (SlcAt.mono O5.out b6)
      have B6 := Lib.hid (below_step B5.out b6)
      clear b6 o6
      have HPl := Lib.hid (placed_any u5 u6 (wordsL ls) (wordsL ls) w6 O5b.out O6.out)
      rw [decide_eq_true rfl] at HPl
      go_wp2_with fail
      refine HPl.out.mono ?_
      rintro e w7 ⟨rfl, b7⟩
      go_wp2
      go_ret
      exact ⟨rfl, below_step B6.out b7⟩
end Go.Proofs.Ythcilpijiindeaa
namespace Go.Proofs.Ythcilpijiindeaa
open Go.RowKit

theorem elemN12 : Try.prog.elem 23 = 3 := by kernel_rfl
theorem sizeN12 (wx : World) : (sizeOf 3).run Try.prog wx = .ok 1 wx := by kernel_rfl
theorem run_headN12 (a : Option Addr) (n k cap : Nat) (h : k ≤ cap) (wx : World) : (Instr.slice 23 (.slice a n cap) none (some (.int .i64 (k : Int))) none).run Try.prog wx = .ok (.slice a k cap) wx := by
  rw [run_slice_h (ht := by rw [elemN12]; exact Try.underlying23) (h0 := by omega) (h2 := by omega), elemN12, sizeN12]
  cases a <;> simp [Result.andThen, sliced, Addr.add]
theorem run_headAtN12 (a : Option Addr) (n k cap : Nat) (h : k ≤ cap) (wx : World) : (Instr.sliceAt 23 (.slice a n cap) none (some (.int .i64 (k : Int))) none).run Try.prog wx = .ok (.slice a k cap) wx := by
  rw [run_sliceAt_slice (h := by rw [elemN12]; exact Try.underlying23)]
  exact run_headN12 a n k cap h wx
theorem elemL12 : Try.prog.elem 25 = 44 := by kernel_rfl
theorem sizeL12 (wx : World) : (sizeOf 44).run Try.prog wx = .ok 6 wx := by kernel_rfl
theorem run_headL12 (a : Option Addr) (n k cap : Nat) (h : k ≤ cap) (wx : World) : (Instr.slice 25 (.slice a n cap) none (some (.int .i64 (k : Int))) none).run Try.prog wx = .ok (.slice a k cap) wx := by
  rw [run_slice_h (ht := by rw [elemL12]; exact Try.underlying25) (h0 := by omega) (h2 := by omega), elemL12, sizeL12]
  cases a <;> simp [Result.andThen, sliced, Addr.add]
theorem run_headAtL12 (a : Option Addr) (n k cap : Nat) (h : k ≤ cap) (wx : World) : (Instr.sliceAt 25 (.slice a n cap) none (some (.int .i64 (k : Int))) none).run Try.prog wx = .ok (.slice a k cap) wx := by
  rw [run_sliceAt_slice (h := by rw [elemL12]; exact Try.underlying25)]
  exact run_headL12 a n k cap h wx
theorem run_headAt9 (a : Option Addr) (n k cap : Nat) (h : k ≤ cap) (wx : World) : (Instr.sliceAt 22 (.slice a n cap) none (some (.int .i64 (k : Int))) none).run Try.prog wx = .ok (.slice a k cap) wx := by
  rw [run_sliceAt_slice (h := by rw [elemIt]; exact Try.underlying22)]
  exact run_head9 a n k cap h wx
theorem its_head12 {w : World} {a : Option Addr} {n cap : Nat} {l : List It.Itm} (h : ItsAt w (.slice a n cap) l) (k : Nat) (hk : k ≤ l.length) : ItsAt w (.slice a k cap) (l.take k) := rec_head h k hk
theorem wM1 {k n : Nat} (h0 : 0 < k) (h : k ≤ n) (hn : n ≤ 100) : wrap64 ((k : Int) - 1) = ((k - 1 : Nat) : Int) := by rw [show ((k - 1 : Nat) : Int) = (k : Int) - 1 by omega]; exact w64 (by omega) (by omega)
theorem wM1' {k n : Nat} (h0 : 0 < k) (h : k ≤ n) (hn : n ≤ 100) : IntKind.i64.wrap ((k : Int) - 1) = ((k - 1 : Nat) : Int) := by rw [show ((k - 1 : Nat) : Int) = (k : Int) - 1 by omega]; exact It.wr_in (by omega) (by omega)
theorem wP1 {b n : Nat} (h : b < n) (hn : n ≤ 300) : wrap64 ((b : Int) + 1) = ((b + 1 : Nat) : Int) := by rw [show ((b + 1 : Nat) : Int) = (b : Int) + 1 by omega]; exact w64 (by omega) (by omega)
theorem wP1' {b n : Nat} (h : b < n) (hn : n ≤ 300) : IntKind.i64.wrap ((b : Int) + 1) = ((b + 1 : Nat) : Int) := by rw [show ((b + 1 : Nat) : Int) = (b : Int) + 1 by omega]; exact It.wr_in (by omega) (by omega)
theorem Chn_len12 {l : List It.Itm} {bs : List Int} {t z : Int} {m : List It.Lin} (h : It.setR l bs t = (m, 0, z)) : m.length = bs.length := (It.setR_some h).2.2.1.len
set_option maxHeartbeats 8000000 in
set_option maxRecDepth 100000 in
theorem lawFirst (v u : Value) (l : List It.Itm) (bs : List Int) (mm t : Int) (w : World) (hI : ItsAt w v l) (hN : NumsAt w u bs) : Calls Try.prog 6 #[v, u, .agg #[.int .i64 mm, .int .i64 t]] w (Ret (.bool true) w) := by
  have HF := Lib.hid (fun w => fixed12 w)
  have HA := Lib.hid hI
  have HN := Lib.hid hN
  have HL1 := Lib.hid (fun w (hb : bs.length ≤ 100000) h g => lines_own v u l bs t w h g hb)
  obtain ⟨⟨p, cp, rfl, hcap⟩, hm, _⟩ := hI
  obtain ⟨⟨pb, cb, rfl, hcapb⟩, hmb, _⟩ := hN
  have hzl : l.length ≤ 9223372036854775807 := by unfold maxLen at hm; omega
  have hzb : bs.length ≤ 9223372036854775807 := by unfold maxLen at hmb; omega
  obtain ⟨n, hn⟩ : ∃ n, n = l.length := ⟨_, rfl⟩
  obtain ⟨nb, hnb⟩ : ∃ n, n = bs.length := ⟨_, rfl⟩
  have Hn := Lib.hid hn
  have Hnb := Lib.hid hnb
  rw [← hn] at HA HL1 hzl hcap ⊢
  rw [← hnb] at HN HL1 hzb hcapb ⊢
  obtain ⟨W1, hW1⟩ : ∃ W1, W1 = w.alloc (.cells #[.int .i64 mm, .int .i64 t] 50) := ⟨_, rfl⟩
  obtain ⟨X, hX⟩ : ∃ X, X = w.heap.size := ⟨_, rfl⟩
  have HB1 := Lib.hid (below_alloc w (.cells #[.int .i64 mm, .int .i64 t] 50))
  have HX1 := Lib.hid (obj_new w _ rfl #[.int .i64 mm, .int .i64 t] 50)
  rw [← hW1] at HB1 HX1
  rw [← hX] at HX1
  have HXw := Lib.hid hX
  clear hn hnb hm hmb
  by_cases h1 : 300 < n
  · have h1' : (300 : Int) < (n : Int) := by omega
    go_enter Try.func6, Try.ntmps6
    go_upto_region 1 with fail
    rw [← hW1, ← hX]
    clear hW1 hX
    go_wp2_with fail
    refine (HF.out _).mono ?_
    rintro e w1 ⟨rfl, b1⟩
    have c0 : w1.cell? ⟨X, 0, none⟩ = some (.int .i64 mm) := Lib.cell_of_heap (obj_kept b1 HX1.out) 0
    have B1 := Lib.hid (below_step HB1.out b1)
    clear b1
    go_wp2_with fail
    refine (HF.out _).mono ?_
    rintro e w2 ⟨rfl, b2⟩
    go_wp2
    go_ret
    exact ⟨rfl, below_step B1.out b2⟩
  · have h1' : ¬ (300 : Int) < (n : Int) := by omega
    by_cases h2 : 100 < nb
    · have h2' : (100 : Int) < (nb : Int) := by omega
      go_enter Try.func6, Try.ntmps6
      go_upto_region 1 with fail
      rw [← hW1, ← hX]
      clear hW1 hX
      go_wp2_with fail
      refine (HF.out _).mono ?_
      rintro e w1 ⟨rfl, b1⟩
      have c0 : w1.cell? ⟨X, 0, none⟩ = some (.int .i64 mm) := Lib.cell_of_heap (obj_kept b1 HX1.out) 0
      have B1 := Lib.hid (below_step HB1.out b1)
      clear b1
      go_wp2_with fail
      refine (HF.out _).mono ?_
      rintro e w2 ⟨rfl, b2⟩
      go_wp2
      go_ret
      exact ⟨rfl, below_step B1.out b2⟩
    · have h2' : ¬ (100 : Int) < (nb : Int) := by omega
      by_cases h3 : mm < 1
      · skip
        go_enter Try.func6, Try.ntmps6
        go_upto_region 1 with fail
        rw [← hW1, ← hX]
        clear hW1 hX
        go_wp2_with fail
        refine (HF.out _).mono ?_
        rintro e w1 ⟨rfl, b1⟩
        have c0 : w1.cell? ⟨X, 0, none⟩ = some (.int .i64 mm) := Lib.cell_of_heap (obj_kept b1 HX1.out) 0
        have B1 := Lib.hid (below_step HB1.out b1)
        clear b1
        go_wp2_with fail
        refine (HF.out _).mono ?_
        rintro e w2 ⟨rfl, b2⟩
        go_wp2
        go_ret
        exact ⟨rfl, below_step B1.out b2⟩
      · by_cases h4 : (nb : Int) < mm
        · skip
          go_enter Try.func6, Try.ntmps6
          go_upto_region 1 with fail
          rw [← hW1, ← hX]
          clear hW1 hX
          go_wp2_with fail
          refine (HF.out _).mono ?_
          rintro e w1 ⟨rfl, b1⟩
          have c0 : w1.cell? ⟨X, 0, none⟩ = some (.int .i64 mm) := Lib.cell_of_heap (obj_kept b1 HX1.out) 0
          have B1 := Lib.hid (below_step HB1.out b1)
          clear b1
          go_wp2_with fail
          refine (HF.out _).mono ?_
          rintro e w2 ⟨rfl, b2⟩
          go_wp2
          go_ret
          exact ⟨rfl, below_step B1.out b2⟩
        · obtain ⟨k, hk⟩ : ∃ k : Nat, mm = (k : Int) := ⟨mm.toNat, by omega⟩
          subst hk
          have hk0 : 0 < k := by omega
          have hkn : k ≤ nb := by omega
          have H1 := Lib.hid (fun w h g => HL1.out w (by omega) h g)
          have HFi := Lib.hid (fun m z h => It.first_ok (l := l) (bs := bs) (t := t) (m := m) (z := z) h hk0 (by rw [← Hnb.out]; exact hkn))
          have HCl := Lib.hid (fun m z h => Chn_len12 (l := l) (bs := bs) (t := t) (m := m) (z := z) h)
          unfold LinesPostO at H1
          generalize It.setR l bs t = R at H1 HFi HCl
          obtain ⟨ls, c, z⟩ := R
          simp only [] at H1
          clear HL1
          go_enter Try.func6, Try.ntmps6
          go_upto_region 1 with fail
          rw [← hW1, ← hX]
          clear hW1 hX
          go_wp2_with fail
          refine (HF.out _).mono ?_
          rintro e w2 ⟨rfl, b2⟩
          have X2 := Lib.hid (obj_kept b2 HX1.out)
          have B2 := Lib.hid (below_step HB1.out b2)
          clear b2
          have c0 : w2.cell? ⟨X, 0, none⟩ = some (.int .i64 (k : Int)) := Lib.cell_of_heap X2.out 0
          have c1 : w2.cell? ⟨X, 1, none⟩ = some (.int .i64 t) := Lib.cell_of_heap X2.out 1
          go_wp2_with fail
          refine (H1.out _ (SlcAt.mono HA.out B2.out) (SlcAt.mono HN.out B2.out)).mono ?_
          rintro e w3 ⟨x1, rfl, l3, b3⟩
          have hbA := below_step b3 (below_alloc w3 (.cells #[.int .i64 c, .int .i64 z] 28))
          have Y1 := Lib.hid (obj_new w3 _ rfl #[.int .i64 c, .int .i64 z] 28)
          have L1 := Lib.hid (OwnL.mono l3 (below_alloc w3 (.cells #[.int .i64 c, .int .i64 z] 28)))
          obtain ⟨WA, hWA⟩ : ∃ WA, WA = w3.alloc (.cells #[.int .i64 c, .int .i64 z] 28) := ⟨_, rfl⟩
          obtain ⟨P, hP⟩ : ∃ P, P = w3.heap.size := ⟨_, rfl⟩
          rw [← hWA] at hbA Y1 L1
          rw [← hP] at Y1
          have XA := Lib.hid (obj_kept hbA X2.out)
          have BA := Lib.hid (below_step B2.out hbA)
          clear hbA l3 b3 c0 c1
          go_upto_region 4 with fail
          rw [← hWA, ← hP]
          clear hWA hP
          have f0 : WA.cell? ⟨P, 0, none⟩ = some (.int .i64 c) := Lib.cell_of_heap Y1.out 0
          by_cases hc : c = 0
          · subst hc
            obtain ⟨av, cv, rfl⟩ := ownL_form L1.out
            have hlen : ls.length = nb := by rw [HCl.out ls z rfl, ← Hnb.out]
            rw [hlen] at L1 ⊢
            obtain ⟨b, hb, hbl, hset⟩ := HFi.out ls z rfl
            rw [← Hn.out] at hbl
            obtain ⟨b9, hb9⟩ : ∃ b9, b9 = b + 1 := ⟨_, rfl⟩
            obtain ⟨j, hj⟩ : ∃ j, j = k - 1 := ⟨_, rfl⟩
            rw [← hb9] at hset
            rw [← hj] at hb
            have hjn : j < nb := by omega
            have hb9n : b9 ≤ n := by omega
            have hlI : (l.take b9).length = b9 := by rw [List.length_take, ← Hn.out]; omega
            have hlN : (bs.take k).length = k := by rw [List.length_take, ← Hnb.out]; omega
            have H2 : Hid (∀ wx, ItsAt wx (.slice p b9 cp) (l.take b9) → NumsAt wx (.slice pb k cb) (bs.take k) → Calls Try.prog 8 #[.slice p b9 cp, .slice pb k cb, .int .i64 t] wx (fun e w' => ∃ u, e = .returned (.tuple #[u, .agg #[.int .i64 0, .int .i64 0]]) ∧ OwnL wx.heap.size u (ls.take k) w' ∧ Below wx.heap.size wx w')) := Lib.hid (fun wx h g => by
              have := lines_own (.slice p b9 cp) (.slice pb k cb) (l.take b9) (bs.take k) t wx h g (by rw [hlN]; omega)
              rw [hset] at this
              exact this)
            have HLn := Lib.hid hlen
            have xA0 : WA.cell? ⟨X, 0, none⟩ = some (.int .i64 (k : Int)) := Lib.cell_of_heap XA.out 0
            have xA1 : WA.cell? ⟨X, 1, none⟩ = some (.int .i64 t) := Lib.cell_of_heap XA.out 1
            obtain ⟨b1, o1, d1, e1, r1⟩ := (nums_ints HN.out).2.2 (by rw [← Hnb.out]; omega)
            rw [← Hnb.out] at e1
            obtain ⟨rfl, rfl⟩ : pb = some ⟨b1, o1, none⟩ ∧ cb = d1 := by injection e1 with a1 a2 a3; exact ⟨a1, a3⟩
            have cy := cell_below BA.out (r1 j b hb)
            have km0 : (0 : Int) ≤ (j : Int) := by omega
            have kml : (j : Int) < (nb : Int) := by omega
            have nb0 : ¬ ((b : Int) < 0) := by omega
            have nbn : ¬ ((n : Int) ≤ (b : Int)) := by omega
            have b0 : (0 : Int) ≤ (b : Int) := by omega
            have bl : (b : Int) < (n : Int) := by omega
            have hn2 : n ≤ 300 := by omega
            have hnb2 : nb ≤ 100 := by omega
            have hkl : k ≤ ls.length := by omega
            have hs1 := fun wx => run_head9 p n b9 cp (by omega) wx
            have hs2 := fun wx => run_headAt9 p n b9 cp (by omega) wx
            have hs3 := fun wx => run_headN12 (some ⟨b1, o1, none⟩) nb k cb (by omega) wx
            have hs4 := fun wx => run_headAtN12 (some ⟨b1, o1, none⟩) nb k cb (by omega) wx
            have hcv : nb ≤ cv := by
              obtain ⟨rs, h1, h2, _⟩ := L1.out
              obtain ⟨⟨_, _, e, hc⟩, _⟩ := OwnR.at h1 lrC_len
              injection e with _ _ e3
              subst e3
              rw [h2, HLn.out] at hc
              exact hc
            have hs5 := fun wx => run_headL12 av nb k cv (by omega) wx
            have hs6 := fun wx => run_headAtL12 av nb k cv (by omega) wx
            have hkn' : k ≤ nb := hkn
            have hbn' : b9 ≤ l.length := by rw [← Hn.out]; omega
            have hkb' : k ≤ bs.length := by rw [← Hnb.out]; exact hkn
            have hkw : wrap64 ((k : Int) - 1) = (j : Int) := by rw [hj]; exact wM1 hk0 hkn hnb2
            have hkw2 : IntKind.i64.wrap ((k : Int) - 1) = (j : Int) := by rw [hj]; exact wM1' hk0 hkn hnb2
            have hbw : wrap64 ((b : Int) + 1) = (b9 : Int) := by rw [hb9]; exact wP1 hbl hn2
            have hbw2 : IntKind.i64.wrap ((b : Int) + 1) = (b9 : Int) := by rw [hb9]; exact wP1' hbl hn2
            clear hb9 hj hset hb hlI hlN
            go_upto_region 9 with fail
            clear f0 hkw hkw2
            have HBd := Lib.hid (below_step BA.out (below_drew10w WA))
            have HXd := Lib.hid (obj_kept (below_drew10w WA) XA.out)
            have HLdo := Lib.hid (OwnL.mono L1.out (below_drew10w WA))
            have HCd := Lib.hid (H2.out WA.drew (its_head12 (SlcAt.mono HA.out HBd.out) b9 hbn') (rec_head (SlcAt.mono HN.out HBd.out) k hkb'))
            have HBe := Lib.hid (below_step BA.out (below_step (below_alloc WA (.cells #[.int .i64 0, .int .i64 0] 28)) (below_drew10w _)))
            have HXe := Lib.hid (obj_kept (below_drew10w _) (obj_kept (below_alloc WA (.cells #[.int .i64 0, .int .i64 0] 28)) XA.out))
            have HLeo := Lib.hid (OwnL.mono (OwnL.mono L1.out (below_alloc WA (.cells #[.int .i64 0, .int .i64 0] 28))) (below_drew10w _))
            have HPe := Lib.hid (obj_kept (below_drew10w _) (obj_new WA _ rfl #[.int .i64 0, .int .i64 0] 28))
            have HCe := Lib.hid (H2.out ((WA.alloc (.cells #[.int .i64 0, .int .i64 0] 28)).drew) (its_head12 (SlcAt.mono HA.out HBe.out) b9 hbn') (rec_head (SlcAt.mono HN.out HBe.out) k hkb'))
            have HPx : Hid (X ≠ WA.heap.size) := Lib.hid (Nat.ne_of_lt (lt_of_obj XA.out))
            have HPl : Hid (w.heap.size ≤ WA.heap.size) := Lib.hid BA.out.size
            have hSd : WA.drew.cell? ⟨X, 0, none⟩ = some (.int .i64 (k : Int)) ∧ WA.drew.cell? ⟨X, 1, none⟩ = some (.int .i64 t) := ⟨xA0, xA1⟩
            have hSe : ((WA.alloc (.cells #[.int .i64 0, .int .i64 0] 28)).drew).cell? ⟨X, 0, none⟩ = some (.int .i64 (k : Int)) ∧ ((WA.alloc (.cells #[.int .i64 0, .int .i64 0] 28)).drew).cell? ⟨X, 1, none⟩ = some (.int .i64 t) := ⟨Lib.cell_of_heap HXe.out 0, Lib.cell_of_heap HXe.out 1⟩
            clear xA0 xA1 cy
            go_region_held3 (fun w' => w'.cell? ⟨X, 0, none⟩ = some (.int .i64 (k : Int)) ∧ w'.cell? ⟨X, 1, none⟩ = some (.int .i64 t)) (first | (with_reducible exact hSd) | (with_reducible exact hSe) | (with_reducible exact hS4) | (with_reducible exact hS5) | go_keep) (first | ((with_reducible refine HCd.out.mono ?_); rintro e w5 ⟨x2, rfl, l2, b5⟩; have X5 := Lib.hid (obj_kept b5 HXd.out); have L5o := Lib.hid (OwnL.mono HLdo.out b5); have M5o := Lib.hid l2; have L5 := Lib.hid L5o.out.at; have M5 := Lib.hid l2.at; have B5 := Lib.hid (below_step HBd.out b5); have hS4 : w5.cell? ⟨X, 0, none⟩ = some (.int .i64 (k : Int)) ∧ w5.cell? ⟨X, 1, none⟩ = some (.int .i64 t) := ⟨Lib.cell_of_heap X5.out 0, Lib.cell_of_heap X5.out 1⟩; have hS5 : (w5.alloc (.cells #[.int .i64 0, .int .i64 0] 28)).cell? ⟨X, 0, none⟩ = some (.int .i64 (k : Int)) ∧ (w5.alloc (.cells #[.int .i64 0, .int .i64 0] 28)).cell? ⟨X, 1, none⟩ = some (.int .i64 t) := ⟨Lib.cell_of_heap (obj_kept (below_alloc _ _) X5.out) 0, Lib.cell_of_heap (obj_kept (below_alloc _ _) X5.out) 1⟩; clear b5 l2) | ((with_reducible refine HCe.out.mono ?_); rintro e w5 ⟨x2, rfl, l2, b5⟩; have X5 := Lib.hid (obj_kept b5 HXe.out); have L5o := Lib.hid (OwnL.mono HLeo.out b5); have M5o := Lib.hid l2; have L5 := Lib.hid L5o.out.at; have M5 := Lib.hid l2.at; have B5 := Lib.hid (below_step HBe.out b5); have P5 := Lib.hid (obj_kept b5 HPe.out); have cz0 := Lib.cell_of_heap P5.out 0; have cz1 := Lib.cell_of_heap P5.out 1; have fz0 := Lib.frozen_of_heap P5.out 0; have fz1 := Lib.frozen_of_heap P5.out 1; have G5 := Lib.hid (putF_grown w5 WA.heap.size 0 0); have P6 := Lib.hid (putF_obj P5.out 0 0); have X6 := Lib.hid (obj_far X5.out G5.out (fun e => HPx.out (Option.some.inj e))); have hS4 : w5.cell? ⟨X, 0, none⟩ = some (.int .i64 (k : Int)) ∧ w5.cell? ⟨X, 1, none⟩ = some (.int .i64 t) := ⟨Lib.cell_of_heap X5.out 0, Lib.cell_of_heap X5.out 1⟩; have hS5 : ((w5.setCell ⟨WA.heap.size, 0, none⟩ (.int .i64 0)).setCell ⟨WA.heap.size, 1, none⟩ (.int .i64 0)).cell? ⟨X, 0, none⟩ = some (.int .i64 (k : Int)) ∧ ((w5.setCell ⟨WA.heap.size, 0, none⟩ (.int .i64 0)).setCell ⟨WA.heap.size, 1, none⟩ (.int .i64 0)).cell? ⟨X, 1, none⟩ = some (.int .i64 t) := ⟨Lib.cell_of_heap X6.out 0, Lib.cell_of_heap X6.out 1⟩; clear b5 l2))
            · have XB := Lib.hid (obj_kept (below_alloc w5 (.cells #[.int .i64 0, .int .i64 0] 28)) X5.out)
              have LB := Lib.hid (LinsAt.mono L5.out (below_alloc w5 (.cells #[.int .i64 0, .int .i64 0] 28)))
              have MB := Lib.hid (LinsAt.mono M5.out (below_alloc w5 (.cells #[.int .i64 0, .int .i64 0] 28)))
              have BB := Lib.hid (below_step B5.out (below_alloc w5 (.cells #[.int .i64 0, .int .i64 0] 28)))
              have QB := Lib.hid (obj_new w5 _ rfl #[.int .i64 0, .int .i64 0] 28)
              obtain ⟨WB, hWB⟩ : ∃ WB, WB = w5.alloc (.cells #[.int .i64 0, .int .i64 0] 28) := ⟨_, rfl⟩
              obtain ⟨Q, hQ⟩ : ∃ Q, Q = w5.heap.size := ⟨_, rfl⟩
              rw [← hWB] at XB LB MB BB QB
              rw [← hQ] at QB
              clear hS4 hS5 hSd hSe
              go_upto_region 10 with fail
              rw [← hWB, ← hQ]
              clear hWB hQ
              have q0 : WB.cell? ⟨Q, 0, none⟩ = some (.int .i64 0) := Lib.cell_of_heap QB.out 0
              have x0 : WB.cell? ⟨X, 0, none⟩ = some (.int .i64 (k : Int)) := Lib.cell_of_heap XB.out 0
              have HS := Lib.hid (sameL_any x2 (.slice av k cv) (ls.take k) (ls.take k) WB MB.out (lins_head LB.out k hkl))
              rw [decide_eq_true rfl] at HS
              go_wp2_with fail
              refine HS.out.mono ?_
              rintro e w7 ⟨rfl, b7⟩
              go_wp2
              go_ret
              exact ⟨rfl, below_step BB.out b7⟩
            · have G6 := Lib.hid (putF_grown w5 WA.heap.size 0 0)
              have XB := X6
              have LB0 := Lib.hid (ownL_far L5o.out G6.out ⟨_, _, P5.out⟩)
              have MB0 := Lib.hid (ownL_far M5o.out G6.out ⟨_, _, P5.out⟩)
              have BB := Lib.hid (B5.out.grown G6.out B5.out.size (fun q hq => by cases hq; exact HPl.out))
              have LB := Lib.hid LB0.out.at
              have MB := Lib.hid MB0.out.at
              have QB := P6
              obtain ⟨WB, hWB⟩ : ∃ WB, WB = putF w5 WA.heap.size 0 0 := ⟨_, rfl⟩
              rw [← hWB] at XB LB MB BB QB
              unfold putF at hWB
              clear hS4 hS5 hSd hSe cz0 cz1 fz0 fz1 G6 LB0 MB0
              go_upto_region 10 with fail
              rw [← hWB]
              clear hWB G5 P6 X6
              obtain ⟨Q, hQ⟩ : ∃ Q, Q = WA.heap.size := ⟨_, rfl⟩
              rw [← hQ] at QB ⊢
              clear hQ
              have q0 : WB.cell? ⟨Q, 0, none⟩ = some (.int .i64 0) := Lib.cell_of_heap QB.out 0
              have x0 : WB.cell? ⟨X, 0, none⟩ = some (.int .i64 (k : Int)) := Lib.cell_of_heap XB.out 0
              have HS := Lib.hid (sameL_any x2 (.slice av k cv) (ls.take k) (ls.take k) WB MB.out (lins_head LB.out k hkl))
              rw [decide_eq_true rfl] at HS
              go_wp2_with fail
              refine HS.out.mono ?_
              rintro e w7 ⟨rfl, b7⟩
              go_wp2
              go_ret
              exact ⟨rfl, below_step BB.out b7⟩
          · have hcb : (c == 0) = false := by simpa using hc
            have hcn : (c != 0) = true := by simpa using hc
            go_wp2
            go_ret
            exact ⟨rfl, BA.out⟩
end Go.Proofs.Ythcilpijiindeaa
namespace Go.Proofs.Ythcilpijiindeaa
open Go.ChangeShapes Go.WideShapes Go.ChangeAt Go.RowKit
theorem uFi12 : Try.prog.underlying 50 = some (.struct (Try.prog.fieldsOf 50)) := by kernel_rfl
theorem cFi12 : Try.prog.cellsOf 50 = 2 := by kernel_rfl
section
variable {H : Type} {enc : TypeId × Value → H} {W : World} {base : Nat} {held : Bool} {spare : Nat → Bool}
set_option maxRecDepth 100000 in
theorem first_in {v : Value} {d : DataW H} {p : List MemPlace} (h : DataW.Trod enc Try.prog W base spare held 50 v d p) {cs : Array Value} (hv : v = .agg cs) : ∃ a b : Int, v = .agg #[.int .i64 a, .int .i64 b] := by
  obtain ⟨fuel, hf⟩ := h
  subst hv
  obtain ⟨f0, f1, hfs, ⟨t0, o0⟩, ⟨t1, o1⟩⟩ := two_fields (show (Try.prog.fieldsOf 50).toList.map (fun f => (f.type, f.offset)) = [(3, 0), (2, 1)] by kernel_rfl)
  obtain ⟨xs, m, hm', hxe, hcl, hxl, hxi⟩ := DataW.trod_struct uFi12 hf
  have hcs : (Value.agg cs).cells.toList = cs.toList := rfl
  rw [hcs] at hcl hxi
  rw [hfs] at hxl hxi
  rw [cFi12] at hcl
  obtain ⟨l⟩ := cs
  simp only [] at hcl hxi
  match l, hcl, xs, hxl with
  | [v0, v1], _, [y0, y1], _ =>
    have g0 := hxi 0 f0 rfl
    have g1 := hxi 1 f1 rfl
    rw [t0, o0, cInt9] at g0
    rw [t1, o1, cI649] at g1
    simp at g0 g1
    obtain ⟨a, e0, _, w0⟩ := DataW.trod_int Try.underlying3 g0
    obtain ⟨b, e1, _, w1⟩ := DataW.trod_int Try.underlying2 g1
    simp at e0 e1
    subst e0 e1
    exact ⟨a, b, rfl⟩
end
end Go.Proofs.Ythcilpijiindeaa
namespace Go.Proofs.Ythcilpijiindeaa
open Go.ChangeShapes Go.WideShapes Go.ChangeAt Go.RowKit

set_option maxRecDepth 100000 in
/-- WHAT THE WALK GIVES, FOR EVERY ARGUMENT AND EVERY WORLD. -/
theorem setterFirst_contract (H : Type) (enc : TypeId × Value → H) (W : World) (base : Nat) (args : Array Value) (ds gs : List (DataW H)) (before : List MemPlace)
    (hval : ∀ (j : Nat) t v, Try.f6.params[j]? = some t → args[j]? = some v → Value.okWide Try.prog W .any base t v)
    (hW : DataW.Whole enc Try.prog Try.f6.params.toList Rows.setterFirstSpec.vars false W args.toList ds gs before) (hk : (DataW.weightsEach Try.prog (Try.f6.params.toList ++ (OpenSpec.ofChange Rows.setterFirstSpec).bare.plain.varTypes Try.prog) (ds ++ gs)).all (· ≤ reachBytes) = true) :
    Calls Try.prog 6 args W fun e W' => ∃ v, e = .returned v ∧ Rows.setterFirstSpec.post enc Try.prog Try.f6 false true false false W args v W' := by
  have hW' := hW
  have hlt : ∀ x ∈ before, x.block < W.heap.size := fun x hx => hW'.lt x hx
  obtain ⟨p, q, hA0, hV, hbe, hfz, hnd⟩ := hW
  have hA : DataW.TrodAll enc Try.prog W 0 (fun _ => true) true Try.f6.params.toList args.toList ds p := hA0
  rw [Try.params6] at hA hval hk
  have hAk := hA
  obtain ⟨v0, vs0, d0, ds0, p0, q0, hargs, rfl, rfl, h0, r0⟩ := trodAll_cons hA
  obtain ⟨v1, vs1, d1, ds1, p1, q1, rfl, rfl, rfl, h1, r1⟩ := trodAll_cons r0
  obtain ⟨v2, vs2, d2, ds2, p2, q2, rfl, rfl, rfl, h2, r2⟩ := trodAll_cons r1
  obtain ⟨rfl, rfl, rfl⟩ := trodAll_nil r2
  obtain rfl : args = #[v0, v1, v2] := by cases args; simp_all
  obtain ⟨rfl, rfl⟩ := trodVars_none hV
  obtain ⟨pa0, len0, cap0, hp0⟩ := okWide_slice Try.underlying22 (hval 0 _ v0 rfl rfl)
  obtain ⟨xs0, hxs0, _⟩ := items_in h0 (by rw [hp0]; rfl)
  obtain ⟨pa1, len1, cap1, hp1⟩ := okWide_slice Try.underlying23 (hval 1 _ v1 rfl rfl)
  obtain ⟨xs1, hxs1⟩ := ints_in h1 (by rw [hp1]; rfl)
  obtain ⟨cs2, hv2, _⟩ := okWide_struct uFi12 (hval 2 _ v2 rfl rfl)
  obtain ⟨ea, eb, rfl⟩ := first_in h2 hv2
  refine (lawFirst v0 v1 xs0 xs1 ea eb W hxs0 (ints_nums hxs1)).mono fun e W' ⟨he, hb⟩ => ?_
  subst he
  have e1 : Rows.setterFirstSpec.fn H ([d0, d1, d2] ++ []) = { results := [.lit (.bool true)], args := [d0, d1, d2] } := rfl
  refine ⟨_, rfl, [d0, d1, d2], [], before, [], p0 ++ (p1 ++ (p2 ++ [])), [], hW', ?_, ?_, ?_, hb.frame _, fun h => by cases h⟩
  · rw [e1]; exact trodAll_mk1 (shut_bool Try.underlying4 true)
  · rw [e1, Try.params6]
    exact args_kept laidOut hb _ _ _ _ (by
      intro t ht
      have : t = 22 ∨ t = 23 ∨ t = 50 := by simpa using ht
      rcases this with rfl | rfl | rfl
      all_goals exact ⟨by kernel_rfl, of_decide_eq_true (by kernel_rfl)⟩) hAk (fun x hx => hlt x (by rw [hbe]; exact List.mem_append_left _ hx))
  · rw [e1]; rfl

theorem setterFirst_laid_met (os : Os) : laidMet Try.prog Rows.setterFirstRow.laid ((World.laidAll Try.prog os laidList).forCall (fun _ _ => 0) ⟨#[], #[.slice none 0 0, .slice none 0 0, .agg #[.int .i64 0, .int .i64 0]], []⟩).memory :=
  laidMet_laidAll _ (by kernel_rfl) (by kernel_rfl)
theorem setterFirst_reads (os : Os) {H : Type} (enc : TypeId × Value → H) : ∃ places, DataW.whole enc Try.prog ((World.laidAll Try.prog os laidList).forCall (fun _ _ => 0) ⟨#[], #[.slice none 0 0, .slice none 0 0, .agg #[.int .i64 0, .int .i64 0]], []⟩).memory Try.f6.params.toList Rows.setterFirstSpec.vars false #[Value.slice none 0 0, .slice none 0 0, .agg #[.int .i64 0, .int .i64 0]].toList 8 = some ([.nil, .nil, .agg [.lit (.int .i64 0), .lit (.int .i64 0)]], [], places) :=
  ⟨[], by kernel_rfl⟩

set_option maxRecDepth 100000 in
theorem setterFirst_lifted (os : Os) (started : os.Started) (H : Type) (enc : TypeId × Value → H) (F : Stop.Interp) :
    ReturnsInHanded {} Try.checked os 6 .any ((OpenSpec.ofChange Rows.setterFirstSpec).preRow enc Try.prog Try.f6 Rows.setterFirstRow.domain false Rows.setterFirstRow.laid) (((OpenSpec.ofChange Rows.setterFirstSpec).at F).post enc Try.prog Try.f6 false true false false) := by
  obtain ⟨places, hx⟩ := setterFirst_reads os enc
  refine returnsInHanded_of_row (C := Try.checked) (s := OpenSpec.ofChange Rows.setterFirstSpec) own started (by kernel_rfl) Try.func6
    (witness_row_atRef (enc := enc) (C := Try.checked) false (World.laidAll Try.prog os laidList) #[.slice none 0 0, .slice none 0 0, .agg #[.int .i64 0, .int .i64 0]] (World.laidAll_os _ _ _) (by kernel_rfl) (by kernel_rfl) (by kernel_rfl)
      (OpenSpec.preRow_of_cond 8 hx (by kernel_rfl) (fun k hk => by cases hk) (by kernel_rfl) (setterFirst_laid_met os))) ?_
  intro W base args ds gs before hval hW _ _ hz hL hsh _
  exact setterFirst_contract H enc W base args ds gs before hval hW hz

theorem setterFirst_full : Rows.SetterFirstSaid :=
  OpenClaim.holds_of_cond 6 Try.f6 rfl rfl rfl rfl rfl rfl rfl ⟨rfl, rfl, rfl, rfl, rfl⟩ rfl rfl rfl rfl rfl (by kernel_rfl) Try.func6 (by kernel_rfl)
    (of_decide_eq_true (by kernel_rfl)) (by unfold Func.isWrapper; first | (rw [if_pos (by decide +kernel)]; kernel_rfl) | (rw [if_neg (by decide +kernel)]; exact ⟨rfl, rfl⟩))
    (fun os started H enc _ F => by rw [OpenClaim.pre_eq_preRow]; exact setterFirst_lifted os started H enc F)

end Go.Proofs.Ythcilpijiindeaa
