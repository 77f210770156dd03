/-
  The reference's Gives: what the glues up to one weigh together in a setting.
-/
import Derived.Deep.RegionHeld3
import Derived.Test.YthcilpijiindeaaWeights12
set_option linter.unusedVariables false
set_option linter.unusedSimpArgs false
namespace Go.Proofs.Ythcilpijiindeaa
open Go.RowKit

namespace It
theorem wsum_app (s : Stg) : ∀ a b : List Gl, wsum s (a ++ b) = wsum s a + wsum s b
  | [], b => by simp [wsum]
  | x :: r, b => by simp only [List.cons_append, wsum, wsum_app s r b]; omega
theorem wsum_take {l : List Gl} (s : Stg) (h : glMay l = true) (k : Nat) : 0 ≤ wsum s (l.take k) ∧ wsum s (l.take k) ≤ 1073741823 := by
  have ho := (glMay_yes h).2.1
  have h1 := wsum_nonneg (s := s) (l := l.take k) (List.all_eq_true.2 fun x hx => List.all_eq_true.1 ho x (List.mem_of_mem_take hx))
  have h2 := wsum_nonneg (s := s) (l := l.drop k) (List.all_eq_true.2 fun x hx => List.all_eq_true.1 ho x (List.mem_of_mem_drop hx))
  have e : wsum s (l.take k) + wsum s (l.drop k) = wsum s l := by rw [← wsum_app, List.take_append_drop]
  have hb : wsum s l ≤ 1073741823 := by
    by_cases h1 : s.sg < 0
    · rw [wsum_shrink h1]; exact (sumK_nonneg h).2
    · by_cases h2 : 0 < s.sg
      · rw [wsum_stretch h2]; exact (sumO_nonneg h _).2
      · rw [wsum_none (by omega)]; omega
  omega
end It
theorem below_drewN12 (w : World) (n : Nat) : Below w.heap.size w (w.drewN n) := ⟨rfl, rfl, rfl, Nat.le_refl _, fun _ _ => rfl⟩
set_option maxHeartbeats 8000000 in
set_option maxRecDepth 100000 in
theorem refGives_any (v : Value) (l : List It.Gl) (n : Nat) (s : It.Stg) (w : World) (h : GlsAt w v l) (hn : n ≤ l.length) (hm : l.length ≤ 2000) (hq : It.glMay l = true) (hsg : s.sg = -1 ∨ s.sg = 0 ∨ s.sg = 1) :
    Calls Try.prog 57 #[v, .int .i64 n, stgV s] w (Ret (.int .i64 (It.wsum s (l.take n))) w) := by
  have HA := Lib.hid h
  obtain ⟨⟨p, cp, rfl, hcap⟩, _, _⟩ := h
  have HW := Lib.hid (fun k => It.wsum_take s hq k)
  obtain ⟨W1, hW1⟩ : ∃ W1, W1 = w.alloc (.cells #[.int .i64 s.sg, .int .i64 s.o, .int .i64 s.e, .int .i64 s.bad] 56) := ⟨_, rfl⟩
  have HX1 := Lib.hid (obj_new w _ rfl #[.int .i64 s.sg, .int .i64 s.o, .int .i64 s.e, .int .i64 s.bad] 56)
  have HB1 := Lib.hid (below_alloc w (.cells #[.int .i64 s.sg, .int .i64 s.o, .int .i64 s.e, .int .i64 s.bad] 56))
  rw [← hW1] at HX1 HB1
  obtain ⟨P, hP⟩ : ∃ P, P = w.heap.size := ⟨_, rfl⟩
  rw [← hP] at HX1
  obtain ⟨N, hN⟩ : ∃ N, N = l.length := ⟨_, rfl⟩
  have HN := Lib.hid hN
  rw [← hN] at hn hm hcap
  clear hq
  unfold stgV
  rw [← hN]
  clear hN
  go_enter Try.func57, Try.ntmps57
  go_upto_region 1 with fail
  rw [← hW1, ← hP]
  clear hW1 hP
  go_wp2_with fail
  go_loopw [7, 8] (fun sv kv wr => ∃ k : Nat, k ≤ n ∧ kv = .int .i64 k ∧ sv = .int .i64 (It.wsum s (l.take k)) ∧ Hid (wr.heap[P]? = some (.cells #[.int .i64 s.sg, .int .i64 s.o, .int .i64 s.e, .int .i64 s.bad] 56 (0, 0))) ∧ Hid (Below w.heap.size w wr)) (fun _ kv _ => n - (intOf kv).toNat)
  case atStart => exact ⟨0, Nat.zero_le _, rfl, by simp [It.wsum], HX1, HB1⟩
  case round =>
    obtain ⟨k, hk, rfl, rfl, HX, HB⟩ := hrel
    clear HX1 HB1
    by_cases hlt : k < n
    · obtain ⟨b1, o1, d1, e1, r1⟩ := HA.out.2.2 (by rw [← HN.out]; omega)
      rw [← HN.out] at e1
      obtain ⟨rfl, rfl⟩ : p = some ⟨b1, o1, none⟩ ∧ cp = d1 := by injection e1 with a1 a2 a3; exact ⟨a1, a3⟩
      obtain ⟨g, hg⟩ : ∃ g, l[k]? = some g := ⟨_, List.getElem?_eq_getElem (by rw [← HN.out]; omega)⟩
      obtain ⟨y0, y1, y2, y3⟩ := gl_cells ((r1 k g hg).mono HB.out)
      have k0 : (0 : Int) ≤ (k : Int) := by omega
      have kl : (k : Int) < (n : Int) := by omega
      have kN : (k : Int) < (N : Int) := by omega
      have s0 : wr.cell? ⟨P, 0, none⟩ = some (.int .i64 s.sg) := Lib.cell_of_heap HX.out 0
      have s1 : wr.cell? ⟨P, 1, none⟩ = some (.int .i64 s.o) := Lib.cell_of_heap HX.out 1
      have HNx : Hid (It.wsum s (l.take (k + 1)) = It.wsum s (l.take k) + It.wgt s g) := Lib.hid (by rw [It.take_snoc hg, It.wsum_app]; simp [It.wsum])
      obtain ⟨t0, t1⟩ := HW.out (k + 1)
      obtain ⟨t2, t3⟩ := HW.out k
      rw [HNx.out] at t0 t1
      have hwr : IntKind.i64.wrap (It.wsum s (l.take k) + It.wgt s g) = It.wsum s (l.take k) + It.wgt s g := It.wr_in (by omega) (by omega)
      have HD := Lib.hid (fun q => below_drewN12 wr q)
      clear r1 e1 hg t0 t1 t2 t3
      generalize It.wsum s (l.take k) = acc at hwr HNx
      have N0 := Lib.hid y0
      clear y0
      rcases hsg with e | e | e
      · have hw : It.wgt s g = g.sk := by unfold It.wgt; rw [if_pos (by omega)]
        rw [hw] at hwr HNx
        have b0 : (s.sg == 1) = false := by rw [e]; rfl
        have b1' : (s.sg == -1) = true := by rw [e]; rfl
        go_upto_region 5 with fail
        go_quiet (fail)
        go_wp2
        go_roundw
        case rel => exact ⟨k + 1, by omega, by go_num, by rw [HNx.out], Lib.hid (obj_kept (HD.out _) HX.out), Lib.hid (below_step HB.out (HD.out _))⟩
        case measure => simp [intOf]; omega
      · have hw : It.wgt s g = 0 := by unfold It.wgt; rw [if_neg (by omega), if_neg (by omega)]
        rw [hw, Int.add_zero] at HNx
        clear hwr
        have b0 : (s.sg == 1) = false := by rw [e]; rfl
        have b1' : (s.sg == -1) = false := by rw [e]; rfl
        go_upto_region 5 with fail
        go_quiet (fail)
        go_wp2
        go_roundw
        case rel => exact ⟨k + 1, by omega, by go_num, by rw [HNx.out], Lib.hid (obj_kept (HD.out _) HX.out), Lib.hid (below_step HB.out (HD.out _))⟩
        case measure => simp [intOf]; omega
      · have b0 : (s.sg == 1) = true := by rw [e]; rfl
        have b1' : (s.sg == -1) = false := by rw [e]; rfl
        by_cases ho : g.o = s.o
        · have hw : It.wgt s g = g.st := by unfold It.wgt; rw [if_neg (by omega), if_pos ⟨by omega, ho⟩]
          rw [hw] at hwr HNx
          have b2 : (g.o == s.o) = true := by rw [ho]; simp
          go_upto_region 5 with fail
          go_quiet (fail)
          go_wp2
          go_roundw
          case rel => exact ⟨k + 1, by omega, by go_num, by rw [HNx.out], Lib.hid (obj_kept (HD.out _) HX.out), Lib.hid (below_step HB.out (HD.out _))⟩
          case measure => simp [intOf]; omega
        · have hw : It.wgt s g = 0 := by unfold It.wgt; rw [if_neg (by omega), if_neg (fun h => ho h.2)]
          rw [hw, Int.add_zero] at HNx
          clear hwr
          have b2 : (g.o == s.o) = false := by simp; exact ho
          go_upto_region 5 with fail
          go_quiet (fail)
          go_wp2
          go_roundw
          case rel => exact ⟨k + 1, by omega, by go_num, by rw [HNx.out], Lib.hid (obj_kept (HD.out _) HX.out), Lib.hid (below_step HB.out (HD.out _))⟩
          case measure => simp [intOf]; omega
    · obtain rfl : k = n := by omega
      go_wp2
      go_ret
      exact ⟨rfl, HB.out⟩
end Go.Proofs.Ythcilpijiindeaa
