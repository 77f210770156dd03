/-
  The landed weights: what each glue weighs in a setting.
-/
import Derived.Test.YthcilpijiindeaaShare12
set_option linter.unusedVariables false
set_option linter.unusedSimpArgs false
namespace Go.Proofs.Ythcilpijiindeaa
open Go.RowKit

set_option maxHeartbeats 8000000 in
set_option maxRecDepth 100000 in
theorem weights_any (v : Value) (l : List It.Gl) (s : It.Stg) (w : World) (h : GlsAt w v l) (hn : l.length ≤ 2000) :
    Calls Try.prog 52 #[v, stgV s] w fun e w' => ∃ u, e = .returned u ∧ LensAt w' u (l.map (It.wgt s)) ∧ Below w.heap.size w w' := by
  have HA := Lib.hid h
  obtain ⟨⟨p, cp, rfl, hcap⟩, hm, _⟩ := h
  have hza : l.length ≤ 9223372036854775807 := by omega
  obtain ⟨n, hnn⟩ : ∃ n, n = l.length := ⟨_, rfl⟩
  have Hn := Lib.hid hnn
  rw [← hnn] at hn hza ⊢
  obtain ⟨W1, hW1⟩ : ∃ W1, W1 = w.alloc (.cells #[.int .i64 s.sg, .int .i64 s.o, .int .i64 s.e, .int .i64 s.bad] 56) := ⟨_, rfl⟩
  have hb1 := below_alloc w (.cells #[.int .i64 s.sg, .int .i64 s.o, .int .i64 s.e, .int .i64 s.bad] 56)
  have HX1 := Lib.hid (obj_new w _ rfl #[.int .i64 s.sg, .int .i64 s.o, .int .i64 s.e, .int .i64 s.bad] 56)
  rw [← hW1] at hb1 HX1
  obtain ⟨P, hP⟩ : ∃ P, P = w.heap.size := ⟨_, rfl⟩
  rw [← hP] at HX1
  have HB1 := Lib.hid hb1
  have hPlt : P < W1.heap.size := lt_of_obj HX1.out
  obtain ⟨i0, hi0, hz0, hz1, hz2⟩ := info_parts infoZ12
  obtain ⟨W4, hrun, hown4, hg4⟩ := run_make_full (P := Try.prog) W1 W1.heap.size 67 2 i0 _ 1 Try.underlying67 hi0 hz0 hz1 .i64 .i64 n (by rw [hz2]; omega) (by unfold maxLen; omega) (Nat.le_refl _)
  have HR4 := Lib.hid (RowZ.made hown4)
  have hb4 : Below W1.heap.size W1 W4 := (Below.refl _ _).grown (row := none) hg4 (Nat.le_refl _) (fun q h => by cases h)
  have HX4 := Lib.hid (obj_kept hb4 HX1.out)
  have HB4 := Lib.hid (below_step HB1.out hb4)
  have hbz : w.heap.size ≤ W1.heap.size := HB1.out.size
  clear hown4 hg4 hi0 hz0 hz1 hz2 hb1 hb4 hm hcap hnn
  obtain ⟨b, hb⟩ : ∃ b, b = W1.heap.size := ⟨_, rfl⟩
  rw [← hb] at hrun HR4 hbz hPlt
  have hPw : w.heap.size ≤ P := by omega
  have hPwe := Lib.hid hP
  unfold stgV
  go_enter Try.func52, Try.ntmps52
  go_upto_region 1 with fail
  rw [← hW1, ← hP]
  clear hW1 hP hb
  go_wp2_with fail
  clear hrun
  go_loopw [13] (fun kv wr => ∃ k : Nat, k ≤ n ∧ kv = .int .i64 k ∧ Hid (RowZ b n ((l.take k).map (It.wgt s)) wr) ∧ Hid (wr.heap[P]? = some (.cells #[.int .i64 s.sg, .int .i64 s.o, .int .i64 s.e, .int .i64 s.bad] 56 (0, 0))) ∧ Hid (Below w.heap.size w wr)) (fun kv _ => n - (intOf kv).toNat)
  case atStart => exact ⟨0, Nat.zero_le _, rfl, HR4, HX4, HB4⟩
  case round =>
    obtain ⟨k, hk, rfl, HR, HX, HB⟩ := hrel
    clear HR4 HX4 HB4
    by_cases hlt : k < n
    · obtain ⟨b1, o1, d1, e1, r1⟩ := HA.out.2.2 (by rw [← Hn.out]; omega)
      rw [← Hn.out] at e1
      obtain ⟨rfl, rfl⟩ : p = some ⟨b1, o1, none⟩ ∧ cp = d1 := by injection e1 with a1 a2 a3; exact ⟨a1, a3⟩
      obtain ⟨g, hg⟩ : ∃ g, l[k]? = some g := ⟨_, List.getElem?_eq_getElem (by rw [← Hn.out]; exact hlt)⟩
      obtain ⟨y0, y1, y2, y3⟩ := gl_cells ((r1 k g hg).mono HB.out)
      have k0 : (0 : Int) ≤ (k : Int) := by omega
      have kl : (k : Int) < (n : Int) := by omega
      have hlen : ((l.take k).map (It.wgt s)).length = k := by rw [List.length_map, List.length_take, ← Hn.out]; omega
      have hb2 := below_alloc wr (.cells #[.int .i64 g.w, .int .i64 g.st, .int .i64 g.sk, .int .i64 g.o] 38)
      have HG2 := Lib.hid (obj_new wr _ rfl #[.int .i64 g.w, .int .i64 g.st, .int .i64 g.sk, .int .i64 g.o] 38)
      obtain ⟨W2, hW2⟩ : ∃ W2, W2 = wr.alloc (.cells #[.int .i64 g.w, .int .i64 g.st, .int .i64 g.sk, .int .i64 g.o] 38) := ⟨_, rfl⟩
      rw [← hW2] at hb2 HG2
      have HR2 := Lib.hid (HR.out.below hb2)
      have HX2 := Lib.hid (obj_kept hb2 HX.out)
      have HB2 := Lib.hid (below_step HB.out hb2)
      obtain ⟨Q, hQ⟩ : ∃ Q, Q = wr.heap.size := ⟨_, rfl⟩
      rw [← hQ] at HG2
      have hcell := HR2.out.cell (by rw [hlen]; exact hlt)
      rw [hlen] at hcell
      have hset := fun y => HR2.out.set (by rw [hlen]; exact hlt) y
      rw [hlen] at hset
      have HSet := Lib.hid hset
      have HZero := Lib.hid (HR2.out.zero (by rw [hlen]; exact hlt))
      have HNx : Hid ((l.take (k + 1)).map (It.wgt s) = (l.take k).map (It.wgt s) ++ [It.wgt s g]) := Lib.hid (by rw [It.take_snoc hg, List.map_append]; rfl)
      obtain ⟨hc1, hc2⟩ := hcell
      have s0 : W2.cell? ⟨P, 0, none⟩ = some (.int .i64 s.sg) := Lib.cell_of_heap HX2.out 0
      have s1 : W2.cell? ⟨P, 1, none⟩ = some (.int .i64 s.o) := Lib.cell_of_heap HX2.out 1
      have g1 : W2.cell? ⟨Q, 1, none⟩ = some (.int .i64 g.st) := Lib.cell_of_heap HG2.out 1
      have g2 : W2.cell? ⟨Q, 2, none⟩ = some (.int .i64 g.sk) := Lib.cell_of_heap HG2.out 2
      have g3 : W2.cell? ⟨Q, 3, none⟩ = some (.int .i64 g.o) := Lib.cell_of_heap HG2.out 3
      have hPb : P ≠ b := by omega
      clear r1 e1 hg hlen hset hb2
      by_cases hsg : s.sg < 0
      · have hw : It.wgt s g = g.sk := by unfold It.wgt; rw [if_pos hsg]
        have HRn : Hid (RowZ b n ((l.take (k + 1)).map (It.wgt s)) (W2.setCell ⟨b, k, none⟩ (.int .i64 g.sk))) := Lib.hid (by rw [HNx.out, hw]; exact HSet.out g.sk)
        have HXn := Lib.hid (obj_set (i := k) (v := .int .i64 g.sk) HX2.out hPb)
        have HBn := Lib.hid (HB2.out.setCell (p := ⟨b, k, none⟩) hbz (.int .i64 g.sk))
        clear hw
        go_upto_region 5 with fail
        rw [← hW2, ← hQ]
        clear hW2 hQ y0 y1 y2 y3
        go_wp2
        go_roundw
        case rel => exact ⟨k + 1, by omega, by go_num, HRn, HXn, HBn⟩
        case measure => simp [intOf]; omega
      · by_cases hgo : 0 < s.sg ∧ g.o = s.o
        · have hw : It.wgt s g = g.st := by unfold It.wgt; rw [if_neg hsg, if_pos hgo]
          have hs1 : (0 : Int) < s.sg := hgo.1
          have hob : (g.o == s.o) = true := by rw [hgo.2]; simp
          have HRn : Hid (RowZ b n ((l.take (k + 1)).map (It.wgt s)) (W2.setCell ⟨b, k, none⟩ (.int .i64 g.st))) := Lib.hid (by rw [HNx.out, hw]; exact HSet.out g.st)
          have HXn := Lib.hid (obj_set (i := k) (v := .int .i64 g.st) HX2.out hPb)
          have HBn := Lib.hid (HB2.out.setCell (p := ⟨b, k, none⟩) hbz (.int .i64 g.st))
          clear hw hgo
          go_upto_region 5 with fail
          rw [← hW2, ← hQ]
          clear hW2 hQ y0 y1 y2 y3
          go_wp2
          go_roundw
          case rel => exact ⟨k + 1, by omega, by go_num, HRn, HXn, HBn⟩
          case measure => simp [intOf]; omega
        · have hw : It.wgt s g = 0 := by unfold It.wgt; rw [if_neg hsg, if_neg hgo]
          have HRn : Hid (RowZ b n ((l.take (k + 1)).map (It.wgt s)) W2) := Lib.hid (by rw [HNx.out, hw]; exact HZero.out)
          clear hw
          by_cases hs1 : (0 : Int) < s.sg
          · have hob : (g.o == s.o) = false := by simp; exact fun h => hgo ⟨hs1, h⟩
            clear hgo
            go_upto_region 5 with fail
            rw [← hW2, ← hQ]
            clear hW2 hQ y0 y1 y2 y3
            go_wp2
            go_roundw
            case rel => exact ⟨k + 1, by omega, by go_num, HRn, HX2, HB2⟩
            case measure => simp [intOf]; omega
          · clear hgo
            go_upto_region 5 with fail
            rw [← hW2, ← hQ]
            clear hW2 hQ y0 y1 y2 y3
            go_wp2
            go_roundw
            case rel => exact ⟨k + 1, by omega, by go_num, HRn, HX2, HB2⟩
            case measure => simp [intOf]; omega
    · obtain rfl : k = n := by omega
      have hE : l.take k = l := List.take_of_length_le (by rw [← Hn.out]; omega)
      have HF : Hid (LensAt wr (.slice (some ⟨b, 0, none⟩) k k) (l.map (It.wgt s))) := Lib.hid (by
        have := HR.out.full (by rw [List.length_map, List.length_take, ← Hn.out]; omega) (by omega)
        rw [hE] at this
        exact this)
      clear hE
      go_wp2
      go_ret
      exact ⟨_, rfl, HF.out, HB.out⟩
end Go.Proofs.Ythcilpijiindeaa
