/-
  A line's glues: the reference's Glues.
-/
import Derived.Test.YthcilpijiindeaaGlues10
set_option linter.unusedVariables false
set_option linter.unusedSimpArgs false
namespace Go.Proofs.Ythcilpijiindeaa
open Go.RowKit

theorem st_take {l : List It.Itm} {s k : Nat} (hs : s ≤ k) (hk : k ≤ l.length) : It.st (l.take k) s = min (It.st l s) k := by
  unfold It.st
  rw [List.drop_take, List.findIdx_take]
  omega
theorem gluesN_of {l : List It.Itm} {s k : Nat} (hs : s ≤ k) (hk : k ≤ l.length) (hm : It.st l s ≤ k) : It.gluesN l s k = gla ((l.take k).drop (It.st l s)) ++ It.tailG l k := by
  rw [gluesN_is, st_take hs hk, Nat.min_eq_left hm]
theorem take_drop_next {l : List It.Itm} {m i : Nat} {x : It.Itm} (hx : l[i]? = some x) (hm : m ≤ i) : (l.take (i + 1)).drop m = (l.take i).drop m ++ [x] := by
  have hi := (List.getElem?_eq_some_iff.1 hx).1
  rw [It.take_snoc hx, List.drop_append_of_le_length (by rw [List.length_take]; omega)]
theorem gla_next {l : List It.Itm} {m i : Nat} {x : It.Itm} (hx : l[i]? = some x) (hm : m ≤ i) : gla ((l.take (i + 1)).drop m) = gla ((l.take i).drop m) ++ if It.gluey x = true then [x.g] else [] := by
  rw [take_drop_next hx hm]
  unfold gla
  rw [List.filter_append, List.map_append]
  cases e : It.gluey x with
  | true => simp [e]
  | false => simp [e]
theorem gla_len2 (l : List It.Itm) (m i : Nat) (hm : m ≤ i) : (gla ((l.take i).drop m)).length ≤ i - m := by
  unfold gla
  rw [List.length_map]
  exact Nat.le_trans (List.length_filter_le _ _) (by rw [List.length_drop, List.length_take]; omega)

set_option maxHeartbeats 8000000 in
set_option maxRecDepth 100000 in
theorem refGlues10_any (v : Value) (l : List It.Itm) (a b : Int) (s k : Nat) (hs : a + 1 = (s : Int)) (hb : b = (k : Int)) (hsk : s ≤ k) (hkl : k < l.length) (hmk : It.st l s ≤ k) (hlen : l.length ≤ 2000) (w : World) (h : ItsAt w v l) :
    Calls Try.prog 37 #[v, .int .i64 a, .int .i64 b] w fun e w' => ∃ u, e = .returned u ∧ OwnG w.heap.size u (It.gluesN l s k) w' ∧ Below w.heap.size w w' := by
  subst hb
  have HA := Lib.hid h
  have HG := Lib.hid (gluesN_of hsk (Nat.le_of_lt hkl) hmk)
  obtain ⟨x, hx⟩ : ∃ x, l[k]? = some x := ⟨_, List.getElem?_eq_getElem hkl⟩
  have HXk := Lib.hid hx
  have HSt := Lib.hid (fun w h => refStart_any v l a s hs (by omega) w h)
  obtain ⟨m, hmd⟩ : ∃ m, m = It.st l s := ⟨_, rfl⟩
  rw [← hmd] at HSt HG hmk
  generalize It.gluesN l s k = R at HG ⊢
  obtain ⟨T, hT⟩ : ∃ T, T = It.tailG l k := ⟨_, rfl⟩
  have HT := Lib.hid hT
  rw [← hT] at HG
  obtain ⟨⟨p, cp, rfl, hcap⟩, hm, _⟩ := h
  obtain ⟨n, hn⟩ : ∃ n, n = l.length := ⟨_, rfl⟩
  have Hn := Lib.hid hn
  have k0 : (0 : Int) ≤ (k : Int) := by omega
  have kl : (k : Int) < (n : Int) := by omega
  have hk2 : k ≤ 2000 := by omega
  have HLk := Lib.hid (show k ≤ l.length by omega)
  rw [← hn] at HSt ⊢
  clear hcap hm hs hsk hx hT hmd hlen hn hkl
  have HO0 : Hid (OwnG w.heap.size (.slice (some ⟨w.heap.size, 0, none⟩) 0 0) (gla ((l.take m).drop m)) (w.alloc (.cells #[] 38))) := Lib.hid (by
    rw [List.drop_of_length_le (by rw [List.length_take]; omega)]
    exact own_empty _ _ _ w)
  have HB0 := Lib.hid (below_alloc w (.cells #[] 38))
  obtain ⟨W1, hW1⟩ : ∃ W1, W1 = w.alloc (.cells #[] 38) := ⟨_, rfl⟩
  rw [← hW1] at HO0 HB0
  have HI1 := Lib.hid (SlcAt.mono HA.out HB0.out)
  rw [← Hn.out] at HI1
  go_enter Try.func37, Try.ntmps37
  go_wp2_with fail
  rw [← hW1]
  clear hW1
  refine (HSt.out _ HI1.out).mono ?_
  rintro e w2 ⟨rfl, hb2⟩
  have HO2 := Lib.hid (HO0.out.mono hb2)
  have HB2 := Lib.hid (below_step HB0.out hb2)
  clear hb2 HO0
  obtain ⟨g0, hg0⟩ : ∃ g0, g0 = (.slice (some ⟨w.heap.size, 0, none⟩) 0 0 : Value) := ⟨_, rfl⟩
  rw [← hg0] at HO2
  go_wp2_with fail
  go_loopw [7, 9] (fun ov iv wr => ∃ j : Nat, m ≤ j ∧ j ≤ k ∧ iv = .int .i64 j ∧ Hid (OwnG w.heap.size ov (gla ((l.take j).drop m)) wr) ∧ Hid (Below w.heap.size w wr)) (fun _ iv _ => k - (intOf iv).toNat)
  case atStart => exact ⟨m, Nat.le_refl _, hmk, rfl, by rw [← hg0]; exact HO2, HB2⟩
  case round =>
    obtain ⟨j, hmj, hj, rfl, HO, HB⟩ := hrel
    clear HO2 HB2 hg0 hmk
    obtain ⟨b1, o1, d1, e1, r1⟩ := HA.out.2.2 (by rw [← Hn.out]; omega)
    obtain ⟨rfl, rfl⟩ : p = some ⟨b1, o1, none⟩ ∧ cp = d1 := by injection e1 with a1 a2 a3; exact ⟨a1, a3⟩
    by_cases hlt : j < k
    · obtain ⟨y, hy⟩ : ∃ y, l[j]? = some y := ⟨_, List.getElem?_eq_getElem (by have := HLk.out; omega)⟩
      obtain ⟨y0, y1, y2, y3, y4, y5, y6, y7, y8⟩ := it_cells ((r1 j y hy).mono HB.out)
      have j0 : (0 : Int) ≤ (j : Int) := by omega
      have jk : (j : Int) < (k : Int) := by omega
      have jl : (j : Int) < (n : Int) := by omega
      have HN := Lib.hid (gla_next hy hmj)
      have HLg := Lib.hid (gla_len2 l m j hmj)
      clear r1 e1 hy
      by_cases hgl : y.k = 0 ∨ y.k = 1
      · have HY : Hid (gla ((l.take (j + 1)).drop m) = gla ((l.take j).drop m) ++ [y.g]) := Lib.hid (by
          rw [HN.out, if_pos]
          unfold It.gluey
          rcases hgl with h | h <;> rw [h] <;> rfl)
        have HO4 := Lib.hid (HO.out.mono (below_alloc wr (.cells #[.int .i64 y.g.w, .int .i64 y.g.st, .int .i64 y.g.sk, .int .i64 y.g.o] 38)))
        have HS4 := Lib.hid (slc_new glC_len wr wr.heap.size rfl [y.g] 38 (by simp) #[.int .i64 y.g.w, .int .i64 y.g.st, .int .i64 y.g.sk, .int .i64 y.g.o] rfl)
        have HB4 := Lib.hid (below_step HB.out (below_alloc wr (.cells #[.int .i64 y.g.w, .int .i64 y.g.st, .int .i64 y.g.sk, .int .i64 y.g.o] 38)))
        have hz4 := HB4.out.size
        rcases hgl with h | h
        all_goals
          rw [h] at y0
          go_wp2_with (at_builtin; refine wpList_append_slc Try.underlying62 infoGl rfl (by decide) glC_len glC_cell rfl _ _ rfl w.heap.size _ _ (gla ((l.take j).drop m)) [y.g] rfl HO4.out rfl HS4.out (by have := HLg.out; simp; omega) (by have := HLg.out; unfold maxLen; simp; omega) hz4 ?_; intro v9 w9 h9 hg9; have HO9 := Lib.hid h9; have HB9 := Lib.hid (below_app HB4.out hg9 HO4.out hz4); clear h9 hg9)
          go_roundw
          case rel => exact ⟨j + 1, by omega, by omega, by go_num, Lib.hid (by rw [HY.out]; exact HO9.out), HB9⟩
          case measure => simp [intOf]; omega
      · have HY : Hid (gla ((l.take (j + 1)).drop m) = gla ((l.take j).drop m)) := Lib.hid (by
          rw [HN.out, if_neg, List.append_nil]
          unfold It.gluey
          simp only [Bool.or_eq_true, decide_eq_true_eq]
          exact hgl)
        have h0 : ¬ y.k = 0 := fun h => hgl (.inl h)
        have h1 : ¬ y.k = 1 := fun h => hgl (.inr h)
        have q0 : (y.k == 0) = false := by simp [h0]
        have q1 : (y.k == 1) = false := by simp [h1]
        clear hgl
        go_wp2
        go_roundw
        case rel => exact ⟨j + 1, by omega, by omega, by go_num, Lib.hid (by rw [HY.out]; exact HO.out), HB⟩
        case measure => simp [intOf]; omega
    · obtain rfl : j = k := by omega
      obtain ⟨y0, y1, y2, y3, y4, y5, y6, y7, y8⟩ := it_cells ((r1 j x HXk.out).mono HB.out)
      have HLg := Lib.hid (gla_len2 l m j hmj)
      clear r1 e1
      by_cases h2 : x.k = 2
      · have HR : Hid (R = gla ((l.take j).drop m) ++ [⟨x.g.w, 0, 0, 0⟩]) := Lib.hid (by rw [HG.out, HT.out, tailG_pen HXk.out h2])
        rw [h2] at y0
        have HO4 := Lib.hid (HO.out.mono (below_alloc wr (.cells #[.int .i64 x.g.w, .int .i64 0, .int .i64 0, .int .i64 0] 38)))
        have HS4 := Lib.hid (slc_new glC_len wr wr.heap.size rfl [⟨x.g.w, 0, 0, 0⟩] 38 (by simp) #[.int .i64 x.g.w, .int .i64 0, .int .i64 0, .int .i64 0] rfl)
        have HB4 := Lib.hid (below_step HB.out (below_alloc wr (.cells #[.int .i64 x.g.w, .int .i64 0, .int .i64 0, .int .i64 0] 38)))
        have hz4 := HB4.out.size
        go_wp2_with (at_builtin; refine wpList_append_slc Try.underlying62 infoGl rfl (by decide) glC_len glC_cell rfl _ _ rfl w.heap.size _ _ (gla ((l.take j).drop m)) [⟨x.g.w, 0, 0, 0⟩] rfl HO4.out rfl HS4.out (by have := HLg.out; simp; omega) (by have := HLg.out; unfold maxLen; simp; omega) hz4 ?_; intro v9 w9 h9 hg9; have HO9 := Lib.hid h9; have HB9 := Lib.hid (below_app HB4.out hg9 HO4.out hz4); clear h9 hg9)
        go_ret
        exact ⟨_, rfl, by rw [HR.out]; exact HO9.out, HB9.out⟩
      · have HR : Hid (R = gla ((l.take j).drop m)) := Lib.hid (by rw [HG.out, HT.out, tailG_not HXk.out h2, List.append_nil])
        go_wp2
        go_ret
        exact ⟨_, rfl, by rw [HR.out]; exact HO.out, HB.out⟩
end Go.Proofs.Ythcilpijiindeaa
