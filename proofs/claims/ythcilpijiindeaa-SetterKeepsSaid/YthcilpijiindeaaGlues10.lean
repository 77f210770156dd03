/-
  A line's glues: the landed Glues.
-/
import Derived.Test.YthcilpijiindeaaSt10
set_option linter.unusedVariables false
set_option linter.unusedSimpArgs false
namespace Go.Proofs.Ythcilpijiindeaa
open Go.RowKit

/-- the glues of items -/
def gla (l : List It.Itm) : List It.Gl := (l.filter It.gluey).map (·.g)
theorem gla_take {l : List It.Itm} {k : Nat} {x : It.Itm} (h : l[k]? = some x) : gla (l.take (k + 1)) = gla (l.take k) ++ if It.gluey x = true then [x.g] else [] := by
  unfold gla
  rw [It.take_snoc h, List.filter_append, List.map_append]
  cases e : It.gluey x with
  | true => simp [e]
  | false => simp [e]
theorem gla_len (l : List It.Itm) (k : Nat) : (gla (l.take k)).length ≤ k := by
  unfold gla
  rw [List.length_map]
  exact Nat.le_trans (List.length_filter_le _ _) (by rw [List.length_take]; omega)
theorem gluesN_is (l : List It.Itm) (s k : Nat) : It.gluesN l s k = gla ((l.take k).drop (It.st (l.take k) s)) ++ It.tailG l k := rfl
theorem tailG_pen {l : List It.Itm} {k : Nat} {x : It.Itm} (h : l[k]? = some x) (h2 : x.k = 2) : It.tailG l k = [⟨x.g.w, 0, 0, 0⟩] := by unfold It.tailG; rw [h]; simp [h2]
theorem tailG_not {l : List It.Itm} {k : Nat} {x : It.Itm} (h : l[k]? = some x) (h2 : ¬ x.k = 2) : It.tailG l k = [] := by unfold It.tailG; rw [h]; simp [h2]

set_option maxHeartbeats 8000000 in
set_option maxRecDepth 100000 in
theorem glues_any (v : Value) (l : List It.Itm) (a b : Int) (s k : Nat) (hs : a + 1 = (s : Int)) (hb : b = (k : Int)) (hsk : s ≤ k) (hkl : k < l.length) (hlen : l.length ≤ 2000) (w : World) (h : ItsAt w v l) :
    Calls Try.prog 31 #[v, .int .i64 a, .int .i64 b] w fun e w' => ∃ u, e = .returned u ∧ OwnG w.heap.size u (It.gluesN l s k) w' ∧ Below w.heap.size w w' := by
  subst hb
  have HA := Lib.hid h
  have HX := Lib.hid (isIndex_any v l (k : Int) true (decide_eq_true ⟨by omega, by omega⟩) w h)
  obtain ⟨⟨p, cp, rfl, hcap⟩, hm, _⟩ := h
  obtain ⟨x, hx⟩ : ∃ x, l[k]? = some x := ⟨_, List.getElem?_eq_getElem hkl⟩
  have HXk := Lib.hid hx
  have htl : (l.take k).length = k := by rw [List.length_take]; omega
  have hmb := st_bound (l.take k) s (by rw [htl]; exact hsk)
  rw [htl] at hmb
  have HSt := Lib.hid (fun w h => start_any (.slice p k cp) (l.take k) a s hs (by rw [htl]; exact hsk) w h)
  have HG := Lib.hid (gluesN_is l s k)
  have HHd := Lib.hid (slc_head HA.out k (by omega))
  obtain ⟨m, hmd⟩ : ∃ m, m = It.st (l.take k) s := ⟨_, rfl⟩
  rw [← hmd] at HSt HG hmb
  have HMid := Lib.hid (slc_mid rfl HA.out m k hmb.2 (by omega))
  have hs1 := fun wx => run_head9 p l.length k cp (by omega) wx
  have hs2 : ∀ wx, (Instr.sliceAt 22 (.slice p l.length cp) none (some (.int .i64 (k : Int))) none).run Try.prog wx = .ok (.slice p k cp) wx := fun wx => by rw [run_sliceAt_slice (h := by rw [elemIt]; exact Try.underlying22)]; exact hs1 wx
  have hs3 := fun wx => run_mid10 p l.length m k cp hmb.2 (by omega) wx
  have hs4 : ∀ wx, (Instr.sliceAt 22 (.slice p l.length cp) (some (.int .i64 (m : Int))) (some (.int .i64 (k : Int))) none).run Try.prog wx = .ok (.slice (tailA p m cp) (k - m) (cp - m)) wx := fun wx => by rw [run_sliceAt_slice (h := by rw [elemIt]; exact Try.underlying22)]; exact hs3 wx
  have hlI : ((l.take k).drop m).length = k - m := by rw [List.length_drop, htl]
  generalize (l.take k).drop m = I at HG HMid hlI
  generalize It.gluesN l s k = R at HG ⊢
  obtain ⟨T, hT⟩ : ∃ T, T = It.tailG l k := ⟨_, rfl⟩
  have HT := Lib.hid hT
  rw [← hT] at HG
  obtain ⟨q, hq⟩ : ∃ q, q = tailA p m cp := ⟨_, rfl⟩
  rw [← hq] at hs3 hs4 HMid
  obtain ⟨c2, hc2⟩ : ∃ c2, c2 = cp - m := ⟨_, rfl⟩
  rw [← hc2] at hs3 hs4 HMid
  obtain ⟨c, hc⟩ : ∃ c, c = k - m := ⟨_, rfl⟩
  rw [← hc] at hs3 hs4 HMid hlI
  have hc2000 : c ≤ 2000 := by omega
  have hcw : wrap64 ((c : Int) + 1) = (c : Int) + 1 := w64 (by omega) (by omega)
  obtain ⟨n, hn⟩ : ∃ n, n = l.length := ⟨_, rfl⟩
  have Hn := Lib.hid hn
  have k0 : (0 : Int) ≤ (k : Int) := by omega
  have kl : (k : Int) < (n : Int) := by omega
  have HlI := Lib.hid hlI
  have HC := Lib.hid hc2000
  rw [← hn] at hs1 hs2 hs3 hs4 HX ⊢
  clear hcap hm hs hsk htl hx hT hmd hmb hq hc2 hc hkl hlen hlI hn
  go_enter Try.func31, Try.ntmps31
  go_wp2_with fail
  refine HX.out.mono ?_
  rintro e w1 ⟨rfl, rfl⟩
  go_wp2_with fail
  refine (HSt.out _ HHd.out).mono ?_
  rintro e w3 ⟨rfl, hb3⟩
  have HB3 := Lib.hid hb3
  clear hb3
  obtain ⟨i0, hi0, hz0, hz1, hz2⟩ := info_parts infoGl
  obtain ⟨W4, hrun, hown4, hg4⟩ := run_make_own (P := Try.prog) w3 w.heap.size 62 38 i0 _ 4 Try.underlying62 hi0 hz0 hz1 .i64 .i64 (c + 1) (by rw [hz2]; omega) (by unfold maxLen; omega) HB3.out.size
  have hrun' : (Instr.makeSlice 62 (.int .i64 0) (.int .i64 ((c : Int) + 1))).run Try.prog w3 = .ok (.slice (some ⟨w3.heap.size, 0, none⟩) 0 (c + 1)) W4 := hrun
  have HO4 : Hid (OwnG w.heap.size (.slice (some ⟨w3.heap.size, 0, none⟩) 0 (c + 1)) (gla (I.take 0)) W4) := Lib.hid hown4
  have HB4 : Hid (Below w.heap.size w W4) := Lib.hid (HB3.out.grown (row := none) hg4 HB3.out.size (fun q h => by cases h))
  clear hown4 hg4 hrun hi0 hz0 hz1 hz2
  go_wp2_with fail
  obtain ⟨g0, hg0⟩ : ∃ g0, g0 = (.slice (some ⟨w3.heap.size, 0, none⟩) 0 (c + 1) : Value) := ⟨_, rfl⟩
  rw [← hg0] at HO4
  clear hrun'
  go_loopw [8, 29] (fun ov iv wr => ∃ j : Nat, j ≤ c ∧ iv = .int .i64 j ∧ Hid (OwnG w.heap.size ov (gla (I.take j)) wr) ∧ Hid (Below w.heap.size w wr)) (fun _ iv _ => c - (intOf iv).toNat)
  case atStart => exact ⟨0, Nat.zero_le _, rfl, by rw [← hg0]; exact HO4, HB4⟩
  case round =>
    obtain ⟨j, hj, rfl, HO, HB⟩ := hrel
    clear HO4 HB4 hg0 hs1 hs2 hs3 hs4
    by_cases hlt : j < c
    · obtain ⟨b1, o1, d1, e1, r1⟩ := HMid.out.2.2 (by rw [HlI.out]; omega)
      rw [HlI.out] at e1
      obtain ⟨rfl, rfl⟩ : q = some ⟨b1, o1, none⟩ ∧ c2 = d1 := by injection e1 with a1 a2 a3; exact ⟨a1, a3⟩
      obtain ⟨y, hy⟩ : ∃ y, I[j]? = some y := ⟨_, List.getElem?_eq_getElem (by rw [HlI.out]; exact hlt)⟩
      obtain ⟨y0, y1, y2, y3, y4, y5, y6, y7, y8⟩ := it_cells ((r1 j y hy).mono HB.out)
      have j0 : (0 : Int) ≤ (j : Int) := by omega
      have jl : (j : Int) < (c : Int) := by omega
      have HN := Lib.hid (gla_take hy)
      have HLk := Lib.hid (gla_len I j)
      have hcc := HC.out
      clear r1 e1 hy
      by_cases hgl : y.k = 0 ∨ y.k = 1
      · have HY : Hid (gla (I.take (j + 1)) = gla (I.take j) ++ [y.g]) := Lib.hid (by
          rw [HN.out, if_pos]
          unfold It.gluey
          rcases hgl with h | h <;> rw [h] <;> rfl)
        rcases hgl with h | h
        · rw [h] at y0
          have HO4 := Lib.hid ((HO.out.mono (below_alloc wr (.cells #[.int .i64 0, .int .i64 y.g.w, .int .i64 y.g.st, .int .i64 y.g.sk, .int .i64 y.g.o, .int .i64 y.p, .bool y.f, .int .i64 y.n, .int .i64 y.q] 40))).mono (below_alloc (wr.alloc (.cells #[.int .i64 0, .int .i64 y.g.w, .int .i64 y.g.st, .int .i64 y.g.sk, .int .i64 y.g.o, .int .i64 y.p, .bool y.f, .int .i64 y.n, .int .i64 y.q] 40)) (.cells #[.int .i64 y.g.w, .int .i64 y.g.st, .int .i64 y.g.sk, .int .i64 y.g.o] 38)))
          have HS4 := Lib.hid (slc_new glC_len (wr.alloc (.cells #[.int .i64 0, .int .i64 y.g.w, .int .i64 y.g.st, .int .i64 y.g.sk, .int .i64 y.g.o, .int .i64 y.p, .bool y.f, .int .i64 y.n, .int .i64 y.q] 40)) _ rfl [y.g] 38 (by simp) #[.int .i64 y.g.w, .int .i64 y.g.st, .int .i64 y.g.sk, .int .i64 y.g.o] rfl)
          have HB4 := Lib.hid (below_step (below_step HB.out (below_alloc wr (.cells #[.int .i64 0, .int .i64 y.g.w, .int .i64 y.g.st, .int .i64 y.g.sk, .int .i64 y.g.o, .int .i64 y.p, .bool y.f, .int .i64 y.n, .int .i64 y.q] 40))) (below_alloc (wr.alloc (.cells #[.int .i64 0, .int .i64 y.g.w, .int .i64 y.g.st, .int .i64 y.g.sk, .int .i64 y.g.o, .int .i64 y.p, .bool y.f, .int .i64 y.n, .int .i64 y.q] 40)) (.cells #[.int .i64 y.g.w, .int .i64 y.g.st, .int .i64 y.g.sk, .int .i64 y.g.o] 38)))
          have hz4 := HB4.out.size
          simp only [World.size_alloc] at HS4
          go_wp2_with (at_builtin; refine wpList_append_slc Try.underlying62 infoGl rfl (by decide) glC_len glC_cell rfl _ _ rfl w.heap.size _ _ (gla (I.take j)) [y.g] rfl HO4.out rfl HS4.out (by have := HLk.out; simp; omega) (by have := HLk.out; unfold maxLen; simp; omega) hz4 ?_; intro v9 w9 h9 hg9; have HO9 := Lib.hid h9; have HB9 := Lib.hid (below_app HB4.out hg9 HO4.out hz4); clear h9 hg9)
          go_roundw
          case rel => exact ⟨j + 1, by omega, by go_num, Lib.hid (by rw [HY.out]; exact HO9.out), HB9⟩
          case measure => simp [intOf]; omega
        · rw [h] at y0
          have HO4 := Lib.hid ((HO.out.mono (below_alloc wr (.cells #[.int .i64 1, .int .i64 y.g.w, .int .i64 y.g.st, .int .i64 y.g.sk, .int .i64 y.g.o, .int .i64 y.p, .bool y.f, .int .i64 y.n, .int .i64 y.q] 40))).mono (below_alloc (wr.alloc (.cells #[.int .i64 1, .int .i64 y.g.w, .int .i64 y.g.st, .int .i64 y.g.sk, .int .i64 y.g.o, .int .i64 y.p, .bool y.f, .int .i64 y.n, .int .i64 y.q] 40)) (.cells #[.int .i64 y.g.w, .int .i64 y.g.st, .int .i64 y.g.sk, .int .i64 y.g.o] 38)))
          have HS4 := Lib.hid (slc_new glC_len (wr.alloc (.cells #[.int .i64 1, .int .i64 y.g.w, .int .i64 y.g.st, .int .i64 y.g.sk, .int .i64 y.g.o, .int .i64 y.p, .bool y.f, .int .i64 y.n, .int .i64 y.q] 40)) _ rfl [y.g] 38 (by simp) #[.int .i64 y.g.w, .int .i64 y.g.st, .int .i64 y.g.sk, .int .i64 y.g.o] rfl)
          have HB4 := Lib.hid (below_step (below_step HB.out (below_alloc wr (.cells #[.int .i64 1, .int .i64 y.g.w, .int .i64 y.g.st, .int .i64 y.g.sk, .int .i64 y.g.o, .int .i64 y.p, .bool y.f, .int .i64 y.n, .int .i64 y.q] 40))) (below_alloc (wr.alloc (.cells #[.int .i64 1, .int .i64 y.g.w, .int .i64 y.g.st, .int .i64 y.g.sk, .int .i64 y.g.o, .int .i64 y.p, .bool y.f, .int .i64 y.n, .int .i64 y.q] 40)) (.cells #[.int .i64 y.g.w, .int .i64 y.g.st, .int .i64 y.g.sk, .int .i64 y.g.o] 38)))
          have hz4 := HB4.out.size
          simp only [World.size_alloc] at HS4
          go_wp2_with (at_builtin; refine wpList_append_slc Try.underlying62 infoGl rfl (by decide) glC_len glC_cell rfl _ _ rfl w.heap.size _ _ (gla (I.take j)) [y.g] rfl HO4.out rfl HS4.out (by have := HLk.out; simp; omega) (by have := HLk.out; unfold maxLen; simp; omega) hz4 ?_; intro v9 w9 h9 hg9; have HO9 := Lib.hid h9; have HB9 := Lib.hid (below_app HB4.out hg9 HO4.out hz4); clear h9 hg9)
          go_roundw
          case rel => exact ⟨j + 1, by omega, by go_num, Lib.hid (by rw [HY.out]; exact HO9.out), HB9⟩
          case measure => simp [intOf]; omega
      · have HY : Hid (gla (I.take (j + 1)) = gla (I.take j)) := Lib.hid (by
          rw [HN.out, if_neg, List.append_nil]
          unfold It.gluey
          simp only [Bool.or_eq_true, decide_eq_true_eq]
          exact hgl)
        have h0 : ¬ y.k = 0 := fun h => hgl (.inl h)
        have h1 : ¬ y.k = 1 := fun h => hgl (.inr h)
        have q0 : (y.k == 0) = false := by simp [h0]
        have q1 : (y.k == 1) = false := by simp [h1]
        have HB2 := Lib.hid (below_step HB.out (below_alloc wr (.cells #[.int .i64 y.k, .int .i64 y.g.w, .int .i64 y.g.st, .int .i64 y.g.sk, .int .i64 y.g.o, .int .i64 y.p, .bool y.f, .int .i64 y.n, .int .i64 y.q] 40)))
        have HO2 := Lib.hid (HO.out.mono (below_alloc wr (.cells #[.int .i64 y.k, .int .i64 y.g.w, .int .i64 y.g.st, .int .i64 y.g.sk, .int .i64 y.g.o, .int .i64 y.p, .bool y.f, .int .i64 y.n, .int .i64 y.q] 40)))
        clear hgl
        go_wp2
        go_roundw
        case rel => exact ⟨j + 1, by omega, by go_num, Lib.hid (by rw [HY.out]; exact HO2.out), HB2⟩
        case measure => simp [intOf]; omega
    · have HE : Hid (I.take j = I) := Lib.hid (List.take_of_length_le (by rw [HlI.out]; omega))
      rw [HE.out] at HO
      obtain ⟨b1, o1, d1, e1, r1⟩ := HA.out.2.2 (by rw [← Hn.out]; omega)
      obtain ⟨rfl, rfl⟩ : p = some ⟨b1, o1, none⟩ ∧ cp = d1 := by injection e1 with a1 a2 a3; exact ⟨a1, a3⟩
      obtain ⟨y0, y1, y2, y3, y4, y5, y6, y7, y8⟩ := it_cells ((r1 k x HXk.out).mono HB.out)
      have HLk : Hid ((gla I).length ≤ 2000) := Lib.hid (by have := gla_len I j; rw [HE.out] at this; have := HC.out; omega)
      clear r1 e1
      by_cases h2 : x.k = 2
      · have HR : Hid (R = gla I ++ [⟨x.g.w, 0, 0, 0⟩]) := Lib.hid (by rw [HG.out, HT.out, tailG_pen HXk.out h2])
        rw [h2] at y0
        have HO4 := Lib.hid (HO.out.mono (below_alloc wr (.cells #[.int .i64 x.g.w, .int .i64 0, .int .i64 0, .int .i64 0] 38)))
        have HS4 := Lib.hid (slc_new glC_len wr wr.heap.size rfl [⟨x.g.w, 0, 0, 0⟩] 38 (by simp) #[.int .i64 x.g.w, .int .i64 0, .int .i64 0, .int .i64 0] rfl)
        have HB4 := Lib.hid (below_step HB.out (below_alloc wr (.cells #[.int .i64 x.g.w, .int .i64 0, .int .i64 0, .int .i64 0] 38)))
        have hz4 := HB4.out.size
        go_wp2_with (at_builtin; refine wpList_append_slc Try.underlying62 infoGl rfl (by decide) glC_len glC_cell rfl _ _ rfl w.heap.size _ _ (gla I) [⟨x.g.w, 0, 0, 0⟩] rfl HO4.out rfl HS4.out (by have := HLk.out; simp; omega) (by have := HLk.out; unfold maxLen; simp; omega) hz4 ?_; intro v9 w9 h9 hg9; have HO9 := Lib.hid h9; have HB9 := Lib.hid (below_app HB4.out hg9 HO4.out hz4); clear h9 hg9)
        go_ret
        exact ⟨_, rfl, by rw [HR.out]; exact HO9.out, HB9.out⟩
      · have HR : Hid (R = gla I) := Lib.hid (by rw [HG.out, HT.out, tailG_not HXk.out h2, List.append_nil])
        go_wp2
        go_ret
        exact ⟨_, rfl, by rw [HR.out]; exact HO.out, HB.out⟩
end Go.Proofs.Ythcilpijiindeaa
