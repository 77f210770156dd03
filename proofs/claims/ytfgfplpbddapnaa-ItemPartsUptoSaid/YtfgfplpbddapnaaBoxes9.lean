/-
  Both Boxes, and Same.
-/
import Derived.Test.YtfgfplpbddapnaaApp9
set_option linter.unusedVariables false
set_option linter.unusedSimpArgs false
namespace Go.Proofs.Ytfgfplpbddapnaa
open Go.RowKit

theorem boxes_yes {l : List It.Itm} {k : Nat} {x : It.Itm} (h : l[k]? = some x) (hk : x.k = 0) : It.boxes (l.take (k + 1)) = It.boxes (l.take k) ++ [x] := by
  rw [It.take_snoc h, It.boxes_app]
  unfold It.boxes
  rw [List.filter_cons_of_pos (by simp [hk])]; rfl
theorem boxes_no {l : List It.Itm} {k : Nat} {x : It.Itm} (h : l[k]? = some x) (hk : x.k ≠ 0) : It.boxes (l.take (k + 1)) = It.boxes (l.take k) := by
  rw [It.take_snoc h, It.boxes_app]
  unfold It.boxes
  rw [List.filter_cons_of_neg (by simp [hk]), List.filter_nil, List.append_nil]
theorem boxes_len (l : List It.Itm) (k : Nat) : (It.boxes (l.take k)).length ≤ k := by
  have := List.length_filter_le (fun x : It.Itm => decide (x.k = 0)) (l.take k)
  have h2 := List.length_take_le k l
  unfold It.boxes
  omega

set_option maxHeartbeats 8000000 in
set_option maxRecDepth 100000 in
theorem itemBoxes_any (v : Value) (l : List It.Itm) (w : World) (h : ItsAt w v l) (hlen : l.length * 72 ≤ 140737488355328) : Calls Try.prog 14 #[v] w fun e w' => ∃ u, e = .returned u ∧ OwnX w.heap.size u (It.boxes l) w' ∧ Below w.heap.size w w' := by
  have HA := Lib.hid h
  obtain ⟨⟨a, cp, rfl, hcap⟩, hm, _⟩ := h
  have hza : l.length ≤ 9223372036854775807 := by unfold maxLen at hm; omega
  obtain ⟨n, hn⟩ : ∃ n, n = l.length := ⟨_, rfl⟩
  have Hn := Lib.hid hn
  rw [← hn] at hza hlen ⊢
  have HL := Lib.hid hlen
  clear hn hm hcap hlen
  go_enter Try.func14, Try.ntmps14
  go_wp2_with fail
  go_loopw [3, 8] (fun ov iv wr => ∃ k : Nat, k ≤ n ∧ iv = .int .i64 k ∧ Hid (OwnX w.heap.size ov (It.boxes (l.take k)) wr) ∧ Hid (Below w.heap.size w wr)) (fun _ iv _ => n - (intOf iv).toNat)
  case atStart => exact ⟨0, Nat.zero_le _, rfl, Lib.hid (ownR_nil _ _ _ _ _), Lib.hid (Below.refl _ _)⟩
  case round =>
    obtain ⟨k, hk, rfl, HO, HB⟩ := hrel
    by_cases hlt : k < n
    · obtain ⟨b1, o1, d1, e1, r1⟩ := HA.out.2.2 (by rw [← Hn.out]; omega)
      obtain ⟨rfl, rfl⟩ : a = some ⟨b1, o1, none⟩ ∧ cp = d1 := by injection e1 with a1 a2 a3; exact ⟨a1, a3⟩
      obtain ⟨x, hx⟩ : ∃ x, l[k]? = some x := ⟨_, List.getElem?_eq_getElem (by rw [← Hn.out]; exact hlt)⟩
      obtain ⟨y0, y1, y2, y3, y4, y5, y6, y7, y8⟩ := it_cells ((r1 k x hx).mono HB.out)
      have k0 : (0 : Int) ≤ (k : Int) := by omega
      have kl : (k : Int) < (n : Int) := by omega
      have HX := Lib.hid hx
      have HLt := Lib.hid hlt
      obtain ⟨W2, hW2⟩ : ∃ W2, W2 = wr.alloc (.cells #[.int .i64 x.k, .int .i64 x.g.w, .int .i64 x.g.st, .int .i64 x.g.sk, .int .i64 x.g.o, .int .i64 x.p, .bool x.f, .int .i64 x.n, .int .i64 x.q] 45) := ⟨_, rfl⟩
      have HB2 := Lib.hid (below_step HB.out (below_alloc wr (.cells #[.int .i64 x.k, .int .i64 x.g.w, .int .i64 x.g.st, .int .i64 x.g.sk, .int .i64 x.g.o, .int .i64 x.p, .bool x.f, .int .i64 x.n, .int .i64 x.q] 45)))
      have HG2 := Lib.hid (obj_new wr _ rfl #[.int .i64 x.k, .int .i64 x.g.w, .int .i64 x.g.st, .int .i64 x.g.sk, .int .i64 x.g.o, .int .i64 x.p, .bool x.f, .int .i64 x.n, .int .i64 x.q] 45)
      have HO2 := Lib.hid (HO.out.mono (below_alloc wr (.cells #[.int .i64 x.k, .int .i64 x.g.w, .int .i64 x.g.st, .int .i64 x.g.sk, .int .i64 x.g.o, .int .i64 x.p, .bool x.f, .int .i64 x.n, .int .i64 x.q] 45)))
      rw [← hW2] at HB2 HG2 HO2
      clear r1 e1 hx
      by_cases hx0 : x.k = 0
      · have HN := Lib.hid (boxes_yes HX.out hx0)
        have HX0 := Lib.hid hx0
        have c0 : W2.cell? ⟨wr.heap.size, 0, none⟩ = some (.int .i64 0) := by rw [← hx0]; exact Lib.cell_of_heap HG2.out 0
        clear hx0
        go_upto_region 5 with fail
        rw [← hW2]
        clear hW2
        have c1 := Lib.cell_of_heap HG2.out 1
        have c2 := Lib.cell_of_heap HG2.out 2
        have c3 := Lib.cell_of_heap HG2.out 3
        have c4 := Lib.cell_of_heap HG2.out 4
        have c5 := Lib.cell_of_heap HG2.out 5
        have c6 := Lib.cell_of_heap HG2.out 6
        have c7 := Lib.cell_of_heap HG2.out 7
        have c8 := Lib.cell_of_heap HG2.out 8
        have HO4 := Lib.hid (HO2.out.mono (below_alloc W2 (.cells #[.int .i64 0, .int .i64 x.g.w, .int .i64 x.g.st, .int .i64 x.g.sk, .int .i64 x.g.o, .int .i64 x.p, .bool x.f, .int .i64 x.n, .int .i64 x.q] 45)))
        have HS4 := Lib.hid (slc_new itC_len W2 W2.heap.size rfl [x] 45 (by simp) #[.int .i64 0, .int .i64 x.g.w, .int .i64 x.g.st, .int .i64 x.g.sk, .int .i64 x.g.o, .int .i64 x.p, .bool x.f, .int .i64 x.n, .int .i64 x.q] (by simp [itC, HX0.out]))
        have HB4 := Lib.hid (below_step HB2.out (below_alloc W2 (.cells #[.int .i64 0, .int .i64 x.g.w, .int .i64 x.g.st, .int .i64 x.g.sk, .int .i64 x.g.o, .int .i64 x.p, .bool x.f, .int .i64 x.n, .int .i64 x.q] 45)))
        have hz4 := HB4.out.size
        go_wp2_with (at_builtin; refine wpList_append_slc Try.underlying30 infoIt rfl (by decide) itC_len itC_cell rfl _ _ rfl w.heap.size _ _ (It.boxes (l.take k)) [x] rfl HO4.out rfl HS4.out (by have := boxes_len l k; have := HL.out; have := HLt.out; simp; omega) (by have := boxes_len l k; have := HL.out; have := HLt.out; unfold maxLen; simp; omega) hz4 ?_; intro v9 w9 h9 hg9; have HO9 := Lib.hid h9; have HB9 := Lib.hid (below_app HB4.out hg9 HO4.out hz4); clear h9 hg9)
        go_roundw
        case rel => exact ⟨k + 1, by omega, by go_num, Lib.hid (by rw [HN.out]; exact HO9.out), HB9⟩
        case measure => simp [intOf]; omega
      · have HN := Lib.hid (boxes_no HX.out hx0)
        have xb : (x.k == 0) = false := beq_eq_false_iff_ne.2 hx0
        go_wp2_with fail
        rw [← hW2]
        go_roundw
        case rel => exact ⟨k + 1, by omega, by go_num, Lib.hid (by rw [HN.out]; exact HO2.out), HB2⟩
        case measure => simp [intOf]; omega
    · have HE : Hid (l.take k = l) := Lib.hid (List.take_of_length_le (by rw [← Hn.out]; omega))
      go_wp2
      go_ret
      exact ⟨_, rfl, by rw [HE.out] at HO; exact HO.out, HB.out⟩

set_option maxHeartbeats 8000000 in
set_option maxRecDepth 100000 in
theorem refBoxes_any (v : Value) (l : List It.Itm) (w : World) (h : ItsAt w v l) (hlen : l.length * 72 ≤ 140737488355328) : Calls Try.prog 15 #[v] w fun e w' => ∃ u, e = .returned u ∧ OwnX w.heap.size u (It.boxes l) w' ∧ Below w.heap.size w w' := by
  have HA := Lib.hid h
  obtain ⟨⟨a, cp, rfl, hcap⟩, hm, _⟩ := h
  have hza : l.length ≤ 9223372036854775807 := by unfold maxLen at hm; omega
  obtain ⟨n, hn⟩ : ∃ n, n = l.length := ⟨_, rfl⟩
  have Hn := Lib.hid hn
  rw [← hn] at hza hlen ⊢
  have HL := Lib.hid hlen
  clear hn hm hcap hlen
  have HO0 : Hid (OwnX w.heap.size (.slice (some ⟨w.heap.size, 0, none⟩) 0 0) (It.boxes (l.take 0)) (w.alloc (.cells #[] 45))) := Lib.hid (own_empty _ _ _ w)
  have HB0 := Lib.hid (below_alloc w (.cells #[] 45))
  go_enter Try.func15, Try.ntmps15
  go_wp2_with fail
  go_loopw [3, 4] (fun ov iv wr => ∃ k : Nat, k ≤ n ∧ iv = .int .i64 k ∧ Hid (OwnX w.heap.size ov (It.boxes (l.take k)) wr) ∧ Hid (Below w.heap.size w wr)) (fun _ iv _ => n - (intOf iv).toNat)
  case atStart => exact ⟨0, Nat.zero_le _, rfl, HO0, HB0⟩
  case round =>
    obtain ⟨k, hk, rfl, HO, HB⟩ := hrel
    clear HO0 HB0
    by_cases hlt : k < n
    · obtain ⟨b1, o1, d1, e1, r1⟩ := HA.out.2.2 (by rw [← Hn.out]; omega)
      obtain ⟨rfl, rfl⟩ : a = some ⟨b1, o1, none⟩ ∧ cp = d1 := by injection e1 with a1 a2 a3; exact ⟨a1, a3⟩
      obtain ⟨x, hx⟩ : ∃ x, l[k]? = some x := ⟨_, List.getElem?_eq_getElem (by rw [← Hn.out]; exact hlt)⟩
      obtain ⟨y0, y1, y2, y3, y4, y5, y6, y7, y8⟩ := it_cells ((r1 k x hx).mono HB.out)
      have k0 : (0 : Int) ≤ (k : Int) := by omega
      have kl : (k : Int) < (n : Int) := by omega
      have HX := Lib.hid hx
      have HLt := Lib.hid hlt
      clear r1 e1 hx
      by_cases hx0 : x.k = 0
      · have HN := Lib.hid (boxes_yes HX.out hx0)
        have HX0 := Lib.hid hx0
        rw [hx0] at y0
        clear hx0
        have HO4 := Lib.hid (HO.out.mono (below_alloc wr (.cells #[.int .i64 0, .int .i64 x.g.w, .int .i64 x.g.st, .int .i64 x.g.sk, .int .i64 x.g.o, .int .i64 x.p, .bool x.f, .int .i64 x.n, .int .i64 x.q] 45)))
        have HS4 := Lib.hid (slc_new itC_len wr wr.heap.size rfl [x] 45 (by simp) #[.int .i64 0, .int .i64 x.g.w, .int .i64 x.g.st, .int .i64 x.g.sk, .int .i64 x.g.o, .int .i64 x.p, .bool x.f, .int .i64 x.n, .int .i64 x.q] (by simp [itC, HX0.out]))
        have HB4 := Lib.hid (below_step HB.out (below_alloc wr (.cells #[.int .i64 0, .int .i64 x.g.w, .int .i64 x.g.st, .int .i64 x.g.sk, .int .i64 x.g.o, .int .i64 x.p, .bool x.f, .int .i64 x.n, .int .i64 x.q] 45)))
        have hz4 := HB4.out.size
        go_wp2_with (at_builtin; refine wpList_append_slc Try.underlying30 infoIt rfl (by decide) itC_len itC_cell rfl _ _ rfl w.heap.size _ _ (It.boxes (l.take k)) [x] rfl HO4.out rfl HS4.out (by have := boxes_len l k; have := HL.out; have := HLt.out; simp; omega) (by have := boxes_len l k; have := HL.out; have := HLt.out; unfold maxLen; simp; omega) hz4 ?_; intro v9 w9 h9 hg9; have HO9 := Lib.hid h9; have HB9 := Lib.hid (below_app HB4.out hg9 HO4.out hz4); clear h9 hg9)
        go_roundw
        case rel => exact ⟨k + 1, by omega, by go_num, Lib.hid (by rw [HN.out]; exact HO9.out), HB9⟩
        case measure => simp [intOf]; omega
      · have HN := Lib.hid (boxes_no HX.out hx0)
        have xb : (x.k == 0) = false := beq_eq_false_iff_ne.2 hx0
        go_wp2
        go_roundw
        case rel => exact ⟨k + 1, by omega, by go_num, Lib.hid (by rw [HN.out]; exact HO.out), HB⟩
        case measure => simp [intOf]; omega
    · have HE : Hid (l.take k = l) := Lib.hid (List.take_of_length_le (by rw [← Hn.out]; omega))
      go_wp2
      go_ret
      exact ⟨_, rfl, by rw [HE.out] at HO; exact HO.out, HB.out⟩

/-! ### Same -/
theorem same_next {α : Type} {xs ys : List α} {k : Nat} {s t : α} (hs : xs[k]? = some s) (ht : ys[k]? = some t) (h : s = t) (he : xs.take k = ys.take k) : xs.take (k + 1) = ys.take (k + 1) := by
  rw [It.take_snoc hs, It.take_snoc ht, he, h]
theorem same_bad {α : Type} [DecidableEq α] {xs ys : List α} {k : Nat} {s t : α} (hs : xs[k]? = some s) (ht : ys[k]? = some t) (h : s ≠ t) : decide (xs = ys) = false := decide_eq_false fun e => by
  subst e
  rw [hs] at ht
  exact h (Option.some.inj ht)
set_option maxHeartbeats 8000000 in
set_option maxRecDepth 100000 in
theorem same_any (v u : Value) (l m : List It.Itm) (w : World) (h : ItsAt w v l) (g : ItsAt w u m) : Calls Try.prog 11 #[v, u] w (Ret (.bool (decide (l = m))) w) := by
  have HA := Lib.hid h
  have HD := Lib.hid g
  obtain ⟨⟨a, cp, rfl, hcap⟩, hm, _⟩ := h
  obtain ⟨⟨d, dp, rfl, hdap⟩, hmd, _⟩ := g
  have hza : l.length ≤ 9223372036854775807 := by unfold maxLen at hm; omega
  have hzd : m.length ≤ 9223372036854775807 := by unfold maxLen at hmd; omega
  obtain ⟨n, hn⟩ : ∃ n, n = l.length := ⟨_, rfl⟩
  have Hn := Lib.hid hn
  obtain ⟨n2, hn2⟩ : ∃ n, n = m.length := ⟨_, rfl⟩
  have Hn2 := Lib.hid hn2
  obtain ⟨q, hq⟩ : ∃ q, q = decide (l = m) := ⟨_, rfl⟩
  have HQ := Lib.hid hq
  rw [← hn] at hza ⊢
  rw [← hn2] at hzd ⊢
  rw [← hq]
  clear hn hn2 hm hcap hmd hdap hq
  by_cases hne : n = n2
  · subst hne
    go_enter Try.func11, Try.ntmps11
    go_wp2_with fail
    go_loopw [5] (fun iv wr => ∃ k : Nat, k ≤ n ∧ iv = .int .i64 k ∧ Hid (Below w.heap.size w wr) ∧ Hid (l.take k = m.take k)) (fun iv _ => n - (intOf iv).toNat)
    case atStart => exact ⟨0, Nat.zero_le _, rfl, Lib.hid (Below.refl _ _), Lib.hid rfl⟩
    case round =>
      obtain ⟨k, hk, rfl, HB, HS⟩ := hrel
      by_cases hlt : k < n
      · obtain ⟨b1, o1, d1, e1, r1⟩ := HA.out.2.2 (by rw [← Hn.out]; omega)
        obtain ⟨rfl, rfl⟩ : a = some ⟨b1, o1, none⟩ ∧ cp = d1 := by injection e1 with a1 a2 a3; exact ⟨a1, a3⟩
        obtain ⟨b2, o2, d2, e2, r2⟩ := HD.out.2.2 (by rw [← Hn2.out]; omega)
        obtain ⟨rfl, rfl⟩ : d = some ⟨b2, o2, none⟩ ∧ dp = d2 := by injection e2 with a1 a2 a3; exact ⟨a1, a3⟩
        obtain ⟨x, hx⟩ : ∃ x, l[k]? = some x := ⟨_, List.getElem?_eq_getElem (by rw [← Hn.out]; exact hlt)⟩
        obtain ⟨y, hy⟩ : ∃ y, m[k]? = some y := ⟨_, List.getElem?_eq_getElem (by rw [← Hn2.out]; exact hlt)⟩
        obtain ⟨x0, x1, x2, x3, x4, x5, x6, x7, x8⟩ := it_cells ((r1 k x hx).mono HB.out)
        obtain ⟨y0, y1, y2, y3, y4, y5, y6, y7, y8⟩ := it_cells ((r2 k y hy).mono HB.out)
        have k0 : (0 : Int) ≤ (k : Int) := by omega
        have kl : (k : Int) < (n : Int) := by omega
        have HX := Lib.hid hx
        have HY := Lib.hid hy
        have hE := fun w => (eq_it x y w).2
        unfold itV at hE
        clear r1 e1 hx r2 e2 hy
        by_cases he : x = y
        · have HN := Lib.hid (same_next HX.out HY.out he HS.out)
          rw [decide_eq_true he] at hE
          clear he
          go_wp2_with fail
          go_quiet (fail)
          go_wp2
          go_roundw
          case rel => exact ⟨k + 1, by omega, by go_num, Lib.hid (below_step HB.out (below_drew _ _)), HN⟩
          case measure => simp [intOf]; omega
        · have HN := Lib.hid (HQ.out.trans (same_bad HX.out HY.out he))
          rw [decide_eq_false he] at hE
          clear he
          go_wp2_with fail
          go_quiet (fail)
          go_wp2
          go_ret
          rw [HN.out]
          exact ⟨rfl, below_step HB.out (below_drew _ _)⟩
      · have HE : Hid (q = true) := Lib.hid (HQ.out.trans (decide_eq_true (by
          have h1 : l.take k = l := List.take_of_length_le (by rw [← Hn.out]; omega)
          have h2 : m.take k = m := List.take_of_length_le (by rw [← Hn2.out]; omega)
          have h3 := HS.out
          rw [h1, h2] at h3
          exact h3)))
        go_wp2
        go_ret
        rw [HE.out]
        exact ⟨rfl, HB.out⟩
  · have HE : Hid (q = false) := Lib.hid (HQ.out.trans (decide_eq_false fun e => hne (by rw [Hn.out, Hn2.out, e])))
    have h1 : ((n : Int) == (n2 : Int)) = false := beq_eq_false_iff_ne.2 (by omega)
    have h2 : ((n : Int) != (n2 : Int)) = true := bne_iff_ne.2 (by omega)
    clear hne
    go_enter Try.func11, Try.ntmps11
    go_wp2
    go_ret
    rw [HE.out]
    exact ⟨rfl, Below.refl _ _⟩
end Go.Proofs.Ytfgfplpbddapnaa
