/-
  The landed item.May, and the reference's: may items be?
-/
import Derived.Test.YthcilpijiindeaaApp9
set_option linter.unusedVariables false
set_option linter.unusedSimpArgs false
namespace Go.Proofs.Ythcilpijiindeaa
open Go.RowKit

theorem may_bad {l : List It.Itm} {k : Nat} {x : It.Itm} (hx : l[k]? = some x) (h : It.right x = false) : It.may l = false := by
  have : l.all It.right = false := by
    rw [List.all_eq_false]
    exact ⟨x, List.mem_of_getElem? hx, by rw [h]; decide⟩
  unfold It.may
  rw [this, Bool.and_false]; rfl
theorem all_next {l : List It.Itm} {k : Nat} {x : It.Itm} (hx : l[k]? = some x) (h : It.right x = true) (ha : (l.take k).all It.right = true) : (l.take (k + 1)).all It.right = true := by
  rw [It.take_snoc hx, List.all_append, ha, List.all_cons, h]; rfl
theorem may_all {l : List It.Itm} (ha : l.all It.right = true) (hn : l.length ≤ 2000) : It.may l = It.glMay (It.gls l) := by
  unfold It.may
  rw [ha, decide_eq_true hn]; rfl

set_option maxHeartbeats 8000000 in
set_option maxRecDepth 100000 in
theorem itemMay_any (v : Value) (l : List It.Itm) (w : World) (h : ItsAt w v l) : Calls Try.prog 18 #[v] w (Ret (.bool (It.may l)) w) := by
  have HA := Lib.hid h
  obtain ⟨⟨a, cp, rfl, hcap⟩, hm, _⟩ := h
  have hza : l.length ≤ 9223372036854775807 := by unfold maxLen at hm; omega
  obtain ⟨n, hn⟩ : ∃ n, n = l.length := ⟨_, rfl⟩
  have Hn := Lib.hid hn
  obtain ⟨q, hq⟩ : ∃ q, q = It.may l := ⟨_, rfl⟩
  have HQ := Lib.hid hq
  rw [← hn] at hza ⊢
  rw [← hq]
  clear hn hm hcap hq
  by_cases hlen : n ≤ 2000
  · have g1 : ¬ ((2000 : Int) < (n : Int)) := by omega
    have HL := Lib.hid hlen
    clear hlen
    go_enter Try.func18, Try.ntmps18
    go_wp2_with fail
    go_loopw [3, 11] (fun ov iv wr => ∃ k : Nat, k ≤ n ∧ iv = .int .i64 k ∧ Hid (OwnG w.heap.size ov (It.gls (l.take k)) wr) ∧ Hid (Below w.heap.size w wr) ∧ Hid ((l.take k).all It.right = true)) (fun _ iv _ => n - (intOf iv).toNat)
    case atStart => exact ⟨0, Nat.zero_le _, rfl, Lib.hid (ownR_nil _ _ _ _ _), Lib.hid (Below.refl _ _), Lib.hid rfl⟩
    case round =>
      obtain ⟨k, hk, rfl, HO, HB, HAll⟩ := hrel
      by_cases hlt : k < n
      · obtain ⟨b1, o1, d1, e1, r1⟩ := HA.out.2.2 (by rw [← Hn.out]; omega)
        obtain ⟨rfl, rfl⟩ : a = some ⟨b1, o1, none⟩ ∧ cp = d1 := by injection e1 with a1 a2 a3; exact ⟨a1, a3⟩
        obtain ⟨x, hx⟩ : ∃ x, l[k]? = some x := ⟨_, List.getElem?_eq_getElem (by rw [← Hn.out]; exact hlt)⟩
        obtain ⟨y0, y1, y2, y3, y4, y5, y6, y7, y8⟩ := it_cells ((r1 k x hx).mono HB.out)
        have k0 : (0 : Int) ≤ (k : Int) := by omega
        have kl : (k : Int) < (n : Int) := by omega
        have HX := Lib.hid hx
        have HV := Lib.hid (fun w => valid_any x w)
        unfold itV at HV
        obtain ⟨W2, hW2⟩ : ∃ W2, W2 = wr.alloc (.cells #[.int .i64 x.k, .int .i64 x.g.w, .int .i64 x.g.st, .int .i64 x.g.sk, .int .i64 x.g.o, .int .i64 x.p, .bool x.f, .int .i64 x.n, .int .i64 x.q] 40) := ⟨_, rfl⟩
        have HB2 := Lib.hid (below_step HB.out (below_alloc wr (.cells #[.int .i64 x.k, .int .i64 x.g.w, .int .i64 x.g.st, .int .i64 x.g.sk, .int .i64 x.g.o, .int .i64 x.p, .bool x.f, .int .i64 x.n, .int .i64 x.q] 40)))
        have HG2 := Lib.hid (obj_new wr _ rfl #[.int .i64 x.k, .int .i64 x.g.w, .int .i64 x.g.st, .int .i64 x.g.sk, .int .i64 x.g.o, .int .i64 x.p, .bool x.f, .int .i64 x.n, .int .i64 x.q] 40)
        have HO2 := Lib.hid (HO.out.mono (below_alloc wr (.cells #[.int .i64 x.k, .int .i64 x.g.w, .int .i64 x.g.st, .int .i64 x.g.sk, .int .i64 x.g.o, .int .i64 x.p, .bool x.f, .int .i64 x.n, .int .i64 x.q] 40)))
        rw [← hW2] at HB2 HG2 HO2
        clear r1 e1 hx
        cases hr : It.right x with
        | false =>
          have HE : Hid (q = false) := Lib.hid (HQ.out.trans (may_bad HX.out hr))
          rw [hr] at HV
          clear hr
          go_wp2_with fail
          rw [← hW2]
          refine (HV.out _).mono ?_
          rintro e w3 ⟨rfl, hb3⟩
          have HB3 := Lib.hid (below_step HB2.out hb3)
          clear hb3
          go_wp2
          go_ret
          rw [HE.out]
          exact ⟨rfl, HB3.out⟩
        | true =>
          have HN := Lib.hid (all_next HX.out hr HAll.out)
          rw [hr] at HV
          clear hr
          go_wp2_with fail
          rw [← hW2]
          clear hW2
          refine (HV.out _).mono ?_
          rintro e w3 ⟨rfl, hb3⟩
          have HO3 := Lib.hid (HO2.out.mono hb3)
          have HG3 := Lib.hid (obj_kept hb3 HG2.out)
          have HB3 := Lib.hid (below_step HB2.out hb3)
          clear hb3
          have c1 := Lib.cell_of_heap HG3.out 1
          have c2 := Lib.cell_of_heap HG3.out 2
          have c3 := Lib.cell_of_heap HG3.out 3
          have c4 := Lib.cell_of_heap HG3.out 4
          have hlk : (It.gls (l.take k)).length = k := by unfold It.gls; simp; rw [← Hn.out]; omega
          have HLk := Lib.hid hlk
          have hll := HL.out
          have HO4 := Lib.hid (HO3.out.mono (below_alloc w3 (.cells #[.int .i64 x.g.w, .int .i64 x.g.st, .int .i64 x.g.sk, .int .i64 x.g.o] 38)))
          have HS4 := Lib.hid (slc_new glC_len w3 w3.heap.size rfl [x.g] 38 (by simp) #[.int .i64 x.g.w, .int .i64 x.g.st, .int .i64 x.g.sk, .int .i64 x.g.o] rfl)
          have HB4 := Lib.hid (below_step HB3.out (below_alloc w3 (.cells #[.int .i64 x.g.w, .int .i64 x.g.st, .int .i64 x.g.sk, .int .i64 x.g.o] 38)))
          have hz4 := HB4.out.size
          clear hlk
          go_wp2_with (at_builtin; refine wpList_append_slc Try.underlying62 infoGl rfl (by decide) glC_len glC_cell rfl _ _ rfl w.heap.size _ _ (It.gls (l.take k)) [x.g] rfl HO4.out rfl HS4.out (by rw [HLk.out]; simp; omega) (by rw [HLk.out]; unfold maxLen; simp; omega) hz4 ?_; intro v9 w9 h9 hg9; have HO9 := Lib.hid h9; have HB9 := Lib.hid (below_app HB4.out hg9 HO4.out hz4); clear h9 hg9)
          go_roundw
          case rel => exact ⟨k + 1, by omega, by go_num, Lib.hid (by rw [gls_take HX.out]; exact HO9.out), HB9, HN⟩
          case measure => simp [intOf]; omega
      · have hE : l.take k = l := List.take_of_length_le (by rw [← Hn.out]; omega)
        rw [hE] at HO HAll
        have HE := Lib.hid (HQ.out.trans (may_all HAll.out (by rw [← Hn.out]; exact HL.out)))
        have HG := Lib.hid (glueMay_any _ (It.gls l) wr (HO.out.at glC_len))
        rw [← HE.out] at HG
        clear hE
        go_wp2_with fail
        refine HG.out.mono ?_
        rintro e w3 ⟨rfl, hb3⟩
        have HB3 := Lib.hid (below_step HB.out hb3)
        clear hb3
        go_wp2
        go_ret
        exact ⟨rfl, HB3.out⟩
  · have g1 : (2000 : Int) < (n : Int) := by omega
    have HE : Hid (q = false) := Lib.hid (HQ.out.trans (It.may_long (by rw [← Hn.out]; omega)))
    clear hlen
    go_enter Try.func18, Try.ntmps18
    go_wp2
    go_ret
    rw [HE.out]
    exact ⟨rfl, Below.refl _ _⟩

set_option maxHeartbeats 8000000 in
set_option maxRecDepth 100000 in
theorem refItMay_any (v : Value) (l : List It.Itm) (w : World) (h : ItsAt w v l) : Calls Try.prog 15 #[v] w (Ret (.bool (It.may l)) w) := by
  have HA := Lib.hid h
  obtain ⟨⟨a, cp, rfl, hcap⟩, hm, _⟩ := h
  have hza : l.length ≤ 9223372036854775807 := by unfold maxLen at hm; omega
  obtain ⟨n, hn⟩ : ∃ n, n = l.length := ⟨_, rfl⟩
  have Hn := Lib.hid hn
  obtain ⟨q, hq⟩ : ∃ q, q = It.may l := ⟨_, rfl⟩
  have HQ := Lib.hid hq
  rw [← hn] at hza HA ⊢
  rw [← hq]
  clear hn hm hcap hq
  go_enter Try.func15, Try.ntmps15
  go_wp2_with fail
  go_loopw [3] (fun iv wr => ∃ k : Nat, k ≤ n ∧ iv = .int .i64 k ∧ Hid (Below w.heap.size w wr) ∧ Hid ((l.take k).all It.right = true)) (fun iv _ => n - (intOf iv).toNat)
  case atStart => exact ⟨0, Nat.zero_le _, rfl, Lib.hid (Below.refl _ _), Lib.hid rfl⟩
  case round =>
    obtain ⟨k, hk, rfl, HB, HAll⟩ := hrel
    by_cases hlt : k < n
    · obtain ⟨b1, o1, d1, e1, r1⟩ := HA.out.2.2 (by rw [← Hn.out]; omega)
      obtain ⟨rfl, rfl⟩ : a = some ⟨b1, o1, none⟩ ∧ cp = d1 := by injection e1 with a1 a2 a3; exact ⟨a1, a3⟩
      obtain ⟨x, hx⟩ : ∃ x, l[k]? = some x := ⟨_, List.getElem?_eq_getElem (by rw [← Hn.out]; exact hlt)⟩
      obtain ⟨y0, y1, y2, y3, y4, y5, y6, y7, y8⟩ := it_cells ((r1 k x hx).mono HB.out)
      have k0 : (0 : Int) ≤ (k : Int) := by omega
      have kl : (k : Int) < (n : Int) := by omega
      have HX := Lib.hid hx
      have HV := Lib.hid (fun w => right_any x w)
      unfold itV at HV
      clear r1 e1 hx
      cases hr : It.right x with
      | false =>
        have HE : Hid (q = false) := Lib.hid (HQ.out.trans (may_bad HX.out hr))
        rw [hr] at HV
        clear hr
        go_wp2_with fail
        refine (HV.out _).mono ?_
        rintro e w3 ⟨rfl, hb3⟩
        have HB3 := Lib.hid (below_step HB.out hb3)
        clear hb3
        go_wp2
        go_ret
        rw [HE.out]
        exact ⟨rfl, HB3.out⟩
      | true =>
        have HN := Lib.hid (all_next HX.out hr HAll.out)
        rw [hr] at HV
        clear hr
        go_wp2_with fail
        refine (HV.out _).mono ?_
        rintro e w3 ⟨rfl, hb3⟩
        have HB3 := Lib.hid (below_step HB.out hb3)
        clear hb3
        go_wp2
        go_roundw
        case rel => exact ⟨k + 1, by omega, by go_num, HB3, HN⟩
        case measure => simp [intOf]; omega
    · have hE : l.take k = l := List.take_of_length_le (by rw [← Hn.out]; omega)
      rw [hE] at HAll
      clear hE
      by_cases hlen : n ≤ 2000
      · have g1 : (n : Int) ≤ 2000 := by omega
        have HE := Lib.hid (HQ.out.trans (may_all HAll.out (by rw [← Hn.out]; exact hlen)))
        have HG := Lib.hid (refGlues_any (.slice a n cp) l wr (by have := HA.out; exact SlcAt.mono this HB.out) (by rw [← Hn.out]; exact hlen))
        clear hlen
        go_wp2_with fail
        refine HG.out.mono ?_
        rintro e w3 ⟨u, rfl, ho3, hb3⟩
        have HB3 := Lib.hid (below_step HB.out hb3)
        have HM := Lib.hid (refGlMay_any u (It.gls l) w3 (ho3.at glC_len))
        rw [← HE.out] at HM
        clear hb3 ho3
        go_wp2_with fail
        refine HM.out.mono ?_
        rintro e w4 ⟨rfl, hb4⟩
        have HB4 := Lib.hid (below_step HB3.out hb4)
        clear hb4
        go_wp2
        go_ret
        exact ⟨rfl, HB4.out⟩
      · have g1 : ¬ ((n : Int) ≤ 2000) := by omega
        have HE : Hid (q = false) := Lib.hid (HQ.out.trans (It.may_long (by rw [← Hn.out]; omega)))
        clear hlen
        go_wp2
        go_ret
        rw [HE.out]
        exact ⟨rfl, HB.out⟩
end Go.Proofs.Ythcilpijiindeaa
