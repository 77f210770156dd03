/-
  Lists held against one another, three words, the landed Break, what the document fixes; the best breaks over all breaks; a choice by bits.
-/
import Derived.Test.YtdimfmpolbijeaaBest11
import Derived.Test.YtdimfmpolbijeaaNums11
set_option linter.unusedVariables false
set_option linter.unusedSimpArgs false
namespace Go.Proofs.Ytdimfmpolbijeaa
open Go.RowKit

theorem num_cell {w : World} {v : Value} {l : List Int} (h : NumsAt w v l) : ∃ a cap, v = .slice a l.length cap ∧ l.length ≤ maxLen ∧ (0 < l.length → ∃ b o, a = some ⟨b, o, none⟩ ∧ ∀ i x, l[i]? = some x → w.cell? ⟨b, o + i, none⟩ = some (.int .i64 x)) := by
  obtain ⟨⟨a, cap, rfl, hc⟩, hm, hk⟩ := nums_ints h
  refine ⟨a, cap, rfl, hm, fun hp => ?_⟩
  obtain ⟨b, o, c, e, hx⟩ := hk hp
  injection e with e1
  exact ⟨b, o, e1, hx⟩

set_option maxHeartbeats 8000000 in
set_option maxRecDepth 100000 in
theorem ints_any (u v : Value) (x y : List Int) (w : World) (hu : NumsAt w u x) (hv : NumsAt w v y) : Calls Try.prog 13 #[u, v] w (Ret (.bool (decide (x = y))) w) := by
  obtain ⟨a, ca, rfl, hma, hka⟩ := num_cell hu
  obtain ⟨b, cb, rfl, hmb, hkb⟩ := num_cell hv
  have hza : x.length ≤ 9223372036854775807 := by unfold maxLen at hma; omega
  have hzb : y.length ≤ 9223372036854775807 := by unfold maxLen at hmb; omega
  by_cases hl : x.length = y.length
  · have HKA := Lib.hid hka
    have HKB := Lib.hid hkb
    have HL := Lib.hid hl
    obtain ⟨n, hn⟩ : ∃ n, n = x.length := ⟨_, rfl⟩
    have Hn := Lib.hid hn
    rw [← hl, ← hn]
    rw [← hn] at hza
    have HB := Lib.hid (Below.refl w.heap.size w)
    obtain ⟨r, hr⟩ : ∃ r : Bool, r = decide (x = y) := ⟨_, rfl⟩
    have HRr := Lib.hid hr
    rw [← hr]
    clear hu hv hma hmb hka hkb hl hn hzb hr
    go_enter Try.func13, Try.ntmps13
    go_wp2_with fail
    go_loopw [5] (fun kv wr => ∃ k : Nat, k ≤ n ∧ kv = .int .i64 k ∧ Hid (x.take k = y.take k) ∧ Hid (Below w.heap.size w wr)) (fun kv _ => n - (intOf kv).toNat)
    case atStart => exact ⟨0, Nat.zero_le _, rfl, Lib.hid (by rw [List.take_zero, List.take_zero]), HB⟩
    case round =>
      obtain ⟨k, hk, rfl, HT, HBr⟩ := hrel
      clear HB
      by_cases hlt : k < n
      · obtain ⟨b1, o1, rfl, h1⟩ := HKA.out (by rw [← Hn.out]; omega)
        obtain ⟨b2, o2, rfl, h2⟩ := HKB.out (by rw [← HL.out, ← Hn.out]; omega)
        obtain ⟨p, hp⟩ : ∃ p, x[k]? = some p := ⟨_, List.getElem?_eq_getElem (by rw [← Hn.out]; exact hlt)⟩
        obtain ⟨q, hq⟩ : ∃ q, y[k]? = some q := ⟨_, List.getElem?_eq_getElem (by rw [← HL.out, ← Hn.out]; exact hlt)⟩
        have c1 := cell_below HBr.out (h1 k p hp)
        have c2 := cell_below HBr.out (h2 k q hq)
        have k0 : (0 : Int) ≤ (k : Int) := by omega
        have kl : (k : Int) < (n : Int) := by omega
        have HP := Lib.hid hp
        have HQ := Lib.hid hq
        clear h1 h2 hp hq
        by_cases he : p = q
        · subst he
          have HN : Hid (x.take (k + 1) = y.take (k + 1)) := Lib.hid (by rw [It.take_snoc HP.out, It.take_snoc HQ.out, HT.out])
          go_wp2_with fail
          go_quiet (fail)
          go_wp2
          go_roundw
          case rel => exact ⟨k + 1, by omega, by go_num, HN, Lib.hid (below_step HBr.out (below_drew _ _))⟩
          case measure => simp [intOf]; omega
        · have HE : Hid (r = false) := Lib.hid (by
            rw [HRr.out, decide_eq_false]
            intro e
            have := HP.out
            rw [e, HQ.out] at this
            exact he (Option.some.inj this).symm)
          go_wp2_with fail
          go_quiet (fail)
          go_wp2
          go_ret
          rw [HE.out]
          exact ⟨rfl, below_step HBr.out (below_drew _ _)⟩
      · have HE : Hid (r = true) := Lib.hid (by
          rw [HRr.out, decide_eq_true]
          have := HT.out
          rw [List.take_of_length_le (by rw [← Hn.out]; omega), List.take_of_length_le (by rw [← HL.out, ← Hn.out]; omega)] at this
          exact this)
        go_wp2
        go_ret
        rw [HE.out]
        exact ⟨rfl, HBr.out⟩
  · have hE : decide (x = y) = false := decide_eq_false (fun e => hl (by rw [e]))
    have hne : ¬ ((x.length : Int) = (y.length : Int)) := by omega
    rw [hE]
    clear hu hv hma hmb hka hkb
    go_enter Try.func13, Try.ntmps13
    go_wp2
    go_ret
    exact ⟨rfl, Below.refl _ _⟩

/-! ### three words -/
def bx10 : It.Itm := ⟨0, ⟨10, 0, 0, 0⟩, 0, false, 0, 0⟩
def sp2 : It.Itm := ⟨1, ⟨2, 0, 0, 0⟩, 0, false, 0, 0⟩
def five : List It.Itm := [bx10, sp2, bx10, sp2, bx10]
def threeL : List It.Itm := five ++ It.endI
set_option maxHeartbeats 4000000 in
set_option maxRecDepth 100000 in
theorem three_any (w : World) : Calls Try.prog 22 #[] w fun e w' => ∃ u, e = .returned u ∧ ItsAt w' u threeL ∧ Below w.heap.size w w' := by
  obtain ⟨WA, hWA⟩ : ∃ WA, WA = (w.alloc (.cells #[.int .i64 0, .int .i64 10, .int .i64 0, .int .i64 0, .int .i64 0, .int .i64 0, .bool false, .int .i64 0, .int .i64 0] 47)).alloc (.cells #[.int .i64 1, .int .i64 2, .int .i64 0, .int .i64 0, .int .i64 0, .int .i64 0, .bool false, .int .i64 0, .int .i64 0] 47) := ⟨_, rfl⟩
  have b1 := below_alloc w (.cells #[.int .i64 0, .int .i64 10, .int .i64 0, .int .i64 0, .int .i64 0, .int .i64 0, .bool false, .int .i64 0, .int .i64 0] 47)
  have b2 := below_alloc (w.alloc (.cells #[.int .i64 0, .int .i64 10, .int .i64 0, .int .i64 0, .int .i64 0, .int .i64 0, .bool false, .int .i64 0, .int .i64 0] 47)) (.cells #[.int .i64 1, .int .i64 2, .int .i64 0, .int .i64 0, .int .i64 0, .int .i64 0, .bool false, .int .i64 0, .int .i64 0] 47)
  have HBA : Hid (Below w.heap.size w WA) := Lib.hid (by rw [hWA]; exact below_step b1 b2)
  have h0 : WA.heap[w.heap.size]? = some (.cells #[.int .i64 0, .int .i64 10, .int .i64 0, .int .i64 0, .int .i64 0, .int .i64 0, .bool false, .int .i64 0, .int .i64 0] 47 (0, 0)) := by rw [hWA]; exact obj_kept b2 (obj_new w _ rfl _ _)
  have h1 : WA.heap[w.heap.size + 1]? = some (.cells #[.int .i64 1, .int .i64 2, .int .i64 0, .int .i64 0, .int .i64 0, .int .i64 0, .bool false, .int .i64 0, .int .i64 0] 47 (0, 0)) := by rw [hWA]; exact obj_new (w.alloc _) _ (World.size_alloc _ _) _ _
  have c0 : WA.cell? ⟨w.heap.size, 0, none⟩ = some (.int .i64 0) := Lib.cell_of_heap h0 0
  have c1 : WA.cell? ⟨w.heap.size, 1, none⟩ = some (.int .i64 10) := Lib.cell_of_heap h0 1
  have c2 : WA.cell? ⟨w.heap.size, 2, none⟩ = some (.int .i64 0) := Lib.cell_of_heap h0 2
  have c3 : WA.cell? ⟨w.heap.size, 3, none⟩ = some (.int .i64 0) := Lib.cell_of_heap h0 3
  have c4 : WA.cell? ⟨w.heap.size, 4, none⟩ = some (.int .i64 0) := Lib.cell_of_heap h0 4
  have c5 : WA.cell? ⟨w.heap.size, 5, none⟩ = some (.int .i64 0) := Lib.cell_of_heap h0 5
  have c6 : WA.cell? ⟨w.heap.size, 6, none⟩ = some (.bool false) := Lib.cell_of_heap h0 6
  have c7 : WA.cell? ⟨w.heap.size, 7, none⟩ = some (.int .i64 0) := Lib.cell_of_heap h0 7
  have c8 : WA.cell? ⟨w.heap.size, 8, none⟩ = some (.int .i64 0) := Lib.cell_of_heap h0 8
  have d0 : WA.cell? ⟨w.heap.size + 1, 0, none⟩ = some (.int .i64 1) := Lib.cell_of_heap h1 0
  have d1 : WA.cell? ⟨w.heap.size + 1, 1, none⟩ = some (.int .i64 2) := Lib.cell_of_heap h1 1
  have d2 : WA.cell? ⟨w.heap.size + 1, 2, none⟩ = some (.int .i64 0) := Lib.cell_of_heap h1 2
  have d3 : WA.cell? ⟨w.heap.size + 1, 3, none⟩ = some (.int .i64 0) := Lib.cell_of_heap h1 3
  have d4 : WA.cell? ⟨w.heap.size + 1, 4, none⟩ = some (.int .i64 0) := Lib.cell_of_heap h1 4
  have d5 : WA.cell? ⟨w.heap.size + 1, 5, none⟩ = some (.int .i64 0) := Lib.cell_of_heap h1 5
  have d6 : WA.cell? ⟨w.heap.size + 1, 6, none⟩ = some (.bool false) := Lib.cell_of_heap h1 6
  have d7 : WA.cell? ⟨w.heap.size + 1, 7, none⟩ = some (.int .i64 0) := Lib.cell_of_heap h1 7
  have d8 : WA.cell? ⟨w.heap.size + 1, 8, none⟩ = some (.int .i64 0) := Lib.cell_of_heap h1 8
  obtain ⟨W1, hW1⟩ : ∃ W1, W1 = WA.alloc (.cells #[.int .i64 0, .int .i64 10, .int .i64 0, .int .i64 0, .int .i64 0, .int .i64 0, .bool false, .int .i64 0, .int .i64 0, .int .i64 1, .int .i64 2, .int .i64 0, .int .i64 0, .int .i64 0, .int .i64 0, .bool false, .int .i64 0, .int .i64 0, .int .i64 0, .int .i64 10, .int .i64 0, .int .i64 0, .int .i64 0, .int .i64 0, .bool false, .int .i64 0, .int .i64 0, .int .i64 1, .int .i64 2, .int .i64 0, .int .i64 0, .int .i64 0, .int .i64 0, .bool false, .int .i64 0, .int .i64 0, .int .i64 0, .int .i64 10, .int .i64 0, .int .i64 0, .int .i64 0, .int .i64 0, .bool false, .int .i64 0, .int .i64 0] 47) := ⟨_, rfl⟩
  have HO1 : Hid (OwnX WA.heap.size (.slice (some ⟨WA.heap.size, 0, none⟩) 5 5) five W1) := Lib.hid (by rw [hW1]; exact own_new itC_len WA five _ (by simp [five]) _ rfl)
  have HB1 : Hid (Below WA.heap.size WA W1) := Lib.hid (by rw [hW1]; exact below_alloc _ _)
  clear b1 b2 h0 h1
  go_enter Try.func22, Try.ntmps22
  go_upto_region 2 with fail
  rw [← hWA]
  clear hWA
  go_upto_region 3 with fail
  rw [← hW1]
  clear hW1
  go_wp2_with fail
  refine (end_any _).mono ?_
  rintro e w2 ⟨rfl, hi2, hb2⟩
  have HI2 := Lib.hid hi2
  have HO2 := Lib.hid (HO1.out.mono hb2)
  have HB2 := Lib.hid (below_step HB1.out hb2)
  clear hi2 hb2
  have hz2 := HB2.out.size
  go_wp2_with (at_builtin; refine wpList_append_slc Try.underlying22 infoIt rfl (by decide) itC_len itC_cell rfl _ _ rfl WA.heap.size _ _ five It.endI rfl HO2.out rfl HI2.out (by simp [It.endI, five]) (by unfold maxLen; simp [It.endI, five]) hz2 ?_; intro v9 w9 h9 hg9; have HO9 := Lib.hid h9; have HB9 := Lib.hid (below_app HB2.out hg9 HO2.out hz2); clear h9 hg9)
  go_ret
  exact ⟨_, rfl, HO9.out.at itC_len, below_step HBA.out HB9.out⟩
theorem fx11a : (bestW threeL 22 200).isSome = true ∧ bl (bestW threeL 22 200) = [3, 7] := by decide +kernel
theorem fx11b : bestW threeL 9 200 = none ∧ bestW threeL 9 10000 = none := by decide +kernel
theorem fx11c : It.may threeL = true := by decide +kernel

/-! ### Break -/
def brkR (l : List It.Itm) (t : Int) : It.Way × Bool × Int :=
  if It.may l = false then (none, false, 90) else match bestW l t 200 with
    | some x => (some x, false, 0)
    | none => match bestW l t 10000 with
      | some x => (some x, true, 0)
      | none => (none, false, 110)
def BreakPost (r : It.Way × Bool × Int) (w : World) (e : Ending) (w' : World) : Prop := ∃ u, e = .returned (.tuple #[u, .bool r.2.1, .agg #[.int .i64 r.2.2, .int .i64 0]]) ∧ NumsAt w' u (bl r.1) ∧ Below w.heap.size w w'
theorem two_set {w0 : World} {p : Nat} {cs : Array Value} {T : TypeId} (h : w0.heap[p]? = some (.cells cs T (0, 0))) (hn : cs.size = 2) (a b : Value) : ((w0.setCell ⟨p, 0, none⟩ a).setCell ⟨p, 1, none⟩ b).heap[p]? = some (.cells #[a, b] T (0, 0)) := by
  have h5 := heap_setCell_same _ p 1 _ T b (heap_setCell_same w0 p 0 _ T a h)
  rw [h5]
  obtain ⟨l⟩ := cs
  have hl : l.length = 2 := hn
  clear hn h h5
  match l, hl with
  | [x0, x1], _ => simp only [List.setIfInBounds_toArray, List.set_cons_zero, List.set_cons_succ]
theorem own_form9 {B : Nat} {v : Value} {l : List Int} {w : World} (h : OwnN B v l w) : ∃ a n c, v = .slice a n c := by
  rcases h.2 with ⟨rfl, _⟩ | ⟨g, cp, cu, rfl, _⟩
  · exact ⟨_, _, _, rfl⟩
  · exact ⟨_, _, _, rfl⟩
theorem own_far11 {w w' : World} {B : Nat} {v : Value} {l : List Int} {P : Nat} {cs : Array Value} {fr : Nat × Nat} (h : OwnN B v l w) (hg : w.grownBy w' (some P)) (hP : w.heap[P]? = some (.cells cs 29 fr)) : NumsAt w' v l :=
  OwnR.at (World.ownsRow.kept h hg (.inr fun e => own_off9 h hP (by decide) e.symm)) inC_len
set_option maxHeartbeats 8000000 in
set_option maxRecDepth 100000 in
theorem break_any (v : Value) (l : List It.Itm) (t : Int) (w : World) (hI : ItsAt w v l) : Calls Try.prog 11 #[v, .int .i64 t] w (BreakPost (brkR l t) w) := by
  have HM := Lib.hid (fun w h => itemMay_any v l w h)
  have HBt := Lib.hid (fun tol w h => best_any v l t tol w h)
  have HA := Lib.hid hI
  obtain ⟨⟨p, cp, rfl, hcap⟩, hm, _⟩ := hI
  obtain ⟨P, hP⟩ : ∃ P, P = w.heap.size := ⟨_, rfl⟩
  obtain ⟨W1, hW1⟩ : ∃ W1, W1 = w.alloc (.cells #[.int .i64 0, .int .i64 0] 29) := ⟨_, rfl⟩
  have hb1 := below_alloc w (.cells #[.int .i64 0, .int .i64 0] 29)
  have HX1 := Lib.hid (obj_new w _ rfl #[.int .i64 0, .int .i64 0] 29)
  rw [← hW1] at hb1 HX1
  rw [← hP] at HX1
  have HB1 := Lib.hid hb1
  have HA1 := Lib.hid (SlcAt.mono HA.out hb1)
  obtain ⟨n, hn⟩ : ∃ n, n = l.length := ⟨_, rfl⟩
  rw [← hn] at HM HBt HA1 ⊢
  clear hb1 hcap hm hn
  have HPn := Lib.hid hP
  cases hmay : It.may l with
  | false =>
    have HE : Hid (brkR l t = (none, false, 90)) := Lib.hid (by unfold brkR; rw [if_pos hmay])
    rw [hmay] at HM
    clear hmay
    go_enter Try.func11, Try.ntmps11
    go_upto_region 1 with fail
    rw [← hW1, ← hP]
    clear hW1 hP
    go_wp2_with fail
    refine (HM.out _ HA1.out).mono ?_
    rintro e w2 ⟨rfl, hb2⟩
    have HX2 := Lib.hid (obj_kept hb2 HX1.out)
    have HA2 := Lib.hid (SlcAt.mono HA1.out hb2)
    have HB2 := Lib.hid (below_step HB1.out hb2)
    clear hb2
    have q0 : w2.cell? ⟨P, 0, none⟩ = some (.int .i64 0) := Lib.cell_of_heap HX2.out 0
    have q1 : w2.cell? ⟨P, 1, none⟩ = some (.int .i64 0) := Lib.cell_of_heap HX2.out 1
    have f0 := Lib.frozen_of_heap HX2.out 0
    have f1 := Lib.frozen_of_heap HX2.out 1
    have H2 := Lib.hid (two_set HX2.out rfl (.int .i64 90) (.int .i64 0))
    have HG : Hid (w2.grownBy ((w2.setCell ⟨P, 0, none⟩ (.int .i64 90)).setCell ⟨P, 1, none⟩ (.int .i64 0)) (some P)) := Lib.hid (grown_set (grown_set (World.grownBy.refl _ _) _) _)
    go_wp2
    obtain ⟨WX, hWX⟩ : ∃ WX, WX = (w2.setCell ⟨P, 0, none⟩ (.int .i64 90)).setCell ⟨P, 1, none⟩ (.int .i64 0) := ⟨_, rfl⟩
    rw [← hWX] at H2 HG ⊢
    clear hWX q0 q1
    have q0 := Lib.cell_of_heap H2.out 0
    have q1 := Lib.cell_of_heap H2.out 1
    rw [HE.out]
    exact bodyPost_ret (v := .tuple #[.slice none 0 0, .bool false, .agg #[.int .i64 90, .int .i64 0]]) (by simp [results, Try.results11, go_sem, q0, q1]) rfl ⟨_, rfl, slc_none _ _ _, HB2.out.grown HG.out HB2.out.size (fun j hj => by cases hj; rw [HPn.out]; exact Nat.le_refl _)⟩
  | true =>
    rw [hmay] at HM
    cases h2 : bestW l t 200 with
    | some x =>
      have HE : Hid (brkR l t = (some x, false, 0)) := Lib.hid (by unfold brkR; rw [if_neg (by rw [hmay]; decide), h2])
      have HB200 := Lib.hid (HBt.out 200)
      rw [h2] at HB200
      unfold BestPost bz bl at HB200
      clear hmay h2
      go_enter Try.func11, Try.ntmps11
      go_upto_region 1 with fail
      rw [← hW1, ← hP]
      clear hW1 hP
      go_wp2_with fail
      refine (HM.out _ HA1.out).mono ?_
      rintro e w2 ⟨rfl, hb2⟩
      have HX2 := Lib.hid (obj_kept hb2 HX1.out)
      have HA2 := Lib.hid (SlcAt.mono HA1.out hb2)
      have HB2 := Lib.hid (below_step HB1.out hb2)
      clear hb2
      go_wp2_with fail
      refine (HB200.out _ HA2.out).mono ?_
      rintro e w3 ⟨u3, rfl, h3, b3⟩
      have HX3 := Lib.hid (obj_kept b3 HX2.out)
      have HA3 := Lib.hid (SlcAt.mono HA2.out b3)
      have HB3 := Lib.hid (below_step HB2.out b3)
      have HN3 := Lib.hid h3
      clear b3 h3
      obtain ⟨a3, m3, k3, e3⟩ := own_form9 HN3.out
      subst e3
      have q0 : w3.cell? ⟨P, 0, none⟩ = some (.int .i64 0) := Lib.cell_of_heap HX3.out 0
      have q1 : w3.cell? ⟨P, 1, none⟩ = some (.int .i64 0) := Lib.cell_of_heap HX3.out 1
      have f0 := Lib.frozen_of_heap HX3.out 0
      have f1 := Lib.frozen_of_heap HX3.out 1
      have H2 := Lib.hid (two_set HX3.out rfl (.int .i64 0) (.int .i64 0))
      have HG : Hid (w3.grownBy ((w3.setCell ⟨P, 0, none⟩ (.int .i64 0)).setCell ⟨P, 1, none⟩ (.int .i64 0)) (some P)) := Lib.hid (grown_set (grown_set (World.grownBy.refl _ _) _) _)
      go_wp2
      obtain ⟨WX, hWX⟩ : ∃ WX, WX = (w3.setCell ⟨P, 0, none⟩ (.int .i64 0)).setCell ⟨P, 1, none⟩ (.int .i64 0) := ⟨_, rfl⟩
      rw [← hWX] at H2 HG ⊢
      clear hWX q0 q1
      have q0 := Lib.cell_of_heap H2.out 0
      have q1 := Lib.cell_of_heap H2.out 1
      rw [HE.out]
      exact bodyPost_ret (v := .tuple #[.slice a3 m3 k3, .bool false, .agg #[.int .i64 0, .int .i64 0]]) (by simp [results, Try.results11, go_sem, q0, q1]) rfl ⟨_, rfl, own_far11 HN3.out HG.out HX3.out, HB3.out.grown HG.out HB3.out.size (fun j hj => by cases hj; rw [HPn.out]; exact Nat.le_refl _)⟩
    | none =>
      have HB200 := Lib.hid (HBt.out 200)
      rw [h2] at HB200
      unfold BestPost bz bl at HB200
      cases h3 : bestW l t 10000 with
      | some x =>
        have HE : Hid (brkR l t = (some x, true, 0)) := Lib.hid (by unfold brkR; rw [if_neg (by rw [hmay]; decide), h2]; simp only []; rw [h3])
        have HBI := Lib.hid (HBt.out 10000)
        rw [h3] at HBI
        unfold BestPost bz bl at HBI
        clear hmay h2 h3
        go_enter Try.func11, Try.ntmps11
        go_upto_region 1 with fail
        rw [← hW1, ← hP]
        clear hW1 hP
        go_wp2_with fail
        refine (HM.out _ HA1.out).mono ?_
        rintro e w2 ⟨rfl, hb2⟩
        have HX2 := Lib.hid (obj_kept hb2 HX1.out)
        have HA2 := Lib.hid (SlcAt.mono HA1.out hb2)
        have HB2 := Lib.hid (below_step HB1.out hb2)
        clear hb2
        go_wp2_with fail
        refine (HB200.out _ HA2.out).mono ?_
        rintro e w3 ⟨u3, rfl, h3, b3⟩
        have HX3 := Lib.hid (obj_kept b3 HX2.out)
        have HA3 := Lib.hid (SlcAt.mono HA2.out b3)
        have HB3 := Lib.hid (below_step HB2.out b3)
        have HN3 := Lib.hid h3
        clear b3 h3
        go_wp2_with fail
        refine (HBI.out _ HA3.out).mono ?_
        rintro e w4 ⟨u4, rfl, h4, b4⟩
        have HX4 := Lib.hid (obj_kept b4 HX3.out)
        have HA4 := Lib.hid (SlcAt.mono HA3.out b4)
        have HB4 := Lib.hid (below_step HB3.out b4)
        have HN4 := Lib.hid h4
        clear b4 h4
        obtain ⟨a3, m3, k3, e3⟩ := own_form9 HN4.out
        subst e3
        have q0 : w4.cell? ⟨P, 0, none⟩ = some (.int .i64 0) := Lib.cell_of_heap HX4.out 0
        have q1 : w4.cell? ⟨P, 1, none⟩ = some (.int .i64 0) := Lib.cell_of_heap HX4.out 1
        have f0 := Lib.frozen_of_heap HX4.out 0
        have f1 := Lib.frozen_of_heap HX4.out 1
        have H2 := Lib.hid (two_set HX4.out rfl (.int .i64 0) (.int .i64 0))
        have HG : Hid (w4.grownBy ((w4.setCell ⟨P, 0, none⟩ (.int .i64 0)).setCell ⟨P, 1, none⟩ (.int .i64 0)) (some P)) := Lib.hid (grown_set (grown_set (World.grownBy.refl _ _) _) _)
        go_wp2
        obtain ⟨WX, hWX⟩ : ∃ WX, WX = (w4.setCell ⟨P, 0, none⟩ (.int .i64 0)).setCell ⟨P, 1, none⟩ (.int .i64 0) := ⟨_, rfl⟩
        rw [← hWX] at H2 HG ⊢
        clear hWX q0 q1
        have q0 := Lib.cell_of_heap H2.out 0
        have q1 := Lib.cell_of_heap H2.out 1
        rw [HE.out]
        exact bodyPost_ret (v := .tuple #[.slice a3 m3 k3, .bool true, .agg #[.int .i64 0, .int .i64 0]]) (by simp [results, Try.results11, go_sem, q0, q1]) rfl ⟨_, rfl, own_far11 HN4.out HG.out HX4.out, HB4.out.grown HG.out HB4.out.size (fun j hj => by cases hj; rw [HPn.out]; exact Nat.le_refl _)⟩
      | none =>
        have HE : Hid (brkR l t = (none, false, 110)) := Lib.hid (by unfold brkR; rw [if_neg (by rw [hmay]; decide), h2]; simp only []; rw [h3])
        have HBI := Lib.hid (HBt.out 10000)
        rw [h3] at HBI
        unfold BestPost bz bl at HBI
        clear hmay h2 h3
        go_enter Try.func11, Try.ntmps11
        go_upto_region 1 with fail
        rw [← hW1, ← hP]
        clear hW1 hP
        go_wp2_with fail
        refine (HM.out _ HA1.out).mono ?_
        rintro e w2 ⟨rfl, hb2⟩
        have HX2 := Lib.hid (obj_kept hb2 HX1.out)
        have HA2 := Lib.hid (SlcAt.mono HA1.out hb2)
        have HB2 := Lib.hid (below_step HB1.out hb2)
        clear hb2
        go_wp2_with fail
        refine (HB200.out _ HA2.out).mono ?_
        rintro e w3 ⟨u3, rfl, h3, b3⟩
        have HX3 := Lib.hid (obj_kept b3 HX2.out)
        have HA3 := Lib.hid (SlcAt.mono HA2.out b3)
        have HB3 := Lib.hid (below_step HB2.out b3)
        have HN3 := Lib.hid h3
        clear b3 h3
        go_wp2_with fail
        refine (HBI.out _ HA3.out).mono ?_
        rintro e w4 ⟨u4, rfl, h4, b4⟩
        have HX4 := Lib.hid (obj_kept b4 HX3.out)
        have HA4 := Lib.hid (SlcAt.mono HA3.out b4)
        have HB4 := Lib.hid (below_step HB3.out b4)
        have HN4 := Lib.hid h4
        clear b4 h4
        have q0 : w4.cell? ⟨P, 0, none⟩ = some (.int .i64 0) := Lib.cell_of_heap HX4.out 0
        have q1 : w4.cell? ⟨P, 1, none⟩ = some (.int .i64 0) := Lib.cell_of_heap HX4.out 1
        have f0 := Lib.frozen_of_heap HX4.out 0
        have f1 := Lib.frozen_of_heap HX4.out 1
        have H2 := Lib.hid (two_set HX4.out rfl (.int .i64 110) (.int .i64 0))
        have HG : Hid (w4.grownBy ((w4.setCell ⟨P, 0, none⟩ (.int .i64 110)).setCell ⟨P, 1, none⟩ (.int .i64 0)) (some P)) := Lib.hid (grown_set (grown_set (World.grownBy.refl _ _) _) _)
        go_wp2
        obtain ⟨WX, hWX⟩ : ∃ WX, WX = (w4.setCell ⟨P, 0, none⟩ (.int .i64 110)).setCell ⟨P, 1, none⟩ (.int .i64 0) := ⟨_, rfl⟩
        rw [← hWX] at H2 HG ⊢
        clear hWX q0 q1
        have q0 := Lib.cell_of_heap H2.out 0
        have q1 := Lib.cell_of_heap H2.out 1
        rw [HE.out]
        exact bodyPost_ret (v := .tuple #[.slice none 0 0, .bool false, .agg #[.int .i64 110, .int .i64 0]]) (by simp [results, Try.results11, go_sem, q0, q1]) rfl ⟨_, rfl, slc_none _ _ _, HB4.out.grown HG.out HB4.out.size (fun j hj => by cases hj; rw [HPn.out]; exact Nat.le_refl _)⟩
end Go.Proofs.Ytdimfmpolbijeaa

namespace Go.Proofs.Ytdimfmpolbijeaa
open Go.RowKit

theorem fx11d : brkR threeL 22 = (bestW threeL 22 200, false, 0) := by decide +kernel
theorem fx11e : brkR threeL 9 = (none, false, 110) := by decide +kernel

set_option maxHeartbeats 8000000 in
set_option maxRecDepth 100000 in
theorem fixed11 (w : World) : Calls Try.prog 8 #[] w (Ret (.bool true) w) := by
  have HT := Lib.hid (fun w => three_any w)
  have HBs : Hid (∀ v w, ItsAt w v threeL → Calls Try.prog 9 #[v, .int .i64 22, .int .i64 200] w (fun e w' => ∃ u z, e = .returned (.tuple #[u, .int .i64 z, .bool true]) ∧ NumsAt w' u [3, 7] ∧ Below w.heap.size w w')) := Lib.hid (fun v w h => by
    refine (best_any v threeL 22 200 w h).mono ?_
    rintro e w' ⟨u, rfl, hu, hb⟩
    rw [fx11a.1]
    rw [fx11a.2] at hu
    exact ⟨u, _, rfl, hu.at inC_len, hb⟩)
  have HK1 : Hid (∀ v w, ItsAt w v threeL → Calls Try.prog 11 #[v, .int .i64 22] w (fun e w' => ∃ u, e = .returned (.tuple #[u, .bool false, .agg #[.int .i64 0, .int .i64 0]]) ∧ NumsAt w' u [3, 7] ∧ Below w.heap.size w w')) := Lib.hid (fun v w h => by
    refine (break_any v threeL 22 w h).mono ?_
    rw [fx11d]
    rintro e w' ⟨u, rfl, hu, hb⟩
    rw [fx11a.2] at hu
    exact ⟨u, rfl, hu, hb⟩)
  have HK2 : Hid (∀ v w, ItsAt w v threeL → Calls Try.prog 11 #[v, .int .i64 9] w (fun e w' => ∃ u, e = .returned (.tuple #[u, .bool false, .agg #[.int .i64 110, .int .i64 0]]) ∧ Below w.heap.size w w')) := Lib.hid (fun v w h => by
    refine (break_any v threeL 9 w h).mono ?_
    rw [fx11e]
    rintro e w' ⟨u, rfl, hu, hb⟩
    exact ⟨u, rfl, hb⟩)
  have HI : Hid (∀ u v w, NumsAt w u [3, 7] → NumsAt w v [3, 7] → Calls Try.prog 13 #[u, v] w (Ret (.bool true) w)) := Lib.hid (fun u v w hu hv => by
    have := ints_any u v [3, 7] [3, 7] w hu hv
    rw [decide_eq_true rfl] at this
    exact this)
  have B0 := Lib.hid (Below.refl w.heap.size w)
  go_enter Try.func8, Try.ntmps8
  go_wp2_with fail
  refine (HT.out _).mono ?_
  rintro e wa1 ⟨ua1, rfl, ia1, ba1⟩
  have IA1 := Lib.hid ia1
  have BA1 := Lib.hid (below_step B0.out ba1)
  clear ia1 ba1
  go_wp2_with fail
  refine (HBs.out _ _ IA1.out).mono ?_
  rintro e wc1 ⟨u1, z1, rfl, n1, bc1⟩
  have N1 := Lib.hid n1
  have BC1 := Lib.hid (below_step BA1.out bc1)
  clear n1 bc1
  go_wp2_with fail
  refine (HT.out _).mono ?_
  rintro e wa2 ⟨ua2, rfl, ia2, ba2⟩
  have IA2 := Lib.hid ia2
  have N2 := Lib.hid (SlcAt.mono N1.out ba2)
  have BA2 := Lib.hid (below_step BC1.out ba2)
  clear ia2 ba2
  go_wp2_with fail
  refine (HK1.out _ _ IA2.out).mono ?_
  rintro e wc2 ⟨u2, rfl, n2, bc2⟩
  have hbA := below_alloc wc2 (.cells #[.int .i64 0, .int .i64 0] 29)
  have HXA := Lib.hid (obj_new wc2 _ rfl #[.int .i64 0, .int .i64 0] 29)
  obtain ⟨WA, hWA⟩ : ∃ WA, WA = wc2.alloc (.cells #[.int .i64 0, .int .i64 0] 29) := ⟨_, rfl⟩
  rw [← hWA] at hbA HXA
  have M2 := Lib.hid (SlcAt.mono n2 hbA)
  have N3 := Lib.hid (SlcAt.mono N2.out (below_step bc2 hbA))
  have BC2 := Lib.hid (below_step BA2.out (below_step bc2 hbA))
  obtain ⟨P, hP⟩ : ∃ P, P = wc2.heap.size := ⟨_, rfl⟩
  rw [← hP] at HXA
  clear n2 bc2 hbA
  go_upto_region 3 with fail
  rw [← hWA, ← hP]
  clear hWA hP
  go_wp2_with fail
  refine (HT.out _).mono ?_
  rintro e wa3 ⟨ua3, rfl, ia3, ba3⟩
  have IA3 := Lib.hid ia3
  have N4 := Lib.hid (SlcAt.mono N3.out ba3)
  have M4 := Lib.hid (SlcAt.mono M2.out ba3)
  have X4 := Lib.hid (obj_kept ba3 HXA.out)
  have BA3 := Lib.hid (below_step BC2.out ba3)
  clear ia3 ba3
  go_wp2_with fail
  refine (HK2.out _ _ IA3.out).mono ?_
  rintro e wc3 ⟨u3, rfl, bc3⟩
  have hbB := below_alloc wc3 (.cells #[.int .i64 110, .int .i64 0] 29)
  have HXB := Lib.hid (obj_new wc3 _ rfl #[.int .i64 110, .int .i64 0] 29)
  obtain ⟨WB, hWB⟩ : ∃ WB, WB = wc3.alloc (.cells #[.int .i64 110, .int .i64 0] 29) := ⟨_, rfl⟩
  rw [← hWB] at hbB HXB
  have N5 := Lib.hid (SlcAt.mono N4.out (below_step bc3 hbB))
  have M5 := Lib.hid (SlcAt.mono M4.out (below_step bc3 hbB))
  have X5 := Lib.hid (obj_kept (below_step bc3 hbB) X4.out)
  have BC3 := Lib.hid (below_step BA3.out (below_step bc3 hbB))
  obtain ⟨R, hR⟩ : ∃ R, R = wc3.heap.size := ⟨_, rfl⟩
  rw [← hR] at HXB
  clear bc3 hbB
  go_upto_region 4 with fail
  rw [← hWB, ← hR]
  clear hWB hR
  have hbC := below_alloc WB (.cells #[.int .i64 3, .int .i64 7] 3)
  have S6 := Lib.hid (slc_new inC_len WB _ rfl [3, 7] 3 (by simp) #[.int .i64 3, .int .i64 7] rfl)
  have N6 := Lib.hid (SlcAt.mono N5.out hbC)
  have M6 := Lib.hid (SlcAt.mono M5.out hbC)
  have X6 := Lib.hid (obj_kept hbC X5.out)
  have Y6 := Lib.hid (obj_kept hbC HXB.out)
  have B6 := Lib.hid (below_step BC3.out hbC)
  clear hbC
  go_wp2_with fail
  refine (HI.out _ _ _ N6.out S6.out).mono ?_
  rintro e w7 ⟨rfl, b7⟩
  have N7 := Lib.hid (SlcAt.mono N6.out b7)
  have M7 := Lib.hid (SlcAt.mono M6.out b7)
  have X7 := Lib.hid (obj_kept b7 X6.out)
  have Y7 := Lib.hid (obj_kept b7 Y6.out)
  have B7 := Lib.hid (below_step B6.out b7)
  clear b7
  go_wp2_with fail
  refine (HI.out _ _ _ M7.out N7.out).mono ?_
  rintro e w8 ⟨rfl, b8⟩
  have q0 : w8.cell? ⟨P, 0, none⟩ = some (.int .i64 0) := Lib.cell_of_heap (obj_kept b8 X7.out) 0
  have q1 : w8.cell? ⟨R, 0, none⟩ = some (.int .i64 110) := Lib.cell_of_heap (obj_kept b8 Y7.out) 0
  have B8 := Lib.hid (below_step B7.out b8)
  clear b8
  go_wp2
  go_ret
  exact ⟨rfl, B8.out⟩
end Go.Proofs.Ytdimfmpolbijeaa

namespace Go.Proofs.Ytdimfmpolbijeaa
open Go.RowKit

theorem total_empty {l : List It.Itm} (h : l.length = 0) (bs : List Int) (t tol : Int) : It.total l bs t tol = none := by
  cases e : It.total l bs t tol with
  | none => rfl
  | some x =>
    obtain ⟨h1, y, h2, _⟩ := It.total_some e
    cases bs with
    | nil => simp at h1
    | cons b r =>
      simp only [It.goS] at h2
      cases ec : It.costOf l (-1) b t tol with
      | none => rw [ec] at h2; cases h2
      | some dc =>
        obtain ⟨d, c⟩ := dc
        have := It.costOf_lt ec
        omega
/-- no breaks are told: none may be -/
theorem best_none {l : List It.Itm} (hm : It.may l = true) {t tol : Int} (h : bestW l t tol = none) (bs : List Int) : It.total l bs t tol = none := by
  by_cases h0 : 0 < l.length
  · unfold bestW at h
    rw [if_pos ⟨hm, h0⟩] at h
    rw [It.total_run hm h0]
    exact (It.way_best l t tol l.length 0 2 (by omega)).1 h bs
  · exact total_empty (by omega) bs t tol
/-- breaks are told: what they cost, and that none are less bad, nor as bad with an earlier first unlike one -/
theorem best_some {l : List It.Itm} {t tol : Int} {x : Int × Int × List Int} (h : bestW l t tol = some x) : It.may l = true ∧ 0 < l.length ∧ It.run l t tol (-1) 2 x.2.2 = some x.1 ∧ It.total l x.2.2 t tol = some x.1 ∧ ∀ cs y, It.total l cs t tol = some y → x.1 ≤ y ∧ (x.1 = y → It.aheadL cs x.2.2 = false) := by
  unfold bestW at h
  split at h
  · rename_i hc
    obtain ⟨h1, h2⟩ := (It.way_best l t tol l.length 0 2 (by omega)).2 x h
    refine ⟨hc.1, hc.2, h1, by rw [It.total_run hc.1 hc.2]; exact h1, fun cs y hy => ?_⟩
    rw [It.total_run hc.1 hc.2] at hy
    exact h2 cs y hy
  · cases h
theorem run_ne {l : List It.Itm} {t tol a q y : Int} {bs : List Int} (ha : a < (l.length : Int) - 1) (h : It.run l t tol a q bs = some y) : bs ≠ [] := by
  intro e
  subst e
  simp only [It.run] at h
  rw [if_neg (by omega)] at h
  cases h
theorem run_cons {l : List It.Itm} {t tol a q y b : Int} {r : List Int} (h : It.run l t tol a q (b :: r) = some y) : ∃ d c y', It.costOf l a b t tol = some (d, c) ∧ It.run l t tol b c r = some y' ∧ -1 ≤ a ∧ a < b ∧ 0 ≤ b ∧ b < l.length ∧ It.legal l b = true := by
  simp only [It.run] at h
  cases e : It.costOf l a b t tol with
  | none => rw [e] at h; cases h
  | some dc =>
    obtain ⟨d, c⟩ := dc
    rw [e] at h
    simp only [] at h
    cases e2 : It.run l t tol b c r with
    | none => rw [e2] at h; cases h
    | some y' =>
      obtain ⟨S, h1, _⟩ := It.costOf_some e
      obtain ⟨h2, _⟩ := It.lineOf_some h1
      obtain ⟨h3, h4, h5, h6, h7, _⟩ := It.isLine_lt h2
      exact ⟨d, c, y', rfl, e2, h3, h4, h5, h6, h7⟩
theorem run_end {l : List It.Itm} {t tol a q y : Int} (h : It.run l t tol a q [] = some y) : a = (l.length : Int) - 1 := by
  simp only [It.run] at h
  split at h
  · assumption
  · cases h
/-- a higher tolerance: the same breaks, the same demerits -/
theorem run_more {l : List It.Itm} {t tol : Int} : ∀ {bs : List Int} {a q y : Int}, It.run l t tol a q bs = some y → It.run l t 10000 a q bs = some y
  | [], a, q, y, h => h
  | b :: r, a, q, y, h => by
    obtain ⟨d, c, y', h1, h2, _⟩ := run_cons h
    simp only [It.run] at h ⊢
    rw [h1] at h
    rw [(It.costOf_more h1).1]
    simp only [] at h ⊢
    rw [h2] at h
    rw [run_more h2]
    exact h
/-- each forced break is one of the breaks -/
theorem run_forced {l : List It.Itm} {t tol : Int} : ∀ {bs : List Int} {a q y : Int}, It.run l t tol a q bs = some y → ∀ (i : Nat) (x : It.Itm), a < i → l[i]? = some x → It.forced x = true → (i : Int) ∈ bs
  | [], a, q, y, h, i, x, hi, hx, hf => by
    have := run_end h
    have := (List.getElem?_eq_some_iff.1 hx).1
    omega
  | b :: r, a, q, y, h, i, x, hi, hx, hf => by
    obtain ⟨d, c, y', h1, h2, h3, h4, h5, h6, h7⟩ := run_cons h
    by_cases hib : (i : Int) ≤ b
    · by_cases he : (i : Int) = b
      · rw [he]; exact List.mem_cons_self
      · exfalso
        obtain ⟨s, hs⟩ : ∃ s : Nat, a + 1 = (s : Int) := ⟨(a + 1).toNat, by omega⟩
        obtain ⟨bn, rfl⟩ : ∃ bn : Nat, b = (bn : Int) := ⟨b.toNat, by omega⟩
        rw [It.cost_forced hs hx hf (by omega) (by omega) t tol] at h1
        cases h1
    · exact List.mem_cons_of_mem _ (run_forced h2 i x (by omega) hx hf)
end Go.Proofs.Ytdimfmpolbijeaa

namespace Go.Proofs.Ytdimfmpolbijeaa
open Go.RowKit

namespace It
/-- breaks that bits choose, from item i on -/
def chooseF (l : List Itm) : Nat → Nat → Int → List Int
  | 0, _, _ => []
  | m + 1, i, bits => if legal l i = true then (if bits.tmod 2 = 1 ∨ i + 1 = l.length then (i : Int) :: chooseF l m (i + 1) (RowKit.wrap64 (bits.tdiv 2)) else chooseF l m (i + 1) (RowKit.wrap64 (bits.tdiv 2))) else chooseF l m (i + 1) bits
def choose (l : List Itm) (bits : Int) : List Int := chooseF l l.length 0 bits
end It

set_option maxHeartbeats 8000000 in
set_option maxRecDepth 100000 in
theorem choice_any (v : Value) (l : List It.Itm) (bits : Int) (hlen : l.length ≤ 2000) (w : World) (h : ItsAt w v l) : Calls Try.prog 16 #[v, .int .i64 bits] w fun e w' => ∃ u, e = .returned u ∧ NumsAt w' u (It.choose l bits) ∧ Below w.heap.size w w' := by
  have HA := Lib.hid h
  have HLg := Lib.hid (fun b w h => refLegal_any v l b w h)
  obtain ⟨⟨p, cp, rfl, hcap⟩, hm, _⟩ := h
  have hza : l.length ≤ 9223372036854775807 := by unfold maxLen at hm; omega
  have Hmx := Lib.hid hm
  obtain ⟨n, hn⟩ : ∃ n, n = l.length := ⟨_, rfl⟩
  have Hn := Lib.hid hn
  have hA' := HA.out
  rw [← hn] at HLg hza hA' hlen ⊢
  have HA' := Lib.hid hA'
  obtain ⟨CS, hCS⟩ : ∃ CS, CS = It.choose l bits := ⟨_, rfl⟩
  have HCS := Lib.hid hCS
  rw [← hCS]
  have HO0 : Hid (OwnN w.heap.size (.slice (some ⟨w.heap.size, 0, none⟩) 0 0) [] (w.alloc (.cells #[] 3))) := Lib.hid (own_empty _ _ _ w)
  have HB0 := Lib.hid (below_alloc w (.cells #[] 3))
  clear hcap hm hn hA' hCS
  go_enter Try.func16, Try.ntmps16
  go_wp2_with fail
  go_loopw [1, 5, 6] (fun xv ov iv wr => ∃ (i : Nat) (z : Int) (acc : List Int), i ≤ n ∧ xv = .int .i64 z ∧ iv = .int .i64 i ∧ acc.length ≤ i ∧ Hid (acc ++ It.chooseF l (n - i) i z = CS) ∧ Hid (OwnN w.heap.size ov acc wr) ∧ Hid (Below w.heap.size w wr)) (fun _ _ iv _ => n - (intOf iv).toNat)
  case atStart => exact ⟨0, bits, [], Nat.zero_le _, rfl, rfl, by simp, Lib.hid (by rw [HCS.out]; unfold It.choose; rw [← Hn.out]; rfl), HO0, HB0⟩
  case round =>
    obtain ⟨i, z, acc, hi, rfl, rfl, hal, HC, HO, HB⟩ := hrel
    clear HO0 HB0
    by_cases hlt : i < n
    · have hni : n - i = (n - (i + 1)) + 1 := by omega
      have HIr := Lib.hid (SlcAt.mono HA'.out HB.out)
      have HLr := Lib.hid (HLg.out (i : Int) wr HIr.out)
      have HCn := Lib.hid HC.out
      rw [hni] at HCn
      unfold It.chooseF at HCn
      cases hlg : It.legal l (i : Int) with
      | false =>
        rw [hlg] at HLr HCn
        simp only [Bool.false_eq_true, if_false] at HCn
        clear hlg
        go_wp2_with fail
        refine HLr.out.mono ?_
        rintro e w2 ⟨rfl, rfl⟩
        go_wp2
        go_roundw
        case rel => exact ⟨i + 1, z, acc, by omega, rfl, by go_num, by omega, HCn, HO, HB⟩
        case measure => simp [intOf]; omega
      | true =>
        rw [hlg] at HLr HCn
        simp only [if_true] at HCn
        clear hlg
        have hB4 := below_alloc wr (.cells #[.int .i64 i] 3)
        have HO4 := Lib.hid (HO.out.mono hB4)
        have HS4 := Lib.hid (slc_new inC_len wr _ rfl [(i : Int)] 3 (by simp) #[.int .i64 i] rfl)
        have HB4 := Lib.hid (below_step HB.out hB4)
        have hz4 := HB4.out.size
        have hmx : n ≤ maxLen := by rw [Hn.out]; exact Hmx.out
        clear hB4
        by_cases hc : z.tmod 2 = 1 ∨ i + 1 = n
        · rw [← Hn.out, if_pos hc] at HCn
          by_cases hz : z.tmod 2 = 1
          · have hzb : (z.tmod 2 == 1) = true := by simp [hz]
            clear hc hz
            go_wp2_with fail
            refine HLr.out.mono ?_
            rintro e w2 ⟨rfl, rfl⟩
            go_wp2_with (at_builtin; refine wpList_append_slc Try.underlying24 infoInt11 rfl (by decide) inC_len inC_cell rfl _ _ rfl w.heap.size _ _ acc [(i : Int)] rfl HO4.out rfl HS4.out (by simp; omega) (by unfold maxLen; simp; omega) hz4 ?_; intro v9 w9 h9 hg9; have HO9 := Lib.hid h9; have HB9 := Lib.hid (below_app HB4.out hg9 HO4.out hz4); clear h9 hg9)
            go_roundw
            case rel => exact ⟨i + 1, _, acc ++ [(i : Int)], by omega, rfl, by go_num, by simp; omega, Lib.hid (by rw [List.append_assoc]; exact HCn.out), HO9, HB9⟩
            case measure => simp [intOf]; omega
          · have hzb : (z.tmod 2 == 1) = false := by simp [hz]
            have hib : ((i : Int) == (n : Int) - 1) = true := by rw [beq_iff_eq]; omega
            clear hc hz
            go_wp2_with fail
            refine HLr.out.mono ?_
            rintro e w2 ⟨rfl, rfl⟩
            go_wp2_with (at_builtin; refine wpList_append_slc Try.underlying24 infoInt11 rfl (by decide) inC_len inC_cell rfl _ _ rfl w.heap.size _ _ acc [(i : Int)] rfl HO4.out rfl HS4.out (by simp; omega) (by unfold maxLen; simp; omega) hz4 ?_; intro v9 w9 h9 hg9; have HO9 := Lib.hid h9; have HB9 := Lib.hid (below_app HB4.out hg9 HO4.out hz4); clear h9 hg9)
            go_roundw
            case rel => exact ⟨i + 1, _, acc ++ [(i : Int)], by omega, rfl, by go_num, by simp; omega, Lib.hid (by rw [List.append_assoc]; exact HCn.out), HO9, HB9⟩
            case measure => simp [intOf]; omega
        · rw [← Hn.out, if_neg hc] at HCn
          have hzb : (z.tmod 2 == 1) = false := beq_eq_false_iff_ne.2 (fun h => hc (.inl h))
          have hib : ((i : Int) == (n : Int) - 1) = false := beq_eq_false_iff_ne.2 (fun h => hc (.inr (by omega)))
          clear hc
          go_wp2_with fail
          refine HLr.out.mono ?_
          rintro e w2 ⟨rfl, rfl⟩
          go_wp2
          go_roundw
          case rel => exact ⟨i + 1, _, acc, by omega, rfl, by go_num, by omega, HCn, HO, HB⟩
          case measure => simp [intOf]; omega
    · have hE : n - i = 0 := by omega
      have HCe : Hid (acc = CS) := Lib.hid (by have := HC.out; rw [hE] at this; unfold It.chooseF at this; rw [List.append_nil] at this; exact this)
      go_wp2
      go_ret
      exact ⟨_, rfl, by rw [← HCe.out]; exact HO.out.at inC_len, HB.out⟩
end Go.Proofs.Ytdimfmpolbijeaa
