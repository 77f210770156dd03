/-
  The reference's Nums and Bools: two lists held against one another; the landed counted and Margin.
-/
import Derived.Test.YtffjboddnjbepaaNum16
set_option linter.unusedVariables false
set_option linter.unusedSimpArgs false
namespace Go.Proofs.Ytffjboddnjbepaa
open Go.RowKit

theorem slc_open {α : Type} {f : α → List Value} {k : Nat} {w : World} {v : Value} {l : List α} (h : SlcAt f k w v l) : ∃ a cap, v = .slice a l.length cap ∧ l.length ≤ maxLen ∧ (0 < l.length → ∃ b o, a = some ⟨b, o, none⟩ ∧ ∀ i x, l[i]? = some x → RecAt w b (o + i * k) (f x)) := by
  obtain ⟨⟨a, cap, rfl, hc⟩, hm, hk⟩ := h
  refine ⟨a, cap, rfl, hm, fun hp => ?_⟩
  obtain ⟨b, o, c, e, hx⟩ := hk hp
  injection e with e1
  exact ⟨b, o, e1, hx⟩
theorem take_snoc16 {α : Type} {l : List α} {k : Nat} {x : α} (h : l[k]? = some x) : l.take (k + 1) = l.take k ++ [x] := by rw [List.take_add_one, h]; rfl
set_option maxHeartbeats 8000000 in
set_option maxRecDepth 100000 in
theorem refNums_any (u v : Value) (x y : List (Int × Int)) (w : World) (hu : NmsAt w u x) (hv : NmsAt w v y) : Calls Try.prog 10 #[u, v] w fun e w' => e = .returned (.bool (decide (x = y))) ∧ Below w.heap.size w w' := by
  obtain ⟨a, ca, rfl, hma, hka⟩ := slc_open hu
  obtain ⟨b, cb, rfl, hmb, hkb⟩ := slc_open hv
  have hza : x.length ≤ 9223372036854775807 := by unfold maxLen at hma; omega
  have hzb : y.length ≤ 9223372036854775807 := by unfold maxLen at hmb; omega
  by_cases hl : x.length = y.length
  · have HKA := Lib.hid hka
    have HKB := Lib.hid hkb
    have HL := Lib.hid hl
    obtain ⟨n, hn⟩ : ∃ n, n = x.length := ⟨_, rfl⟩
    have Hn := Lib.hid hn
    rw [← hl, ← hn]
    rw [← hn] at hza
    have HB := Lib.hid (Below.refl w.heap.size w)
    obtain ⟨r, hr⟩ : ∃ r : Bool, r = decide (x = y) := ⟨_, rfl⟩
    have HRr := Lib.hid hr
    rw [← hr]
    clear hu hv hma hmb hka hkb hl hn hzb hr
    go_enter Try.func10, Try.ntmps10
    go_wp2_with fail
    go_loopw [5] (fun kv wr => ∃ k : Nat, k ≤ n ∧ kv = .int .i64 k ∧ Hid (x.take k = y.take k) ∧ Hid (Below w.heap.size w wr)) (fun kv _ => n - (intOf kv).toNat)
    case atStart => exact ⟨0, Nat.zero_le _, rfl, Lib.hid (by rw [List.take_zero, List.take_zero]), HB⟩
    case round =>
      obtain ⟨k, hk, rfl, HT, HBr⟩ := hrel
      clear HB
      by_cases hlt : k < n
      · obtain ⟨b1, o1, rfl, h1⟩ := HKA.out (by rw [← Hn.out]; omega)
        obtain ⟨b2, o2, rfl, h2⟩ := HKB.out (by rw [← HL.out, ← Hn.out]; omega)
        obtain ⟨p, hp⟩ : ∃ p, x[k]? = some p := ⟨_, List.getElem?_eq_getElem (by rw [← Hn.out]; exact hlt)⟩
        obtain ⟨q, hq⟩ : ∃ q, y[k]? = some q := ⟨_, List.getElem?_eq_getElem (by rw [← HL.out, ← Hn.out]; exact hlt)⟩
        have hc1 := nm_cells ((h1 k p hp).mono HBr.out)
        have hc2 := nm_cells ((h2 k q hq).mono HBr.out)
        have k0 : (0 : Int) ≤ (k : Int) := by omega
        have kl : (k : Int) < (n : Int) := by omega
        have HP := Lib.hid hp
        have HQ := Lib.hid hq
        clear h1 h2 hp hq
        obtain ⟨p1, p2⟩ := p
        obtain ⟨q1, q2⟩ := q
        obtain ⟨c1, c2⟩ := hc1
        obtain ⟨c3, c4⟩ := hc2
        by_cases he : (p1, p2) = (q1, q2)
        · have HN : Hid (x.take (k + 1) = y.take (k + 1)) := Lib.hid (by rw [take_snoc16 HP.out, take_snoc16 HQ.out, HT.out, he])
          have heq : ∀ w, (binOp .neq 31 (.agg #[.int .i64 p1, .int .i64 p2]) (.agg #[.int .i64 q1, .int .i64 q2])).run Try.prog w = .ok (.bool false) w := fun w => by
            rw [run_neq_struct, eq_num]
            have e : decide ((p1, p2) = (q1, q2)) = true := by rw [decide_eq_true_iff]; exact he
            rw [e]; rfl
          clear he
          go_wp2_with fail
          go_quiet (fail)
          go_wp2
          go_roundw
          case rel => exact ⟨k + 1, by omega, by go_num, HN, Lib.hid (below_step HBr.out (below_drew _ _))⟩
          case measure => simp [intOf]; omega
        · have HE : Hid (r = false) := Lib.hid (by
            rw [HRr.out, decide_eq_false]
            intro e
            have := HP.out
            rw [e, HQ.out] at this
            exact he (Option.some.inj this).symm)
          have heq : ∀ w, (binOp .neq 31 (.agg #[.int .i64 p1, .int .i64 p2]) (.agg #[.int .i64 q1, .int .i64 q2])).run Try.prog w = .ok (.bool true) w := fun w => by
            rw [run_neq_struct, eq_num]
            have e : decide ((p1, p2) = (q1, q2)) = false := by rw [decide_eq_false_iff_not]; exact he
            rw [e]; rfl
          clear he
          go_wp2_with fail
          go_quiet (fail)
          go_wp2
          go_ret
          rw [HE.out]
          exact ⟨rfl, below_step HBr.out (below_drew _ _)⟩
      · have HE : Hid (r = true) := Lib.hid (by
          rw [HRr.out, decide_eq_true]
          have := HT.out
          rw [List.take_of_length_le (by rw [← Hn.out]; omega), List.take_of_length_le (by rw [← HL.out, ← Hn.out]; omega)] at this
          exact this)
        go_wp2
        go_ret
        rw [HE.out]
        exact ⟨rfl, HBr.out⟩
  · have hE : decide (x = y) = false := decide_eq_false (fun e => hl (by rw [e]))
    have hne : ¬ ((x.length : Int) = (y.length : Int)) := by omega
    rw [hE]
    clear hu hv hma hmb hka hkb
    go_enter Try.func10, Try.ntmps10
    go_wp2
    go_ret
    exact ⟨rfl, Below.refl _ _⟩
set_option maxHeartbeats 8000000 in
set_option maxRecDepth 100000 in
theorem refBools_any (u v : Value) (x y : List Bool) (w : World) (hu : BlsAt w u x) (hv : BlsAt w v y) : Calls Try.prog 14 #[u, v] w fun e w' => e = .returned (.bool (decide (x = y))) ∧ Below w.heap.size w w' := by
  obtain ⟨a, ca, rfl, hma, hka⟩ := slc_open hu
  obtain ⟨b, cb, rfl, hmb, hkb⟩ := slc_open hv
  have hza : x.length ≤ 9223372036854775807 := by unfold maxLen at hma; omega
  have hzb : y.length ≤ 9223372036854775807 := by unfold maxLen at hmb; omega
  by_cases hl : x.length = y.length
  · have HKA := Lib.hid hka
    have HKB := Lib.hid hkb
    have HL := Lib.hid hl
    obtain ⟨n, hn⟩ : ∃ n, n = x.length := ⟨_, rfl⟩
    have Hn := Lib.hid hn
    rw [← hl, ← hn]
    rw [← hn] at hza
    have HB := Lib.hid (Below.refl w.heap.size w)
    obtain ⟨r, hr⟩ : ∃ r : Bool, r = decide (x = y) := ⟨_, rfl⟩
    have HRr := Lib.hid hr
    rw [← hr]
    clear hu hv hma hmb hka hkb hl hn hzb hr
    go_enter Try.func14, Try.ntmps14
    go_wp2_with fail
    go_loopw [5] (fun kv wr => ∃ k : Nat, k ≤ n ∧ kv = .int .i64 k ∧ Hid (x.take k = y.take k) ∧ Hid (Below w.heap.size w wr)) (fun kv _ => n - (intOf kv).toNat)
    case atStart => exact ⟨0, Nat.zero_le _, rfl, Lib.hid (by rw [List.take_zero, List.take_zero]), HB⟩
    case round =>
      obtain ⟨k, hk, rfl, HT, HBr⟩ := hrel
      clear HB
      by_cases hlt : k < n
      · obtain ⟨b1, o1, rfl, h1⟩ := HKA.out (by rw [← Hn.out]; omega)
        obtain ⟨b2, o2, rfl, h2⟩ := HKB.out (by rw [← HL.out, ← Hn.out]; omega)
        obtain ⟨p, hp⟩ : ∃ p, x[k]? = some p := ⟨_, List.getElem?_eq_getElem (by rw [← Hn.out]; exact hlt)⟩
        obtain ⟨q, hq⟩ : ∃ q, y[k]? = some q := ⟨_, List.getElem?_eq_getElem (by rw [← HL.out, ← Hn.out]; exact hlt)⟩
        have hc1 := bl_cell ((h1 k p hp).mono HBr.out)
        have hc2 := bl_cell ((h2 k q hq).mono HBr.out)
        have k0 : (0 : Int) ≤ (k : Int) := by omega
        have kl : (k : Int) < (n : Int) := by omega
        have HP := Lib.hid hp
        have HQ := Lib.hid hq
        clear h1 h2 hp hq

        by_cases he : p = q
        · have HN : Hid (x.take (k + 1) = y.take (k + 1)) := Lib.hid (by rw [take_snoc16 HP.out, take_snoc16 HQ.out, HT.out, he])
          subst he
          rw [Nat.mul_one] at hc1 hc2
          go_wp2_with fail
          go_quiet (fail)
          go_wp2
          go_roundw
          case rel => exact ⟨k + 1, by omega, by go_num, HN, Lib.hid (below_step HBr.out (below_drew _ _))⟩
          case measure => simp [intOf]; omega
        · have HE : Hid (r = false) := Lib.hid (by
            rw [HRr.out, decide_eq_false]
            intro e
            have := HP.out
            rw [e, HQ.out] at this
            exact he (Option.some.inj this).symm)
          have heq : (p == q) = false := by simp [he]
          rw [Nat.mul_one] at hc1 hc2
          go_wp2_with fail
          go_quiet (fail)
          go_wp2
          go_ret
          rw [HE.out]
          exact ⟨rfl, below_step HBr.out (below_drew _ _)⟩
      · have HE : Hid (r = true) := Lib.hid (by
          rw [HRr.out, decide_eq_true]
          have := HT.out
          rw [List.take_of_length_le (by rw [← Hn.out]; omega), List.take_of_length_le (by rw [← HL.out, ← Hn.out]; omega)] at this
          exact this)
        go_wp2
        go_ret
        rw [HE.out]
        exact ⟨rfl, HBr.out⟩
  · have hE : decide (x = y) = false := decide_eq_false (fun e => hl (by rw [e]))
    have hne : ¬ ((x.length : Int) = (y.length : Int)) := by omega
    rw [hE]
    clear hu hv hma hmb hka hkb
    go_enter Try.func14, Try.ntmps14
    go_wp2
    go_ret
    exact ⟨rfl, Below.refl _ _⟩

/-! ### the margin -/
set_option maxHeartbeats 4000000 in
set_option maxRecDepth 100000 in
theorem counted_any (x : Int × Int) (first step : Int) (w : World) (hs : 1 ≤ step) : Calls Try.prog 15 #[nmV x, .int .i64 first, .int .i64 step] w fun e w' => e = .returned (.bool (Ln.cnt x first step)) ∧ Below w.heap.size w w' := by
  obtain ⟨a, b⟩ := x
  obtain ⟨W1, hW1⟩ : ∃ W, W = w.alloc (.cells #[.int .i64 a, .int .i64 b] 31) := ⟨_, rfl⟩
  have b1 := below_alloc w (.cells #[.int .i64 a, .int .i64 b] 31)
  have X1 := obj_new w _ rfl #[.int .i64 a, .int .i64 b] 31
  rw [← hW1] at b1 X1
  have HB := Lib.hid b1
  have q0 := Lib.cell_of_heap X1 0
  have q1 := Lib.cell_of_heap X1 1
  obtain ⟨P, hP⟩ : ∃ P, P = w.heap.size := ⟨_, rfl⟩
  rw [← hP] at q0 q1
  obtain ⟨r, hr⟩ : ∃ r, r = Ln.cnt (a, b) first step := ⟨_, rfl⟩
  have HR := Lib.hid hr
  rw [← hr]
  have hs0 : ¬ step = 0 := by omega
  have hs1 : ¬ step = -1 := by omega
  clear b1 X1 hr
  unfold nmV
  go_enter Try.func15, Try.ntmps15
  go_upto_region 1 with fail
  rw [← hW1, ← hP]
  clear hW1 hP
  by_cases c1 : a < 1
  · have HE : Hid (r = false) := Lib.hid (by rw [HR.out]; unfold Ln.cnt; simp only []; rw [decide_eq_false (show ¬ 0 < a by omega)]; rfl)
    go_wp2
    go_ret
    rw [HE.out]
    exact ⟨rfl, HB.out⟩
  · by_cases c2 : a < first
    · have HE : Hid (r = false) := Lib.hid (by rw [HR.out]; unfold Ln.cnt; simp only []; rw [decide_eq_false (show ¬ first ≤ a by omega)]; simp)
      go_wp2
      go_ret
      rw [HE.out]
      exact ⟨rfl, HB.out⟩
    · by_cases c3 : b = 0
      · have HE : Hid (r = decide ((Ln.wr (a - first)).tmod step = 0)) := Lib.hid (by rw [HR.out]; unfold Ln.cnt; simp only []; rw [decide_eq_true (show 0 < a by omega), decide_eq_true (show first ≤ a by omega), decide_eq_true c3]; rfl)
        go_wp2
        go_ret
        rw [HE.out]
        refine ⟨?_, HB.out⟩
        rw [wr_is16]
        rfl
      · have HE : Hid (r = false) := Lib.hid (by rw [HR.out]; unfold Ln.cnt; simp only []; rw [decide_eq_false c3]; simp)
        go_wp2
        go_ret
        rw [HE.out]
        exact ⟨rfl, HB.out⟩
theorem goM_step {first step : Int} {l : List (Int × Int)} {k : Nat} {x : Int × Int} (hx : l[k]? = some x) {os M : List Bool} (h : os ++ Ln.goM first step (Ln.prev l k) (l.drop k) = M) :
    (os ++ [decide (Ln.prev l k ≠ some x) && Ln.cnt x first step]) ++ Ln.goM first step (Ln.prev l (k + 1)) (l.drop (k + 1)) = M := by
  have hd : l.drop k = x :: l.drop (k + 1) := by
    obtain ⟨hlt, e⟩ := List.getElem?_eq_some_iff.1 hx
    rw [List.drop_eq_getElem_cons hlt, e]
  rw [hd] at h
  unfold Ln.goM at h
  rw [Ln.prev_succ hx, ← h, List.append_assoc]
  rfl
/-- what stands while the margin is made: the copied number, the row of bools -/
structure Mst (w : World) (R b : Nat) (x y : Int) (ys : List Bool) (W : World) : Prop where
  bel : Below w.heap.size w W
  num : W.heap[R]? = some (.cells #[.int .i64 x, .int .i64 y] 31 (0, 0))
  row : RowM 4 blC b ys W
theorem Mst.go {w : World} {R b : Nat} {x y : Int} {ys : List Bool} {W W' : World} (h : Mst w R b x y ys W) (hb : Below W.heap.size W W') : Mst w R b x y ys W' := ⟨below_step h.bel hb, obj_kept hb h.num, h.row.below hb⟩
set_option maxHeartbeats 8000000 in
set_option maxRecDepth 100000 in
theorem margin_any (v : Value) (l : List (Int × Int)) (first step : Int) (w : World) (h : NmsAt w v l) (hb : l.length ≤ 100000) :
    Calls Try.prog 11 #[v, .int .i64 first, .int .i64 step] w fun e w' => ∃ v', e = .returned v' ∧ BlsAt w' v' (Ln.margin l first step) ∧ Below w.heap.size w w' := by
  have HR := Lib.hid h
  obtain ⟨⟨p, cp, rfl, hcap⟩, hm, _⟩ := h
  obtain ⟨M, hM⟩ : ∃ M, M = Ln.margin l first step := ⟨_, rfl⟩
  have HMe := Lib.hid hM
  have HMl : Hid (M.length = l.length) := Lib.hid (by rw [hM]; exact Ln.margin_len _ _ _)
  rw [← hM]
  clear hM
  obtain ⟨n, hn⟩ : ∃ n, n = l.length := ⟨_, rfl⟩
  have Hn := Lib.hid hn
  rw [← hn] at hb hm hcap HMl ⊢
  clear hn
  have hz : n ≤ 9223372036854775807 := by omega
  obtain ⟨i0, hi0, hz0, hz1, hz2⟩ := info_parts infoBl
  obtain ⟨W1, hrun, hown, hg⟩ := run_make_full (P := Try.prog) w w.heap.size 34 4 i0 _ 1 Try.underlying34 hi0 hz0 hz1 .i64 .i64 n (by rw [hz2]; omega) hm (Nat.le_refl _)
  have hM1 := RowM.madeB hown
  have hb1 : Below w.heap.size w W1 := (Below.refl _ _).grown (row := none) hg (Nat.le_refl _) (fun q h => by cases h)
  obtain ⟨b, hbb⟩ : ∃ b, b = w.heap.size := ⟨_, rfl⟩
  have hble : w.heap.size ≤ b := by omega
  rw [← hbb] at hrun hM1
  have HM1 := Lib.hid hM1
  have HB1 := Lib.hid hb1
  clear hM1 hb1 hown hg hi0 hz0 hz1 hz2 hbb hm hcap
  by_cases hst : step < 1
  · have HF : Hid (BlsAt W1 (.slice (some ⟨b, 0, none⟩) n n) M) := Lib.hid (by
      have h2 := RowM.at blC_len HM1.out (by rw [List.length_replicate]; unfold maxLen; omega)
      rw [List.length_replicate] at h2
      rw [HMe.out]
      unfold Ln.margin
      rw [if_pos hst, ← Hn.out]
      exact h2)
    go_enter Try.func11, Try.ntmps11
    go_wp2_with fail
    go_ret
    exact ⟨_, rfl, HF.out, HB1.out⟩
  have HN0 : Hid (([] : List Bool) ++ Ln.goM first step (Ln.prev l 0) (l.drop 0) = M) := Lib.hid (by rw [HMe.out, List.nil_append, Ln.prev_zero, List.drop_zero]; unfold Ln.margin; rw [if_neg hst])
  have hs1 : 1 ≤ step := by omega
  have HM2 : Hid (RowM 4 blC b ([] ++ List.replicate (n - 0) false) W1) := Lib.hid HM1.out
  go_enter Try.func11, Try.ntmps11
  go_wp2_with fail
  clear hrun
  go_loopw [19] (fun kv wr => ∃ k : Nat, k ≤ n ∧ kv = .int .i64 k ∧ ∃ (os : List Bool), Hid (os ++ Ln.goM first step (Ln.prev l k) (l.drop k) = M) ∧ Hid (os.length = k) ∧ Hid (RowM 4 blC b (os ++ List.replicate (n - k) false) wr) ∧ Hid (Below w.heap.size w wr)) (fun kv _ => n - (intOf kv).toNat)
  case atStart => exact ⟨0, Nat.zero_le _, rfl, [], HN0, Lib.hid rfl, HM2, HB1⟩
  case round =>
    obtain ⟨k, hk, rfl, os, HG, HL, HM, HB⟩ := hrel
    clear HN0 HM2 HB1 HM1
    by_cases hlt : k < n
    · obtain ⟨b1, o1, d1, e1, r1⟩ := HR.out.2.2 (by rw [← Hn.out]; omega)
      rw [← Hn.out] at e1
      obtain ⟨rfl, rfl⟩ : p = some ⟨b1, o1, none⟩ ∧ cp = d1 := by injection e1 with a1 a2 a3; exact ⟨a1, a3⟩
      obtain ⟨⟨x, y⟩, hr⟩ : ∃ r, l[k]? = some r := ⟨_, List.getElem?_eq_getElem (by rw [← Hn.out]; exact hlt)⟩
      have Hr := Lib.hid hr
      obtain ⟨y0, y1⟩ := nm_cells ((r1 k _ hr).mono HB.out)
      have HR1 := Lib.hid r1
      have k0 : (0 : Int) ≤ (k : Int) := by omega
      have kl : (k : Int) < (n : Int) := by omega
      have hs : os ++ List.replicate (n - k) false = os ++ false :: List.replicate (n - (k + 1)) false := by rw [rep_cons _ hlt]
      obtain ⟨Wr, hWr⟩ : ∃ W, W = wr.alloc (.cells #[.int .i64 x, .int .i64 y] 31) := ⟨_, rfl⟩
      have hbr := below_alloc wr (.cells #[.int .i64 x, .int .i64 y] 31)
      have hRr := obj_new wr _ rfl #[.int .i64 x, .int .i64 y] 31
      rw [← hWr] at hbr hRr
      obtain ⟨R, hR⟩ : ∃ R, R = wr.heap.size := ⟨_, rfl⟩
      rw [← hR] at hRr
      have HS3 : Hid (Mst w R b x y (os ++ false :: List.replicate (n - (k + 1)) false) Wr) := Lib.hid ⟨below_step HB.out hbr, hRr, by have := HM.out.below hbr; rwa [hs] at this⟩
      have HRb : Hid (b ≠ R) := Lib.hid (by have := HM.out.lt; omega)
      have HGn := Lib.hid (goM_step hr HG.out)
      have HSq := Lib.hid (fun nq => HS3.out.go (below_drew Wr nq))
      have HC := Lib.hid (fun w => counted_any (x, y) first step w hs1)
      obtain ⟨c, hc⟩ : ∃ c, c = Ln.cnt (x, y) first step := ⟨_, rfl⟩
      rw [← hc] at HC HGn
      unfold nmV at HC
      simp only [] at HC
      clear hc hr hbr hRr hs e1 r1
      go_upto_region 7 with fail
      rw [← hR, ← hWr]
      clear hR hWr y0 y1
      have t0 := fun nq => Lib.cell_of_heap (HSq.out nq).num 0
      have t1 := fun nq => Lib.cell_of_heap (HSq.out nq).num 1
      have u0 := Lib.cell_of_heap HS3.out.num 0
      have u1 := Lib.cell_of_heap HS3.out.num 1
      rcases Nat.eq_zero_or_pos k with hk0 | hk0
      · have ck : (0 < k) = False := by rw [eq_iff_iff]; exact ⟨fun h => by omega, False.elim⟩
        have cd : decide (0 < k) = false := by rw [decide_eq_false_iff_not]; omega
        have HE : Hid ((decide (Ln.prev l k ≠ some (x, y)) && c) = c) := Lib.hid (by rw [hk0, Ln.prev_zero]; simp)
        clear hk0
        go_quiet (fail)
        go_wp2_with fail
        refine (HC.out _).mono ?_
        rintro e w9 ⟨rfl, hb9⟩
        have HS9 := Lib.hid ((HSq.out _).go hb9)
        clear hb9 t0 t1 u0 u1
        obtain ⟨c0, c1⟩ := HS9.out.row.cellB
        have hset := HS9.out.row.setB c
        rw [HL.out] at c0 c1 hset
        have HMn := Lib.hid hset.snoc
        have HBn := Lib.hid (HS9.out.bel.setCell (p := ⟨b, k, none⟩) hble (.bool c))
        clear hset
        go_wp2_with fail
        go_roundw
        case rel => exact ⟨k + 1, by omega, by go_num, os ++ [c], Lib.hid (by have := HGn.out; rwa [HE.out] at this), Lib.hid (by rw [List.length_append, HL.out]; rfl), HMn, HBn⟩
        case measure => simp [intOf]; omega
      · obtain ⟨j, hj⟩ : ∃ j, k = j + 1 := ⟨k - 1, by omega⟩
        obtain ⟨⟨x', y'⟩, hq⟩ : ∃ q, l[j]? = some q := ⟨_, List.getElem?_eq_getElem (by rw [← Hn.out]; omega)⟩
        obtain ⟨z0, z1⟩ := nm_cells ((HR1.out j _ hq).mono HS3.out.bel)
        have HP : Hid (Ln.prev l k = some (x', y')) := Lib.hid (by rw [hj]; exact Ln.prev_succ hq)
        have j0 : (0 : Int) ≤ (j : Int) := by omega
        have jl : (j : Int) < (n : Int) := by omega
        have km2 : IntKind.i64.wrap ((k : Int) - 1) = (j : Int) := by rw [IntWalk.i64_left, IntWalk.wrap64_in _ (by omega)]; omega
        have cd : decide (0 < k) = true := by rw [decide_eq_true_iff]; exact hk0
        by_cases hne : (x, y) = (x', y')
        · have HE : Hid ((decide (Ln.prev l k ≠ some (x, y)) && c) = false) := Lib.hid (by rw [HP.out, hne]; simp)
          have heq : ∀ w, (binOp .eql 31 (.agg #[.int .i64 x, .int .i64 y]) (.agg #[.int .i64 x', .int .i64 y'])).run Try.prog w = .ok (.bool true) w := fun w => by
            rw [run_eql_struct, eq_num]
            have e : decide ((x, y) = (x', y')) = true := by rw [decide_eq_true_iff]; exact hne
            rw [e]; rfl
          clear hj hq hne
          go_quiet (fail)
          have c0 := fun nq => (HSq.out nq).row.cellB.1
          have c1 := fun nq => (HSq.out nq).row.cellB.2
          have hset := fun nq => (HSq.out nq).row.setB false
          simp only [HL.out] at c0 c1 hset
          have HMn := Lib.hid (fun nq => (hset nq).snoc)
          have HBn := Lib.hid (fun nq => (HSq.out nq).bel.setCell (p := ⟨b, k, none⟩) hble (.bool false))
          clear hset
          go_wp2_with fail
          go_roundw
          case rel => exact ⟨k + 1, by omega, by go_num, os ++ [false], Lib.hid (by have := HGn.out; rwa [HE.out] at this), Lib.hid (by rw [List.length_append, HL.out]; rfl), Lib.hid (HMn.out _), Lib.hid (HBn.out _)⟩
          case measure => simp [intOf]; omega
        · have HE : Hid ((decide (Ln.prev l k ≠ some (x, y)) && c) = c) := Lib.hid (by rw [HP.out, decide_eq_true (show some (x', y') ≠ some (x, y) from fun e => hne (Option.some.inj e).symm)]; rfl)
          have heq : ∀ w, (binOp .eql 31 (.agg #[.int .i64 x, .int .i64 y]) (.agg #[.int .i64 x', .int .i64 y'])).run Try.prog w = .ok (.bool false) w := fun w => by
            rw [run_eql_struct, eq_num]
            have e : decide ((x, y) = (x', y')) = false := by rw [decide_eq_false_iff_not]; exact hne
            rw [e]; rfl
          clear hj hq hne
          go_quiet (fail)
          go_wp2_with fail
          refine (HC.out _).mono ?_
          rintro e w9 ⟨rfl, hb9⟩
          have HS9 := Lib.hid ((HSq.out _).go hb9)
          clear hb9 t0 t1 u0 u1
          obtain ⟨c0, c1⟩ := HS9.out.row.cellB
          have hset := HS9.out.row.setB c
          rw [HL.out] at c0 c1 hset
          have HMn := Lib.hid hset.snoc
          have HBn := Lib.hid (HS9.out.bel.setCell (p := ⟨b, k, none⟩) hble (.bool c))
          clear hset
          go_wp2_with fail
          go_roundw
          case rel => exact ⟨k + 1, by omega, by go_num, os ++ [c], Lib.hid (by have := HGn.out; rwa [HE.out] at this), Lib.hid (by rw [List.length_append, HL.out]; rfl), HMn, HBn⟩
          case measure => simp [intOf]; omega
    · obtain rfl : k = n := by omega
      have HF : Hid (BlsAt wr (.slice (some ⟨b, 0, none⟩) k k) M) := Lib.hid (by
        have e : os = M := by
          have h0 := HG.out
          rw [List.drop_of_length_le (by rw [← Hn.out]; exact Nat.le_refl _)] at h0
          have hgo : ∀ p, Ln.goM first step p [] = [] := fun p => by cases p <;> rfl
          rwa [hgo, List.append_nil] at h0
        have h1 := HM.out
        rw [Nat.sub_self, List.replicate_zero, List.append_nil, e] at h1
        have h2 := RowM.at blC_len h1 (by rw [HMl.out]; unfold maxLen; omega)
        rwa [HMl.out] at h2)
      go_wp2
      go_ret
      exact ⟨_, rfl, HF.out, HB.out⟩
end Go.Proofs.Ytffjboddnjbepaa
