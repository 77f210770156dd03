/-
  Rows of numbers and of bools that are written in place; the landed Number.
-/
import Derived.Test.YtffjboddnjbepaaMem16
import Derived.Deep.RegionHeld3
set_option linter.unusedVariables false
set_option linter.unusedSimpArgs false
namespace Go.Proofs.Ytffjboddnjbepaa
open Go.RowKit

/-- the block b holds just these records -/
def RowM {α : Type} (T : TypeId) (f : α → List Value) (b : Nat) (ys : List α) (w : World) : Prop := ∃ cs : Array Value, w.heap[b]? = some (.cells cs T (0, 0)) ∧ cs.toList = ys.flatMap f
theorem RowM.below {α : Type} {T : TypeId} {f : α → List Value} {b : Nat} {ys : List α} {w w' : World} (h : RowM T f b ys w) (hb : Below w.heap.size w w') : RowM T f b ys w' := by
  obtain ⟨cs, h1, h2⟩ := h
  exact ⟨cs, obj_kept hb h1, h2⟩
theorem RowM.off {α : Type} {T : TypeId} {f : α → List Value} {b p i : Nat} {v : Value} {ys : List α} {w : World} (h : RowM T f b ys w) (hp : b ≠ p) : RowM T f b ys (w.setCell ⟨p, i, none⟩ v) := by
  obtain ⟨cs, h1, h2⟩ := h
  exact ⟨cs, obj_set h1 hp, h2⟩
theorem RowM.snoc {α : Type} {T : TypeId} {f : α → List Value} {b : Nat} {os rs : List α} {y : α} {w : World} (h : RowM T f b (os ++ y :: rs) w) : RowM T f b ((os ++ [y]) ++ rs) w := by
  rw [List.append_assoc]
  exact h
theorem RowM.lt {α : Type} {T : TypeId} {f : α → List Value} {b : Nat} {ys : List α} {w : World} (h : RowM T f b ys w) : b < w.heap.size := by
  obtain ⟨cs, h1, _⟩ := h
  exact lt_of_obj h1
theorem RowM.at {α : Type} {T : TypeId} {f : α → List Value} {k b : Nat} {ys : List α} {w : World} (hf : ∀ x, (f x).length = k) (h : RowM T f b ys w) (hm : ys.length ≤ maxLen) : SlcAt f k w (.slice (some ⟨b, 0, none⟩) ys.length ys.length) ys := by
  obtain ⟨cs, h1, h2⟩ := h
  refine ⟨⟨_, _, rfl, Nat.le_refl _⟩, hm, fun hp => ⟨b, 0, _, rfl, fun i x hx j u hj => ?_⟩⟩
  rw [Lib.cell_of_heap h1, ← Array.getElem?_toList, h2, Nat.zero_add]
  exact flat_at hf ys i x hx j u hj
theorem made_two (z : Value) (n : Nat) : (madeCells #[z, z] n).toList = List.replicate n z := by
  rw [List.eq_replicate_iff]
  refine ⟨by simp [madeCells], fun x hx => ?_⟩
  simp only [madeCells, Array.toList_map, Array.toList_range, List.mem_map, List.mem_range] at hx
  obtain ⟨i, _, rfl⟩ := hx
  have : i % 2 = 0 ∨ i % 2 = 1 := by omega
  rcases this with h | h <;> simp [h]
theorem rep_flat (n : Nat) : (List.replicate n ((0 : Int), (0 : Int))).flatMap nmC = List.replicate (n * 2) (.int .i64 0) := by
  induction n with
  | zero => rfl
  | succ m ih =>
    rw [List.replicate_succ, List.flatMap_cons, ih, show (m + 1) * 2 = m * 2 + 1 + 1 by omega, List.replicate_succ, List.replicate_succ]
    rfl
theorem rep_flatB (n : Nat) : (List.replicate n false).flatMap blC = List.replicate n (.bool false) := by
  induction n with
  | zero => rfl
  | succ m ih =>
    rw [List.replicate_succ, List.flatMap_cons, ih, List.replicate_succ]
    rfl
theorem RowM.madeN {w w' : World} {base n : Nat} (h : w'.ownsRow base 31 2 (.slice (some ⟨w.heap.size, 0, none⟩) n n) n (madeCells (Value.agg #[.int .i64 0, .int .i64 0]).cells (n * 2)).toList) : RowM 31 nmC w.heap.size (List.replicate n (0, 0)) w' := by
  rcases h.2 with ⟨hv, _⟩ | ⟨g, cap, cu, hv, _, hg, hnc, _, hsz, htk⟩
  · cases hv
  · injection hv with h1 h2 h3
    injection h1 with h1
    injection h1 with h1
    subst h1
    subst h3
    rw [List.take_of_length_le (by rw [Array.length_toList, hsz]; exact Nat.le_refl _)] at htk
    exact ⟨cu, hg, by rw [htk, rep_flat]; exact made_two _ _⟩
theorem RowM.madeB {w w' : World} {base n : Nat} (h : w'.ownsRow base 4 1 (.slice (some ⟨w.heap.size, 0, none⟩) n n) n (madeCells (Value.bool false).cells (n * 1)).toList) : RowM 4 blC w.heap.size (List.replicate n false) w' := by
  rcases h.2 with ⟨hv, _⟩ | ⟨g, cap, cu, hv, _, hg, hnc, _, hsz, htk⟩
  · cases hv
  · injection hv with h1 h2 h3
    injection h1 with h1
    injection h1 with h1
    subst h1
    subst h3
    rw [List.take_of_length_le (by rw [Array.length_toList, hsz]; exact Nat.le_refl _), Nat.mul_one] at htk
    exact ⟨cu, hg, by rw [htk, rep_flatB]; exact toList_madeCells_one _ _⟩
theorem set_flat {α : Type} {f : α → List Value} (k : Nat) (y x : α) (os rs : List α) (hf : ∀ x, (f x).length = k) : ∀ (cs : List Value), cs = (os ++ y :: rs).flatMap f → ∀ j u, j < k → cs.set (os.length * k + j) u = os.flatMap f ++ (f y).set j u ++ rs.flatMap f := by
  intro cs hcs j u hj
  subst hcs
  rw [List.flatMap_append, List.flatMap_cons, List.set_append_right _ _ (by rw [flat_len hf]; omega), flat_len hf, show os.length * k + j - os.length * k = j by omega, List.set_append_left _ _ (by rw [hf]; exact hj), List.append_assoc]
theorem RowM.cellN {b : Nat} {os rs : List (Int × Int)} {y : Int × Int} {w : World} (h : RowM 31 nmC b (os ++ y :: rs) w) : w.cell? ⟨b, os.length * 2, none⟩ = some (.int .i64 y.1) ∧ w.cell? ⟨b, os.length * 2 + 1, none⟩ = some (.int .i64 y.2) ∧ w.frozen? ⟨b, os.length * 2, none⟩ = false ∧ w.frozen? ⟨b, os.length * 2 + 1, none⟩ = false := by
  obtain ⟨cs, h1, h2⟩ := h
  have hi : (os ++ y :: rs)[os.length]? = some y := by rw [List.getElem?_append_right (Nat.le_refl _), Nat.sub_self]; rfl
  refine ⟨?_, ?_, Lib.frozen_of_heap h1 _, Lib.frozen_of_heap h1 _⟩
  · rw [Lib.cell_of_heap h1, ← Array.getElem?_toList, h2]
    exact flat_at nmC_len _ _ y hi 0 _ rfl
  · rw [Lib.cell_of_heap h1, ← Array.getElem?_toList, h2]
    exact flat_at nmC_len _ _ y hi 1 _ rfl
theorem RowM.setN {b : Nat} {os rs : List (Int × Int)} {y : Int × Int} {w : World} (h : RowM 31 nmC b (os ++ y :: rs) w) (x1 x2 : Int) : RowM 31 nmC b (os ++ (x1, x2) :: rs) ((w.setCell ⟨b, os.length * 2, none⟩ (.int .i64 x1)).setCell ⟨b, os.length * 2 + 1, none⟩ (.int .i64 x2)) := by
  obtain ⟨cs, h1, h2⟩ := h
  refine ⟨_, heap_setCell_same _ b _ _ _ (.int .i64 x2) (heap_setCell_same w b _ cs _ (.int .i64 x1) h1), ?_⟩
  have e1 := set_flat 2 y y os rs nmC_len cs.toList h2 0 (.int .i64 x1) (by omega)
  rw [Nat.add_zero] at e1
  have e2 : (cs.toList.set (os.length * 2) (.int .i64 x1)) = (os ++ (x1, y.2) :: rs).flatMap nmC := by
    rw [e1, List.flatMap_append, List.flatMap_cons, List.append_assoc]
    rfl
  have e3 := set_flat 2 (x1, y.2) y os rs nmC_len _ e2 1 (.int .i64 x2) (by omega)
  rw [Array.toList_setIfInBounds, Array.toList_setIfInBounds, e3, List.flatMap_append, List.flatMap_cons, List.append_assoc]
  rfl
theorem RowM.cellB {b : Nat} {os rs : List Bool} {y : Bool} {w : World} (h : RowM 4 blC b (os ++ y :: rs) w) : w.cell? ⟨b, os.length, none⟩ = some (.bool y) ∧ w.frozen? ⟨b, os.length, none⟩ = false := by
  obtain ⟨cs, h1, h2⟩ := h
  have hi : (os ++ y :: rs)[os.length]? = some y := by rw [List.getElem?_append_right (Nat.le_refl _), Nat.sub_self]; rfl
  refine ⟨?_, Lib.frozen_of_heap h1 _⟩
  rw [Lib.cell_of_heap h1, ← Array.getElem?_toList, h2]
  have := flat_at blC_len _ _ y hi 0 _ rfl
  rwa [Nat.mul_one, Nat.add_zero] at this
theorem RowM.setB {b : Nat} {os rs : List Bool} {y : Bool} {w : World} (h : RowM 4 blC b (os ++ y :: rs) w) (x : Bool) : RowM 4 blC b (os ++ x :: rs) (w.setCell ⟨b, os.length, none⟩ (.bool x)) := by
  obtain ⟨cs, h1, h2⟩ := h
  refine ⟨_, heap_setCell_same w b _ cs _ (.bool x) h1, ?_⟩
  have e1 := set_flat 1 y y os rs blC_len cs.toList h2 0 (.bool x) (by omega)
  rw [Nat.add_zero, Nat.mul_one] at e1
  rw [Array.toList_setIfInBounds, e1, List.flatMap_append, List.flatMap_cons, List.append_assoc]
  rfl
theorem rep_cons {α : Type} {n k : Nat} (z : α) (h : k < n) : List.replicate (n - k) z = z :: List.replicate (n - (k + 1)) z := by
  rw [show n - k = (n - (k + 1)) + 1 by omega, List.replicate_succ]
/-- what stands while the numbers are made: the number that is at hand, the copied row, the row of numbers -/
structure Nst (w : World) (A R b : Nat) (x y : Int) (r : Ln.Rw) (ys : List (Int × Int)) (W : World) : Prop where
  bel : Below w.heap.size w W
  at_ : W.heap[A]? = some (.cells #[.int .i64 x, .int .i64 y] 31 (0, 0))
  row : W.heap[R]? = some (.cells #[.int .i64 r.pg, .int .i64 r.ch, .int .i64 r.pa, .int .i64 r.st, .bool r.sb, .bool r.sk, .bool r.lk] 29 (0, 0))
  nums : RowM 31 nmC b ys W
theorem Nst.go {w : World} {A R b : Nat} {x y : Int} {r : Ln.Rw} {ys : List (Int × Int)} {W W' : World} (h : Nst w A R b x y r ys W) (hb : Below W.heap.size W W') : Nst w A R b x y r ys W' :=
  ⟨below_step h.bel hb, obj_kept hb h.at_, obj_kept hb h.row, h.nums.below hb⟩
theorem Nst.setA {w : World} {A R b : Nat} {x y : Int} {r : Ln.Rw} {ys : List (Int × Int)} {W : World} (h : Nst w A R b x y r ys W) (hA : w.heap.size ≤ A) (h1 : R ≠ A) (h2 : b ≠ A) (x' y' : Int) : Nst w A R b x' y' r ys ((W.setCell ⟨A, 0, none⟩ (.int .i64 x')).setCell ⟨A, 1, none⟩ (.int .i64 y')) :=
  ⟨(h.bel.setCell (p := ⟨A, 0, none⟩) hA _).setCell (p := ⟨A, 1, none⟩) hA _, heap_setCell_same _ A 1 _ _ (.int .i64 y') (heap_setCell_same W A 0 _ _ (.int .i64 x') h.at_), obj_set (obj_set h.row h1) h1, (h.nums.off h2).off h2⟩
theorem below_drew16 (w : World) : Below w.heap.size w w.drew := ⟨rfl, rfl, rfl, Nat.le_refl _, fun _ _ => rfl⟩
set_option maxHeartbeats 8000000 in
set_option maxRecDepth 100000 in
theorem number_any (v : Value) (l : List Ln.Rw) (u : Int) (w : World) (h : RwsAt w v l) (hb : l.length * 16 ≤ 281474976710656) :
    Calls Try.prog 7 #[v, .int .i64 u] w fun e w' => ∃ v', e = .returned v' ∧ NmsAt w' v' (Ln.number u l) ∧ Below w.heap.size w w' := by
  have HR := Lib.hid h
  obtain ⟨⟨p, cp, rfl, hcap⟩, hm, _⟩ := h
  obtain ⟨N, hN⟩ : ∃ N, N = Ln.number u l := ⟨_, rfl⟩
  have HN0 : Hid (([] : List (Int × Int)) ++ Ln.goN u (Ln.prev l 0) (0, 0) (l.drop 0) = N) := Lib.hid (by rw [hN, List.nil_append, Ln.prev_zero, List.drop_zero]; rfl)
  have HNl : Hid (N.length = l.length) := Lib.hid (by rw [hN]; exact Ln.goN_len u l _ _)
  rw [← hN]
  clear hN
  obtain ⟨n, hn⟩ : ∃ n, n = l.length := ⟨_, rfl⟩
  have Hn := Lib.hid hn
  rw [← hn] at hb hm hcap HNl ⊢
  clear hn
  have Hm := Lib.hid hm
  have hz : n ≤ 9223372036854775807 := by unfold maxLen at hm; omega
  obtain ⟨i0, hi0, hz0, hz1, hz2⟩ := info_parts infoNm
  obtain ⟨W1, hrun, hown, hg⟩ := run_make_full (P := Try.prog) w w.heap.size 23 31 i0 _ 2 Try.underlying23 hi0 hz0 hz1 .i64 .i64 n (by rw [hz2]; omega) hm (Nat.le_refl _)
  have hM1 := RowM.madeN hown
  have hb1 : Below w.heap.size w W1 := (Below.refl _ _).grown (row := none) hg (Nat.le_refl _) (fun q h => by cases h)
  obtain ⟨b, hbb⟩ : ∃ b, b = w.heap.size := ⟨_, rfl⟩
  have hble : w.heap.size ≤ b := by omega
  rw [← hbb] at hrun hM1
  obtain ⟨A, hA⟩ : ∃ A, A = W1.heap.size := ⟨_, rfl⟩
  have hbA : b ≠ A := by have := hM1.lt; omega
  have hAle : w.heap.size ≤ A := by have := hM1.lt; omega
  obtain ⟨W2, hW2⟩ : ∃ W, W = W1.alloc (.cells #[.int .i64 0, .int .i64 0] 31) := ⟨_, rfl⟩
  have hb2 := below_alloc W1 (.cells #[.int .i64 0, .int .i64 0] 31)
  have HA2 := Lib.hid (obj_new W1 _ rfl #[.int .i64 0, .int .i64 0] 31)
  rw [← hW2] at hb2 HA2
  rw [← hA] at HA2
  have HM2 : Hid (RowM 31 nmC b ([] ++ List.replicate (n - 0) (0, 0)) W2) := Lib.hid (hM1.below hb2)
  have HB2 := Lib.hid (below_step hb1 hb2)
  clear hM1 hb1 hb2 hown hg hi0 hz0 hz1 hz2 hbb hm hcap hb
  go_enter Try.func7, Try.ntmps7
  go_wp2_with fail
  rw [← hA, ← hW2]
  clear hrun hA hW2
  go_loopw [14] (fun kv wr => ∃ k : Nat, k ≤ n ∧ kv = .int .i64 k ∧ ∃ (x y : Int) (os : List (Int × Int)), Hid (os ++ Ln.goN u (Ln.prev l k) (x, y) (l.drop k) = N) ∧ Hid (os.length = k) ∧ Hid (RowM 31 nmC b (os ++ List.replicate (n - k) (0, 0)) wr) ∧ Hid (wr.heap[A]? = some (.cells #[.int .i64 x, .int .i64 y] 31 (0, 0))) ∧ Hid (Below w.heap.size w wr)) (fun kv _ => n - (intOf kv).toNat)
  case atStart => exact ⟨0, Nat.zero_le _, rfl, 0, 0, [], HN0, Lib.hid rfl, HM2, HA2, HB2⟩
  case round =>
    obtain ⟨k, hk, rfl, x, y, os, HG, HL, HM, HA, HB⟩ := hrel
    clear HN0 HM2 HA2 HB2
    by_cases hlt : k < n
    · obtain ⟨b1, o1, d1, e1, r1⟩ := HR.out.2.2 (by rw [← Hn.out]; omega)
      rw [← Hn.out] at e1
      obtain ⟨rfl, rfl⟩ : p = some ⟨b1, o1, none⟩ ∧ cp = d1 := by injection e1 with a1 a2 a3; exact ⟨a1, a3⟩
      obtain ⟨r, hr⟩ : ∃ r, l[k]? = some r := ⟨_, List.getElem?_eq_getElem (by rw [← Hn.out]; exact hlt)⟩
      have Hr := Lib.hid hr
      obtain ⟨y0, y1, y2, y3, y4, y5, y6⟩ := rw_cells ((r1 k r hr).mono HB.out)
      have HR1 := Lib.hid r1
      have k0 : (0 : Int) ≤ (k : Int) := by omega
      have kl : (k : Int) < (n : Int) := by omega
      have hs : os ++ List.replicate (n - k) ((0 : Int), (0 : Int)) = os ++ (0, 0) :: List.replicate (n - (k + 1)) (0, 0) := by rw [rep_cons _ hlt]
      obtain ⟨Wr, hWr⟩ : ∃ W, W = wr.alloc (.cells #[.int .i64 r.pg, .int .i64 r.ch, .int .i64 r.pa, .int .i64 r.st, .bool r.sb, .bool r.sk, .bool r.lk] 29) := ⟨_, rfl⟩
      have hbr := below_alloc wr (.cells #[.int .i64 r.pg, .int .i64 r.ch, .int .i64 r.pa, .int .i64 r.st, .bool r.sb, .bool r.sk, .bool r.lk] 29)
      have hRr := obj_new wr _ rfl #[.int .i64 r.pg, .int .i64 r.ch, .int .i64 r.pa, .int .i64 r.st, .bool r.sb, .bool r.sk, .bool r.lk] 29
      rw [← hWr] at hbr hRr
      obtain ⟨R, hR⟩ : ∃ R, R = wr.heap.size := ⟨_, rfl⟩
      rw [← hR] at hRr
      have HS3 : Hid (Nst w A R b x y r (os ++ (0, 0) :: List.replicate (n - (k + 1)) (0, 0)) Wr) := Lib.hid ⟨below_step HB.out hbr, obj_kept hbr HA.out, hRr, by have := HM.out.below hbr; rwa [hs] at this⟩
      have hRA : R ≠ A := by have := lt_of_obj HA.out; omega
      have HSd := Lib.hid (HS3.out.go (below_drew16 Wr))
      have HU1 := Lib.hid (fun w => unit_any r u w)
      obtain ⟨⟨ua, ub, uc⟩, hU⟩ : ∃ x, x = Ln.unit u r := ⟨_, rfl⟩
      rw [← hU] at HU1
      have HUr := Lib.hid hU
      unfold rwV unV at HU1
      simp only [] at HU1
      clear hU hr hbr hRr hs e1 r1
      have w5 : Wr.cell? ⟨R, 5, none⟩ = some (.bool r.sk) := Lib.cell_of_heap HS3.out.row 5
      go_upto_region 6 with fail
      rw [← hR, ← hWr]
      clear hR hWr y0 y1 y2 y3 y4 y5 y6 w5
      rcases Nat.eq_zero_or_pos k with hk0 | hk0
      · have HK0 := Lib.hid hk0
        have ck : (0 < k) = False := by rw [eq_iff_iff]; exact ⟨fun h => by omega, False.elim⟩
        have cd : decide (0 < k) = false := by rw [decide_eq_false_iff_not]; omega
        have HE : Hid (Ln.rst u (Ln.prev l k) r (x, y) = (x, y)) := Lib.hid (by rw [hk0, Ln.prev_zero]; rfl)
        have HSq := Lib.hid (fun nq => HS3.out.go (below_drew Wr nq))
        clear hk0
        go_quiet (fail)
        have t0 := fun nq => Lib.cell_of_heap (HSq.out nq).at_ 0
        have t1 := fun nq => Lib.cell_of_heap (HSq.out nq).at_ 1
        have g0 := fun nq => Lib.frozen_of_heap (HSq.out nq).at_ 0
        have g1 := fun nq => Lib.frozen_of_heap (HSq.out nq).at_ 1
        have v0 := fun nq => Lib.cell_of_heap (HSq.out nq).row 0
        have v1 := fun nq => Lib.cell_of_heap (HSq.out nq).row 1
        have v2 := fun nq => Lib.cell_of_heap (HSq.out nq).row 2
        have v3 := fun nq => Lib.cell_of_heap (HSq.out nq).row 3
        have v4 := fun nq => Lib.cell_of_heap (HSq.out nq).row 4
        have v5 := fun nq => Lib.cell_of_heap (HSq.out nq).row 5
        have v6 := fun nq => Lib.cell_of_heap (HSq.out nq).row 6
        cases hsk : r.sk with
        | true =>
          have HGn := Lib.hid (Ln.step_skip u Hr.out HG.out hsk)
          rw [HE.out] at HGn
          simp only [hsk] at v5
          have v5' : ∀ nq, (Wr.drewN nq).cell? ⟨R, 5, none⟩ = some (.bool true) := v5
          clear hsk
          go_wp2_with fail
          go_roundw
          case rel => exact ⟨k + 1, by omega, by go_num, x, y, os ++ [(0, 0)], HGn, Lib.hid (by rw [List.length_append, HL.out]; rfl), Lib.hid (HSq.out _).nums.snoc, Lib.hid (HSq.out _).at_, Lib.hid (HSq.out _).bel⟩
          case measure => simp [intOf]; omega
        | false =>
          have HGn := Lib.hid (Ln.step_take u Hr.out HG.out hsk)
          rw [HE.out] at HGn
          simp only [hsk] at v5
          have v5' : ∀ nq, (Wr.drewN nq).cell? ⟨R, 5, none⟩ = some (.bool false) := v5
          have HNx := Lib.hid (fun w => next_any (x, y) r w)
          obtain ⟨⟨nx, ny⟩, hnx⟩ : ∃ z, z = Ln.next (x, y) r := ⟨_, rfl⟩
          rw [← hnx] at HNx HGn
          unfold nmV rwV at HNx
          simp only [] at HNx
          rw [hsk] at HNx
          clear hsk hnx v5
          go_wp2_with fail
          refine (HNx.out _).mono ?_
          rintro e w9 ⟨rfl, hb9⟩
          have HS9 := Lib.hid ((HSq.out _).go hb9)
          clear hb9 t0 t1 g0 g1 v0 v1 v2 v3 v4 v5' v6
          have t0 := Lib.cell_of_heap HS9.out.at_ 0
          have t1 := Lib.cell_of_heap HS9.out.at_ 1
          have g0 := Lib.frozen_of_heap HS9.out.at_ 0
          have g1 := Lib.frozen_of_heap HS9.out.at_ 1
          obtain ⟨WA, hWA⟩ : ∃ W, W = (w9.setCell ⟨A, 0, none⟩ (.int .i64 nx)).setCell ⟨A, 1, none⟩ (.int .i64 ny) := ⟨_, rfl⟩
          have HS10 := Lib.hid (HS9.out.setA hAle hRA hbA nx ny)
          rw [← hWA] at HS10
          go_upto_region 10 with fail
          rw [← hWA]
          clear hWA t0 t1 g0 g1 HS9
          have t0 := Lib.cell_of_heap HS10.out.at_ 0
          have t1 := Lib.cell_of_heap HS10.out.at_ 1
          obtain ⟨c0, c1, c2, c3⟩ := HS10.out.nums.cellN
          rw [HL.out] at c0 c1 c2 c3
          have hset := HS10.out.nums.setN nx ny
          rw [HL.out] at hset
          have HMn : Hid (RowM 31 nmC b ((os ++ [(nx, ny)]) ++ List.replicate (n - (k + 1)) (0, 0)) ((WA.setCell ⟨b, k * 2, none⟩ (.int .i64 nx)).setCell ⟨b, k * 2 + 1, none⟩ (.int .i64 ny))) := Lib.hid (by rw [List.append_assoc]; exact hset)
          have HAn := Lib.hid (obj_set (i := k * 2 + 1) (v := .int .i64 ny) (obj_set (i := k * 2) (v := .int .i64 nx) HS10.out.at_ (Ne.symm hbA)) (Ne.symm hbA))
          have HBn := Lib.hid ((HS10.out.bel.setCell (p := ⟨b, k * 2, none⟩) hble (.int .i64 nx)).setCell (p := ⟨b, k * 2 + 1, none⟩) hble (.int .i64 ny))
          clear hset
          go_wp2_with fail
          go_roundw
          case rel => exact ⟨k + 1, by omega, by go_num, nx, ny, os ++ [(nx, ny)], HGn, Lib.hid (by rw [List.length_append, HL.out]; rfl), HMn, HAn, HBn⟩
          case measure => simp [intOf]; omega
      · obtain ⟨j, hj⟩ : ∃ j, k = j + 1 := ⟨k - 1, by omega⟩
        obtain ⟨q, hq⟩ : ∃ q, l[j]? = some q := ⟨_, List.getElem?_eq_getElem (by rw [← Hn.out]; omega)⟩
        obtain ⟨z0, z1, z2, z3, z4, z5, z6⟩ := rw_cells ((HR1.out j q hq).mono HSd.out.bel)
        have HZ := Lib.hid (HR1.out j q hq)
        have HP : Hid (Ln.prev l k = some q) := Lib.hid (by rw [hj]; exact Ln.prev_succ hq)
        have j0 : (0 : Int) ≤ (j : Int) := by omega
        have jl : (j : Int) < (n : Int) := by omega
        have km2 : IntKind.i64.wrap ((k : Int) - 1) = (j : Int) := by rw [IntWalk.i64_left, IntWalk.wrap64_in _ (by omega)]; omega
        have cd : decide (0 < k) = true := by rw [decide_eq_true_iff]; exact hk0
        have HU2 := Lib.hid (fun w => unit_any q u w)
        obtain ⟨⟨va, vb, vc⟩, hV⟩ : ∃ x, x = Ln.unit u q := ⟨_, rfl⟩
        rw [← hV] at HU2
        unfold rwV unV at HU2
        simp only [] at HU2
        have v0 := Lib.cell_of_heap HSd.out.row 0
        have v1 := Lib.cell_of_heap HSd.out.row 1
        have v2 := Lib.cell_of_heap HSd.out.row 2
        have v3 := Lib.cell_of_heap HSd.out.row 3
        have v4 := Lib.cell_of_heap HSd.out.row 4
        have v5 := Lib.cell_of_heap HSd.out.row 5
        have v6 := Lib.cell_of_heap HSd.out.row 6
        by_cases hne : (ua, ub, uc) = (va, vb, vc)
        · have HE : Hid (Ln.rst u (Ln.prev l k) r (x, y) = (x, y)) := Lib.hid (by rw [HP.out]; unfold Ln.rst; simp only []; rw [if_pos (by rw [← HUr.out, ← hV, hne])])
          have heq : ∀ w, (binOp .neq 26 (.agg #[.int .i64 ua, .int .i64 ub, .int .i64 uc]) (.agg #[.int .i64 va, .int .i64 vb, .int .i64 vc])).run Try.prog w = .ok (.bool false) w := fun w => by
            rw [run_neq_struct, eq_unit]
            have e : decide ((ua, ub, uc) = (va, vb, vc)) = true := by rw [decide_eq_true_iff]; exact hne
            rw [e]; rfl
          clear hj hq hV hne
          cases hsk : r.sk with
          | true =>
            rw [hsk] at HU1
            go_region_held3 (fun w' => w'.cell? ⟨R, 0, none⟩ = some (.int .i64 r.pg) ∧ w'.cell? ⟨R, 1, none⟩ = some (.int .i64 r.ch) ∧ w'.cell? ⟨R, 2, none⟩ = some (.int .i64 r.pa) ∧ w'.cell? ⟨R, 3, none⟩ = some (.int .i64 r.st) ∧ w'.cell? ⟨R, 4, none⟩ = some (.bool r.sb) ∧ w'.cell? ⟨R, 5, none⟩ = some (.bool r.sk) ∧ w'.cell? ⟨R, 6, none⟩ = some (.bool r.lk) ∧ w'.cell? ⟨b1, o1 + j * 7, none⟩ = some (.int .i64 q.pg) ∧ w'.cell? ⟨b1, o1 + j * 7 + 1, none⟩ = some (.int .i64 q.ch) ∧ w'.cell? ⟨b1, o1 + j * 7 + 2, none⟩ = some (.int .i64 q.pa) ∧ w'.cell? ⟨b1, o1 + j * 7 + 3, none⟩ = some (.int .i64 q.st) ∧ w'.cell? ⟨b1, o1 + j * 7 + 4, none⟩ = some (.bool q.sb) ∧ w'.cell? ⟨b1, o1 + j * 7 + 5, none⟩ = some (.bool q.sk) ∧ w'.cell? ⟨b1, o1 + j * 7 + 6, none⟩ = some (.bool q.lk)) (first | (have hz := rw_cells (HZ.out.mono HS5.out.bel); exact ⟨Lib.cell_of_heap HS5.out.row 0, Lib.cell_of_heap HS5.out.row 1, Lib.cell_of_heap HS5.out.row 2, Lib.cell_of_heap HS5.out.row 3, Lib.cell_of_heap HS5.out.row 4, Lib.cell_of_heap HS5.out.row 5, Lib.cell_of_heap HS5.out.row 6, hz.1, hz.2.1, hz.2.2.1, hz.2.2.2.1, hz.2.2.2.2.1, hz.2.2.2.2.2.1, hz.2.2.2.2.2.2⟩) | (have hz := rw_cells (HZ.out.mono HS4.out.bel); exact ⟨Lib.cell_of_heap HS4.out.row 0, Lib.cell_of_heap HS4.out.row 1, Lib.cell_of_heap HS4.out.row 2, Lib.cell_of_heap HS4.out.row 3, Lib.cell_of_heap HS4.out.row 4, Lib.cell_of_heap HS4.out.row 5, Lib.cell_of_heap HS4.out.row 6, hz.1, hz.2.1, hz.2.2.1, hz.2.2.2.1, hz.2.2.2.2.1, hz.2.2.2.2.2.1, hz.2.2.2.2.2.2⟩) | (exact ⟨v0, v1, v2, v3, v4, v5, v6, z0, z1, z2, z3, z4, z5, z6⟩) | go_keep) (first | ((with_reducible refine (HU2.out _).mono ?_); rintro e w5 ⟨rfl, hb5⟩; have HS5 := Lib.hid (HS4.out.go hb5); clear hb5) | ((with_reducible refine (HU1.out _).mono ?_); rintro e w4 ⟨rfl, hb4⟩; have HS4 := Lib.hid (HSd.out.go hb4); clear hb4))
            clear v0 v1 v2 v3 v4 v5 v6 z0 z1 z2 z3 z4 z5 z6
            have HGn := Lib.hid (Ln.step_skip u Hr.out HG.out hsk)
            rw [HE.out] at HGn
            go_wp2_with fail
            go_roundw
            case rel => exact ⟨k + 1, by omega, by go_num, x, y, os ++ [(0, 0)], HGn, Lib.hid (by rw [List.length_append, HL.out]; rfl), Lib.hid HS5.out.nums.snoc, Lib.hid HS5.out.at_, Lib.hid HS5.out.bel⟩
            case measure => simp [intOf]; omega
          | false =>
            rw [hsk] at HU1
            go_region_held3 (fun w' => w'.cell? ⟨R, 0, none⟩ = some (.int .i64 r.pg) ∧ w'.cell? ⟨R, 1, none⟩ = some (.int .i64 r.ch) ∧ w'.cell? ⟨R, 2, none⟩ = some (.int .i64 r.pa) ∧ w'.cell? ⟨R, 3, none⟩ = some (.int .i64 r.st) ∧ w'.cell? ⟨R, 4, none⟩ = some (.bool r.sb) ∧ w'.cell? ⟨R, 5, none⟩ = some (.bool r.sk) ∧ w'.cell? ⟨R, 6, none⟩ = some (.bool r.lk) ∧ w'.cell? ⟨b1, o1 + j * 7, none⟩ = some (.int .i64 q.pg) ∧ w'.cell? ⟨b1, o1 + j * 7 + 1, none⟩ = some (.int .i64 q.ch) ∧ w'.cell? ⟨b1, o1 + j * 7 + 2, none⟩ = some (.int .i64 q.pa) ∧ w'.cell? ⟨b1, o1 + j * 7 + 3, none⟩ = some (.int .i64 q.st) ∧ w'.cell? ⟨b1, o1 + j * 7 + 4, none⟩ = some (.bool q.sb) ∧ w'.cell? ⟨b1, o1 + j * 7 + 5, none⟩ = some (.bool q.sk) ∧ w'.cell? ⟨b1, o1 + j * 7 + 6, none⟩ = some (.bool q.lk)) (first | (have hz := rw_cells (HZ.out.mono HS5.out.bel); exact ⟨Lib.cell_of_heap HS5.out.row 0, Lib.cell_of_heap HS5.out.row 1, Lib.cell_of_heap HS5.out.row 2, Lib.cell_of_heap HS5.out.row 3, Lib.cell_of_heap HS5.out.row 4, Lib.cell_of_heap HS5.out.row 5, Lib.cell_of_heap HS5.out.row 6, hz.1, hz.2.1, hz.2.2.1, hz.2.2.2.1, hz.2.2.2.2.1, hz.2.2.2.2.2.1, hz.2.2.2.2.2.2⟩) | (have hz := rw_cells (HZ.out.mono HS4.out.bel); exact ⟨Lib.cell_of_heap HS4.out.row 0, Lib.cell_of_heap HS4.out.row 1, Lib.cell_of_heap HS4.out.row 2, Lib.cell_of_heap HS4.out.row 3, Lib.cell_of_heap HS4.out.row 4, Lib.cell_of_heap HS4.out.row 5, Lib.cell_of_heap HS4.out.row 6, hz.1, hz.2.1, hz.2.2.1, hz.2.2.2.1, hz.2.2.2.2.1, hz.2.2.2.2.2.1, hz.2.2.2.2.2.2⟩) | (exact ⟨v0, v1, v2, v3, v4, v5, v6, z0, z1, z2, z3, z4, z5, z6⟩) | go_keep) (first | ((with_reducible refine (HU2.out _).mono ?_); rintro e w5 ⟨rfl, hb5⟩; have HS5 := Lib.hid (HS4.out.go hb5); clear hb5) | ((with_reducible refine (HU1.out _).mono ?_); rintro e w4 ⟨rfl, hb4⟩; have HS4 := Lib.hid (HSd.out.go hb4); clear hb4))
            clear v0 v1 v2 v3 v4 v5 v6 z0 z1 z2 z3 z4 z5 z6
            have t0 := Lib.cell_of_heap HS5.out.at_ 0
            have t1 := Lib.cell_of_heap HS5.out.at_ 1
            have g0 := Lib.frozen_of_heap HS5.out.at_ 0
            have g1 := Lib.frozen_of_heap HS5.out.at_ 1
            have v0 := Lib.cell_of_heap HS5.out.row 0
            have v1 := Lib.cell_of_heap HS5.out.row 1
            have v2 := Lib.cell_of_heap HS5.out.row 2
            have v3 := Lib.cell_of_heap HS5.out.row 3
            have v4 := Lib.cell_of_heap HS5.out.row 4
            have v5 := Lib.cell_of_heap HS5.out.row 5
            have v6 := Lib.cell_of_heap HS5.out.row 6
            have HGn := Lib.hid (Ln.step_take u Hr.out HG.out hsk)
            rw [HE.out] at HGn
            have HNx := Lib.hid (fun w => next_any (x, y) r w)
            obtain ⟨⟨nx, ny⟩, hnx⟩ : ∃ z, z = Ln.next (x, y) r := ⟨_, rfl⟩
            rw [← hnx] at HNx HGn
            unfold nmV rwV at HNx
            simp only [] at HNx
            rw [hsk] at HNx
            clear hnx
            go_wp2_with fail
            refine (HNx.out _).mono ?_
            rintro e w9 ⟨rfl, hb9⟩
            have HS9 := Lib.hid (HS5.out.go hb9)
            clear hb9 t0 t1 g0 g1 v0 v1 v2 v3 v4 v5 v6
            have t0 := Lib.cell_of_heap HS9.out.at_ 0
            have t1 := Lib.cell_of_heap HS9.out.at_ 1
            have g0 := Lib.frozen_of_heap HS9.out.at_ 0
            have g1 := Lib.frozen_of_heap HS9.out.at_ 1
            obtain ⟨WA, hWA⟩ : ∃ W, W = (w9.setCell ⟨A, 0, none⟩ (.int .i64 nx)).setCell ⟨A, 1, none⟩ (.int .i64 ny) := ⟨_, rfl⟩
            have HS10 := Lib.hid (HS9.out.setA hAle hRA hbA nx ny)
            rw [← hWA] at HS10
            go_upto_region 10 with fail
            rw [← hWA]
            clear hWA t0 t1 g0 g1 HS9
            have t0 := Lib.cell_of_heap HS10.out.at_ 0
            have t1 := Lib.cell_of_heap HS10.out.at_ 1
            obtain ⟨c0, c1, c2, c3⟩ := HS10.out.nums.cellN
            rw [HL.out] at c0 c1 c2 c3
            have hset := HS10.out.nums.setN nx ny
            rw [HL.out] at hset
            have HMn : Hid (RowM 31 nmC b ((os ++ [(nx, ny)]) ++ List.replicate (n - (k + 1)) (0, 0)) ((WA.setCell ⟨b, k * 2, none⟩ (.int .i64 nx)).setCell ⟨b, k * 2 + 1, none⟩ (.int .i64 ny))) := Lib.hid (by rw [List.append_assoc]; exact hset)
            have HAn := Lib.hid (obj_set (i := k * 2 + 1) (v := .int .i64 ny) (obj_set (i := k * 2) (v := .int .i64 nx) HS10.out.at_ (Ne.symm hbA)) (Ne.symm hbA))
            have HBn := Lib.hid ((HS10.out.bel.setCell (p := ⟨b, k * 2, none⟩) hble (.int .i64 nx)).setCell (p := ⟨b, k * 2 + 1, none⟩) hble (.int .i64 ny))
            clear hset
            go_wp2_with fail
            go_roundw
            case rel => exact ⟨k + 1, by omega, by go_num, nx, ny, os ++ [(nx, ny)], HGn, Lib.hid (by rw [List.length_append, HL.out]; rfl), HMn, HAn, HBn⟩
            case measure => simp [intOf]; omega
        · have HE : Hid (Ln.rst u (Ln.prev l k) r (x, y) = (0, 0)) := Lib.hid (by rw [HP.out]; unfold Ln.rst; simp only []; rw [if_neg (by rw [← HUr.out, ← hV]; exact hne)])
          have heq : ∀ w, (binOp .neq 26 (.agg #[.int .i64 ua, .int .i64 ub, .int .i64 uc]) (.agg #[.int .i64 va, .int .i64 vb, .int .i64 vc])).run Try.prog w = .ok (.bool true) w := fun w => by
            rw [run_neq_struct, eq_unit]
            have e : decide ((ua, ub, uc) = (va, vb, vc)) = false := by rw [decide_eq_false_iff_not]; exact hne
            rw [e]; rfl
          clear hj hq hV hne
          go_region_held3 (fun w' => w'.cell? ⟨R, 0, none⟩ = some (.int .i64 r.pg) ∧ w'.cell? ⟨R, 1, none⟩ = some (.int .i64 r.ch) ∧ w'.cell? ⟨R, 2, none⟩ = some (.int .i64 r.pa) ∧ w'.cell? ⟨R, 3, none⟩ = some (.int .i64 r.st) ∧ w'.cell? ⟨R, 4, none⟩ = some (.bool r.sb) ∧ w'.cell? ⟨R, 5, none⟩ = some (.bool r.sk) ∧ w'.cell? ⟨R, 6, none⟩ = some (.bool r.lk) ∧ w'.cell? ⟨b1, o1 + j * 7, none⟩ = some (.int .i64 q.pg) ∧ w'.cell? ⟨b1, o1 + j * 7 + 1, none⟩ = some (.int .i64 q.ch) ∧ w'.cell? ⟨b1, o1 + j * 7 + 2, none⟩ = some (.int .i64 q.pa) ∧ w'.cell? ⟨b1, o1 + j * 7 + 3, none⟩ = some (.int .i64 q.st) ∧ w'.cell? ⟨b1, o1 + j * 7 + 4, none⟩ = some (.bool q.sb) ∧ w'.cell? ⟨b1, o1 + j * 7 + 5, none⟩ = some (.bool q.sk) ∧ w'.cell? ⟨b1, o1 + j * 7 + 6, none⟩ = some (.bool q.lk)) (first | (have hz := rw_cells (HZ.out.mono HS5.out.bel); exact ⟨Lib.cell_of_heap HS5.out.row 0, Lib.cell_of_heap HS5.out.row 1, Lib.cell_of_heap HS5.out.row 2, Lib.cell_of_heap HS5.out.row 3, Lib.cell_of_heap HS5.out.row 4, Lib.cell_of_heap HS5.out.row 5, Lib.cell_of_heap HS5.out.row 6, hz.1, hz.2.1, hz.2.2.1, hz.2.2.2.1, hz.2.2.2.2.1, hz.2.2.2.2.2.1, hz.2.2.2.2.2.2⟩) | (have hz := rw_cells (HZ.out.mono HS4.out.bel); exact ⟨Lib.cell_of_heap HS4.out.row 0, Lib.cell_of_heap HS4.out.row 1, Lib.cell_of_heap HS4.out.row 2, Lib.cell_of_heap HS4.out.row 3, Lib.cell_of_heap HS4.out.row 4, Lib.cell_of_heap HS4.out.row 5, Lib.cell_of_heap HS4.out.row 6, hz.1, hz.2.1, hz.2.2.1, hz.2.2.2.1, hz.2.2.2.2.1, hz.2.2.2.2.2.1, hz.2.2.2.2.2.2⟩) | (exact ⟨v0, v1, v2, v3, v4, v5, v6, z0, z1, z2, z3, z4, z5, z6⟩) | go_keep) (first | ((with_reducible refine (HU2.out _).mono ?_); rintro e w5 ⟨rfl, hb5⟩; have HS5 := Lib.hid (HS4.out.go hb5); clear hb5) | ((with_reducible refine (HU1.out _).mono ?_); rintro e w4 ⟨rfl, hb4⟩; have HS4 := Lib.hid (HSd.out.go hb4); clear hb4))
          clear v0 v1 v2 v3 v4 v5 v6 z0 z1 z2 z3 z4 z5 z6
          have t0 := Lib.cell_of_heap HS5.out.at_ 0
          have t1 := Lib.cell_of_heap HS5.out.at_ 1
          have g0 := Lib.frozen_of_heap HS5.out.at_ 0
          have g1 := Lib.frozen_of_heap HS5.out.at_ 1
          obtain ⟨w7, hw7⟩ : ∃ W, W = (w5.setCell ⟨A, 0, none⟩ (.int .i64 0)).setCell ⟨A, 1, none⟩ (.int .i64 0) := ⟨_, rfl⟩
          have HS7 := Lib.hid (HS5.out.setA hAle hRA hbA 0 0)
          rw [← hw7] at HS7
          go_upto_region 8 with fail
          rw [← hw7]
          clear hw7 t0 t1 g0 g1 HS5
          have t0 := Lib.cell_of_heap HS7.out.at_ 0
          have t1 := Lib.cell_of_heap HS7.out.at_ 1
          have g0 := Lib.frozen_of_heap HS7.out.at_ 0
          have g1 := Lib.frozen_of_heap HS7.out.at_ 1
          have v0 := Lib.cell_of_heap HS7.out.row 0
          have v1 := Lib.cell_of_heap HS7.out.row 1
          have v2 := Lib.cell_of_heap HS7.out.row 2
          have v3 := Lib.cell_of_heap HS7.out.row 3
          have v4 := Lib.cell_of_heap HS7.out.row 4
          have v5 := Lib.cell_of_heap HS7.out.row 5
          have v6 := Lib.cell_of_heap HS7.out.row 6
          cases hsk : r.sk with
          | true =>
            have HGn := Lib.hid (Ln.step_skip u Hr.out HG.out hsk)
            rw [HE.out] at HGn
            simp only [hsk] at v5
            have v5' : w7.cell? ⟨R, 5, none⟩ = some (.bool true) := v5
            clear hsk
            go_wp2_with fail
            go_roundw
            case rel => exact ⟨k + 1, by omega, by go_num, 0, 0, os ++ [(0, 0)], HGn, Lib.hid (by rw [List.length_append, HL.out]; rfl), Lib.hid HS7.out.nums.snoc, Lib.hid HS7.out.at_, Lib.hid HS7.out.bel⟩
            case measure => simp [intOf]; omega
          | false =>
            have HGn := Lib.hid (Ln.step_take u Hr.out HG.out hsk)
            rw [HE.out] at HGn
            simp only [hsk] at v5
            have v5' : w7.cell? ⟨R, 5, none⟩ = some (.bool false) := v5
            have HNx := Lib.hid (fun w => next_any (0, 0) r w)
            obtain ⟨⟨nx, ny⟩, hnx⟩ : ∃ z, z = Ln.next (0, 0) r := ⟨_, rfl⟩
            rw [← hnx] at HNx HGn
            unfold nmV rwV at HNx
            simp only [] at HNx
            rw [hsk] at HNx
            clear hsk hnx v5
            go_wp2_with fail
            refine (HNx.out _).mono ?_
            rintro e w9 ⟨rfl, hb9⟩
            have HS9 := Lib.hid (HS7.out.go hb9)
            clear hb9 t0 t1 g0 g1 v0 v1 v2 v3 v4 v5' v6
            have t0 := Lib.cell_of_heap HS9.out.at_ 0
            have t1 := Lib.cell_of_heap HS9.out.at_ 1
            have g0 := Lib.frozen_of_heap HS9.out.at_ 0
            have g1 := Lib.frozen_of_heap HS9.out.at_ 1
            obtain ⟨WA, hWA⟩ : ∃ W, W = (w9.setCell ⟨A, 0, none⟩ (.int .i64 nx)).setCell ⟨A, 1, none⟩ (.int .i64 ny) := ⟨_, rfl⟩
            have HS10 := Lib.hid (HS9.out.setA hAle hRA hbA nx ny)
            rw [← hWA] at HS10
            go_upto_region 10 with fail
            rw [← hWA]
            clear hWA t0 t1 g0 g1 HS9
            have t0 := Lib.cell_of_heap HS10.out.at_ 0
            have t1 := Lib.cell_of_heap HS10.out.at_ 1
            obtain ⟨c0, c1, c2, c3⟩ := HS10.out.nums.cellN
            rw [HL.out] at c0 c1 c2 c3
            have hset := HS10.out.nums.setN nx ny
            rw [HL.out] at hset
            have HMn : Hid (RowM 31 nmC b ((os ++ [(nx, ny)]) ++ List.replicate (n - (k + 1)) (0, 0)) ((WA.setCell ⟨b, k * 2, none⟩ (.int .i64 nx)).setCell ⟨b, k * 2 + 1, none⟩ (.int .i64 ny))) := Lib.hid (by rw [List.append_assoc]; exact hset)
            have HAn := Lib.hid (obj_set (i := k * 2 + 1) (v := .int .i64 ny) (obj_set (i := k * 2) (v := .int .i64 nx) HS10.out.at_ (Ne.symm hbA)) (Ne.symm hbA))
            have HBn := Lib.hid ((HS10.out.bel.setCell (p := ⟨b, k * 2, none⟩) hble (.int .i64 nx)).setCell (p := ⟨b, k * 2 + 1, none⟩) hble (.int .i64 ny))
            clear hset
            go_wp2_with fail
            go_roundw
            case rel => exact ⟨k + 1, by omega, by go_num, nx, ny, os ++ [(nx, ny)], HGn, Lib.hid (by rw [List.length_append, HL.out]; rfl), HMn, HAn, HBn⟩
            case measure => simp [intOf]; omega
    · obtain rfl : k = n := by omega
      have HF : Hid (NmsAt wr (.slice (some ⟨b, 0, none⟩) k k) N) := Lib.hid (by
        have e : os = N := by
          have h0 := HG.out
          rw [List.drop_of_length_le (by rw [← Hn.out]; exact Nat.le_refl _)] at h0
          have hgo : ∀ p a, Ln.goN u p a [] = [] := fun p a => by cases p <;> rfl
          rwa [hgo, List.append_nil] at h0
        have h1 := HM.out
        rw [Nat.sub_self, List.replicate_zero, List.append_nil, e] at h1
        have h2 := RowM.at nmC_len h1 (by rw [HNl.out]; exact Hm.out)
        rwa [HNl.out] at h2)
      go_wp2
      go_ret
      exact ⟨_, rfl, HF.out, HB.out⟩
end Go.Proofs.Ytffjboddnjbepaa
