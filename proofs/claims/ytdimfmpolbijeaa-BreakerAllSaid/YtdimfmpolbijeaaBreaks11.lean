/-
  The landed breaks: the best plans, one behind the other.
-/
import Derived.Test.YtdimfmpolbijeaaNums11
set_option linter.unusedVariables false
set_option linter.unusedSimpArgs false
namespace Go.Proofs.Ytdimfmpolbijeaa
open Go.RowKit

/-- where the walk along the plans stands -/
structure OnWay (l : List It.Itm) (t tol : Int) (bs : List Int) (k q : Nat) (z : Int) (c b : Nat) (r acc : List Int) : Prop where
  hw : It.way l t tol k q = some (z, (c : Int), (b : Int) :: r)
  hk : k ≤ b
  hb : b < l.length
  hc : c < 4
  ha : acc ++ r = bs
  hl : acc.length ≤ b + 1
theorem OnWay.start {l : List It.Itm} (hm : It.may l = true) {t tol : Int} {x : Int × Int × List Int} (hl : 0 < l.length) (h : It.way l t tol 0 2 = some x) : ∃ z c b r, x = (z, ((c : Nat) : Int), ((b : Nat) : Int) :: r) ∧ OnWay l t tol x.2.2 0 2 z c b r [(b : Int)] := by
  obtain ⟨b, d, y, h1, h2, h3, h4, h5, h6⟩ := It.way_next hl h
  obtain ⟨_, c0, c3⟩ := It.cost_range hm h3
  obtain ⟨z, c, bs⟩ := x
  simp only [] at h6 c0 c3
  subst h6
  obtain ⟨cn, rfl⟩ : ∃ cn : Nat, c = (cn : Int) := ⟨c.toNat, by omega⟩
  exact ⟨z, cn, b, y.2.2, rfl, h, h1, h2, by omega, rfl, by simp⟩
theorem OnWay.next {l : List It.Itm} (hm : It.may l = true) {t tol : Int} {bs : List Int} {k q : Nat} {z : Int} {c b : Nat} {r acc : List Int} (h : OnWay l t tol bs k q z c b r acc) :
    (b = l.length - 1 → r = []) ∧ (b < l.length - 1 → ∃ z' c' b' r', It.plOf (It.way l t tol (b + 1) c) = ⟨z', ((b' : Nat) : Int), ((c' : Nat) : Int), true⟩ ∧ b < b' ∧ OnWay l t tol bs (b + 1) c z' c' b' r' (acc ++ [(b' : Int)])) := by
  obtain ⟨hw, hk, hb, hc, ha, hl⟩ := h
  obtain ⟨b2, d, y, h1, h2, h3, h4, h5, h6⟩ := It.way_next (by omega) hw
  simp only [] at h3 h4 h6
  injection h6 with h6 h7
  obtain rfl : b = b2 := by omega
  refine ⟨fun e => ?_, fun e => ?_⟩
  · subst e
    rw [show l.length - 1 + 1 = l.length by omega, It.way_end] at h4
    have := Option.some.inj h4
    rw [h7, ← this]
  · obtain ⟨b', d', y', g1, g2, g3, g4, g5, g6⟩ := It.way_next (by omega) h4
    obtain ⟨_, c0, c3⟩ := It.cost_range hm g3
    obtain ⟨z', c', bs'⟩ := y
    simp only [] at g6 c0 c3 h7
    subst g6
    obtain ⟨cn, rfl⟩ : ∃ cn : Nat, c' = (cn : Int) := ⟨c'.toNat, by omega⟩
    refine ⟨z', cn, b', y'.2.2, by rw [h4]; rfl, by omega, h4, by omega, g2, by omega, ?_, ?_⟩
    · rw [List.append_assoc, ← ha, h7]; rfl
    · rw [List.length_append]; simp; omega

theorem own_le11 {B B' : Nat} {v : Value} {l : List Int} {w : World} (h : OwnN B v l w) (hB : B' ≤ B) : OwnN B' v l w := by
  obtain ⟨h1, h2⟩ := h
  refine ⟨h1, ?_⟩
  rcases h2 with h2 | ⟨g, cp, cu, a1, a2, a3⟩
  · exact .inl h2
  · exact .inr ⟨g, cp, cu, a1, Nat.le_trans hB a2, a3⟩

/-- a slice of numbers grows: the paragraph stays -/
theorem ParW.far {v : Value} {n : Nat} {t tol : Int} {w0 : World} {ip bp B : Nat} {F : Nat → Nat → It.Pln} {w w' : World} {u : Value} {acc : List Int} (h : ParW v n t tol w0 ip bp F w) (hg : w.grownBy w' u.ownBlock) (hu : OwnN B u acc w) (hB : w0.heap.size ≤ B) : ParW v n t tol w0 ip bp F w' := by
  obtain ⟨sv, l, o1, o2⟩ := h.ho
  obtain ⟨ps, p1, p2, p3⟩ := h.hp
  refine ⟨⟨sv, l, obj_far o1 hg (own_off9 hu o1 (by decide)), ?_⟩, ⟨ps, obj_far p1 hg (own_off9 hu p1 (by decide)), p2, p3⟩, ?_, h.h0⟩
  · refine World.ownsRow.kept o2 hg ?_
    rcases o2.2 with ⟨rfl, _⟩ | ⟨g, cp, cu, rfl, _, hgb, _⟩
    · exact .inl rfl
    · exact .inr fun e => own_off9 hu hgb (by decide) e
  · exact below_app h.hb hg (own_le11 hu hB) h.hb.size
theorem ParW.grownO {v : Value} {n : Nat} {t tol : Int} {w0 : World} {ip bp S : Nat} {F : Nat → Nat → It.Pln} {w w' : World} {cs : Array Value} {T : TypeId} {fr : Nat × Nat} (h : ParW v n t tol w0 ip bp F w) (hg : w.grownBy w' (some S)) (hS : w.heap[S]? = some (.cells cs T fr)) (h1 : T ≠ 47) (h2 : T ≠ 55) (h3 : T ≠ 59) (hS0 : w0.heap.size ≤ S) : ParW v n t tol w0 ip bp F w' := by
  obtain ⟨sv, l, o1, o2⟩ := h.ho
  obtain ⟨ps, p1, p2, p3⟩ := h.hp
  have e1 : ip ≠ S := fun e => by
    subst e
    rw [o1] at hS
    injection hS with hS
    injection hS with _ hT
    exact h2 hT.symm
  have e2 : bp ≠ S := fun e => by
    subst e
    rw [p1] at hS
    injection hS with hS
    injection hS with _ hT
    exact h3 hT.symm
  refine ⟨⟨sv, l, obj_far o1 hg (fun e => e1 (Option.some.inj e)), ?_⟩, ⟨ps, obj_far p1 hg (fun e => e2 (Option.some.inj e)), p2, p3⟩, h.hb.grown hg h.hb.size (fun j hj => by cases hj; exact hS0), h.h0⟩
  exact World.ownsRow.kept o2 hg (.inr fun e => own_off9 o2 hS h1 e.symm)

set_option maxHeartbeats 16000000 in
set_option maxRecDepth 100000 in
theorem breaks_any (v : Value) (l : List It.Itm) (t tol : Int) (w0 : World) (ip bp : Nat) (F : Nat → Nat → It.Pln) (x : Int × Int × List Int) (w : World) (hI : ItsAt w0 v l) (hmay : It.may l = true) (hn0 : 0 < l.length) (hx : It.way l t tol 0 2 = some x) (hF : ∀ k q, k ≤ l.length → q < 4 → F k q = It.plOf (It.way l t tol k q)) (hP : ParW v l.length t tol w0 ip bp F w) :
    Calls Try.prog 28 #[.pointer (some ⟨ip, 0, none⟩), plV (It.plOf (It.way l t tol 0 2))] w fun e w' => ∃ u, e = .returned u ∧ OwnN w.heap.size u x.2.2 w' ∧ Below w.heap.size w w' := by
  obtain ⟨⟨p, cp, rfl, hcap⟩, hm, _⟩ := hI
  obtain ⟨z, c, b, r, hxe, hOn⟩ := OnWay.start hmay hn0 hx
  obtain ⟨bs, hbs⟩ : ∃ bs, bs = x.2.2 := ⟨_, rfl⟩
  rw [← hbs] at hOn ⊢
  have hlen := (It.may_yes hmay).1
  have hP0 := hP.hb.size
  have epl : plV (It.plOf (It.way l t tol 0 2)) = .agg #[.int .i64 z, .int .i64 b, .int .i64 c, .bool true] := by rw [hx, hxe]; rfl
  rw [epl]
  have HOn := Lib.hid hOn
  have HMay := Lib.hid hmay
  have HF := Lib.hid hF
  have hB1 := below_alloc w (.cells #[.int .i64 z, .int .i64 b, .int .i64 c, .bool true] 57)
  have HX1 := Lib.hid (obj_new w _ rfl #[.int .i64 z, .int .i64 b, .int .i64 c, .bool true] 57)
  have HP1 := Lib.hid (hP.below hB1)
  obtain ⟨W1, hW1⟩ : ∃ W1, W1 = w.alloc (.cells #[.int .i64 z, .int .i64 b, .int .i64 c, .bool true] 57) := ⟨_, rfl⟩
  rw [← hW1] at HX1 HP1 hB1
  have HBW := Lib.hid hB1
  obtain ⟨P, hPs⟩ : ∃ P, P = w.heap.size := ⟨_, rfl⟩
  rw [← hPs] at HX1
  have c0 : W1.cell? ⟨P, 0, none⟩ = some (.int .i64 z) := Lib.cell_of_heap HX1.out 0
  have c1 : W1.cell? ⟨P, 1, none⟩ = some (.int .i64 b) := Lib.cell_of_heap HX1.out 1
  have c2 : W1.cell? ⟨P, 2, none⟩ = some (.int .i64 c) := Lib.cell_of_heap HX1.out 2
  have c3 : W1.cell? ⟨P, 3, none⟩ = some (.bool true) := Lib.cell_of_heap HX1.out 3
  -- the first break, in a slice of its own
  have hB2 := below_alloc W1 (.cells #[.int .i64 b] 3)
  have HO2 : Hid (OwnN w.heap.size (.slice (some ⟨W1.heap.size, 0, none⟩) 1 1) [(b : Int)] (W1.alloc (.cells #[.int .i64 b] 3))) := Lib.hid (own_le11 (own_new inC_len W1 [(b : Int)] 3 (by simp) #[.int .i64 b] rfl) hB1.size)
  have HP2 := Lib.hid (HP1.out.below hB2)
  have HX2 := Lib.hid (obj_kept hB2 HX1.out)
  have HBW2 := Lib.hid (below_step HBW.out hB2)
  obtain ⟨W2, hW2⟩ : ∃ W2, W2 = W1.alloc (.cells #[.int .i64 b] 3) := ⟨_, rfl⟩
  rw [← hW2] at HO2 HP2 HX2 HBW2
  have hB3 := below_alloc W2 (.cells #[.int .i64 z, .int .i64 b, .int .i64 c, .bool true] 57)
  have HX3 := Lib.hid (obj_new W2 _ rfl #[.int .i64 z, .int .i64 b, .int .i64 c, .bool true] 57)
  have HO3 := Lib.hid (HO2.out.mono hB3)
  have HP3 := Lib.hid (HP2.out.below hB3)
  have HBW3 := Lib.hid (below_step HBW2.out hB3)
  obtain ⟨n, hn⟩ : ∃ n, n = l.length := ⟨_, rfl⟩
  have Hn := Lib.hid hn
  clear hxe hOn hbs epl hP hB1 hB2 hB3 hF hmay hx
  go_enter Try.func28, Try.ntmps28
  go_upto_region 1 with fail
  rw [← hW1, ← hPs]
  clear hW1 hPs
  go_upto_region 2 with fail
  rw [← hW2]
  clear hW2 c0 c1 c2 c3
  have c0 : W2.cell? ⟨P, 0, none⟩ = some (.int .i64 z) := Lib.cell_of_heap HX2.out 0
  have c1 : W2.cell? ⟨P, 1, none⟩ = some (.int .i64 b) := Lib.cell_of_heap HX2.out 1
  have c2 : W2.cell? ⟨P, 2, none⟩ = some (.int .i64 c) := Lib.cell_of_heap HX2.out 2
  have c3 : W2.cell? ⟨P, 3, none⟩ = some (.bool true) := Lib.cell_of_heap HX2.out 3
  rw [← hn] at HP3 HF
  go_wp2_with fail
  clear c0 c1 c2 c3
  go_loopw [5, 6] (fun ov pv wr => ∃ (k q : Nat) (z : Int) (c b : Nat) (r acc : List Int) (P' : Nat), pv = .pointer (some ⟨P', 0, none⟩) ∧ Hid (OnWay l t tol bs k q z c b r acc) ∧ Hid (wr.heap[P']? = some (.cells #[.int .i64 z, .int .i64 b, .int .i64 c, .bool true] 57 (0, 0))) ∧ Hid (OwnN w.heap.size ov acc wr) ∧ Hid (ParW (.slice p n cp) n t tol w0 ip bp F wr) ∧ Hid (Below w.heap.size w wr) ∧ Hid (w.heap.size ≤ P')) (fun ov _ _ => n - vlen ov)
  case atStart => exact ⟨0, 2, z, c, b, r, _, _, rfl, HOn, HX3, HO3, HP3, HBW3, Lib.hid HBW2.out.size⟩
  case round =>
    obtain ⟨k, q, z1, c1, b1, r1, acc, P', rfl, HW, HX, HO, HP, HB, HPb⟩ := hrel
    clear HOn HX3 HO3 HP3 HBW3 HX2 HO2 HP2 HBW2 HX1 HP1 HBW
    have HNx := Lib.hid (OnWay.next HMay.out HW.out)
    rw [← Hn.out] at HNx
    have hb1 := HW.out.hb
    rw [← Hn.out] at hb1
    have e0 : wr.cell? ⟨P', 0, none⟩ = some (.int .i64 z1) := Lib.cell_of_heap HX.out 0
    have e1 : wr.cell? ⟨P', 1, none⟩ = some (.int .i64 b1) := Lib.cell_of_heap HX.out 1
    have e2 : wr.cell? ⟨P', 2, none⟩ = some (.int .i64 c1) := Lib.cell_of_heap HX.out 2
    have e3 : wr.cell? ⟨P', 3, none⟩ = some (.bool true) := Lib.cell_of_heap HX.out 3
    have f0 := Lib.frozen_of_heap HX.out 0
    have f1 := Lib.frozen_of_heap HX.out 1
    have f2 := Lib.frozen_of_heap HX.out 2
    have f3 := Lib.frozen_of_heap HX.out 3
    have z0 : wr.cell? ⟨ip, 0, none⟩ = some (.slice p n cp) := HP.out.cells.1
    have hnw : IntKind.i64.wrap ((n : Int) - 1) = (n : Int) - 1 := It.wr_in (by omega) (by omega)
    by_cases hlt : b1 < n - 1
    · obtain ⟨z2, c2, b2, r2, hpl, hbb, hw2⟩ := HNx.out.2 hlt
      have hlt' : (b1 : Int) < (n : Int) - 1 := by omega
      have HW2 := Lib.hid hw2
      go_wp2_with fail
      go_quiet (fail)
      have HPq := Lib.hid (HP.out.below (below_drew wr nq))
      have HXq := Lib.hid (obj_kept (below_drew wr nq) HX.out)
      have HOq := Lib.hid (HO.out.mono (below_drew wr nq))
      have HBq := Lib.hid (below_step HB.out (below_drew wr nq))
      obtain ⟨Wq, hWq⟩ : ∃ Wq, Wq = wr.drewN nq := ⟨_, rfl⟩
      rw [← hWq] at HPq HXq HOq HBq ⊢
      clear hWq e0 e1 e2 e3 f0 f1 f2 f3 z0
      have HBh := Lib.hid (behind_any ip bp (n + 1) (b1 + 1) (b1 : Int) rfl (by omega) (by have := (It.may_yes HMay.out).1; omega) Wq.drew (HPq.out.below (below_drew10 Wq)).cells.2.2.2)
      have e0 : Wq.cell? ⟨P', 0, none⟩ = some (.int .i64 z1) := Lib.cell_of_heap HXq.out 0
      have e1 : Wq.cell? ⟨P', 1, none⟩ = some (.int .i64 b1) := Lib.cell_of_heap HXq.out 1
      have e2 : Wq.cell? ⟨P', 2, none⟩ = some (.int .i64 c1) := Lib.cell_of_heap HXq.out 2
      have e3 : Wq.cell? ⟨P', 3, none⟩ = some (.bool true) := Lib.cell_of_heap HXq.out 3
      have f0 := Lib.frozen_of_heap HXq.out 0
      have f1 := Lib.frozen_of_heap HXq.out 1
      have f2 := Lib.frozen_of_heap HXq.out 2
      have f3 := Lib.frozen_of_heap HXq.out 3
      have hrec := (HPq.out.hp.rec (k := b1 + 1) (q := c1) (by omega) HW.out.hc).1
      rw [HF.out (b1 + 1) c1 (by omega) HW.out.hc, hpl] at hrec
      have g0 : Wq.cell? ⟨bp, (b1 + 1) * 16 + c1 * 4, none⟩ = some (.int .i64 z2) := hrec 0 _ rfl
      have g1 : Wq.cell? ⟨bp, (b1 + 1) * 16 + c1 * 4 + 1, none⟩ = some (.int .i64 b2) := hrec 1 _ rfl
      have g2 : Wq.cell? ⟨bp, (b1 + 1) * 16 + c1 * 4 + 2, none⟩ = some (.int .i64 c2) := hrec 2 _ rfl
      have g3 : Wq.cell? ⟨bp, (b1 + 1) * 16 + c1 * 4 + 3, none⟩ = some (.bool true) := hrec 3 _ rfl
      have k0 : (0 : Int) ≤ (c1 : Int) := by omega
      have k4 : (c1 : Int) < 4 := by have := HW.out.hc; omega
      have hnepb : P' ≠ bp := fun e => by
        obtain ⟨ps, p1, _, _⟩ := HPq.out.hp
        have := HXq.out
        rw [e, p1] at this
        injection this with this
        injection this with _ hT
        exact absurd hT (by decide)
      clear hrec hpl hw2
      obtain ⟨WX, hWX⟩ : ∃ WX, WX = ((((Wq.setCell ⟨P', 0, none⟩ (.int .i64 z2)).setCell ⟨P', 1, none⟩ (.int .i64 b2)).setCell ⟨P', 2, none⟩ (.int .i64 c2)).setCell ⟨P', 3, none⟩ (.bool true)).drew := ⟨_, rfl⟩
      have hgx : Wq.grownBy WX (some P') := by
        rw [hWX]
        exact grown_drew (grown_set (grown_set (grown_set (grown_set (World.grownBy.refl Wq _) _) _) _) _)
      have HX2 : Hid (WX.heap[P']? = some (.cells #[.int .i64 z2, .int .i64 b2, .int .i64 c2, .bool true] 57 (0, 0))) := Lib.hid (by rw [hWX]; exact four_set HXq.out rfl _ _ _ _)
      have HP2 := Lib.hid (HPq.out.grownO hgx HXq.out (by decide) (by decide) (by decide) (Nat.le_trans hP0 HPb.out))
      have HO2 : Hid (OwnN w.heap.size u5 acc WX) := Lib.hid (World.ownsRow.kept HOq.out hgx (.inr fun e => own_off9 HOq.out HXq.out (by decide) e.symm))
      have HB2 := Lib.hid (HBq.out.grown hgx HBq.out.size (fun j hj => by cases hj; exact HPb.out))
      have hB4 := below_alloc WX (.cells #[.int .i64 b2] 3)
      have HO4 := Lib.hid (HO2.out.mono hB4)
      have HS4 := Lib.hid (slc_new inC_len WX _ rfl [(b2 : Int)] 3 (by simp) #[.int .i64 b2] rfl)
      have HP4 := Lib.hid (HP2.out.below hB4)
      have HX4 := Lib.hid (obj_kept hB4 HX2.out)
      have HB4 := Lib.hid (below_step HB2.out hB4)
      have hz4 := HB4.out.size
      have hal := HW.out.hl
      have hnl := (It.may_yes HMay.out).1
      rw [← Hn.out] at hnl
      have x0 : WX.cell? ⟨P', 0, none⟩ = some (.int .i64 z2) := Lib.cell_of_heap HX2.out 0
      have x1 : WX.cell? ⟨P', 1, none⟩ = some (.int .i64 b2) := Lib.cell_of_heap HX2.out 1
      have x2 : WX.cell? ⟨P', 2, none⟩ = some (.int .i64 c2) := Lib.cell_of_heap HX2.out 2
      have x3 : WX.cell? ⟨P', 3, none⟩ = some (.bool true) := Lib.cell_of_heap HX2.out 3
      clear hgx hB4
      go_wp2_with fail
      go_region_law (first | (go_simp; go_at_call 25; refine HBh.out.mono ?_; rintro e w7 ⟨rfl, rfl⟩))
      all_goals (rw [← hWX]; clear hWX e0 e1 e2 e3 f0 f1 f2 f3 g0 g1 g2 g3)
      all_goals (
        go_upto_region 6 with (at_builtin; refine wpList_append_slc Try.underlying24 infoInt11 rfl (by decide) inC_len inC_cell rfl _ _ rfl w.heap.size _ _ acc [(b2 : Int)] rfl HO4.out rfl HS4.out (by simp; omega) (by unfold maxLen; simp; omega) hz4 ?_; intro v9 w9 h9 hg9; have HO9 := Lib.hid h9; have HB9 := Lib.hid (below_app HB4.out hg9 HO4.out hz4); have HX9 := Lib.hid (obj_far HX4.out hg9 (own_off9 HO4.out HX4.out (by decide))); have HP9 := Lib.hid (HP4.out.far hg9 HO4.out hP0); clear h9 hg9))
      all_goals (
        clear x0 x1 x2 x3
        have x0 : w9.cell? ⟨P', 0, none⟩ = some (.int .i64 z2) := Lib.cell_of_heap HX9.out 0
        have x1 : w9.cell? ⟨P', 1, none⟩ = some (.int .i64 b2) := Lib.cell_of_heap HX9.out 1
        have x2 : w9.cell? ⟨P', 2, none⟩ = some (.int .i64 c2) := Lib.cell_of_heap HX9.out 2
        have x3 : w9.cell? ⟨P', 3, none⟩ = some (.bool true) := Lib.cell_of_heap HX9.out 3
        have hB10 := below_alloc w9 (.cells #[.int .i64 z2, .int .i64 b2, .int .i64 c2, .bool true] 57)
        have HX10 := Lib.hid (obj_new w9 _ rfl #[.int .i64 z2, .int .i64 b2, .int .i64 c2, .bool true] 57)
        have HO10 := Lib.hid (HO9.out.mono hB10)
        have HP10 := Lib.hid (HP9.out.below hB10)
        have HB10 := Lib.hid (below_step HB9.out hB10)
        clear hB10
        go_wp2
        go_roundw
        case rel => exact ⟨_, _, z2, c2, b2, r2, _, _, rfl, HW2, HX10, HO10, HP10, HB10, Lib.hid HB9.out.size⟩
        case measure =>
          have e1 := own_vlen HO.out
          have e2 := own_vlen HO10.out
          have := HW2.out.hl
          rw [List.length_append] at e2
          simp at e2
          rw [e1, e2]
          omega)
    · have hE : r1 = [] := HNx.out.1 (by omega)
      have hEq : acc = bs := by have := HW.out.ha; rw [hE, List.append_nil] at this; exact this
      have hlt' : ¬ ((b1 : Int) < (n : Int) - 1) := by omega
      go_wp2_with fail
      go_quiet (fail)
      have HOq := Lib.hid (HO.out.mono (below_drew wr nq))
      have HBq := Lib.hid (below_step HB.out (below_drew wr nq))
      go_wp2
      go_ret
      exact ⟨_, rfl, by rw [← hEq]; exact HOq.out, HBq.out⟩
end Go.Proofs.Ytdimfmpolbijeaa
