/-
  LemmaTells: what any word is plain, the which of its line, its mark, and how a lemma is named, is as the document says.
-/
import Derived.Test.YtjjkilopeofjjaaDoorFixed15
set_option linter.unusedVariables false
set_option linter.unusedSimpArgs false
namespace Go.Proofs.YtjjkilopeofjjaaDoor
open Go.RowKit

set_option maxHeartbeats 8000000 in
set_option maxRecDepth 100000 in
theorem lemmaTells_any (v : Value) (L : List (List UInt8)) (f t : Int) (m : Int) (w : World) (h : TxsAt w v L) (hs : TxSm L) (hE : Env15 m w) : Calls Tryd.prog 3 #[v, .agg #[.int .i64 f, .int .i64 t]] w (Ret (.bool true) w) := by
  have HA := Lib.hid h
  have HE := Lib.hid hE
  have HF := Lib.hid (fun wx hx => fixed_any m wx hx)
  have HX := Lib.hid (below_alloc w (.cells #[.int .i64 f, .int .i64 t] 24))
  have HCl := Lib.hid (fun wr (hb : Below (w.alloc (.cells #[.int .i64 f, .int .i64 t] 24)).heap.size (w.alloc (.cells #[.int .i64 f, .int .i64 t] 24)) wr) => (⟨cell_below hb (cell_lay w #[.int .i64 f, .int .i64 t] 24 0 _ rfl), cell_below hb (cell_lay w #[.int .i64 f, .int .i64 t] 24 1 _ rfl)⟩ : wr.cell? ⟨w.heap.size, 0, none⟩ = some (.int .i64 f) ∧ wr.cell? ⟨w.heap.size, 1, none⟩ = some (.int .i64 t)))
  have hml : L.length ≤ 9223372036854775807 := by have := h.2.1; unfold maxLen at this; omega
  by_cases h200 : 200 < L.length
  · obtain ⟨⟨pa, cp, rfl, hcap⟩, _, _⟩ := h
    generalize L.length = n at *
    have i200 : (200 : Int) < (n : Int) := by omega
    clear hs hcap hE h200
    go_enter Tryd.func3, Tryd.ntmps3
    go_wp2_with fail
    refine (HF.out _ (HE.out.mono HX.out)).mono ?_
    rintro e w1 ⟨rfl, hb⟩
    have HB1 := Lib.hid (below_step HX.out hb)
    clear hb
    go_wp2
    go_ret
    exact ⟨rfl, HB1.out⟩
  have hl : L.length ≤ 1000 := by omega
  have HCt := Lib.hid (fun wx he hx => count_any m v L f wx he hx hs)
  have HRc := Lib.hid (fun wx hx => refCount_any v L f wx hx hs)
  have HMk := Lib.hid (fun wx he hx => mark_any m v L f wx he hx hs)
  have HRm := Lib.hid (fun wx hx => refMark_any v L f wx hx hs)
  have HSh := Lib.hid (fun wx he hx => shortL_any m v L wx he hx hs)
  have HRs := Lib.hid (fun wx hx => refShort_any v L wx hx hs hl)
  have HHd := Lib.hid (fun wx he hx => head_any m v L f t wx he hx hs)
  have HRh := Lib.hid (fun wx hx => refHead_any v L f t wx hx hs hl)
  obtain ⟨⟨pa, cp, rfl, hcap⟩, _, _⟩ := h
  obtain ⟨n, hn⟩ : ∃ n, n = L.length := ⟨_, rfl⟩
  have Hn := Lib.hid hn
  rw [← hn] at HA HCt HRc HMk HRm HSh HRs HHd HRh hl hml ⊢
  have i200 : (n : Int) ≤ 200 := by omega
  have g200 : decide ((200 : Int) < (n : Int)) = false := decide_eq_false (by omega)
  unfold cntV at HCt HRc
  generalize (Lm.cnt L f).1 = c1 at *
  generalize (Lm.cnt L f).2 = c2 at *
  generalize str (Lm.markI L f) = mk at *
  generalize str (Lm.short L) = sh at *
  generalize str (Lm.head L f t) = hd at *
  have HP := Lib.hid (fun (hp : 0 < n) => (by
    obtain ⟨x, hx⟩ : ∃ x, L[0]? = some x := ⟨_, List.getElem?_eq_getElem (by omega)⟩
    obtain ⟨b1, o1, d1, e1, r1⟩ := HA.out.2.2 (by omega)
    rw [← hn] at e1
    have ha : pa = some ⟨b1, o1, none⟩ := by injection e1
    refine ⟨x, b1, o1, ha, sm_get hs hx, fun wx hb => ?_⟩
    have := tx_cells ((r1 0 x hx).mono hb)
    rw [Nat.zero_mul, Nat.add_zero] at this
    exact this : ∃ x b1 o1, pa = some ⟨b1, o1, none⟩ ∧ x.length ≤ 1048576 ∧ ∀ wx, Below w.heap.size w wx → wx.cell? ⟨b1, o1, none⟩ = some (.string (str x))))
  clear hs hcap hE h200 hn
  by_cases h0 : n = 0
  · subst h0
    go_enter Tryd.func3, Tryd.ntmps3
    obtain ⟨W, hW⟩ : ∃ W, W = w.alloc (.cells #[.int .i64 f, .int .i64 t] 24) := ⟨_, rfl⟩
    rw [← hW] at HX HCl
    obtain ⟨c0, c1'⟩ := HCl.out W (Below.refl _ _)
    go_upto_region 1 with fail
    rw [← hW]
    clear hW
    go_wp2_with fail
    refine (HCt.out _ (HE.out.mono HX.out) (HA.out.mono HX.out)).mono ?_
    rintro e w1 ⟨rfl, hb⟩
    have HB1 := Lib.hid hb
    obtain ⟨c0, c1'⟩ := HCl.out _ hb
    clear hb HCt
    go_wp2_with fail
    refine (HRc.out _ (HA.out.mono (below_step HX.out HB1.out))).mono ?_
    rintro e w1' ⟨rfl, q1, hq1⟩
    have HB2 : Hid (Below W.heap.size W w1') := Lib.hid (by rw [hq1]; exact below_step HB1.out (below_drew _ _))
    obtain ⟨c0, c1'⟩ := HCl.out _ HB2.out
    clear HRc hq1 HB1
    go_wp2_with fail
    go_quiet (fail)
    have HB3 := Lib.hid (below_step HB2.out (below_drew w1' nq))
    generalize w1'.drewN nq = w3 at *
    have HZ3 := Lib.hid (fun wx (h : Below W.heap.size W wx) => below_step HX.out h)
    obtain ⟨c0, c1'⟩ := HCl.out _ HB3.out
    have HD : Hid (Below W.heap.size W w3.drew) := Lib.hid (below_step HB3.out (below_drew w3 1))
    go_wp2_with fail
    have g1 : (c1 == c1) = true := beq_self_eq_true _
    have g2 : (c2 == c2) = true := beq_self_eq_true _
    have g3 : (mk.toList == mk.toList) = true := beq_self_eq_true _
    have g4 : (sh.toList == sh.toList) = true := beq_self_eq_true _
    have g5 : (hd.toList == hd.toList) = true := beq_self_eq_true _
    go_region_held3 (fun w' => w'.cell? ⟨w.heap.size, 0, none⟩ = some (.int .i64 f) ∧ w'.cell? ⟨w.heap.size, 1, none⟩ = some (.int .i64 t)) (first | (exact HCl.out _ HY7.out) | (exact HCl.out _ HY6.out) | (exact HCl.out _ HY5.out) | (exact HCl.out _ HY4.out) | (exact HCl.out _ HY3.out) | (exact HCl.out _ HY2.out) | (exact HCl.out _ HY1.out) | go_keep) (first
      | ((with_reducible refine (HF.out _ (HE.out.mono (HZ3.out _ HD.out))).mono ?_); rintro e v1 ⟨rfl, hb5⟩; have HY1 := Lib.hid (below_step HD.out hb5); clear hb5)
      | ((with_reducible refine (HMk.out _ (HE.out.mono (HZ3.out _ HY1.out)) (HA.out.mono (HZ3.out _ HY1.out))).mono ?_); rintro e v2 ⟨rfl, hb5⟩; have HY2 := Lib.hid (below_step HY1.out hb5); clear hb5)
      | ((with_reducible refine (HRm.out _ (HA.out.mono (HZ3.out _ HY2.out))).mono ?_); rintro e v3 ⟨rfl, q3, hq3⟩; have HY3 : Hid (Below W.heap.size W v3) := Lib.hid (by rw [hq3]; exact below_step HY2.out (below_drew _ _)); clear hq3)
      | ((with_reducible refine (HSh.out _ (HE.out.mono (HZ3.out _ HY3.out)) (HA.out.mono (HZ3.out _ HY3.out))).mono ?_); rintro e v4 ⟨rfl, hb5⟩; have HY4 := Lib.hid (below_step HY3.out hb5); clear hb5)
      | ((with_reducible refine (HRs.out _ (HA.out.mono (HZ3.out _ HY4.out))).mono ?_); rintro e v5 ⟨rfl, hb5⟩; have HY5 := Lib.hid (below_step HY4.out hb5); clear hb5)
      | ((with_reducible refine (HHd.out _ (HE.out.mono (HZ3.out _ HY5.out)) (HA.out.mono (HZ3.out _ HY5.out))).mono ?_); rintro e v6 ⟨rfl, hb5⟩; have HY6 := Lib.hid (below_step HY5.out hb5); clear hb5)
      | ((with_reducible refine (HRh.out _ (HA.out.mono (HZ3.out _ HY6.out))).mono ?_); rintro e v7 ⟨rfl, hb5⟩; have HY7 := Lib.hid (below_step HY6.out hb5); clear hb5))
    go_wp2
    go_ret
    exact ⟨rfl, HZ3.out _ HY7.out⟩
  · obtain ⟨x, b1, o1, rfl, hxl, hcx⟩ := HP.out (by omega)
    have HCx := Lib.hid (fun wx (hb : Below w.heap.size w wx) => hcx wx hb)
    have HPl := Lib.hid (fun wx hx => plainL_any m x hxl wx hx)
    have HRp := Lib.hid (fun wx => refPlain_any x hxl wx)
    have np : (0 : Int) < (n : Int) := by omega
    have np' : 0 < n := by omega
    have n0 : ((n : Int) == 0) = false := by rw [beq_eq_false_iff_ne]; omega
    clear HP hxl hcx h0
    go_enter Tryd.func3, Tryd.ntmps3
    obtain ⟨W, hW⟩ : ∃ W, W = w.alloc (.cells #[.int .i64 f, .int .i64 t] 24) := ⟨_, rfl⟩
    rw [← hW] at HX HCl
    obtain ⟨c0, c1'⟩ := HCl.out W (Below.refl _ _)
    go_upto_region 1 with fail
    rw [← hW]
    clear hW
    go_wp2_with fail
    refine (HCt.out _ (HE.out.mono HX.out) (HA.out.mono HX.out)).mono ?_
    rintro e w1 ⟨rfl, hb⟩
    have HB1 := Lib.hid hb
    obtain ⟨c0, c1'⟩ := HCl.out _ hb
    clear hb HCt
    go_wp2_with fail
    refine (HRc.out _ (HA.out.mono (below_step HX.out HB1.out))).mono ?_
    rintro e w1' ⟨rfl, q1, hq1⟩
    have HB2 : Hid (Below W.heap.size W w1') := Lib.hid (by rw [hq1]; exact below_step HB1.out (below_drew _ _))
    obtain ⟨c0, c1'⟩ := HCl.out _ HB2.out
    clear HRc hq1 HB1
    go_wp2_with fail
    have y0 := HCx.out _ (below_step HX.out HB2.out)
    have HDp : Hid (Below W.heap.size W w1'.drew) := Lib.hid (below_step HB2.out (below_drew w1' 1))
    have n1 : ((n : Int) == 0) = false := n0
    generalize Lm.plain x = px at *
    have gp : ((str px).toList == (str px).toList) = true := beq_self_eq_true _
    go_region_held3 (fun w' => w'.cell? ⟨b1, o1, none⟩ = some (.string (str x))) (first | (exact HCx.out _ (below_step HX.out HY9.out)) | (exact HCx.out _ (below_step HX.out HY8.out)) | go_keep) (first | ((with_reducible refine (HPl.out _ (HE.out.mono (below_step HX.out HDp.out))).mono ?_); rintro e v8 ⟨rfl, hb5⟩; have HY8 := Lib.hid (below_step HDp.out hb5); clear hb5) | ((with_reducible refine (HRp.out _).mono ?_); rintro e v9 ⟨rfl, hq9⟩; have HY9 : Hid (Below W.heap.size W v9) := Lib.hid (hq9 ▸ HY8.out); clear hq9))
    all_goals
      clear y0 gp n1
      have HB3 := HY9
      have HZ3 := Lib.hid (fun wx (h : Below W.heap.size W wx) => below_step HX.out h)
      obtain ⟨c0, c1'⟩ := HCl.out _ HB3.out
      have HD : Hid (Below W.heap.size W v9.drew) := Lib.hid (below_step HB3.out (below_drew v9 1))
      go_wp2_with fail
      have g1 : (c1 == c1) = true := beq_self_eq_true _
      have g2 : (c2 == c2) = true := beq_self_eq_true _
      have g3 : (mk.toList == mk.toList) = true := beq_self_eq_true _
      have g4 : (sh.toList == sh.toList) = true := beq_self_eq_true _
      have g5 : (hd.toList == hd.toList) = true := beq_self_eq_true _
      go_region_held3 (fun w' => w'.cell? ⟨w.heap.size, 0, none⟩ = some (.int .i64 f) ∧ w'.cell? ⟨w.heap.size, 1, none⟩ = some (.int .i64 t)) (first | (exact HCl.out _ HY7.out) | (exact HCl.out _ HY6.out) | (exact HCl.out _ HY5.out) | (exact HCl.out _ HY4.out) | (exact HCl.out _ HY3.out) | (exact HCl.out _ HY2.out) | (exact HCl.out _ HY1.out) | go_keep) (first
        | ((with_reducible refine (HF.out _ (HE.out.mono (HZ3.out _ HD.out))).mono ?_); rintro e v1 ⟨rfl, hb5⟩; have HY1 := Lib.hid (below_step HD.out hb5); clear hb5)
        | ((with_reducible refine (HMk.out _ (HE.out.mono (HZ3.out _ HY1.out)) (HA.out.mono (HZ3.out _ HY1.out))).mono ?_); rintro e v2 ⟨rfl, hb5⟩; have HY2 := Lib.hid (below_step HY1.out hb5); clear hb5)
        | ((with_reducible refine (HRm.out _ (HA.out.mono (HZ3.out _ HY2.out))).mono ?_); rintro e v3 ⟨rfl, q3, hq3⟩; have HY3 : Hid (Below W.heap.size W v3) := Lib.hid (by rw [hq3]; exact below_step HY2.out (below_drew _ _)); clear hq3)
        | ((with_reducible refine (HSh.out _ (HE.out.mono (HZ3.out _ HY3.out)) (HA.out.mono (HZ3.out _ HY3.out))).mono ?_); rintro e v4 ⟨rfl, hb5⟩; have HY4 := Lib.hid (below_step HY3.out hb5); clear hb5)
        | ((with_reducible refine (HRs.out _ (HA.out.mono (HZ3.out _ HY4.out))).mono ?_); rintro e v5 ⟨rfl, hb5⟩; have HY5 := Lib.hid (below_step HY4.out hb5); clear hb5)
        | ((with_reducible refine (HHd.out _ (HE.out.mono (HZ3.out _ HY5.out)) (HA.out.mono (HZ3.out _ HY5.out))).mono ?_); rintro e v6 ⟨rfl, hb5⟩; have HY6 := Lib.hid (below_step HY5.out hb5); clear hb5)
        | ((with_reducible refine (HRh.out _ (HA.out.mono (HZ3.out _ HY6.out))).mono ?_); rintro e v7 ⟨rfl, hb5⟩; have HY7 := Lib.hid (below_step HY6.out hb5); clear hb5))
      go_wp2
      go_ret
      exact ⟨rfl, HZ3.out _ HY7.out⟩
end Go.Proofs.YtjjkilopeofjjaaDoor
