/-
  The landed Cost: what a line costs, and its class.
-/
import Derived.Test.YtdimfmpolbijeaaParts10
set_option linter.unusedVariables false
set_option linter.unusedSimpArgs false
namespace Go.Proofs.Ytdimfmpolbijeaa
open Go.RowKit

def costV : Option (Int × Int) → Value
  | none => .tuple #[.int .i64 0, .int .i64 0, .bool false]
  | some (d, c) => .tuple #[.int .i64 d, .int .i64 c, .bool true]
theorem cost_no {l : List It.Itm} {a b t tol : Int} (h : It.lineOf l a b t = none) : It.costOf l a b t tol = none := by unfold It.costOf; rw [h]
theorem cost_bad {l : List It.Itm} {a b t tol : Int} {S : It.Stg} (h : It.lineOf l a b t = some S) (hb : tol < S.bad ∨ 10000 < S.bad) : It.costOf l a b t tol = none := by
  unfold It.costOf; rw [h]; simp only []; rw [if_pos hb]
theorem cost_ok {l : List It.Itm} {a b t tol : Int} {S : It.Stg} (h : It.lineOf l a b t = some S) (hb : ¬ (tol < S.bad ∨ 10000 < S.bad)) : It.costOf l a b t tol = some (It.dem l a b S, It.cls S) := by
  unfold It.costOf; rw [h]; simp only []; rw [if_neg hb]
theorem brkN_at {l : List It.Itm} {k : Nat} {x : It.Itm} (h : l[k]? = some x) : It.brkN l k = It.brk x := by unfold It.brkN; rw [h]
theorem flagN_at {l : List It.Itm} {k : Nat} {x : It.Itm} (h : l[k]? = some x) : It.flagN l k = x.f := by unfold It.flagN; rw [h]
theorem dem_start {l : List It.Itm} {b : Int} {k : Nat} {x : It.Itm} (S : It.Stg) (hk : b = (k : Int)) (h : l[k]? = some x) : It.dem l (-1) b S = It.wr (It.sqW (S.bad + 10) + It.brk x) := by
  unfold It.dem
  rw [if_neg (by simp), hk, Int.toNat_natCast, brkN_at h]
theorem dem_mid {l : List It.Itm} {a b : Int} {i k : Nat} {x y : It.Itm} (S : It.Stg) (ha : a = (i : Int)) (hk : b = (k : Int)) (hy : l[i]? = some y) (h : l[k]? = some x) : It.dem l a b S = if y.f && x.f then It.wr (It.wr (It.sqW (S.bad + 10) + It.brk x) + 10000) else It.wr (It.sqW (S.bad + 10) + It.brk x) := by
  unfold It.dem
  rw [hk, ha, Int.toNat_natCast, Int.toNat_natCast, brkN_at h, flagN_at h, flagN_at hy]
  have : ((i : Int) ≠ -1) := by omega
  cases y.f <;> cases x.f <;> simp [this]
theorem below_drew10 (w : World) : Below w.heap.size w w.drew := ⟨rfl, rfl, rfl, Nat.le_refl _, fun _ _ => rfl⟩

set_option maxHeartbeats 8000000 in
set_option maxRecDepth 100000 in
theorem cost_any (v : Value) (l : List It.Itm) (a b t tol : Int) (w : World) (h : ItsAt w v l) (hlen : l.length ≤ 2000) : Calls Try.prog 64 #[v, .int .i64 a, .int .i64 b, .int .i64 t, .int .i64 tol] w (Ret (costV (It.costOf l a b t tol)) w) := by
  obtain ⟨r, hr⟩ : ∃ r, r = It.costOf l a b t tol := ⟨_, rfl⟩
  have HQ := Lib.hid hr
  rw [← hr]
  clear hr
  have HA := Lib.hid h
  have HL := Lib.hid (line_any v l a b t w h hlen)
  cases hq : It.lineOf l a b t with
  | none =>
    have HE : Hid (r = none) := Lib.hid (HQ.out.trans (cost_no hq))
    rw [hq] at HL
    unfold setV at HL
    clear hq h
    go_enter Try.func64, Try.ntmps64
    go_wp2_with fail
    refine HL.out.mono ?_
    rintro e w1 ⟨rfl, hb1⟩
    have HB1 := Lib.hid (below_step hb1 (below_alloc w1 (.cells #[.int .i64 0, .int .i64 0, .int .i64 0, .int .i64 0] 74)))
    clear hb1
    go_wp2
    go_ret3
    rw [HE.out]
    exact ⟨rfl, HB1.out⟩
  | some S =>
    rw [hq] at HL
    unfold setV stgV at HL
    simp only [] at HL
    by_cases hbad : tol < S.bad ∨ 10000 < S.bad
    · have HE : Hid (r = none) := Lib.hid (HQ.out.trans (cost_bad hq hbad))
      have hmin : min tol 10000 < S.bad := by omega
      clear hq h hbad
      go_enter Try.func64, Try.ntmps64
      go_wp2_with fail
      refine HL.out.mono ?_
      rintro e w1 ⟨rfl, hb1⟩
      have HB1 := Lib.hid (below_step hb1 (below_alloc w1 (.cells #[.int .i64 S.sg, .int .i64 S.o, .int .i64 S.e, .int .i64 S.bad] 74)))
      clear hb1
      go_wp2
      go_ret3
      rw [HE.out]
      exact ⟨rfl, HB1.out⟩
    · have HE0 := Lib.hid (HQ.out.trans (cost_ok hq hbad))
      have hmin : ¬ (min tol 10000 < S.bad) := by omega
      obtain ⟨hl1, hl2⟩ := It.lineOf_some hq
      have hbd := It.setOf_bound hl2
      obtain ⟨ha, hab, hb0, hbl, _⟩ := It.isLine_lt hl1
      have hbd1 : S.bad ≤ 10000 := by omega
      have hbw : IntKind.i64.wrap (S.bad + 10) = S.bad + 10 := It.wr_in (by omega) (by omega)
      obtain ⟨hbd0, _⟩ := hbd
      clear hl1 hl2 hq hbad
      obtain ⟨k, hk⟩ : ∃ k : Nat, b = (k : Int) := ⟨b.toNat, by omega⟩
      obtain ⟨x, hx⟩ : ∃ x, l[k]? = some x := ⟨_, List.getElem?_eq_getElem (by omega)⟩
      have HSq := Lib.hid (fun w => square_any (S.bad + 10) w)
      have HBk := Lib.hid (fun w => brk_any x w)
      have HCl := Lib.hid (fun w => classOf_any S w)
      unfold stgV at HCl
      unfold itV at HBk
      obtain ⟨⟨p, cp, rfl, hcap⟩, hm, _⟩ := h
      have hza : l.length ≤ 9223372036854775807 := by unfold maxLen at hm; omega
      obtain ⟨b1, o1, d1, e1, r1⟩ := HA.out.2.2 (by omega)
      obtain ⟨rfl, rfl⟩ : p = some ⟨b1, o1, none⟩ ∧ cp = d1 := by injection e1 with a1 a2 a3; exact ⟨a1, a3⟩
      clear e1 hcap hm
      by_cases hm1 : a = -1
      · have HE : Hid (r = some (It.wr (It.sqW (S.bad + 10) + It.brk x), It.cls S)) := Lib.hid (by rw [HE0.out, hm1, dem_start S hk hx])
        subst hm1
        generalize It.sqW (S.bad + 10) = z at HE HSq
        generalize It.brk x = y at HE HBk
        generalize It.cls S = c at HE HCl
        obtain ⟨D, hD⟩ : ∃ D, D = wrap64 (z + y) := ⟨_, rfl⟩
        rw [It.wr_is, ← hD] at HE
        have hDz : IntKind.i64.wrap (z + y) = D := (It.wr_is _).trans hD.symm
        subst hk
        have hkl : (k : Int) < (l.length : Int) := hbl
        have k0 : (0 : Int) ≤ (k : Int) := hb0
        obtain ⟨n, hn⟩ : ∃ n, n = l.length := ⟨_, rfl⟩
        rw [← hn] at hkl HL hza ⊢
        clear hn hD hab hbl hb0 hlen
        go_enter Try.func64, Try.ntmps64
        go_wp2_with fail
        refine HL.out.mono ?_
        rintro e w1 ⟨rfl, hb1⟩
        obtain ⟨W2, hW2⟩ : ∃ W2, W2 = w1.alloc (.cells #[.int .i64 S.sg, .int .i64 S.o, .int .i64 S.e, .int .i64 S.bad] 74) := ⟨_, rfl⟩
        have hb2 := below_alloc w1 (.cells #[.int .i64 S.sg, .int .i64 S.o, .int .i64 S.e, .int .i64 S.bad] 74)
        have HG2 := Lib.hid (obj_new w1 _ rfl #[.int .i64 S.sg, .int .i64 S.o, .int .i64 S.e, .int .i64 S.bad] 74)
        rw [← hW2] at hb2 HG2
        have HB2 := Lib.hid (below_step hb1 hb2)
        clear hb1 hb2
        obtain ⟨y0, y1, y2, y3, y4, y5, y6, y7, y8⟩ := it_cells ((r1 k x hx).mono HB2.out)
        have c3 := Lib.cell_of_heap HG2.out 3
        have HR1 := Lib.hid r1
        clear r1
        obtain ⟨P, hP⟩ : ∃ P, P = w1.heap.size := ⟨_, rfl⟩
        rw [← hP] at HG2 c3
        go_upto_region 4 with fail
        rw [← hW2, ← hP]
        clear hW2 hP
        have HD2 := Lib.hid (below_drew10 W2)
        go_region_held3 (fun w' => w'.cell? ⟨P, 3, none⟩ = some (.int .i64 S.bad) ∧ w'.cell? ⟨b1, o1 + k * 9, none⟩ = some (.int .i64 x.k) ∧ w'.cell? ⟨b1, o1 + k * 9 + 1, none⟩ = some (.int .i64 x.g.w) ∧ w'.cell? ⟨b1, o1 + k * 9 + 2, none⟩ = some (.int .i64 x.g.st) ∧ w'.cell? ⟨b1, o1 + k * 9 + 3, none⟩ = some (.int .i64 x.g.sk) ∧ w'.cell? ⟨b1, o1 + k * 9 + 4, none⟩ = some (.int .i64 x.g.o) ∧ w'.cell? ⟨b1, o1 + k * 9 + 5, none⟩ = some (.int .i64 x.p) ∧ w'.cell? ⟨b1, o1 + k * 9 + 6, none⟩ = some (.bool x.f) ∧ w'.cell? ⟨b1, o1 + k * 9 + 7, none⟩ = some (.int .i64 x.n) ∧ w'.cell? ⟨b1, o1 + k * 9 + 8, none⟩ = some (.int .i64 x.q)) (first | go_keep | exact ⟨cell_below HX.out c3, cell_below HX.out y0, cell_below HX.out y1, cell_below HX.out y2, cell_below HX.out y3, cell_below HX.out y4, cell_below HX.out y5, cell_below HX.out y6, cell_below HX.out y7, cell_below HX.out y8⟩) (first | ((with_reducible refine (HSq.out _).mono ?_); rintro e w8 ⟨rfl, rfl⟩) | ((with_reducible refine (HBk.out _).mono ?_); rintro e w7 ⟨rfl, hb7⟩; have HX := Lib.hid (below_step HD2.out hb7); have HB7 := Lib.hid (below_step HB2.out (below_step HD2.out hb7)); have HG7 := Lib.hid (obj_kept (below_step HD2.out hb7) HG2.out); clear hb7))
        clear c3 y0 y1 y2 y3 y4 y5 y6 y7 y8
        have s0 := Lib.cell_of_heap HG7.out 0
        have s1 := Lib.cell_of_heap HG7.out 1
        have s2 := Lib.cell_of_heap HG7.out 2
        have s3 := Lib.cell_of_heap HG7.out 3
        go_wp2_with fail
        refine (HCl.out _).mono ?_
        rintro e w9 ⟨rfl, hb9⟩
        have HB9 := Lib.hid (below_step HB7.out hb9)
        clear hb9
        go_wp2
        go_ret3
        rw [HE.out]
        exact ⟨rfl, HB9.out⟩
      · obtain ⟨i, hi⟩ : ∃ i : Nat, a = (i : Int) := ⟨a.toNat, by omega⟩
        obtain ⟨y', hy⟩ : ∃ y, l[i]? = some y := ⟨_, List.getElem?_eq_getElem (by omega)⟩
        have HE1 : Hid (r = some (if y'.f && x.f then It.wr (It.wr (It.sqW (S.bad + 10) + It.brk x) + 10000) else It.wr (It.sqW (S.bad + 10) + It.brk x), It.cls S)) := Lib.hid (by rw [HE0.out, dem_mid S hi hk hy hx])
        generalize It.sqW (S.bad + 10) = z at HE1 HSq
        generalize It.brk x = y at HE1 HBk
        generalize It.cls S = c at HE1 HCl
        obtain ⟨D, hD⟩ : ∃ D, D = wrap64 (z + y) := ⟨_, rfl⟩
        rw [It.wr_is (z + y), ← hD] at HE1
        have hDz : IntKind.i64.wrap (z + y) = D := (It.wr_is _).trans hD.symm
        obtain ⟨E, hE⟩ : ∃ E, E = wrap64 (D + 10000) := ⟨_, rfl⟩
        rw [It.wr_is (D + 10000), ← hE] at HE1
        have hEz : IntKind.i64.wrap (D + 10000) = E := (It.wr_is _).trans hE.symm
        have hil : (i : Int) < (l.length : Int) := by omega
        have i0 : (0 : Int) ≤ (i : Int) := by omega
        subst hi
        clear hE
        subst hk
        have hkl : (k : Int) < (l.length : Int) := hbl
        have k0 : (0 : Int) ≤ (k : Int) := hb0
        obtain ⟨n, hn⟩ : ∃ n, n = l.length := ⟨_, rfl⟩
        rw [← hn] at hkl hil HL hza ⊢
        clear hn hD hab hbl hb0 hlen
        go_enter Try.func64, Try.ntmps64
        go_wp2_with fail
        refine HL.out.mono ?_
        rintro e w1 ⟨rfl, hb1⟩
        obtain ⟨W2, hW2⟩ : ∃ W2, W2 = w1.alloc (.cells #[.int .i64 S.sg, .int .i64 S.o, .int .i64 S.e, .int .i64 S.bad] 74) := ⟨_, rfl⟩
        have hb2 := below_alloc w1 (.cells #[.int .i64 S.sg, .int .i64 S.o, .int .i64 S.e, .int .i64 S.bad] 74)
        have HG2 := Lib.hid (obj_new w1 _ rfl #[.int .i64 S.sg, .int .i64 S.o, .int .i64 S.e, .int .i64 S.bad] 74)
        rw [← hW2] at hb2 HG2
        have HB2 := Lib.hid (below_step hb1 hb2)
        clear hb1 hb2
        obtain ⟨y0, y1, y2, y3, y4, y5, y6, y7, y8⟩ := it_cells ((r1 k x hx).mono HB2.out)
        have c3 := Lib.cell_of_heap HG2.out 3
        have HR1 := Lib.hid r1
        clear r1
        obtain ⟨P, hP⟩ : ∃ P, P = w1.heap.size := ⟨_, rfl⟩
        rw [← hP] at HG2 c3
        go_upto_region 4 with fail
        rw [← hW2, ← hP]
        clear hW2 hP
        have HD2 := Lib.hid (below_drew10 W2)
        go_region_held3 (fun w' => w'.cell? ⟨P, 3, none⟩ = some (.int .i64 S.bad) ∧ w'.cell? ⟨b1, o1 + k * 9, none⟩ = some (.int .i64 x.k) ∧ w'.cell? ⟨b1, o1 + k * 9 + 1, none⟩ = some (.int .i64 x.g.w) ∧ w'.cell? ⟨b1, o1 + k * 9 + 2, none⟩ = some (.int .i64 x.g.st) ∧ w'.cell? ⟨b1, o1 + k * 9 + 3, none⟩ = some (.int .i64 x.g.sk) ∧ w'.cell? ⟨b1, o1 + k * 9 + 4, none⟩ = some (.int .i64 x.g.o) ∧ w'.cell? ⟨b1, o1 + k * 9 + 5, none⟩ = some (.int .i64 x.p) ∧ w'.cell? ⟨b1, o1 + k * 9 + 6, none⟩ = some (.bool x.f) ∧ w'.cell? ⟨b1, o1 + k * 9 + 7, none⟩ = some (.int .i64 x.n) ∧ w'.cell? ⟨b1, o1 + k * 9 + 8, none⟩ = some (.int .i64 x.q)) (first | go_keep | exact ⟨cell_below HX.out c3, cell_below HX.out y0, cell_below HX.out y1, cell_below HX.out y2, cell_below HX.out y3, cell_below HX.out y4, cell_below HX.out y5, cell_below HX.out y6, cell_below HX.out y7, cell_below HX.out y8⟩) (first | ((with_reducible refine (HSq.out _).mono ?_); rintro e w8 ⟨rfl, rfl⟩) | ((with_reducible refine (HBk.out _).mono ?_); rintro e w7 ⟨rfl, hb7⟩; have HX := Lib.hid (below_step HD2.out hb7); have HB7 := Lib.hid (below_step HB2.out (below_step HD2.out hb7)); have HG7 := Lib.hid (obj_kept (below_step HD2.out hb7) HG2.out); clear hb7))
        clear c3 y0 y1 y2 y3 y4 y5 y6 y7 y8
        have z6 := ((HR1.out i y' hy).mono HB7.out) 6 _ rfl
        have z7 := ((HR1.out k x hx).mono HB7.out) 6 _ rfl
        have HZ := Lib.hid HR1
        cases hyf : y'.f with
        | false =>
          have HE : Hid (r = some (D, c)) := Lib.hid (by rw [HE1.out, hyf]; rfl)
          rw [hyf] at z6
          have s0 := Lib.cell_of_heap HG7.out 0
          have s1 := Lib.cell_of_heap HG7.out 1
          have s2 := Lib.cell_of_heap HG7.out 2
          have s3 := Lib.cell_of_heap HG7.out 3
          go_wp2_with fail
          refine (HCl.out _).mono ?_
          rintro e w9 ⟨rfl, hb9⟩
          have HB9 := Lib.hid (below_step HB7.out hb9)
          clear hb9
          go_wp2
          go_ret3
          rw [HE.out]
          exact ⟨rfl, HB9.out⟩
        | true =>
          rw [hyf] at z6
          cases hxf : x.f with
          | false =>
            have HE : Hid (r = some (D, c)) := Lib.hid (by rw [HE1.out, hyf, hxf]; rfl)
            rw [hxf] at z7
            have s0 := Lib.cell_of_heap HG7.out 0
            have s1 := Lib.cell_of_heap HG7.out 1
            have s2 := Lib.cell_of_heap HG7.out 2
            have s3 := Lib.cell_of_heap HG7.out 3
            go_wp2_with fail
            refine (HCl.out _).mono ?_
            rintro e w9 ⟨rfl, hb9⟩
            have HB9 := Lib.hid (below_step HB7.out hb9)
            clear hb9
            go_wp2
            go_ret3
            rw [HE.out]
            exact ⟨rfl, HB9.out⟩
          | true =>
            have HE : Hid (r = some (E, c)) := Lib.hid (by rw [HE1.out, hyf, hxf]; rfl)
            rw [hxf] at z7
            have s0 := Lib.cell_of_heap HG7.out 0
            have s1 := Lib.cell_of_heap HG7.out 1
            have s2 := Lib.cell_of_heap HG7.out 2
            have s3 := Lib.cell_of_heap HG7.out 3
            go_wp2_with fail
            refine (HCl.out _).mono ?_
            rintro e w9 ⟨rfl, hb9⟩
            have HB9 := Lib.hid (below_step HB7.out hb9)
            clear hb9
            go_wp2
            go_ret3
            rw [HE.out]
            exact ⟨rfl, HB9.out⟩
end Go.Proofs.Ytdimfmpolbijeaa
