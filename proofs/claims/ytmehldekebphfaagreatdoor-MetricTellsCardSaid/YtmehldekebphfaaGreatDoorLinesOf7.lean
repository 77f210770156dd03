/-
  The landed linesOf: a table's lines.
-/
import Derived.Test.YtmehldekebphfaaGreatDoorLines7
import Derived.Deep.RegionLaw
import Derived.Deep.RegionHeld3
import Derived.Deep.DeepCutAuto
set_option linter.unusedVariables false
set_option linter.unusedSimpArgs false
namespace Go.Proofs.YtmehldekebphfaaGreatDoor
open Go.RowKit

/-- lines that have been laid -/
def LinesAt (B : Nat) (w : World) (v : Value) (ls : List Mt.Ln) : Prop := ∃ rs, OwnL B v rs w ∧ RcsFit w rs ls



theorem below_drew1 (w : World) : Below w.heap.size w w.drew := ⟨rfl, rfl, rfl, Nat.le_refl _, fun _ _ => rfl⟩
theorem lines_two (B : Nat) (w : World) (bS bH : Nat) (sw st sk hy : Int) (hB : B ≤ w.heap.size) (hS : w.heap[bS]? = some (.cells #[.int .i64 sw, .int .i64 st, .int .i64 sk] 2 (0, 0))) (hH : w.heap[bH]? = some (.cells #[.int .i32 hy] 21 (0, 0))) :
    LinesAt B (w.alloc (.cells #[.int .i64 0, .slice none 0 0, .slice (some ⟨bS, 0, none⟩) 3 3, .int .i64 1, .slice (some ⟨bH, 0, none⟩) 1 1, .slice none 0 0] 89)) (.slice (some ⟨w.heap.size, 0, none⟩) 2 2) [.space sw st sk, .hyphen hy] := by
  refine ⟨[⟨0, .slice none 0 0, .slice (some ⟨bS, 0, none⟩) 3 3⟩, ⟨1, .slice (some ⟨bH, 0, none⟩) 1 1, .slice none 0 0⟩], ⟨by rfl, .inr ⟨w.heap.size, 2, _, rfl, hB, heap_alloc_new w _, Nat.le_refl _, by unfold maxLen; omega, rfl, rfl⟩⟩, rfl, fun i r l hr hl => ?_⟩
  match i, hr, hl with
  | 0, hr, hl =>
    simp at hr hl
    subst hr hl
    exact ⟨rfl, ⟨by simp [lnCodes], .inl ⟨rfl, rfl⟩⟩, ⟨by simp [lnLens], .inr ⟨bS, rfl, obj_kept (below_alloc w _) hS⟩⟩⟩
  | 1, hr, hl =>
    simp at hr hl
    subst hr hl
    exact ⟨rfl, ⟨by simp [lnCodes], .inr ⟨bH, rfl, obj_kept (below_alloc w _) hH⟩⟩, ⟨by simp [lnLens], .inl ⟨rfl, rfl⟩⟩⟩
  | i + 2, hr, hl => simp at hr

theorem take_map_ln {α : Type} (f : α → Mt.Ln) (P : List Mt.Ln) {l : List α} {i : Nat} {x : α} (h : l[i]? = some x) : P ++ (l.take (i + 1)).map f = (P ++ (l.take i).map f) ++ [f x] := by
  rw [List.take_add_one, h]
  simp
theorem take_map_end {α : Type} (f : α → Mt.Ln) (P : List Mt.Ln) {l : List α} {i : Nat} (h : l.length ≤ i) : P ++ (l.take i).map f = P ++ l.map f := by rw [List.take_of_length_le h]
theorem LinesAt.mono {B : Nat} {w w' : World} {v : Value} {ls : List Mt.Ln} (h : LinesAt B w v ls) (hb : Below w.heap.size w w') : LinesAt B w' v ls := by
  obtain ⟨rs, h1, h2⟩ := h
  exact ⟨rs, h1.mono hb, h2.mono hb⟩
set_option maxHeartbeats 8000000 in
set_option maxRecDepth 100000 in
theorem linesOf_any (sw st sk so hy : Int) (pc pk pl : Option Addr) (na nb nc cc ck cl : Nat) (chars : List Mt.Ch) (kerns : List Mt.Kn) (ligs : List Mt.Lg) (w : World) (hna : na = chars.length) (hnb : nb = kerns.length) (hnc : nc = ligs.length)
    (hA : SlcAt chC 4 w (.slice pc na cc) chars) (hK : SlcAt knC 3 w (.slice pk nb ck) kerns) (hG : SlcAt lgC 3 w (.slice pl nc cl) ligs) (za : na ≤ 1000) (zb : nb ≤ 1000) (zc : nc ≤ 1000) :
    Calls Tryz.prog 38 #[.agg #[.int .i64 sw, .int .i64 st, .int .i64 sk, .int .i64 so, .int .i32 hy, .slice pc na cc, .slice pk nb ck, .slice pl nc cl]] w (fun e w' => ∃ v, e = .returned v ∧ LinesAt (w.heap.size + 1) w' v (.space sw st sk :: .hyphen hy :: (chars.map Mt.lnC ++ (kerns.map Mt.lnK ++ ligs.map Mt.lnL))) ∧ Below w.heap.size w w') := by
  obtain ⟨i0, hi, hz0, hz1, hz2⟩ := info_parts infoLn
  have HA := Lib.hid hA
  have HK := Lib.hid hK
  have HG := Lib.hid hG
  have Hna := Lib.hid hna
  have Hnb := Lib.hid hnb
  have Hnc := Lib.hid hnc
  clear hA hK hG hna hnb hnc
  have HL := Lib.hid (laid_one w #[.int .i64 sw, .int .i64 st, .int .i64 sk, .int .i64 so, .int .i32 hy, .slice pc na cc, .slice pk nb ck, .slice pl nc cl] 28)
  have HB := Lib.hid (below_alloc w (.cells #[.int .i64 sw, .int .i64 st, .int .i64 sk, .int .i64 so, .int .i32 hy, .slice pc na cc, .slice pk nb ck, .slice pl nc cl] 28))
  go_enter Tryz.func38, Tryz.ntmps38
  go_upto_region 1 with fail
  obtain ⟨W1, hW1⟩ : ∃ W1, W1 = w.alloc (.cells #[.int .i64 sw, .int .i64 st, .int .i64 sk, .int .i64 so, .int .i32 hy, .slice pc na cc, .slice pk nb ck, .slice pl nc cl] 28) := ⟨_, rfl⟩
  have HWs : Hid (W1.heap.size = w.heap.size + 1) := Lib.hid (by rw [hW1, World.size_alloc])
  rw [← hW1] at HL HB ⊢
  clear hW1
  have y0 : W1.cell? ⟨w.heap.size, 0, none⟩ = some (.int .i64 sw) := HL.out.at_ 0 _ rfl
  have y1 : W1.cell? ⟨w.heap.size, 1, none⟩ = some (.int .i64 st) := HL.out.at_ 1 _ rfl
  have y2 : W1.cell? ⟨w.heap.size, 2, none⟩ = some (.int .i64 sk) := HL.out.at_ 2 _ rfl
  have y4 : W1.cell? ⟨w.heap.size, 4, none⟩ = some (.int .i32 hy) := HL.out.at_ 4 _ rfl
  go_cut [3] (fun lv wx => LinesAt W1.heap.size wx lv [.space sw st sk, .hyphen hy] ∧ Hid (Below W1.heap.size W1 wx))
  case first =>
    go_region_held3 (fun w' => w'.cell? ⟨w.heap.size, 0, none⟩ = some (.int .i64 sw) ∧ w'.cell? ⟨w.heap.size, 1, none⟩ = some (.int .i64 st) ∧ w'.cell? ⟨w.heap.size, 2, none⟩ = some (.int .i64 sk) ∧ w'.cell? ⟨w.heap.size, 4, none⟩ = some (.int .i32 hy)) (first | go_keep | exact ⟨cell_below HA.out y0, cell_below HA.out y1, cell_below HA.out y2, cell_below HA.out y4⟩ | exact ⟨cell_below HZ.out y0, cell_below HZ.out y1, cell_below HZ.out y2, cell_below HZ.out y4⟩ | exact ⟨cell_below (below_step HA.out (below_alloc _ _)) y0, cell_below (below_step HA.out (below_alloc _ _)) y1, cell_below (below_step HA.out (below_alloc _ _)) y2, cell_below (below_step HA.out (below_alloc _ _)) y4⟩ | exact ⟨cell_below (below_step HZ.out (below_alloc _ _)) y0, cell_below (below_step HZ.out (below_alloc _ _)) y1, cell_below (below_step HZ.out (below_alloc _ _)) y2, cell_below (below_step HZ.out (below_alloc _ _)) y4⟩)
      (first | ((with_reducible refine (newLine_any 0 _ _ _ _ _ _ _).mono ?_); rintro e w7 ⟨rfl, hb7⟩; have HA : Hid (Below W1.heap.size W1 w7) := (Lib.hid (by first | exact below_step (below_step (below_alloc _ _) (below_drew1 _)) hb7 | exact below_step (below_step (below_step (below_alloc _ _) (below_alloc _ _)) (below_drew1 _)) hb7))) | ((with_reducible refine (newLine_any 1 _ _ _ _ _ _ _).mono ?_); rintro e w8 ⟨rfl, hb8⟩; have HZ : Hid (Below W1.heap.size W1 w8) := (Lib.hid (by first | exact below_step HA.out hb8 | exact below_step HA.out (below_step (below_alloc _ _) hb8)))))
    · go_wp2_with fail
      go_meet
      exact ⟨lines_two _ w8 _ _ sw st sk hy HZ.out.size (obj_kept hb8 (obj_kept (below_alloc _ _) (obj_kept hb7 (obj_kept (below_drew1 _) (obj_new W1 _ rfl _ _))))) (obj_kept hb8 (obj_new w7 _ rfl _ _)), Lib.hid (below_step HZ.out (below_alloc _ _))⟩
    · go_wp2_with fail
      go_meet
      exact ⟨lines_two _ w8 _ _ sw st sk hy HZ.out.size (obj_kept hb8 (obj_kept hb7 (obj_kept (below_drew1 _) (obj_kept (below_alloc _ _) (obj_new W1 _ rfl _ _))))) (obj_kept hb8 (obj_kept hb7 (obj_kept (below_drew1 _) (obj_new _ _ (World.size_alloc _ _) _ _)))), Lib.hid (below_step HZ.out (below_alloc _ _))⟩
    · go_wp2_with fail
      go_meet
      exact ⟨lines_two _ w8 _ _ sw st sk hy HZ.out.size (obj_kept hb8 (obj_kept hb7 (obj_kept (below_drew1 _) (obj_new _ _ (World.size_alloc _ _) _ _)))) (obj_kept hb8 (obj_kept hb7 (obj_kept (below_drew1 _) (obj_kept (below_alloc _ _) (obj_new W1 _ rfl _ _))))), Lib.hid (below_step HZ.out (below_alloc _ _))⟩
  case rest =>
    obtain ⟨hls, HBc⟩ := hcut
    rw [HWs.out] at hls
    have HLs := Lib.hid hls
    have HBp := Lib.hid (below_step HB.out HBc.out)
    have HLp := Lib.hid (HL.out.mono HBc.out)
    have hsp : w.heap.size + 1 ≤ wc.heap.size := by have := HBc.out.size; have := HWs.out; omega
    obtain ⟨P, hP⟩ : ∃ P : List Mt.Ln, P = [.space sw st sk, .hyphen hy] := ⟨_, rfl⟩
    rw [← hP] at HLs
    have HP : Hid (P.length ≤ 2) := Lib.hid (by rw [hP]; simp)
    have HPP : Hid (P ++ (chars.map Mt.lnC ++ (kerns.map Mt.lnK ++ ligs.map Mt.lnL)) = (.space sw st sk :: .hyphen hy :: (chars.map Mt.lnC ++ (kerns.map Mt.lnK ++ ligs.map Mt.lnL)))) := Lib.hid (by rw [hP]; rfl)
    clear hls hP y0 y1 y2 y4 HB HL HBc HWs
    have yy := HLp.out.at_ 5 _ rfl
    go_wp2_with fail
    clear yy
    go_loopw [3, 29] (fun lv iv wr => ∃ i : Nat, i ≤ na ∧ iv = .int .i64 i ∧ w.heap.size + 1 ≤ wr.heap.size ∧ Hid (LinesAt (w.heap.size + 1) wr lv (P ++ (chars.take i).map Mt.lnC)) ∧ Hid (Below w.heap.size w wr) ∧ Hid (Laid wr w.heap.size #[.int .i64 sw, .int .i64 st, .int .i64 sk, .int .i64 so, .int .i32 hy, .slice pc na cc, .slice pk nb ck, .slice pl nc cl])) (fun _ iv _ => na - (intOf iv).toNat)
    case atStart => exact ⟨0, Nat.zero_le _, rfl, hsp, Lib.hid (by simpa using HLs.out), HBp, HLp⟩
    case round =>
      clear HLs HBp HLp hsp
      obtain ⟨i, hi', rfl, hs2, HLs, HB, HLr⟩ := hrel
      by_cases hlt : i < na
      · obtain ⟨b1, o1, d1, e1, r1⟩ := HA.out.2.2 (by rw [← Hna.out]; omega)
        obtain ⟨rfl, rfl⟩ : pc = some ⟨b1, o1, none⟩ ∧ cc = d1 := by injection e1 with a1 a2 a3; exact ⟨a1, a3⟩
        obtain ⟨x, hx⟩ : ∃ x, chars[i]? = some x := ⟨_, List.getElem?_eq_getElem (by rw [← Hna.out]; exact hlt)⟩
        obtain ⟨y0, y1, y2, y3⟩ := ch_cells ((r1 i x hx).mono HB.out)
        have i0' : (0 : Int) ≤ (i : Int) := by omega
        have il : (i : Int) < (na : Int) := by omega
        have HT := Lib.hid (take_map_ln Mt.lnC P hx)
        obtain ⟨rs, ho, hf⟩ := HLs.out
        have hrl : rs.length ≤ 2 + na := by have hq := hf.1; rw [List.length_append, List.length_map, List.length_take] at hq; have := HP.out; omega
        have HO := Lib.hid ho
        have HF := Lib.hid hf
        have HNl := Lib.hid (fun w5 (hb5 : Below (((wr.alloc (.cells #[.int .i32 x.code, .int .i64 x.w, .int .i64 x.h, .int .i64 x.d] 38)).alloc (.cells #[.int .i32 x.code] 21)).alloc (.cells #[.int .i64 x.w, .int .i64 x.h, .int .i64 x.d] 2)).heap.size (((wr.alloc (.cells #[.int .i32 x.code, .int .i64 x.w, .int .i64 x.h, .int .i64 x.d] 38)).alloc (.cells #[.int .i32 x.code] 21)).alloc (.cells #[.int .i64 x.w, .int .i64 x.h, .int .i64 x.d] 2)) w5) => (⟨rfl, (((ints_obj .i32 21 (wr.alloc (.cells #[.int .i32 x.code, .int .i64 x.w, .int .i64 x.h, .int .i64 x.d] 38)) (wr.heap.size + 1) (World.size_alloc _ _) [x.code] (by simp)).mono (below_alloc ((wr.alloc (.cells #[.int .i32 x.code, .int .i64 x.w, .int .i64 x.h, .int .i64 x.d] 38)).alloc (.cells #[.int .i32 x.code] 21)) _)).mono hb5), ((ints_obj .i64 2 ((wr.alloc (.cells #[.int .i32 x.code, .int .i64 x.w, .int .i64 x.h, .int .i64 x.d] 38)).alloc (.cells #[.int .i32 x.code] 21)) (wr.heap.size + 2) (by simp) [x.w, x.h, x.d] (by simp)).mono hb5)⟩ : RcFit w5 ⟨2, .slice (some ⟨wr.heap.size + 1, 0, none⟩) 1 1, .slice (some ⟨wr.heap.size + 2, 0, none⟩) 3 3⟩ (Mt.lnC x)))
        have HB4 := Lib.hid (below_step (below_step (below_alloc wr _) (below_alloc _ _)) (below_alloc _ _) : Below wr.heap.size wr (((wr.alloc (.cells #[.int .i32 x.code, .int .i64 x.w, .int .i64 x.h, .int .i64 x.d] 38)).alloc (.cells #[.int .i32 x.code] 21)).alloc (.cells #[.int .i64 x.w, .int .i64 x.h, .int .i64 x.d] 2)))
        clear r1 e1 hx ho hf HLs
        go_wp2_with fail
        refine (newLine_any _ _ _ _ _ _ _ _).mono ?_
        rintro e w5 ⟨rfl, hb5⟩
        have hfit := HNl.out _ hb5
        have hb6 := below_step HB4.out hb5
        have hbw := below_step HB.out hb6
        have hs5 := hb6.size
        have HBw := Lib.hid hbw
        have HL5 := Lib.hid (HLr.out.mono hb6)
        have hown : World.ownsRow (w5.alloc (.cells #[.int .i64 2, .slice (some ⟨wr.heap.size + 1, 0, none⟩) 1 1, .slice (some ⟨wr.heap.size + 2, 0, none⟩) 3 3] 89)) (w.heap.size + 1) 89 3 _ rs.length (rs.flatMap rcC) := World.ownsRow.alloc (HO.out.mono hb6) (.cells #[.int .i64 2, .slice (some ⟨wr.heap.size + 1, 0, none⟩) 1 1, .slice (some ⟨wr.heap.size + 2, 0, none⟩) 3 3] 89)
        have HFx := Lib.hid ((HF.out.mono hb6).mono (below_alloc w5 (.cells #[.int .i64 2, .slice (some ⟨wr.heap.size + 1, 0, none⟩) 1 1, .slice (some ⟨wr.heap.size + 2, 0, none⟩) 3 3] 89)))
        have Hfit := Lib.hid (hfit.mono (below_alloc w5 (.cells #[.int .i64 2, .slice (some ⟨wr.heap.size + 1, 0, none⟩) 1 1, .slice (some ⟨wr.heap.size + 2, 0, none⟩) 3 3] 89)))
        have hnews := rc_new w5 ⟨2, .slice (some ⟨wr.heap.size + 1, 0, none⟩) 1 1, .slice (some ⟨wr.heap.size + 2, 0, none⟩) 3 3⟩
        have hone := rc_one hfit
        have hval := World.ownsRow.lt (HO.out.mono hb6)
        clear hb5 hb6 hbw hfit
        go_wp2_with (at_builtin; refine wpList_append_lies _ rfl _ _ 85 rfl (w.heap.size + 1) 89 i0 _ 3 56 Tryz.underlying85 hi hz0 hz1 hz2 rfl (by decide) _ _ _ rfl hown ⟨w5.heap.size, 0, none⟩ 1 1 (rcC ⟨2, .slice (some ⟨wr.heap.size + 1, 0, none⟩) 1 1, .slice (some ⟨wr.heap.size + 2, 0, none⟩) 3 3⟩) rfl rfl hnews hone (by omega) (by unfold maxLen; omega) (by omega) (by rw [World.size_alloc]; omega) _ rfl ?_; intro g9 cap9 w9 hown9 hgrow9 hat9 hlt9)
        have HB9 := Lib.hid ((HBw.out.alloc (by omega) (.cells #[.int .i64 2, .slice (some ⟨wr.heap.size + 1, 0, none⟩) 1 1, .slice (some ⟨wr.heap.size + 2, 0, none⟩) 3 3] 89)).grown hgrow9 (by rw [World.size_alloc]; omega) (fun q hq => by have := (hval q hq).1; omega))
        have HL9 := Lib.hid (laid_far (HL5.out.mono (below_alloc w5 (.cells #[.int .i64 2, .slice (some ⟨wr.heap.size + 1, 0, none⟩) 1 1, .slice (some ⟨wr.heap.size + 2, 0, none⟩) 3 3] 89))) hgrow9 (by rw [World.size_alloc]; omega) (fun hq => by have := (hval _ hq.symm).1; omega))
        have hs9 : w.heap.size + 1 ≤ w9.heap.size := by have := hgrow9.size; rw [World.size_alloc] at this; omega
        have HO9 : Hid (LinesAt (w.heap.size + 1) w9 (.slice (some ⟨g9, 0, none⟩) (rs.length + 1) cap9) (P ++ (chars.take (i + 1)).map Mt.lnC)) := Lib.hid ⟨_, OwnL.snoc hown9, by rw [HT.out]; exact (HFx.out.grown hown hgrow9).snoc (Hfit.out.grown hown hgrow9)⟩
        clear hown hnews hone hval hown9 hgrow9 hat9 hlt9
        go_roundw
        case rel => exact ⟨i + 1, by omega, by go_num, hs9, HO9, HB9, HL9⟩
        case measure => simp [intOf]; omega
      · obtain ⟨wo, hwo⟩ : ∃ wo : World, wo = wr := ⟨_, rfl⟩
        subst hwo
        have hsp := hs2
        have HBp := HB
        have HLp := HLr
        have hPe := take_map_end Mt.lnC P (l := chars) (i := i) (by rw [← Hna.out]; omega)
        rw [hPe] at HLs
        clear hs2 HB HLr hPe
        obtain ⟨P, hP⟩ : ∃ P', P' = P ++ chars.map Mt.lnC := ⟨_, rfl⟩
        rw [← hP] at HLs
        have HPn : Hid (P.length ≤ 1002) := Lib.hid (by rw [hP, List.length_append, List.length_map]; have := HP.out; have := Hna.out; omega)
        have HPPn := Lib.hid (show P ++ (kerns.map Mt.lnK ++ ligs.map Mt.lnL) = (Mt.Ln.space sw st sk :: .hyphen hy :: (chars.map Mt.lnC ++ (kerns.map Mt.lnK ++ ligs.map Mt.lnL))) from by rw [hP, List.append_assoc]; exact HPP.out)
        clear hP HPP HP
        have HP := HPn
        have HPP := HPPn
        clear HPn HPPn
        have yy := HLp.out.at_ 6 _ rfl
        go_wp2_with fail
        clear yy
        go_loopw [3, 51] (fun lv iv wr => ∃ i : Nat, i ≤ nb ∧ iv = .int .i64 i ∧ w.heap.size + 1 ≤ wr.heap.size ∧ Hid (LinesAt (w.heap.size + 1) wr lv (P ++ (kerns.take i).map Mt.lnK)) ∧ Hid (Below w.heap.size w wr) ∧ Hid (Laid wr w.heap.size #[.int .i64 sw, .int .i64 st, .int .i64 sk, .int .i64 so, .int .i32 hy, .slice pc na cc, .slice pk nb ck, .slice pl nc cl])) (fun _ iv _ => nb - (intOf iv).toNat)
        case atStart => exact ⟨0, Nat.zero_le _, rfl, hsp, Lib.hid (by simpa using HLs.out), HBp, HLp⟩
        case round =>
          clear HLs HBp HLp hsp
          obtain ⟨i, hi', rfl, hs2, HLs, HB, HLr⟩ := hrel
          by_cases hlt : i < nb
          · obtain ⟨b1, o1, d1, e1, r1⟩ := HK.out.2.2 (by rw [← Hnb.out]; omega)
            obtain ⟨rfl, rfl⟩ : pk = some ⟨b1, o1, none⟩ ∧ ck = d1 := by injection e1 with a1 a2 a3; exact ⟨a1, a3⟩
            obtain ⟨x, hx⟩ : ∃ x, kerns[i]? = some x := ⟨_, List.getElem?_eq_getElem (by rw [← Hnb.out]; exact hlt)⟩
            obtain ⟨y0, y1, y2⟩ := kn_cells ((r1 i x hx).mono HB.out)
            have i0' : (0 : Int) ≤ (i : Int) := by omega
            have il : (i : Int) < (nb : Int) := by omega
            have HT := Lib.hid (take_map_ln Mt.lnK P hx)
            obtain ⟨rs, ho, hf⟩ := HLs.out
            have hrl : rs.length ≤ 1002 + nb := by have hq := hf.1; rw [List.length_append, List.length_map, List.length_take] at hq; have := HP.out; omega
            have HO := Lib.hid ho
            have HF := Lib.hid hf
            have HNl := Lib.hid (fun w5 (hb5 : Below (((wr.alloc (.cells #[.int .i32 x.a, .int .i32 x.b, .int .i64 x.w] 52)).alloc (.cells #[.int .i32 x.a, .int .i32 x.b] 21)).alloc (.cells #[.int .i64 x.w] 2)).heap.size (((wr.alloc (.cells #[.int .i32 x.a, .int .i32 x.b, .int .i64 x.w] 52)).alloc (.cells #[.int .i32 x.a, .int .i32 x.b] 21)).alloc (.cells #[.int .i64 x.w] 2)) w5) => (⟨rfl, (((ints_obj .i32 21 (wr.alloc (.cells #[.int .i32 x.a, .int .i32 x.b, .int .i64 x.w] 52)) (wr.heap.size + 1) (World.size_alloc _ _) [x.a, x.b] (by simp)).mono (below_alloc ((wr.alloc (.cells #[.int .i32 x.a, .int .i32 x.b, .int .i64 x.w] 52)).alloc (.cells #[.int .i32 x.a, .int .i32 x.b] 21)) _)).mono hb5), ((ints_obj .i64 2 ((wr.alloc (.cells #[.int .i32 x.a, .int .i32 x.b, .int .i64 x.w] 52)).alloc (.cells #[.int .i32 x.a, .int .i32 x.b] 21)) (wr.heap.size + 2) (by simp) [x.w] (by simp)).mono hb5)⟩ : RcFit w5 ⟨3, .slice (some ⟨wr.heap.size + 1, 0, none⟩) 2 2, .slice (some ⟨wr.heap.size + 2, 0, none⟩) 1 1⟩ (Mt.lnK x)))
            have HB4 := Lib.hid (below_step (below_step (below_alloc wr _) (below_alloc _ _)) (below_alloc _ _) : Below wr.heap.size wr (((wr.alloc (.cells #[.int .i32 x.a, .int .i32 x.b, .int .i64 x.w] 52)).alloc (.cells #[.int .i32 x.a, .int .i32 x.b] 21)).alloc (.cells #[.int .i64 x.w] 2)))
            clear r1 e1 hx ho hf HLs
            go_wp2_with fail
            refine (newLine_any _ _ _ _ _ _ _ _).mono ?_
            rintro e w5 ⟨rfl, hb5⟩
            have hfit := HNl.out _ hb5
            have hb6 := below_step HB4.out hb5
            have hbw := below_step HB.out hb6
            have hs5 := hb6.size
            have HBw := Lib.hid hbw
            have HL5 := Lib.hid (HLr.out.mono hb6)
            have hown : World.ownsRow (w5.alloc (.cells #[.int .i64 3, .slice (some ⟨wr.heap.size + 1, 0, none⟩) 2 2, .slice (some ⟨wr.heap.size + 2, 0, none⟩) 1 1] 89)) (w.heap.size + 1) 89 3 _ rs.length (rs.flatMap rcC) := World.ownsRow.alloc (HO.out.mono hb6) (.cells #[.int .i64 3, .slice (some ⟨wr.heap.size + 1, 0, none⟩) 2 2, .slice (some ⟨wr.heap.size + 2, 0, none⟩) 1 1] 89)
            have HFx := Lib.hid ((HF.out.mono hb6).mono (below_alloc w5 (.cells #[.int .i64 3, .slice (some ⟨wr.heap.size + 1, 0, none⟩) 2 2, .slice (some ⟨wr.heap.size + 2, 0, none⟩) 1 1] 89)))
            have Hfit := Lib.hid (hfit.mono (below_alloc w5 (.cells #[.int .i64 3, .slice (some ⟨wr.heap.size + 1, 0, none⟩) 2 2, .slice (some ⟨wr.heap.size + 2, 0, none⟩) 1 1] 89)))
            have hnews := rc_new w5 ⟨3, .slice (some ⟨wr.heap.size + 1, 0, none⟩) 2 2, .slice (some ⟨wr.heap.size + 2, 0, none⟩) 1 1⟩
            have hone := rc_one hfit
            have hval := World.ownsRow.lt (HO.out.mono hb6)
            clear hb5 hb6 hbw hfit
            go_wp2_with (at_builtin; refine wpList_append_lies _ rfl _ _ 85 rfl (w.heap.size + 1) 89 i0 _ 3 56 Tryz.underlying85 hi hz0 hz1 hz2 rfl (by decide) _ _ _ rfl hown ⟨w5.heap.size, 0, none⟩ 1 1 (rcC ⟨3, .slice (some ⟨wr.heap.size + 1, 0, none⟩) 2 2, .slice (some ⟨wr.heap.size + 2, 0, none⟩) 1 1⟩) rfl rfl hnews hone (by omega) (by unfold maxLen; omega) (by omega) (by rw [World.size_alloc]; omega) _ rfl ?_; intro g9 cap9 w9 hown9 hgrow9 hat9 hlt9)
            have HB9 := Lib.hid ((HBw.out.alloc (by omega) (.cells #[.int .i64 3, .slice (some ⟨wr.heap.size + 1, 0, none⟩) 2 2, .slice (some ⟨wr.heap.size + 2, 0, none⟩) 1 1] 89)).grown hgrow9 (by rw [World.size_alloc]; omega) (fun q hq => by have := (hval q hq).1; omega))
            have HL9 := Lib.hid (laid_far (HL5.out.mono (below_alloc w5 (.cells #[.int .i64 3, .slice (some ⟨wr.heap.size + 1, 0, none⟩) 2 2, .slice (some ⟨wr.heap.size + 2, 0, none⟩) 1 1] 89))) hgrow9 (by rw [World.size_alloc]; omega) (fun hq => by have := (hval _ hq.symm).1; omega))
            have hs9 : w.heap.size + 1 ≤ w9.heap.size := by have := hgrow9.size; rw [World.size_alloc] at this; omega
            have HO9 : Hid (LinesAt (w.heap.size + 1) w9 (.slice (some ⟨g9, 0, none⟩) (rs.length + 1) cap9) (P ++ (kerns.take (i + 1)).map Mt.lnK)) := Lib.hid ⟨_, OwnL.snoc hown9, by rw [HT.out]; exact (HFx.out.grown hown hgrow9).snoc (Hfit.out.grown hown hgrow9)⟩
            clear hown hnews hone hval hown9 hgrow9 hat9 hlt9
            go_roundw
            case rel => exact ⟨i + 1, by omega, by go_num, hs9, HO9, HB9, HL9⟩
            case measure => simp [intOf]; omega
          · obtain ⟨wo, hwo⟩ : ∃ wo : World, wo = wr := ⟨_, rfl⟩
            subst hwo
            have hsp := hs2
            have HBp := HB
            have HLp := HLr
            have hPe := take_map_end Mt.lnK P (l := kerns) (i := i) (by rw [← Hnb.out]; omega)
            rw [hPe] at HLs
            clear hs2 HB HLr hPe
            obtain ⟨P, hP⟩ : ∃ P', P' = P ++ kerns.map Mt.lnK := ⟨_, rfl⟩
            rw [← hP] at HLs
            have HPn : Hid (P.length ≤ 2002) := Lib.hid (by rw [hP, List.length_append, List.length_map]; have := HP.out; have := Hnb.out; omega)
            have HPPn := Lib.hid (show P ++ ligs.map Mt.lnL = (Mt.Ln.space sw st sk :: .hyphen hy :: (chars.map Mt.lnC ++ (kerns.map Mt.lnK ++ ligs.map Mt.lnL))) from by rw [hP, List.append_assoc]; exact HPP.out)
            clear hP HPP HP
            have HP := HPn
            have HPP := HPPn
            clear HPn HPPn
            have yy := HLp.out.at_ 7 _ rfl
            go_wp2_with fail
            clear yy
            go_loopw [3, 71] (fun lv iv wr => ∃ i : Nat, i ≤ nc ∧ iv = .int .i64 i ∧ w.heap.size + 1 ≤ wr.heap.size ∧ Hid (LinesAt (w.heap.size + 1) wr lv (P ++ (ligs.take i).map Mt.lnL)) ∧ Hid (Below w.heap.size w wr) ∧ Hid (Laid wr w.heap.size #[.int .i64 sw, .int .i64 st, .int .i64 sk, .int .i64 so, .int .i32 hy, .slice pc na cc, .slice pk nb ck, .slice pl nc cl])) (fun _ iv _ => nc - (intOf iv).toNat)
            case atStart => exact ⟨0, Nat.zero_le _, rfl, hsp, Lib.hid (by simpa using HLs.out), HBp, HLp⟩
            case round =>
              clear HLs HBp HLp hsp
              obtain ⟨i, hi', rfl, hs2, HLs, HB, HLr⟩ := hrel
              by_cases hlt : i < nc
              · obtain ⟨b1, o1, d1, e1, r1⟩ := HG.out.2.2 (by rw [← Hnc.out]; omega)
                obtain ⟨rfl, rfl⟩ : pl = some ⟨b1, o1, none⟩ ∧ cl = d1 := by injection e1 with a1 a2 a3; exact ⟨a1, a3⟩
                obtain ⟨x, hx⟩ : ∃ x, ligs[i]? = some x := ⟨_, List.getElem?_eq_getElem (by rw [← Hnc.out]; exact hlt)⟩
                obtain ⟨y0, y1, y2⟩ := lg_cells ((r1 i x hx).mono HB.out)
                have i0' : (0 : Int) ≤ (i : Int) := by omega
                have il : (i : Int) < (nc : Int) := by omega
                have HT := Lib.hid (take_map_ln Mt.lnL P hx)
                obtain ⟨rs, ho, hf⟩ := HLs.out
                have hrl : rs.length ≤ 2002 + nc := by have hq := hf.1; rw [List.length_append, List.length_map, List.length_take] at hq; have := HP.out; omega
                have HO := Lib.hid ho
                have HF := Lib.hid hf
                have HNl := Lib.hid (fun w5 (hb5 : Below ((wr.alloc (.cells #[.int .i32 x.a, .int .i32 x.b, .int .i32 x.to] 54)).alloc (.cells #[.int .i32 x.a, .int .i32 x.b, .int .i32 x.to] 21)).heap.size ((wr.alloc (.cells #[.int .i32 x.a, .int .i32 x.b, .int .i32 x.to] 54)).alloc (.cells #[.int .i32 x.a, .int .i32 x.b, .int .i32 x.to] 21)) w5) => (⟨rfl, ((ints_obj .i32 21 (wr.alloc (.cells #[.int .i32 x.a, .int .i32 x.b, .int .i32 x.to] 54)) (wr.heap.size + 1) (World.size_alloc _ _) [x.a, x.b, x.to] (by simp)).mono hb5), ⟨by simp [lnLens, Mt.lnL], .inl ⟨rfl, rfl⟩⟩⟩ : RcFit w5 ⟨4, .slice (some ⟨wr.heap.size + 1, 0, none⟩) 3 3, .slice none 0 0⟩ (Mt.lnL x)))
                have HB4 := Lib.hid (below_step (below_alloc wr _) (below_alloc _ _) : Below wr.heap.size wr ((wr.alloc (.cells #[.int .i32 x.a, .int .i32 x.b, .int .i32 x.to] 54)).alloc (.cells #[.int .i32 x.a, .int .i32 x.b, .int .i32 x.to] 21)))
                clear r1 e1 hx ho hf HLs
                go_wp2_with fail
                refine (newLine_any _ _ _ _ _ _ _ _).mono ?_
                rintro e w5 ⟨rfl, hb5⟩
                have hfit := HNl.out _ hb5
                have hb6 := below_step HB4.out hb5
                have hbw := below_step HB.out hb6
                have hs5 := hb6.size
                have HBw := Lib.hid hbw
                have HL5 := Lib.hid (HLr.out.mono hb6)
                have hown : World.ownsRow (w5.alloc (.cells #[.int .i64 4, .slice (some ⟨wr.heap.size + 1, 0, none⟩) 3 3, .slice none 0 0] 89)) (w.heap.size + 1) 89 3 _ rs.length (rs.flatMap rcC) := World.ownsRow.alloc (HO.out.mono hb6) (.cells #[.int .i64 4, .slice (some ⟨wr.heap.size + 1, 0, none⟩) 3 3, .slice none 0 0] 89)
                have HFx := Lib.hid ((HF.out.mono hb6).mono (below_alloc w5 (.cells #[.int .i64 4, .slice (some ⟨wr.heap.size + 1, 0, none⟩) 3 3, .slice none 0 0] 89)))
                have Hfit := Lib.hid (hfit.mono (below_alloc w5 (.cells #[.int .i64 4, .slice (some ⟨wr.heap.size + 1, 0, none⟩) 3 3, .slice none 0 0] 89)))
                have hnews := rc_new w5 ⟨4, .slice (some ⟨wr.heap.size + 1, 0, none⟩) 3 3, .slice none 0 0⟩
                have hone := rc_one hfit
                have hval := World.ownsRow.lt (HO.out.mono hb6)
                clear hb5 hb6 hbw hfit
                go_wp2_with (at_builtin; refine wpList_append_lies _ rfl _ _ 85 rfl (w.heap.size + 1) 89 i0 _ 3 56 Tryz.underlying85 hi hz0 hz1 hz2 rfl (by decide) _ _ _ rfl hown ⟨w5.heap.size, 0, none⟩ 1 1 (rcC ⟨4, .slice (some ⟨wr.heap.size + 1, 0, none⟩) 3 3, .slice none 0 0⟩) rfl rfl hnews hone (by omega) (by unfold maxLen; omega) (by omega) (by rw [World.size_alloc]; omega) _ rfl ?_; intro g9 cap9 w9 hown9 hgrow9 hat9 hlt9)
                have HB9 := Lib.hid ((HBw.out.alloc (by omega) (.cells #[.int .i64 4, .slice (some ⟨wr.heap.size + 1, 0, none⟩) 3 3, .slice none 0 0] 89)).grown hgrow9 (by rw [World.size_alloc]; omega) (fun q hq => by have := (hval q hq).1; omega))
                have HL9 := Lib.hid (laid_far (HL5.out.mono (below_alloc w5 (.cells #[.int .i64 4, .slice (some ⟨wr.heap.size + 1, 0, none⟩) 3 3, .slice none 0 0] 89))) hgrow9 (by rw [World.size_alloc]; omega) (fun hq => by have := (hval _ hq.symm).1; omega))
                have hs9 : w.heap.size + 1 ≤ w9.heap.size := by have := hgrow9.size; rw [World.size_alloc] at this; omega
                have HO9 : Hid (LinesAt (w.heap.size + 1) w9 (.slice (some ⟨g9, 0, none⟩) (rs.length + 1) cap9) (P ++ (ligs.take (i + 1)).map Mt.lnL)) := Lib.hid ⟨_, OwnL.snoc hown9, by rw [HT.out]; exact (HFx.out.grown hown hgrow9).snoc (Hfit.out.grown hown hgrow9)⟩
                clear hown hnews hone hval hown9 hgrow9 hat9 hlt9
                go_roundw
                case rel => exact ⟨i + 1, by omega, by go_num, hs9, HO9, HB9, HL9⟩
                case measure => simp [intOf]; omega
              · obtain ⟨wo, hwo⟩ : ∃ wo : World, wo = wr := ⟨_, rfl⟩
                subst hwo
                have hsp := hs2
                have HBp := HB
                have HLp := HLr
                have hPe := take_map_end Mt.lnL P (l := ligs) (i := i) (by rw [← Hnc.out]; omega)
                rw [hPe] at HLs
                clear hs2 HB HLr hPe
                go_wp2
                go_ret
                exact ⟨_, rfl, by rw [HPP.out] at HLs; exact HLs.out, HBp.out⟩
end Go.Proofs.YtmehldekebphfaaGreatDoor
