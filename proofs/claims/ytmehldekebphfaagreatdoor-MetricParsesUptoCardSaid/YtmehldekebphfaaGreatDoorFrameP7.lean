/-
  The landed Print, read and Parse; what the laws of this seat are handed, and how a law's answer closes its statement.
-/
import Derived.Test.YtmehldekebphfaaGreatDoorLines7
import Derived.Deep.RegionLaw
import Derived.Deep.RegionHeld3
import Derived.Deep.DeepCutAuto
import Derived.Test.YtmehldekebphfaaGreatDoorBuilder
import Derived.Test.YtmehldekebphfaaGreatDoorShelf
import Derived.Test.YtmehldekebphfaaGreatDoorCheck7
import Derived.Test.YtmehldekebphfaaGreatDoorReader7
import Derived.Test.YtmehldekebphfaaGreatDoorCuts
import Derived.BigRegion
import Derived.Test.YtmehldekebphfaaGreatDoorFixedW7
import Derived.Test.YtmehldekebphfaaGreatDoorAddTo7
import Derived.Test.YtmehldekebphfaaGreatDoorFind7
import Derived.Test.YtmehldekebphfaaGreatDoorRows
import Derived.Test.YtmehldekebphfaaGreatDoorCalls7
import Derived.Deep.Slices
import Derived.ProofKit
import Derived.ChangeSlices
import Derived.Test.YtmehldekebphfaaGreatDoorCards
import Derived.Test.YtmehldekebphfaaGreatDoorTie
import Derived.Lay
import Derived.Lib.LaidU8T
import Derived.Lib.LaidTab
import Derived.OpenShut
import Derived.Deep.DeepHandedRow
import Derived.Deep.DeepWitnessRowRef
import Derived.LaidMore
import Derived.Stop.LaidErr
import Derived.Lib.SmallJoins
import Derived.SevenTiedAt
import Derived.LaidSub
import Derived.Shelf.Vars
import Derived.Stop.LaidTwo
set_option linter.unusedVariables false
set_option linter.unusedSimpArgs false
set_option maxRecDepth 20000
namespace Go.Proofs.YtmehldekebphfaaGreatDoor
open Go.RowKit

/-- lines that have been laid -/
def LinesAt (B : Nat) (w : World) (v : Value) (ls : List Mt.Ln) : Prop := ∃ rs, OwnL B v rs w ∧ RcsFit w rs ls



theorem below_drew1 (w : World) : Below w.heap.size w w.drew := ⟨rfl, rfl, rfl, Nat.le_refl _, fun _ _ => rfl⟩
theorem lines_two (B : Nat) (w : World) (bS bH : Nat) (sw st sk hy : Int) (hB : B ≤ w.heap.size) (hS : w.heap[bS]? = some (.cells #[.int .i64 sw, .int .i64 st, .int .i64 sk] 2 (0, 0))) (hH : w.heap[bH]? = some (.cells #[.int .i32 hy] 21 (0, 0))) :
    LinesAt B (w.alloc (.cells #[.int .i64 0, .slice none 0 0, .slice (some ⟨bS, 0, none⟩) 3 3, .int .i64 1, .slice (some ⟨bH, 0, none⟩) 1 1, .slice none 0 0] 89)) (.slice (some ⟨w.heap.size, 0, none⟩) 2 2) [.space sw st sk, .hyphen hy] := by
  refine ⟨[⟨0, .slice none 0 0, .slice (some ⟨bS, 0, none⟩) 3 3⟩, ⟨1, .slice (some ⟨bH, 0, none⟩) 1 1, .slice none 0 0⟩], ⟨by rfl, .inr ⟨w.heap.size, 2, _, rfl, hB, heap_alloc_new w _, Nat.le_refl _, by unfold maxLen; omega, rfl, rfl⟩⟩, rfl, fun i r l hr hl => ?_⟩
  match i, hr, hl with
  | 0, hr, hl =>
    simp at hr hl
    subst hr hl
    exact ⟨rfl, ⟨by simp [lnCodes], .inl ⟨rfl, rfl⟩⟩, ⟨by simp [lnLens], .inr ⟨bS, rfl, obj_kept (below_alloc w _) hS⟩⟩⟩
  | 1, hr, hl =>
    simp at hr hl
    subst hr hl
    exact ⟨rfl, ⟨by simp [lnCodes], .inr ⟨bH, rfl, obj_kept (below_alloc w _) hH⟩⟩, ⟨by simp [lnLens], .inl ⟨rfl, rfl⟩⟩⟩
  | i + 2, hr, hl => simp at hr

theorem take_map_ln {α : Type} (f : α → Mt.Ln) (P : List Mt.Ln) {l : List α} {i : Nat} {x : α} (h : l[i]? = some x) : P ++ (l.take (i + 1)).map f = (P ++ (l.take i).map f) ++ [f x] := by
  rw [List.take_add_one, h]
  simp
theorem take_map_end {α : Type} (f : α → Mt.Ln) (P : List Mt.Ln) {l : List α} {i : Nat} (h : l.length ≤ i) : P ++ (l.take i).map f = P ++ l.map f := by rw [List.take_of_length_le h]
theorem LinesAt.mono {B : Nat} {w w' : World} {v : Value} {ls : List Mt.Ln} (h : LinesAt B w v ls) (hb : Below w.heap.size w w') : LinesAt B w' v ls := by
  obtain ⟨rs, h1, h2⟩ := h
  exact ⟨rs, h1.mono hb, h2.mono hb⟩
set_option maxHeartbeats 8000000 in
set_option maxRecDepth 100000 in
theorem linesOf_any (sw st sk so hy : Int) (pc pk pl : Option Addr) (na nb nc cc ck cl : Nat) (chars : List Mt.Ch) (kerns : List Mt.Kn) (ligs : List Mt.Lg) (w : World) (hna : na = chars.length) (hnb : nb = kerns.length) (hnc : nc = ligs.length)
    (hA : SlcAt chC 4 w (.slice pc na cc) chars) (hK : SlcAt knC 3 w (.slice pk nb ck) kerns) (hG : SlcAt lgC 3 w (.slice pl nc cl) ligs) (za : na ≤ 1000) (zb : nb ≤ 1000) (zc : nc ≤ 1000) :
    Calls Tryz.prog 38 #[.agg #[.int .i64 sw, .int .i64 st, .int .i64 sk, .int .i64 so, .int .i32 hy, .slice pc na cc, .slice pk nb ck, .slice pl nc cl]] w (fun e w' => ∃ v, e = .returned v ∧ LinesAt (w.heap.size + 1) w' v (.space sw st sk :: .hyphen hy :: (chars.map Mt.lnC ++ (kerns.map Mt.lnK ++ ligs.map Mt.lnL))) ∧ Below w.heap.size w w') := by
  obtain ⟨i0, hi, hz0, hz1, hz2⟩ := info_parts infoLn
  have HA := Lib.hid hA
  have HK := Lib.hid hK
  have HG := Lib.hid hG
  have Hna := Lib.hid hna
  have Hnb := Lib.hid hnb
  have Hnc := Lib.hid hnc
  clear hA hK hG hna hnb hnc
  have HL := Lib.hid (laid_one w #[.int .i64 sw, .int .i64 st, .int .i64 sk, .int .i64 so, .int .i32 hy, .slice pc na cc, .slice pk nb ck, .slice pl nc cl] 28)
  have HB := Lib.hid (below_alloc w (.cells #[.int .i64 sw, .int .i64 st, .int .i64 sk, .int .i64 so, .int .i32 hy, .slice pc na cc, .slice pk nb ck, .slice pl nc cl] 28))
  go_enter Tryz.func38, Tryz.ntmps38
  go_upto_region 1 with fail
  obtain ⟨W1, hW1⟩ : ∃ W1, W1 = w.alloc (.cells #[.int .i64 sw, .int .i64 st, .int .i64 sk, .int .i64 so, .int .i32 hy, .slice pc na cc, .slice pk nb ck, .slice pl nc cl] 28) := ⟨_, rfl⟩
  have HWs : Hid (W1.heap.size = w.heap.size + 1) := Lib.hid (by rw [hW1, World.size_alloc])
  rw [← hW1] at HL HB ⊢
  clear hW1
  have y0 : W1.cell? ⟨w.heap.size, 0, none⟩ = some (.int .i64 sw) := HL.out.at_ 0 _ rfl
  have y1 : W1.cell? ⟨w.heap.size, 1, none⟩ = some (.int .i64 st) := HL.out.at_ 1 _ rfl
  have y2 : W1.cell? ⟨w.heap.size, 2, none⟩ = some (.int .i64 sk) := HL.out.at_ 2 _ rfl
  have y4 : W1.cell? ⟨w.heap.size, 4, none⟩ = some (.int .i32 hy) := HL.out.at_ 4 _ rfl
  go_cut [3] (fun lv wx => LinesAt W1.heap.size wx lv [.space sw st sk, .hyphen hy] ∧ Hid (Below W1.heap.size W1 wx))
  case first =>
    go_region_held3 (fun w' => w'.cell? ⟨w.heap.size, 0, none⟩ = some (.int .i64 sw) ∧ w'.cell? ⟨w.heap.size, 1, none⟩ = some (.int .i64 st) ∧ w'.cell? ⟨w.heap.size, 2, none⟩ = some (.int .i64 sk) ∧ w'.cell? ⟨w.heap.size, 4, none⟩ = some (.int .i32 hy)) (first | go_keep | exact ⟨cell_below HA.out y0, cell_below HA.out y1, cell_below HA.out y2, cell_below HA.out y4⟩ | exact ⟨cell_below HZ.out y0, cell_below HZ.out y1, cell_below HZ.out y2, cell_below HZ.out y4⟩ | exact ⟨cell_below (below_step HA.out (below_alloc _ _)) y0, cell_below (below_step HA.out (below_alloc _ _)) y1, cell_below (below_step HA.out (below_alloc _ _)) y2, cell_below (below_step HA.out (below_alloc _ _)) y4⟩ | exact ⟨cell_below (below_step HZ.out (below_alloc _ _)) y0, cell_below (below_step HZ.out (below_alloc _ _)) y1, cell_below (below_step HZ.out (below_alloc _ _)) y2, cell_below (below_step HZ.out (below_alloc _ _)) y4⟩)
      (first | ((with_reducible refine (newLine_any 0 _ _ _ _ _ _ _).mono ?_); rintro e w7 ⟨rfl, hb7⟩; have HA : Hid (Below W1.heap.size W1 w7) := (Lib.hid (by first | exact below_step (below_step (below_alloc _ _) (below_drew1 _)) hb7 | exact below_step (below_step (below_step (below_alloc _ _) (below_alloc _ _)) (below_drew1 _)) hb7))) | ((with_reducible refine (newLine_any 1 _ _ _ _ _ _ _).mono ?_); rintro e w8 ⟨rfl, hb8⟩; have HZ : Hid (Below W1.heap.size W1 w8) := (Lib.hid (by first | exact below_step HA.out hb8 | exact below_step HA.out (below_step (below_alloc _ _) hb8)))))
    · go_wp2_with fail
      go_meet
      exact ⟨lines_two _ w8 _ _ sw st sk hy HZ.out.size (obj_kept hb8 (obj_kept (below_alloc _ _) (obj_kept hb7 (obj_kept (below_drew1 _) (obj_new W1 _ rfl _ _))))) (obj_kept hb8 (obj_new w7 _ rfl _ _)), Lib.hid (below_step HZ.out (below_alloc _ _))⟩
    · go_wp2_with fail
      go_meet
      exact ⟨lines_two _ w8 _ _ sw st sk hy HZ.out.size (obj_kept hb8 (obj_kept hb7 (obj_kept (below_drew1 _) (obj_kept (below_alloc _ _) (obj_new W1 _ rfl _ _))))) (obj_kept hb8 (obj_kept hb7 (obj_kept (below_drew1 _) (obj_new _ _ (World.size_alloc _ _) _ _)))), Lib.hid (below_step HZ.out (below_alloc _ _))⟩
    · go_wp2_with fail
      go_meet
      exact ⟨lines_two _ w8 _ _ sw st sk hy HZ.out.size (obj_kept hb8 (obj_kept hb7 (obj_kept (below_drew1 _) (obj_new _ _ (World.size_alloc _ _) _ _)))) (obj_kept hb8 (obj_kept hb7 (obj_kept (below_drew1 _) (obj_kept (below_alloc _ _) (obj_new W1 _ rfl _ _))))), Lib.hid (below_step HZ.out (below_alloc _ _))⟩
  case rest =>
    obtain ⟨hls, HBc⟩ := hcut
    rw [HWs.out] at hls
    have HLs := Lib.hid hls
    have HBp := Lib.hid (below_step HB.out HBc.out)
    have HLp := Lib.hid (HL.out.mono HBc.out)
    have hsp : w.heap.size + 1 ≤ wc.heap.size := by have := HBc.out.size; have := HWs.out; omega
    obtain ⟨P, hP⟩ : ∃ P : List Mt.Ln, P = [.space sw st sk, .hyphen hy] := ⟨_, rfl⟩
    rw [← hP] at HLs
    have HP : Hid (P.length ≤ 2) := Lib.hid (by rw [hP]; simp)
    have HPP : Hid (P ++ (chars.map Mt.lnC ++ (kerns.map Mt.lnK ++ ligs.map Mt.lnL)) = (.space sw st sk :: .hyphen hy :: (chars.map Mt.lnC ++ (kerns.map Mt.lnK ++ ligs.map Mt.lnL)))) := Lib.hid (by rw [hP]; rfl)
    clear hls hP y0 y1 y2 y4 HB HL HBc HWs
    have yy := HLp.out.at_ 5 _ rfl
    go_wp2_with fail
    clear yy
    go_loopw [3, 29] (fun lv iv wr => ∃ i : Nat, i ≤ na ∧ iv = .int .i64 i ∧ w.heap.size + 1 ≤ wr.heap.size ∧ Hid (LinesAt (w.heap.size + 1) wr lv (P ++ (chars.take i).map Mt.lnC)) ∧ Hid (Below w.heap.size w wr) ∧ Hid (Laid wr w.heap.size #[.int .i64 sw, .int .i64 st, .int .i64 sk, .int .i64 so, .int .i32 hy, .slice pc na cc, .slice pk nb ck, .slice pl nc cl])) (fun _ iv _ => na - (intOf iv).toNat)
    case atStart => exact ⟨0, Nat.zero_le _, rfl, hsp, Lib.hid (by simpa using HLs.out), HBp, HLp⟩
    case round =>
      clear HLs HBp HLp hsp
      obtain ⟨i, hi', rfl, hs2, HLs, HB, HLr⟩ := hrel
      by_cases hlt : i < na
      · obtain ⟨b1, o1, d1, e1, r1⟩ := HA.out.2.2 (by rw [← Hna.out]; omega)
        obtain ⟨rfl, rfl⟩ : pc = some ⟨b1, o1, none⟩ ∧ cc = d1 := by injection e1 with a1 a2 a3; exact ⟨a1, a3⟩
        obtain ⟨x, hx⟩ : ∃ x, chars[i]? = some x := ⟨_, List.getElem?_eq_getElem (by rw [← Hna.out]; exact hlt)⟩
        obtain ⟨y0, y1, y2, y3⟩ := ch_cells ((r1 i x hx).mono HB.out)
        have i0' : (0 : Int) ≤ (i : Int) := by omega
        have il : (i : Int) < (na : Int) := by omega
        have HT := Lib.hid (take_map_ln Mt.lnC P hx)
        obtain ⟨rs, ho, hf⟩ := HLs.out
        have hrl : rs.length ≤ 2 + na := by have hq := hf.1; rw [List.length_append, List.length_map, List.length_take] at hq; have := HP.out; omega
        have HO := Lib.hid ho
        have HF := Lib.hid hf
        have HNl := Lib.hid (fun w5 (hb5 : Below (((wr.alloc (.cells #[.int .i32 x.code, .int .i64 x.w, .int .i64 x.h, .int .i64 x.d] 38)).alloc (.cells #[.int .i32 x.code] 21)).alloc (.cells #[.int .i64 x.w, .int .i64 x.h, .int .i64 x.d] 2)).heap.size (((wr.alloc (.cells #[.int .i32 x.code, .int .i64 x.w, .int .i64 x.h, .int .i64 x.d] 38)).alloc (.cells #[.int .i32 x.code] 21)).alloc (.cells #[.int .i64 x.w, .int .i64 x.h, .int .i64 x.d] 2)) w5) => (⟨rfl, (((ints_obj .i32 21 (wr.alloc (.cells #[.int .i32 x.code, .int .i64 x.w, .int .i64 x.h, .int .i64 x.d] 38)) (wr.heap.size + 1) (World.size_alloc _ _) [x.code] (by simp)).mono (below_alloc ((wr.alloc (.cells #[.int .i32 x.code, .int .i64 x.w, .int .i64 x.h, .int .i64 x.d] 38)).alloc (.cells #[.int .i32 x.code] 21)) _)).mono hb5), ((ints_obj .i64 2 ((wr.alloc (.cells #[.int .i32 x.code, .int .i64 x.w, .int .i64 x.h, .int .i64 x.d] 38)).alloc (.cells #[.int .i32 x.code] 21)) (wr.heap.size + 2) (by simp) [x.w, x.h, x.d] (by simp)).mono hb5)⟩ : RcFit w5 ⟨2, .slice (some ⟨wr.heap.size + 1, 0, none⟩) 1 1, .slice (some ⟨wr.heap.size + 2, 0, none⟩) 3 3⟩ (Mt.lnC x)))
        have HB4 := Lib.hid (below_step (below_step (below_alloc wr _) (below_alloc _ _)) (below_alloc _ _) : Below wr.heap.size wr (((wr.alloc (.cells #[.int .i32 x.code, .int .i64 x.w, .int .i64 x.h, .int .i64 x.d] 38)).alloc (.cells #[.int .i32 x.code] 21)).alloc (.cells #[.int .i64 x.w, .int .i64 x.h, .int .i64 x.d] 2)))
        clear r1 e1 hx ho hf HLs
        go_wp2_with fail
        refine (newLine_any _ _ _ _ _ _ _ _).mono ?_
        rintro e w5 ⟨rfl, hb5⟩
        have hfit := HNl.out _ hb5
        have hb6 := below_step HB4.out hb5
        have hbw := below_step HB.out hb6
        have hs5 := hb6.size
        have HBw := Lib.hid hbw
        have HL5 := Lib.hid (HLr.out.mono hb6)
        have hown : World.ownsRow (w5.alloc (.cells #[.int .i64 2, .slice (some ⟨wr.heap.size + 1, 0, none⟩) 1 1, .slice (some ⟨wr.heap.size + 2, 0, none⟩) 3 3] 89)) (w.heap.size + 1) 89 3 _ rs.length (rs.flatMap rcC) := World.ownsRow.alloc (HO.out.mono hb6) (.cells #[.int .i64 2, .slice (some ⟨wr.heap.size + 1, 0, none⟩) 1 1, .slice (some ⟨wr.heap.size + 2, 0, none⟩) 3 3] 89)
        have HFx := Lib.hid ((HF.out.mono hb6).mono (below_alloc w5 (.cells #[.int .i64 2, .slice (some ⟨wr.heap.size + 1, 0, none⟩) 1 1, .slice (some ⟨wr.heap.size + 2, 0, none⟩) 3 3] 89)))
        have Hfit := Lib.hid (hfit.mono (below_alloc w5 (.cells #[.int .i64 2, .slice (some ⟨wr.heap.size + 1, 0, none⟩) 1 1, .slice (some ⟨wr.heap.size + 2, 0, none⟩) 3 3] 89)))
        have hnews := rc_new w5 ⟨2, .slice (some ⟨wr.heap.size + 1, 0, none⟩) 1 1, .slice (some ⟨wr.heap.size + 2, 0, none⟩) 3 3⟩
        have hone := rc_one hfit
        have hval := World.ownsRow.lt (HO.out.mono hb6)
        clear hb5 hb6 hbw hfit
        go_wp2_with (at_builtin; refine wpList_append_lies _ rfl _ _ 85 rfl (w.heap.size + 1) 89 i0 _ 3 56 Tryz.underlying85 hi hz0 hz1 hz2 rfl (by decide) _ _ _ rfl hown ⟨w5.heap.size, 0, none⟩ 1 1 (rcC ⟨2, .slice (some ⟨wr.heap.size + 1, 0, none⟩) 1 1, .slice (some ⟨wr.heap.size + 2, 0, none⟩) 3 3⟩) rfl rfl hnews hone (by omega) (by unfold maxLen; omega) (by omega) (by rw [World.size_alloc]; omega) _ rfl ?_; intro g9 cap9 w9 hown9 hgrow9 hat9 hlt9)
        have HB9 := Lib.hid ((HBw.out.alloc (by omega) (.cells #[.int .i64 2, .slice (some ⟨wr.heap.size + 1, 0, none⟩) 1 1, .slice (some ⟨wr.heap.size + 2, 0, none⟩) 3 3] 89)).grown hgrow9 (by rw [World.size_alloc]; omega) (fun q hq => by have := (hval q hq).1; omega))
        have HL9 := Lib.hid (laid_far (HL5.out.mono (below_alloc w5 (.cells #[.int .i64 2, .slice (some ⟨wr.heap.size + 1, 0, none⟩) 1 1, .slice (some ⟨wr.heap.size + 2, 0, none⟩) 3 3] 89))) hgrow9 (by rw [World.size_alloc]; omega) (fun hq => by have := (hval _ hq.symm).1; omega))
        have hs9 : w.heap.size + 1 ≤ w9.heap.size := by have := hgrow9.size; rw [World.size_alloc] at this; omega
        have HO9 : Hid (LinesAt (w.heap.size + 1) w9 (.slice (some ⟨g9, 0, none⟩) (rs.length + 1) cap9) (P ++ (chars.take (i + 1)).map Mt.lnC)) := Lib.hid ⟨_, OwnL.snoc hown9, by rw [HT.out]; exact (HFx.out.grown hown hgrow9).snoc (Hfit.out.grown hown hgrow9)⟩
        clear hown hnews hone hval hown9 hgrow9 hat9 hlt9
        go_roundw
        case rel => exact ⟨i + 1, by omega, by go_num, hs9, HO9, HB9, HL9⟩
        case measure => simp [intOf]; omega
      · obtain ⟨wo, hwo⟩ : ∃ wo : World, wo = wr := ⟨_, rfl⟩
        subst hwo
        have hsp := hs2
        have HBp := HB
        have HLp := HLr
        have hPe := take_map_end Mt.lnC P (l := chars) (i := i) (by rw [← Hna.out]; omega)
        rw [hPe] at HLs
        clear hs2 HB HLr hPe
        obtain ⟨P, hP⟩ : ∃ P', P' = P ++ chars.map Mt.lnC := ⟨_, rfl⟩
        rw [← hP] at HLs
        have HPn : Hid (P.length ≤ 1002) := Lib.hid (by rw [hP, List.length_append, List.length_map]; have := HP.out; have := Hna.out; omega)
        have HPPn := Lib.hid (show P ++ (kerns.map Mt.lnK ++ ligs.map Mt.lnL) = (Mt.Ln.space sw st sk :: .hyphen hy :: (chars.map Mt.lnC ++ (kerns.map Mt.lnK ++ ligs.map Mt.lnL))) from by rw [hP, List.append_assoc]; exact HPP.out)
        clear hP HPP HP
        have HP := HPn
        have HPP := HPPn
        clear HPn HPPn
        have yy := HLp.out.at_ 6 _ rfl
        go_wp2_with fail
        clear yy
        go_loopw [3, 51] (fun lv iv wr => ∃ i : Nat, i ≤ nb ∧ iv = .int .i64 i ∧ w.heap.size + 1 ≤ wr.heap.size ∧ Hid (LinesAt (w.heap.size + 1) wr lv (P ++ (kerns.take i).map Mt.lnK)) ∧ Hid (Below w.heap.size w wr) ∧ Hid (Laid wr w.heap.size #[.int .i64 sw, .int .i64 st, .int .i64 sk, .int .i64 so, .int .i32 hy, .slice pc na cc, .slice pk nb ck, .slice pl nc cl])) (fun _ iv _ => nb - (intOf iv).toNat)
        case atStart => exact ⟨0, Nat.zero_le _, rfl, hsp, Lib.hid (by simpa using HLs.out), HBp, HLp⟩
        case round =>
          clear HLs HBp HLp hsp
          obtain ⟨i, hi', rfl, hs2, HLs, HB, HLr⟩ := hrel
          by_cases hlt : i < nb
          · obtain ⟨b1, o1, d1, e1, r1⟩ := HK.out.2.2 (by rw [← Hnb.out]; omega)
            obtain ⟨rfl, rfl⟩ : pk = some ⟨b1, o1, none⟩ ∧ ck = d1 := by injection e1 with a1 a2 a3; exact ⟨a1, a3⟩
            obtain ⟨x, hx⟩ : ∃ x, kerns[i]? = some x := ⟨_, List.getElem?_eq_getElem (by rw [← Hnb.out]; exact hlt)⟩
            obtain ⟨y0, y1, y2⟩ := kn_cells ((r1 i x hx).mono HB.out)
            have i0' : (0 : Int) ≤ (i : Int) := by omega
            have il : (i : Int) < (nb : Int) := by omega
            have HT := Lib.hid (take_map_ln Mt.lnK P hx)
            obtain ⟨rs, ho, hf⟩ := HLs.out
            have hrl : rs.length ≤ 1002 + nb := by have hq := hf.1; rw [List.length_append, List.length_map, List.length_take] at hq; have := HP.out; omega
            have HO := Lib.hid ho
            have HF := Lib.hid hf
            have HNl := Lib.hid (fun w5 (hb5 : Below (((wr.alloc (.cells #[.int .i32 x.a, .int .i32 x.b, .int .i64 x.w] 52)).alloc (.cells #[.int .i32 x.a, .int .i32 x.b] 21)).alloc (.cells #[.int .i64 x.w] 2)).heap.size (((wr.alloc (.cells #[.int .i32 x.a, .int .i32 x.b, .int .i64 x.w] 52)).alloc (.cells #[.int .i32 x.a, .int .i32 x.b] 21)).alloc (.cells #[.int .i64 x.w] 2)) w5) => (⟨rfl, (((ints_obj .i32 21 (wr.alloc (.cells #[.int .i32 x.a, .int .i32 x.b, .int .i64 x.w] 52)) (wr.heap.size + 1) (World.size_alloc _ _) [x.a, x.b] (by simp)).mono (below_alloc ((wr.alloc (.cells #[.int .i32 x.a, .int .i32 x.b, .int .i64 x.w] 52)).alloc (.cells #[.int .i32 x.a, .int .i32 x.b] 21)) _)).mono hb5), ((ints_obj .i64 2 ((wr.alloc (.cells #[.int .i32 x.a, .int .i32 x.b, .int .i64 x.w] 52)).alloc (.cells #[.int .i32 x.a, .int .i32 x.b] 21)) (wr.heap.size + 2) (by simp) [x.w] (by simp)).mono hb5)⟩ : RcFit w5 ⟨3, .slice (some ⟨wr.heap.size + 1, 0, none⟩) 2 2, .slice (some ⟨wr.heap.size + 2, 0, none⟩) 1 1⟩ (Mt.lnK x)))
            have HB4 := Lib.hid (below_step (below_step (below_alloc wr _) (below_alloc _ _)) (below_alloc _ _) : Below wr.heap.size wr (((wr.alloc (.cells #[.int .i32 x.a, .int .i32 x.b, .int .i64 x.w] 52)).alloc (.cells #[.int .i32 x.a, .int .i32 x.b] 21)).alloc (.cells #[.int .i64 x.w] 2)))
            clear r1 e1 hx ho hf HLs
            go_wp2_with fail
            refine (newLine_any _ _ _ _ _ _ _ _).mono ?_
            rintro e w5 ⟨rfl, hb5⟩
            have hfit := HNl.out _ hb5
            have hb6 := below_step HB4.out hb5
            have hbw := below_step HB.out hb6
            have hs5 := hb6.size
            have HBw := Lib.hid hbw
            have HL5 := Lib.hid (HLr.out.mono hb6)
            have hown : World.ownsRow (w5.alloc (.cells #[.int .i64 3, .slice (some ⟨wr.heap.size + 1, 0, none⟩) 2 2, .slice (some ⟨wr.heap.size + 2, 0, none⟩) 1 1] 89)) (w.heap.size + 1) 89 3 _ rs.length (rs.flatMap rcC) := World.ownsRow.alloc (HO.out.mono hb6) (.cells #[.int .i64 3, .slice (some ⟨wr.heap.size + 1, 0, none⟩) 2 2, .slice (some ⟨wr.heap.size + 2, 0, none⟩) 1 1] 89)
            have HFx := Lib.hid ((HF.out.mono hb6).mono (below_alloc w5 (.cells #[.int .i64 3, .slice (some ⟨wr.heap.size + 1, 0, none⟩) 2 2, .slice (some ⟨wr.heap.size + 2, 0, none⟩) 1 1] 89)))
            have Hfit := Lib.hid (hfit.mono (below_alloc w5 (.cells #[.int .i64 3, .slice (some ⟨wr.heap.size + 1, 0, none⟩) 2 2, .slice (some ⟨wr.heap.size + 2, 0, none⟩) 1 1] 89)))
            have hnews := rc_new w5 ⟨3, .slice (some ⟨wr.heap.size + 1, 0, none⟩) 2 2, .slice (some ⟨wr.heap.size + 2, 0, none⟩) 1 1⟩
            have hone := rc_one hfit
            have hval := World.ownsRow.lt (HO.out.mono hb6)
            clear hb5 hb6 hbw hfit
            go_wp2_with (at_builtin; refine wpList_append_lies _ rfl _ _ 85 rfl (w.heap.size + 1) 89 i0 _ 3 56 Tryz.underlying85 hi hz0 hz1 hz2 rfl (by decide) _ _ _ rfl hown ⟨w5.heap.size, 0, none⟩ 1 1 (rcC ⟨3, .slice (some ⟨wr.heap.size + 1, 0, none⟩) 2 2, .slice (some ⟨wr.heap.size + 2, 0, none⟩) 1 1⟩) rfl rfl hnews hone (by omega) (by unfold maxLen; omega) (by omega) (by rw [World.size_alloc]; omega) _ rfl ?_; intro g9 cap9 w9 hown9 hgrow9 hat9 hlt9)
            have HB9 := Lib.hid ((HBw.out.alloc (by omega) (.cells #[.int .i64 3, .slice (some ⟨wr.heap.size + 1, 0, none⟩) 2 2, .slice (some ⟨wr.heap.size + 2, 0, none⟩) 1 1] 89)).grown hgrow9 (by rw [World.size_alloc]; omega) (fun q hq => by have := (hval q hq).1; omega))
            have HL9 := Lib.hid (laid_far (HL5.out.mono (below_alloc w5 (.cells #[.int .i64 3, .slice (some ⟨wr.heap.size + 1, 0, none⟩) 2 2, .slice (some ⟨wr.heap.size + 2, 0, none⟩) 1 1] 89))) hgrow9 (by rw [World.size_alloc]; omega) (fun hq => by have := (hval _ hq.symm).1; omega))
            have hs9 : w.heap.size + 1 ≤ w9.heap.size := by have := hgrow9.size; rw [World.size_alloc] at this; omega
            have HO9 : Hid (LinesAt (w.heap.size + 1) w9 (.slice (some ⟨g9, 0, none⟩) (rs.length + 1) cap9) (P ++ (kerns.take (i + 1)).map Mt.lnK)) := Lib.hid ⟨_, OwnL.snoc hown9, by rw [HT.out]; exact (HFx.out.grown hown hgrow9).snoc (Hfit.out.grown hown hgrow9)⟩
            clear hown hnews hone hval hown9 hgrow9 hat9 hlt9
            go_roundw
            case rel => exact ⟨i + 1, by omega, by go_num, hs9, HO9, HB9, HL9⟩
            case measure => simp [intOf]; omega
          · obtain ⟨wo, hwo⟩ : ∃ wo : World, wo = wr := ⟨_, rfl⟩
            subst hwo
            have hsp := hs2
            have HBp := HB
            have HLp := HLr
            have hPe := take_map_end Mt.lnK P (l := kerns) (i := i) (by rw [← Hnb.out]; omega)
            rw [hPe] at HLs
            clear hs2 HB HLr hPe
            obtain ⟨P, hP⟩ : ∃ P', P' = P ++ kerns.map Mt.lnK := ⟨_, rfl⟩
            rw [← hP] at HLs
            have HPn : Hid (P.length ≤ 2002) := Lib.hid (by rw [hP, List.length_append, List.length_map]; have := HP.out; have := Hnb.out; omega)
            have HPPn := Lib.hid (show P ++ ligs.map Mt.lnL = (Mt.Ln.space sw st sk :: .hyphen hy :: (chars.map Mt.lnC ++ (kerns.map Mt.lnK ++ ligs.map Mt.lnL))) from by rw [hP, List.append_assoc]; exact HPP.out)
            clear hP HPP HP
            have HP := HPn
            have HPP := HPPn
            clear HPn HPPn
            have yy := HLp.out.at_ 7 _ rfl
            go_wp2_with fail
            clear yy
            go_loopw [3, 71] (fun lv iv wr => ∃ i : Nat, i ≤ nc ∧ iv = .int .i64 i ∧ w.heap.size + 1 ≤ wr.heap.size ∧ Hid (LinesAt (w.heap.size + 1) wr lv (P ++ (ligs.take i).map Mt.lnL)) ∧ Hid (Below w.heap.size w wr) ∧ Hid (Laid wr w.heap.size #[.int .i64 sw, .int .i64 st, .int .i64 sk, .int .i64 so, .int .i32 hy, .slice pc na cc, .slice pk nb ck, .slice pl nc cl])) (fun _ iv _ => nc - (intOf iv).toNat)
            case atStart => exact ⟨0, Nat.zero_le _, rfl, hsp, Lib.hid (by simpa using HLs.out), HBp, HLp⟩
            case round =>
              clear HLs HBp HLp hsp
              obtain ⟨i, hi', rfl, hs2, HLs, HB, HLr⟩ := hrel
              by_cases hlt : i < nc
              · obtain ⟨b1, o1, d1, e1, r1⟩ := HG.out.2.2 (by rw [← Hnc.out]; omega)
                obtain ⟨rfl, rfl⟩ : pl = some ⟨b1, o1, none⟩ ∧ cl = d1 := by injection e1 with a1 a2 a3; exact ⟨a1, a3⟩
                obtain ⟨x, hx⟩ : ∃ x, ligs[i]? = some x := ⟨_, List.getElem?_eq_getElem (by rw [← Hnc.out]; exact hlt)⟩
                obtain ⟨y0, y1, y2⟩ := lg_cells ((r1 i x hx).mono HB.out)
                have i0' : (0 : Int) ≤ (i : Int) := by omega
                have il : (i : Int) < (nc : Int) := by omega
                have HT := Lib.hid (take_map_ln Mt.lnL P hx)
                obtain ⟨rs, ho, hf⟩ := HLs.out
                have hrl : rs.length ≤ 2002 + nc := by have hq := hf.1; rw [List.length_append, List.length_map, List.length_take] at hq; have := HP.out; omega
                have HO := Lib.hid ho
                have HF := Lib.hid hf
                have HNl := Lib.hid (fun w5 (hb5 : Below ((wr.alloc (.cells #[.int .i32 x.a, .int .i32 x.b, .int .i32 x.to] 54)).alloc (.cells #[.int .i32 x.a, .int .i32 x.b, .int .i32 x.to] 21)).heap.size ((wr.alloc (.cells #[.int .i32 x.a, .int .i32 x.b, .int .i32 x.to] 54)).alloc (.cells #[.int .i32 x.a, .int .i32 x.b, .int .i32 x.to] 21)) w5) => (⟨rfl, ((ints_obj .i32 21 (wr.alloc (.cells #[.int .i32 x.a, .int .i32 x.b, .int .i32 x.to] 54)) (wr.heap.size + 1) (World.size_alloc _ _) [x.a, x.b, x.to] (by simp)).mono hb5), ⟨by simp [lnLens, Mt.lnL], .inl ⟨rfl, rfl⟩⟩⟩ : RcFit w5 ⟨4, .slice (some ⟨wr.heap.size + 1, 0, none⟩) 3 3, .slice none 0 0⟩ (Mt.lnL x)))
                have HB4 := Lib.hid (below_step (below_alloc wr _) (below_alloc _ _) : Below wr.heap.size wr ((wr.alloc (.cells #[.int .i32 x.a, .int .i32 x.b, .int .i32 x.to] 54)).alloc (.cells #[.int .i32 x.a, .int .i32 x.b, .int .i32 x.to] 21)))
                clear r1 e1 hx ho hf HLs
                go_wp2_with fail
                refine (newLine_any _ _ _ _ _ _ _ _).mono ?_
                rintro e w5 ⟨rfl, hb5⟩
                have hfit := HNl.out _ hb5
                have hb6 := below_step HB4.out hb5
                have hbw := below_step HB.out hb6
                have hs5 := hb6.size
                have HBw := Lib.hid hbw
                have HL5 := Lib.hid (HLr.out.mono hb6)
                have hown : World.ownsRow (w5.alloc (.cells #[.int .i64 4, .slice (some ⟨wr.heap.size + 1, 0, none⟩) 3 3, .slice none 0 0] 89)) (w.heap.size + 1) 89 3 _ rs.length (rs.flatMap rcC) := World.ownsRow.alloc (HO.out.mono hb6) (.cells #[.int .i64 4, .slice (some ⟨wr.heap.size + 1, 0, none⟩) 3 3, .slice none 0 0] 89)
                have HFx := Lib.hid ((HF.out.mono hb6).mono (below_alloc w5 (.cells #[.int .i64 4, .slice (some ⟨wr.heap.size + 1, 0, none⟩) 3 3, .slice none 0 0] 89)))
                have Hfit := Lib.hid (hfit.mono (below_alloc w5 (.cells #[.int .i64 4, .slice (some ⟨wr.heap.size + 1, 0, none⟩) 3 3, .slice none 0 0] 89)))
                have hnews := rc_new w5 ⟨4, .slice (some ⟨wr.heap.size + 1, 0, none⟩) 3 3, .slice none 0 0⟩
                have hone := rc_one hfit
                have hval := World.ownsRow.lt (HO.out.mono hb6)
                clear hb5 hb6 hbw hfit
                go_wp2_with (at_builtin; refine wpList_append_lies _ rfl _ _ 85 rfl (w.heap.size + 1) 89 i0 _ 3 56 Tryz.underlying85 hi hz0 hz1 hz2 rfl (by decide) _ _ _ rfl hown ⟨w5.heap.size, 0, none⟩ 1 1 (rcC ⟨4, .slice (some ⟨wr.heap.size + 1, 0, none⟩) 3 3, .slice none 0 0⟩) rfl rfl hnews hone (by omega) (by unfold maxLen; omega) (by omega) (by rw [World.size_alloc]; omega) _ rfl ?_; intro g9 cap9 w9 hown9 hgrow9 hat9 hlt9)
                have HB9 := Lib.hid ((HBw.out.alloc (by omega) (.cells #[.int .i64 4, .slice (some ⟨wr.heap.size + 1, 0, none⟩) 3 3, .slice none 0 0] 89)).grown hgrow9 (by rw [World.size_alloc]; omega) (fun q hq => by have := (hval q hq).1; omega))
                have HL9 := Lib.hid (laid_far (HL5.out.mono (below_alloc w5 (.cells #[.int .i64 4, .slice (some ⟨wr.heap.size + 1, 0, none⟩) 3 3, .slice none 0 0] 89))) hgrow9 (by rw [World.size_alloc]; omega) (fun hq => by have := (hval _ hq.symm).1; omega))
                have hs9 : w.heap.size + 1 ≤ w9.heap.size := by have := hgrow9.size; rw [World.size_alloc] at this; omega
                have HO9 : Hid (LinesAt (w.heap.size + 1) w9 (.slice (some ⟨g9, 0, none⟩) (rs.length + 1) cap9) (P ++ (ligs.take (i + 1)).map Mt.lnL)) := Lib.hid ⟨_, OwnL.snoc hown9, by rw [HT.out]; exact (HFx.out.grown hown hgrow9).snoc (Hfit.out.grown hown hgrow9)⟩
                clear hown hnews hone hval hown9 hgrow9 hat9 hlt9
                go_roundw
                case rel => exact ⟨i + 1, by omega, by go_num, hs9, HO9, HB9, HL9⟩
                case measure => simp [intOf]; omega
              · obtain ⟨wo, hwo⟩ : ∃ wo : World, wo = wr := ⟨_, rfl⟩
                subst hwo
                have hsp := hs2
                have HBp := HB
                have HLp := HLr
                have hPe := take_map_end Mt.lnL P (l := ligs) (i := i) (by rw [← Hnc.out]; omega)
                rw [hPe] at HLs
                clear hs2 HB HLr hPe
                go_wp2
                go_ret
                exact ⟨_, rfl, by rw [HPP.out] at HLs; exact HLs.out, HBp.out⟩
end Go.Proofs.YtmehldekebphfaaGreatDoor

namespace Go.Proofs.YtmehldekebphfaaGreatDoor
open Go.RowKit

/-- the builder at b0 holds the bytes l -/
def Bld (B b0 : Nat) (l : List UInt8) (w : World) : Prop := Lib.IsBuilderF 84 5 B b0 (Lib.byteCells l) w
theorem bld_fresh (w : World) : Bld w.heap.size w.heap.size [] (w.alloc (.cells #[.pointer none, .slice none 0 0] 84)) := Lib.IsBuilderF.of (Lib.fresh_isBuilder 84 5 w)
theorem text_bld (B b0 : Nat) (l : List UInt8) (s : ByteArray) (w : World) (h : Bld B b0 l w) (hl : l.length + s.size ≤ 140737488355328) (hB : B ≤ w.heap.size) :
    Calls Tryz.prog 39 #[.pointer (some ⟨b0, 0, none⟩), .string s] w (fun e w' => e = .returned (.tuple #[.int .i64 s.size, .nilIface]) ∧ Bld B b0 (l ++ s.data.toList) w' ∧ Below B w w') := by
  refine (writeString B b0 (Lib.byteCells l) s w h (by rw [Lib.byteCells_length]; exact hl) hB).mono ?_
  rintro e w' ⟨he, h1, h2, _⟩
  refine ⟨he, ?_, h2⟩
  unfold Bld
  rw [Lib.byteCells_append, ← Lib.strCells_eq]
  exact .inr h1
def StrPost (B : Nat) (l : List UInt8) (w : World) (e : Ending) (w' : World) : Prop := e = .returned (.string ⟨l.toArray⟩) ∧ Below B w w'
theorem string_bld (B b0 : Nat) (l : List UInt8) (w : World) (h : Bld B b0 l w) (hB : B ≤ w.heap.size) :
    Calls Tryz.prog 41 #[.pointer (some ⟨b0, 0, none⟩)] w (StrPost B l w) := by
  refine (Tryz.Builder_String_any_k B b0 l w h hB).mono ?_
  rintro e w' ⟨he, _, h2, _⟩
  exact ⟨he, h2⟩
theorem bld_kept {B b0 : Nat} {l : List UInt8} {w w' : World} (h : Bld B b0 l w) (hb : Below w.heap.size w w') : Bld B b0 l w' := by
  have hg : w.grownBy w' none := ⟨hb.os, hb.tape, hb.output, hb.size, fun i hi _ => hb.block i hi⟩
  have one : ∀ p, Lib.BuilderAtF 84 5 B b0 p (Lib.byteCells l) w → Lib.BuilderAtF 84 5 B b0 p (Lib.byteCells l) w' := by
    rintro p ⟨hB, v, hbk, hown, hne⟩
    have hlt : b0 < w.heap.size := by
      rcases Nat.lt_or_ge b0 w.heap.size with h' | h'
      · exact h'
      · rw [Array.getElem?_eq_none h'] at hbk; cases hbk
    refine ⟨hB, v, by rw [hb.block b0 hlt]; exact hbk, hown.kept hg ?_, hne⟩
    cases hv : v.ownBlock with
    | none => exact .inl rfl
    | some g => exact .inr (by simp)
  rcases h with h | h
  · exact .inl (one _ h)
  · exact .inr (one _ h)

theorem bld_lt {B b0 : Nat} {l : List UInt8} {w : World} (h : Bld B b0 l w) : b0 < w.heap.size := by
  have one : ∀ p, Lib.BuilderAtF 84 5 B b0 p (Lib.byteCells l) w → b0 < w.heap.size := by
    rintro p ⟨hB, v, hbk, hown, hne⟩
    rcases Nat.lt_or_ge b0 w.heap.size with h' | h'
    · exact h'
    · rw [Array.getElem?_eq_none h'] at hbk; cases hbk
  rcases h with h | h
  · exact one _ h
  · exact one _ h


theorem text_bld_k (B b0 : Nat) (l : List UInt8) (s : ByteArray) (w : World) (h : Bld B b0 l w) (hl : l.length + s.size ≤ 140737488355328) (hB : B ≤ w.heap.size) :
    Calls Tryz.prog 39 #[.pointer (some ⟨b0, 0, none⟩), .string s] w (fun e w' => e = .returned (.tuple #[.int .i64 s.size, .nilIface]) ∧ Bld B b0 (l ++ s.data.toList) w' ∧ Below B w w' ∧ Lib.OthersKept 5 (some b0) w w') := by
  refine (writeString B b0 (Lib.byteCells l) s w h (by rw [Lib.byteCells_length]; exact hl) hB).mono ?_
  rintro e w' ⟨he, h1, h2, h3⟩
  refine ⟨he, ?_, h2, h3⟩
  unfold Bld
  rw [Lib.byteCells_append, ← Lib.strCells_eq]
  exact .inr h1
theorem bld_obj {B b0 : Nat} {l : List UInt8} {w : World} (h : Bld B b0 l w) : ∃ cs, w.heap[b0]? = some (.cells cs 84 (0, 0)) := by
  rcases h with ⟨_, v, hbk, _⟩ | ⟨_, v, hbk, _⟩
  · exact ⟨_, hbk⟩
  · exact ⟨_, hbk⟩
theorem obj_others {w w' : World} {b0 b : Nat} {c cs : Array Value} {T : TypeId} {fr : Nat × Nat} (hk : Lib.OthersKept 5 (some b0) w w') (h0 : w.heap[b0]? = some (.cells cs 84 (0, 0))) (h : w.heap[b]? = some (.cells c T fr)) (h1 : T ≠ 5) (h2 : T ≠ 84) : w'.heap[b]? = some (.cells c T fr) := by
  refine hk b _ h ?_ ?_
  · intro e
    injection e with e
    subst e
    rw [h0] at h
    injection h with h
    injection h with _ h _
    exact h2 h.symm
  · intro c' fz e
    injection e with _ e _
    exact h1 e
theorem IntsObj.others {k : IntKind} {T : TypeId} {w w' : World} {v : Value} {xs : List Int} {b0 : Nat} {cs : Array Value} (h : IntsObj k T w v xs) (hk : Lib.OthersKept 5 (some b0) w w') (h0 : w.heap[b0]? = some (.cells cs 84 (0, 0))) (h1 : T ≠ 5) (h2 : T ≠ 84) : IntsObj k T w' v xs := by
  obtain ⟨h3, h⟩ := h
  rcases h with h | ⟨b, rfl, hb⟩
  · exact ⟨h3, .inl h⟩
  · exact ⟨h3, .inr ⟨b, rfl, obj_others hk h0 hb h1 h2⟩⟩
theorem LinesAt.others {B : Nat} {w w' : World} {v : Value} {ls : List Mt.Ln} {b0 : Nat} {cs : Array Value} (h : LinesAt B w v ls) (hk : Lib.OthersKept 5 (some b0) w w') (h0 : w.heap[b0]? = some (.cells cs 84 (0, 0))) : LinesAt B w' v ls := by
  obtain ⟨rs, ho, hf⟩ := h
  refine ⟨rs, ⟨ho.1, ?_⟩, hf.1, fun i r l hr hl => ?_⟩
  · rcases ho.2 with h | ⟨g, cap, cur, e, hg, hob, rest⟩
    · exact .inl h
    · exact .inr ⟨g, cap, cur, e, hg, obj_others hk h0 hob (by decide) (by decide), rest⟩
  · have := hf.2 i r l hr hl
    exact ⟨this.k, this.c.others hk h0 (by decide) (by decide), this.l.others hk h0 (by decide) (by decide)⟩
end Go.Proofs.YtmehldekebphfaaGreatDoor

namespace Go.Proofs.YtmehldekebphfaaGreatDoor
open Go.RowKit

theorem body_on {ls : List Mt.Ln} {i : Nat} {x : Mt.Ln} (h : ls[i]? = some x) : Mt.body (ls.take (i + 1)) = Mt.body (ls.take i) ++ Mt.text x ++ [10] := by
  unfold Mt.body
  rw [List.take_add_one, h]
  simp
theorem dec_bound7 : ∀ (m k : Nat), (Lib.decDigits k).length ≤ m → k < 10 ^ m
  | 0, k, h => by
    exfalso
    rw [Lib.decDigits] at h
    split at h <;> simp at h
  | m + 1, k, h => by
    by_cases hk : k < 10
    · have : 1 ≤ 10 ^ m := Nat.one_le_pow _ _ (by decide)
      rw [Nat.pow_succ]
      omega
    · rw [Lib.decDigits, dif_neg hk, List.length_append, List.length_singleton] at h
      have := dec_bound7 m (k / 10) (by omega)
      rw [Nat.pow_succ]
      omega
theorem line_in {l : Mt.Ln} (h : Mt.lnOk l) : LnIn l := by
  have hc : ∀ {n : Int}, Mt.codeOk n → In32 n := by
    intro n hn
    obtain ⟨h0, h1, h2⟩ := hn
    obtain ⟨u, rfl⟩ : ∃ u : Nat, n = (u : Int) := ⟨n.toNat, by omega⟩
    rw [Lib.itoa_nonneg] at h1
    have := dec_bound7 7 u (by omega)
    unfold In32
    omega
  intro c hcm
  cases l with
  | space a b d => simp [lnCodes] at hcm
  | hyphen d => simp [lnCodes] at hcm; subst hcm; exact hc h
  | char d e f g => simp [lnCodes] at hcm; subst hcm; exact hc h.1
  | kern d e f =>
    simp [lnCodes] at hcm
    rcases hcm with rfl | rfl
    · exact hc h.1
    · exact hc h.2.1
  | lig d e f =>
    simp [lnCodes] at hcm
    rcases hcm with rfl | rfl | rfl
    · exact hc h.1
    · exact hc h.2.1
    · exact hc h.2.2

set_option maxHeartbeats 8000000 in
set_option maxRecDepth 100000 in
theorem metPrint_any {aL aT : Addr} (v : Value) (m : Mt.Tab) (w : World) (hE : MEnv aL aT w) (h : MetAt w v m) : Calls Tryz.prog 18 #[v] w (Ret (.string (str (Mt.print m))) w) := by
  have HEE := Lib.hid (fun w' (h : Below w.heap.size w w') => hE.mono h)
  have hmet := h
  obtain ⟨cv, kv, lv, rfl, a1, b1, c1⟩ := hmet
  have HA := Lib.hid a1
  have HK := Lib.hid b1
  have HG := Lib.hid c1
  obtain ⟨⟨pc, cc, rfl, _⟩, _, _⟩ := a1
  obtain ⟨⟨pk, ck, rfl, _⟩, _, _⟩ := b1
  obtain ⟨⟨pl, cl, rfl, _⟩, _, _⟩ := c1
  unfold metV at h ⊢
  have HC := Lib.hid (fun w h => check_any (.agg #[.int .i64 m.sw, .int .i64 m.st, .int .i64 m.sk, .int .i64 m.order, .int .i32 m.hyph, .slice pc m.chars.length cc, .slice pk m.kerns.length ck, .slice pl m.ligs.length cl]) m w h)
  have hb0 := below_alloc w (.cells #[.int .i64 m.sw, .int .i64 m.st, .int .i64 m.sk, .int .i64 m.order, .int .i32 m.hyph, .slice pc m.chars.length cc, .slice pk m.kerns.length ck, .slice pl m.ligs.length cl] 28)
  have HM := Lib.hid (h.mono hb0)
  have HL := Lib.hid (laid_one w #[.int .i64 m.sw, .int .i64 m.st, .int .i64 m.sk, .int .i64 m.order, .int .i32 m.hyph, .slice pc m.chars.length cc, .slice pk m.kerns.length ck, .slice pl m.ligs.length cl] 28)
  have HB := Lib.hid hb0
  cases hmay : Mt.may m with
  | false =>
    have hp : Mt.print m = [] := Mt.print_not hmay
    rw [hmay] at HC
    simp only [Bool.false_eq_true, if_false] at HC
    rw [hp]
    generalize m.chars.length = na at *
    generalize m.kerns.length = nb at *
    generalize m.ligs.length = nc at *
    generalize m.sw = sw at *
    generalize m.st = st at *
    generalize m.sk = sk at *
    generalize m.order = so at *
    generalize m.hyph = hy at *
    clear h hb0 hmay hp hE
    go_enter Tryz.func18, Tryz.ntmps18
    have y0 := HL.out.at_ 0 _ rfl
    have y1 := HL.out.at_ 1 _ rfl
    have y2 := HL.out.at_ 2 _ rfl
    have y3 := HL.out.at_ 3 _ rfl
    have y4 := HL.out.at_ 4 _ rfl
    have y5 := HL.out.at_ 5 _ rfl
    have y6 := HL.out.at_ 6 _ rfl
    have y7 := HL.out.at_ 7 _ rfl
    go_wp2_with fail
    refine (HC.out _ HM.out).mono ?_
    rintro e w1 ⟨rfl, hb1⟩
    have HB := Lib.hid (below_step HB.out hb1)
    clear hb1 y0 y1 y2 y3 y4 y5 y6 y7
    go_wp2
    go_ret
    exact ⟨rfl, HB.out⟩
  | true =>
    rw [hmay] at HC
    simp only [if_true] at HC
    have hparts := (Mt.may_parts hmay).1
    have HLo := Lib.hid (Mt.lines_ok hmay)
    have hpr : Mt.print m = Mt.body (Mt.lines m) := by unfold Mt.print; rw [if_pos hmay]
    have HLen : Hid ((Mt.lines m).length ≤ 3000) := Lib.hid (by simp only [Mt.lines, List.length_cons, List.length_append, List.length_map]; omega)
    have HLs := Lib.hid (fun (w' : World) (hb : Below w.heap.size w w') => linesOf_any m.sw m.st m.sk m.order m.hyph pc pk pl _ _ _ cc ck cl m.chars m.kerns m.ligs w' rfl rfl rfl (HA.out.mono hb) (HK.out.mono hb) (HG.out.mono hb) (by omega) (by omega) (by omega))
    have hls : (Mt.Ln.space m.sw m.st m.sk :: .hyphen m.hyph :: (m.chars.map Mt.lnC ++ (m.kerns.map Mt.lnK ++ m.ligs.map Mt.lnL))) = Mt.lines m := rfl
    rw [hls] at HLs
    rw [hpr]
    generalize Mt.lines m = LS at HLs HLo HLen ⊢
    generalize m.chars.length = na at *
    generalize m.kerns.length = nb at *
    generalize m.ligs.length = nc at *
    generalize m.sw = sw at *
    generalize m.st = st at *
    generalize m.sk = sk at *
    generalize m.order = so at *
    generalize m.hyph = hy at *
    clear h hb0 hmay hpr hE hparts hls HA HK HG
    go_enter Tryz.func18, Tryz.ntmps18
    have y0 := HL.out.at_ 0 _ rfl
    have y1 := HL.out.at_ 1 _ rfl
    have y2 := HL.out.at_ 2 _ rfl
    have y3 := HL.out.at_ 3 _ rfl
    have y4 := HL.out.at_ 4 _ rfl
    have y5 := HL.out.at_ 5 _ rfl
    have y6 := HL.out.at_ 6 _ rfl
    have y7 := HL.out.at_ 7 _ rfl
    go_wp2_with fail
    refine (HC.out _ HM.out).mono ?_
    rintro e w1 ⟨rfl, hb1⟩
    have HB := Lib.hid (below_step HB.out hb1)
    have HL := Lib.hid ((HL.out.mono hb1).mono (below_alloc w1 (.cells #[.pointer none, .slice none 0 0] 84)))
    clear hb1 y0 y1 y2 y3 y4 y5 y6 y7
    have HBl := Lib.hid (bld_fresh w1)
    have HB2 := Lib.hid (below_step HB.out (below_alloc w1 (.cells #[.pointer none, .slice none 0 0] 84)))
    have y0 := HL.out.at_ 0 _ rfl
    have y1 := HL.out.at_ 1 _ rfl
    have y2 := HL.out.at_ 2 _ rfl
    have y3 := HL.out.at_ 3 _ rfl
    have y4 := HL.out.at_ 4 _ rfl
    have y5 := HL.out.at_ 5 _ rfl
    have y6 := HL.out.at_ 6 _ rfl
    have y7 := HL.out.at_ 7 _ rfl
    go_wp2_with fail
    refine (HLs.out _ HB2.out).mono ?_
    rintro e w2 ⟨lv, rfl, hla, hb2⟩
    obtain ⟨rs, ho, hf⟩ := hla
    obtain ⟨⟨pv, cpv, rfl, _⟩, _, _⟩ := ho.at (fun r => rfl)
    have hrl : rs.length = LS.length := hf.1
    have HLa := Lib.hid (⟨rs, ho, hf⟩ : LinesAt _ w2 (.slice pv rs.length cpv) LS)
    rw [hrl] at HLa ⊢
    obtain ⟨n, hn⟩ : ∃ n, n = LS.length := ⟨_, rfl⟩
    have Hn := Lib.hid hn
    rw [← hn] at HLa ⊢
    have hn3 : n ≤ 3000 := by rw [hn]; exact HLen.out
    have HBl2 := Lib.hid (bld_kept HBl.out hb2)
    have HBx := Lib.hid (((below_alloc w1 (.cells #[.pointer none, .slice none 0 0] 84))).trans (hb2.mono (by simp)))
    clear y0 y1 y2 y3 y4 y5 y6 y7 ho hf hrl hb2 hn HL HLs
    go_wp2_with fail
    go_loopw [12] (fun iv wr => ∃ i : Nat, i ≤ n ∧ iv = .int .i64 i ∧ Hid (Bld w1.heap.size w1.heap.size (Mt.body (LS.take i)) wr) ∧ Hid (Below w1.heap.size w1 wr) ∧ Hid (LinesAt ((w1.alloc (.cells #[.pointer none, .slice none 0 0] 84)).heap.size + 1) wr (.slice pv n cpv) LS)) (fun iv _ => n - (intOf iv).toNat)
    case atStart => exact ⟨0, Nat.zero_le _, rfl, HBl2, HBx, HLa⟩
    case round =>
      clear HBl2 HBx HLa HBl HB2
      obtain ⟨i, hi', rfl, HBd, HBw, HLa⟩ := hrel
      by_cases hlt : i < n
      · obtain ⟨rs, ho, hf⟩ := HLa.out
        have hrl : rs.length = n := by rw [hf.1]; exact Hn.out.symm
        obtain ⟨x, hx⟩ : ∃ x, LS[i]? = some x := ⟨_, List.getElem?_eq_getElem (by rw [← Hn.out]; exact hlt)⟩
        obtain ⟨r, hr⟩ : ∃ r, rs[i]? = some r := ⟨_, List.getElem?_eq_getElem (by omega)⟩
        have hfit := hf.2 i r x hr hx
        obtain ⟨b1, o1, d1, e1, r1⟩ := (ho.at (fun r => rfl)).2.2 (by omega)
        obtain ⟨rfl, rfl⟩ : pv = some ⟨b1, o1, none⟩ ∧ cpv = d1 := by injection e1 with a1 a2 a3; exact ⟨a1, a3⟩
        have hrec := r1 i r hr
        obtain ⟨⟨xc, ncc, exc, _⟩, _, _⟩ := hfit.c.at
        obtain ⟨⟨xl, ncl, exl, _⟩, _, _⟩ := hfit.l.at
        have z0 : wr.cell? ⟨b1, o1 + i * 3, none⟩ = some (.int .i64 r.k) := hrec 0 _ rfl
        have z1 : wr.cell? ⟨b1, o1 + i * 3 + 1, none⟩ = some r.c := hrec 1 _ rfl
        have z2 : wr.cell? ⟨b1, o1 + i * 3 + 2, none⟩ = some r.l := hrec 2 _ rfl
        have hlo := HLo.out x (List.mem_of_getElem? hx)
        have hcl : (lnCodes x).length ≤ 3 := hfit.c.1
        have hll : (lnLens x).length ≤ 3 := hfit.l.1
        have hwr := below_step HB.out HBw.out
        have HT := Lib.hid (fun w' (hb : Below wr.heap.size wr w') => text_any (Mt.kind x) (kind_lt x) (lnCodes x) (lnLens x) r.c r.l w' (HEE.out _ (below_step hwr hb)) ((hfit.c.mono hb).at) ((hfit.l.mono hb).at) hcl hll (line_in hlo))
        rw [← text_is, ← hfit.k] at HT
        have HTl := Lib.hid (Mt.text_len hlo)
        have HBo := Lib.hid (body_on hx)
        have hb400 := Mt.body_len (LS.take i) (fun l hl => HLo.out l (List.mem_of_mem_take hl))
        have hb401 : (LS.take i).length ≤ 3000 := by rw [List.length_take]; omega
        have HBl : Hid ((Mt.body (LS.take i)).length ≤ 400000) := Lib.hid (by omega)
        clear hb400 hb401
        rw [exc] at z1 HT
        rw [exl] at z2 HT
        generalize r.k = rk at z0 HT
        have i0' : (0 : Int) ≤ (i : Int) := by omega
        have il : (i : Int) < (n : Int) := by omega
        have HLa1 := Lib.hid (HLa.out.mono (below_alloc wr (.cells #[.int .i64 rk, .slice xc (lnCodes x).length ncc, .slice xl (lnLens x).length ncl] 89)))
        have HBd1 := Lib.hid (bld_kept HBd.out (below_alloc wr (.cells #[.int .i64 rk, .slice xc (lnCodes x).length ncc, .slice xl (lnLens x).length ncl] 89)))
        have HBw1 := Lib.hid (below_step HBw.out (below_alloc wr (.cells #[.int .i64 rk, .slice xc (lnCodes x).length ncc, .slice xl (lnLens x).length ncl] 89)))
        generalize (lnCodes x).length = lc at *
        generalize (lnLens x).length = ll at *
        generalize Mt.text x = tx at HT HTl HBo
        generalize Mt.body (LS.take i) = bd at *
        clear r1 e1 hrec hr hx hfit hf ho hrl hlo hcl hll hwr exc exl HLa HBd
        go_wp2_with fail
        refine (HT.out _ (below_alloc _ _)).mono ?_
        rintro e w3 ⟨rfl, hb3⟩
        have HLa3 := Lib.hid (HLa1.out.mono hb3)
        have HBd3 := Lib.hid (bld_kept HBd1.out hb3)
        have HBw3 := Lib.hid (below_step HBw1.out hb3)
        clear hb3
        go_wp2_with fail
        refine (text_bld_k w1.heap.size w1.heap.size bd (str tx) _ HBd3.out (by have := HTl.out; have := HBl.out; rw [str_size]; omega) HBw3.out.size).mono ?_
        rintro e w4 ⟨rfl, hd4, hb4, hk4⟩
        rw [str_data] at hd4
        obtain ⟨cs3, ho3⟩ := bld_obj HBd3.out
        have HLa4 := Lib.hid (HLa3.out.others hk4 ho3)
        have HBd4 := Lib.hid hd4
        have HBw4 := Lib.hid (HBw3.out.trans hb4)
        clear hd4 hb4 hk4 ho3
        go_wp2_with fail
        refine (text_bld_k w1.heap.size w1.heap.size (bd ++ tx) ⟨#[10]⟩ _ HBd4.out (by have := HTl.out; have := HBl.out; rw [List.length_append]; show _ + 1 ≤ _; omega) HBw4.out.size).mono ?_
        rintro e w5 ⟨rfl, hd5, hb5, hk5⟩
        obtain ⟨cs4, ho4⟩ := bld_obj HBd4.out
        have HLa5 := Lib.hid (HLa4.out.others hk5 ho4)
        have HBd5 : Hid (Bld w1.heap.size w1.heap.size (Mt.body (LS.take (i + 1))) w5) := Lib.hid (by rw [HBo.out]; exact hd5)
        have HBw5 := Lib.hid (HBw4.out.trans hb5)
        clear hd5 hb5 hk5 ho4
        go_wp2
        go_roundw
        case rel => exact ⟨i + 1, by omega, by go_num, HBd5, HBw5, HLa5⟩
        case measure => simp [intOf]; omega
      · have hte : LS.take i = LS := List.take_of_length_le (by rw [← Hn.out]; omega)
        rw [hte] at HBd
        clear hte
        go_wp2_with fail
        refine (string_bld w1.heap.size w1.heap.size _ _ HBd.out HBw.out.size).mono ?_
        rintro e w3 ⟨rfl, hb3⟩
        have HB3 := Lib.hid (HBw.out.trans hb3)
        clear hb3
        go_wp2
        go_ret
        exact ⟨rfl, below_step HB.out HB3.out⟩
end Go.Proofs.YtmehldekebphfaaGreatDoor

namespace Go.Proofs.YtmehldekebphfaaGreatDoor
open Go.RowKit

theorem cut_split (l : List UInt8) : ((Lib.cut l [10]).2.2 = false ∧ Mt.split 10 l = [l]) ∨ ∃ t r, Lib.cut l [10] = (t, r, true) ∧ Mt.split 10 l = t :: Mt.split 10 r ∧ t.length + r.length + 1 = l.length := by
  unfold Lib.cut
  rw [Lib.index_one]
  by_cases h : 0 ≤ Lib.indexByte l 10
  · obtain ⟨o, ho⟩ := Int.eq_ofNat_of_zero_le h
    obtain ⟨h1, h2⟩ := Lib.indexByte_some ho
    rw [if_pos h, ho]
    refine .inr ⟨l.take o, l.drop (o + 1), rfl, split_cut h1 h2, ?_⟩
    have : o < l.length := (List.getElem?_eq_some_iff.1 h1).1
    rw [List.length_take, List.length_drop]
    omega
  · rw [if_neg h]
    have := Lib.indexByte_ge l 10
    refine .inl ⟨rfl, Mt.split_plain fun hm => ?_⟩
    obtain ⟨k, hk⟩ := List.mem_iff_getElem?.1 hm
    exact Lib.indexByte_none (by omega) k hk
theorem kind_le (ln : Mt.Ln) : Mt.kind ln ≤ 4 := by cases ln <;> simp [Mt.kind]
set_option maxHeartbeats 2000000 in
set_option maxRecDepth 100000 in
theorem follow_any (RB i last k : Nat) (m : Mt.Tab) (w : World) (hr : ReaderIs w RB i last m) : Calls Tryz.prog 48 #[.pointer (some ⟨RB, 0, none⟩), .int .i64 (k : Int)] w (Is (.bool (Mt.good i last k)) w) := by
  obtain ⟨cv, kv, lv, hh, _, _, _⟩ := hr
  have r0 := Lib.cell_of_heap hh 0
  have r1 := Lib.cell_of_heap hh 1
  clear hh
  unfold Mt.good
  by_cases h2 : i < 2
  · have c1 : (i : Int) ≤ 1 := by omega
    rw [if_pos h2]
    have e : (k == i) = ((k : Int) == (i : Int)) := by
      by_cases hk : k = i
      · subst hk; simp
      · rw [beq_eq_false_iff_ne.2 hk, beq_eq_false_iff_ne.2 (by omega)]
    rw [e]
    clear e h2
    go_enter Tryz.func48, Tryz.ntmps48
    go_wp2
    go_ret
    exact ⟨rfl, rfl⟩
  · have c1 : ¬ (i : Int) ≤ 1 := by omega
    rw [if_neg h2]
    clear h2
    have e : (decide (2 ≤ k) && decide (last ≤ k)) = decide (max (last : Int) 2 ≤ (k : Int)) := by
      by_cases hk : 2 ≤ k ∧ last ≤ k
      · rw [decide_eq_true hk.1, decide_eq_true hk.2, decide_eq_true (show max (last : Int) 2 ≤ (k : Int) by omega)]; rfl
      · rw [decide_eq_false (show ¬ max (last : Int) 2 ≤ (k : Int) by omega), Bool.and_eq_false_iff]
        by_cases h4 : 2 ≤ k
        · exact .inr (decide_eq_false (by omega))
        · exact .inl (decide_eq_false h4)
    rw [e]
    clear e
    go_enter Tryz.func48, Tryz.ntmps48
    go_wp2
    go_ret
    exact ⟨rfl, rfl⟩
end Go.Proofs.YtmehldekebphfaaGreatDoor

namespace Go.Proofs.YtmehldekebphfaaGreatDoor
open Go.RowKit

def strSize : Value → Nat
  | .string b => b.size
  | _ => 0
def rErr (a : Addr) : Value := .iface 207 (.pointer (some a))
def ReadPost (aL aT : Addr) (RB : Nat) (w0 : World) (R : Mt.Tab ⊕ Nat) (e : Ending) (w' : World) : Prop := Below RB w0 w' ∧ match R with
  | .inr n => e = .returned (rErr aL) ∧ ∃ (last : Nat) (m : Mt.Tab), ReaderIs w' RB n last m
  | .inl m => e = .returned (if Mt.may m then .nilIface else rErr aT) ∧ ∃ (i last : Nat), ReaderIs w' RB i last m
/-- what is asked of addTo -/
def AddC : Prop := ∀ (RB : Nat) (i last : Int) (m : Mt.Tab) (ln : Mt.Ln) (cv lv : Value) (w : World), ReaderIs w RB i last m → OwnI .i32 21 (RB + 1) cv (lnCodes ln) w → OwnI .i64 2 (RB + 1) lv (lnLens ln) w → m.chars.length + m.kerns.length + m.ligs.length ≤ 1073741824 →
    Calls Tryz.prog 49 #[.agg #[.int .i64 (Mt.kind ln : Int), cv, lv], .pointer (some ⟨RB, 2, none⟩)] w (AddPost RB i last (Mt.add m ln) w)
theorem read_end {i last : Nat} {m : Mt.Tab} (h : 2 ≤ i) : Mt.read i last m (Mt.split 10 []) = .inl m := by
  rw [show Mt.split 10 [] = [[]] from rfl, Mt.read, if_pos ⟨rfl, h⟩]
theorem read_cut {i last : Nat} {m : Mt.Tab} {l : List UInt8} (h : ¬ (l = [] ∧ 2 ≤ i)) (hs : Mt.split 10 l = [l]) : Mt.read i last m (Mt.split 10 l) = .inr i := by
  rw [hs, Mt.read, if_neg h]
theorem read_wrong {i last : Nat} {m : Mt.Tab} {l : List UInt8} {p : List (List UInt8)} (hp : p ≠ []) (h : Mt.row l = none) : Mt.read i last m (l :: p) = .inr i := by
  cases p with
  | nil => exact absurd rfl hp
  | cons s r => rw [Mt.read, h]
theorem read_out {i last : Nat} {m : Mt.Tab} {l : List UInt8} {p : List (List UInt8)} {ln : Mt.Ln} (hp : p ≠ []) (h : Mt.row l = some ln) (hg : Mt.good i last (Mt.kind ln) = false) : Mt.read i last m (l :: p) = .inr i := by
  cases p with
  | nil => exact absurd rfl hp
  | cons s r => rw [Mt.read, h]; simp only [hg, Bool.false_eq_true, if_false]
theorem ReaderIs.mono7 {w w' : World} {RB : Nat} {i last : Int} {m : Mt.Tab} (h : ReaderIs w RB i last m) (hb : Below w.heap.size w w') : ReaderIs w' RB i last m := by
  obtain ⟨cv, kv, lv, hh, h1, h2, h3⟩ := h
  exact ⟨cv, kv, lv, obj_kept hb hh, h1.mono hb, h2.mono hb, h3.mono hb⟩
theorem add_len (m : Mt.Tab) (ln : Mt.Ln) : (Mt.add m ln).chars.length + (Mt.add m ln).kerns.length + (Mt.add m ln).ligs.length ≤ m.chars.length + m.kerns.length + m.ligs.length + 1 := by
  cases ln <;> simp [Mt.add] <;> omega

set_option maxHeartbeats 8000000 in
set_option maxRecDepth 100000 in
theorem read_any {aL aT : Addr} (hadd : AddC) (s : ByteArray) (hs : s.size ≤ 1073741824) (w0 w : World) (RB : Nat) (hRB : w0.heap.size = RB) (hB0 : Below RB w0 w) (hE : MEnv aL aT w0) (hr : ReaderIs w RB 0 0 {}) :
    Calls Tryz.prog 23 #[.pointer (some ⟨RB, 0, none⟩), .string s] w (ReadPost aL aT RB w0 (Mt.read 0 0 {} (Mt.split 10 s.data.toList))) := by
  obtain ⟨R, hR⟩ : ∃ R, R = Mt.read 0 0 {} (Mt.split 10 s.data.toList) := ⟨_, rfl⟩
  rw [← hR]
  have HEE := Lib.hid (fun w' (h : Below RB w0 w') => hE.mono (by rw [hRB]; exact h))
  have HCut := Lib.hid (fun S hS w => cut_one S hS 10 w)
  have HLn := Lib.hid (fun S hS w hE => readLine_any (aL := aL) (aT := aT) S hS w hE)
  have HFol := Lib.hid (follow_any RB)
  have HAdd := Lib.hid (hadd RB)
  have HChk := Lib.hid check_any
  have HR0 := Lib.hid hR
  have HRd0 := Lib.hid hr
  have HB00 := Lib.hid hB0
  clear hR hr hB0 hE hadd
  go_enter Tryz.func23, Tryz.ntmps23
  go_wp2_with fail
  go_loopw [1] (fun sv wr => ∃ (S : ByteArray) (i last : Nat) (m : Mt.Tab), sv = .string S ∧ Hid (S.size + i ≤ s.size) ∧ Hid (m.chars.length + m.kerns.length + m.ligs.length ≤ i) ∧ Hid (Mt.read i last m (Mt.split 10 S.data.toList) = R) ∧ Hid (ReaderIs wr RB i last m) ∧ Hid (Below RB w0 wr)) (fun sv _ => strSize sv)
  case atStart => exact ⟨s, 0, 0, {}, rfl, Lib.hid (Nat.le_refl _), Lib.hid (Nat.le_refl _), Lib.hid HR0.out.symm, HRd0, HB00⟩
  case round =>
    clear HRd0 HB00 HR0
    obtain ⟨S, i, last, m, rfl, HS, HM, HR, HRd, HB⟩ := hrel
    obtain ⟨cv, kv, lv, hh, hrc, hrk, hrl⟩ := HRd.out
    have r0 : wr.cell? ⟨RB, 0, none⟩ = some (.int .i64 (i : Int)) := Lib.cell_of_heap hh 0
    have HH := Lib.hid hh
    have HMet := Lib.hid (show MetAt wr (metV m cv kv lv) m from ⟨_, _, _, rfl, hrc.at (fun _ => rfl), hrk.at (fun _ => rfl), hrl.at (fun _ => rfl)⟩)
    clear hh hrc hrk hrl
    have hlt := lt_of_obj HH.out
    have HCs := Lib.hid (cut_split S.data.toList)
    have HSz := Lib.hid (Lib.size_eq S)
    have HCu := Lib.hid (HCut.out S (by have := HS.out; omega) wr)
    have HMiss : Hid ((Lib.cut S.data.toList [10]).2.2 = false → ∃ a b : ByteArray, Calls Tryz.prog 46 #[.string S, .string ⟨#[10]⟩] wr (fun e w' => e = .returned (.tuple #[.string a, .string b, .bool false]) ∧ ∃ n, w' = wr.drewN n)) := Lib.hid (fun h => ⟨_, _, by have k := HCu.out; unfold CutPost at k; rw [h] at k; exact k⟩)
    have HHit : Hid (∀ t r, Lib.cut S.data.toList [10] = (t, r, true) → Calls Tryz.prog 46 #[.string S, .string ⟨#[10]⟩] wr (fun e w' => e = .returned (.tuple #[.string ⟨t.toArray⟩, .string ⟨r.toArray⟩, .bool true]) ∧ ∃ n, w' = wr.drewN n)) := Lib.hid (fun t r h => by have k := HCu.out; unfold CutPost at k; rw [h] at k; exact k)
    by_cases h0 : S.data.toList = []
    · obtain rfl : S = ⟨#[]⟩ := by rw [← Lib.mk_data S, h0]
      by_cases h1 : (i : Int) ≤ 1
      · have hR : R = .inr i := HR.out.symm.trans (read_cut (fun h => by have := h.2; omega) rfl)
        obtain ⟨a, b, hcall⟩ := HMiss.out (by
          rcases HCs.out with h | ⟨t, r, _, _, h⟩
          · exact h.1
          · simp at h)
        have HCall := Lib.hid hcall
        have HRR := Lib.hid hR
        clear hcall hR h0
        go_wp2_with fail
        refine HCall.out.mono ?_
        rintro e w1 ⟨rfl, n, rfl⟩
        have hb1 := HB.out.trans ((below_drew wr n).mono (Nat.le_of_lt hlt))
        have t0 := (HEE.out _ hb1).line
        have HB1 := Lib.hid hb1
        clear hb1
        go_wp2
        go_ret
        exact ⟨HB1.out, by rw [HRR.out]; exact ⟨rfl, last, m, HRd.out.mono7 (below_drew wr n)⟩⟩
      · have hR : R = .inl m := HR.out.symm.trans (read_end (by omega))
        have HRR := Lib.hid hR
        have q2 := Lib.cell_of_heap HH.out 2
        have q3 := Lib.cell_of_heap HH.out 3
        have q4 := Lib.cell_of_heap HH.out 4
        have q5 := Lib.cell_of_heap HH.out 5
        have q6 := Lib.cell_of_heap HH.out 6
        have q7 := Lib.cell_of_heap HH.out 7
        have q8 := Lib.cell_of_heap HH.out 8
        have q9 := Lib.cell_of_heap HH.out 9
        have HC0 := Lib.hid (HChk.out _ m wr HMet.out)
        unfold metV at HC0
        clear hR h0
        cases hm : Mt.may m with
        | false =>
          rw [hm] at HC0
          obtain ⟨x, hx⟩ : ∃ x : Int, x = if false = true then 0 else 71 := ⟨_, rfl⟩
          rw [← hx] at HC0
          obtain rfl : x = 71 := hx
          have HM0 := Lib.hid hm
          clear hm
          go_wp2_with fail
          refine HC0.out.mono ?_
          rintro e w1 ⟨rfl, hb⟩
          have hb1 := HB.out.trans (hb.mono (Nat.le_of_lt hlt))
          have t0 := (HEE.out _ hb1).table
          have HB1 := Lib.hid hb1
          have HBx := Lib.hid hb
          clear hb1 hb
          go_wp2
          go_ret
          exact ⟨HB1.out, by rw [HRR.out]; exact ⟨by rw [HM0.out]; rfl, i, last, HRd.out.mono7 HBx.out⟩⟩
        | true =>
          rw [hm] at HC0
          obtain ⟨x, hx⟩ : ∃ x : Int, x = if true = true then 0 else 71 := ⟨_, rfl⟩
          rw [← hx] at HC0
          obtain rfl : x = 0 := hx
          have HM0 := Lib.hid hm
          clear hm
          go_wp2_with fail
          refine HC0.out.mono ?_
          rintro e w1 ⟨rfl, hb⟩
          have hb1 := HB.out.trans (hb.mono (Nat.le_of_lt hlt))
          have HB1 := Lib.hid hb1
          have HBx := Lib.hid hb
          clear hb1 hb
          go_wp2
          go_ret
          exact ⟨HB1.out, by rw [HRR.out]; exact ⟨by rw [HM0.out]; rfl, i, last, HRd.out.mono7 HBx.out⟩⟩
    · have hne : S.toList.isEmpty = false := by
        rw [Lib.toList_data]
        cases hq : S.data.toList with
        | nil => exact absurd hq h0
        | cons _ _ => rfl
      rcases HCs.out with ⟨hmiss, hsp⟩ | ⟨t, r, hcut, hsp, hlen⟩
      · have hR : R = .inr i := HR.out.symm.trans (read_cut (fun h => h0 h.1) hsp)
        obtain ⟨a, b, hcall⟩ := HMiss.out hmiss
        have HCall := Lib.hid hcall
        have HRR := Lib.hid hR
        clear hcall hR h0 hmiss hsp
        go_wp2_with fail
        refine HCall.out.mono ?_
        rintro e w1 ⟨rfl, n, rfl⟩
        have hb1 := HB.out.trans ((below_drew wr n).mono (Nat.le_of_lt hlt))
        have t0 := (HEE.out _ hb1).line
        have HB1 := Lib.hid hb1
        clear hb1
        go_wp2
        go_ret
        exact ⟨HB1.out, by rw [HRR.out]; exact ⟨rfl, last, m, HRd.out.mono7 (below_drew wr n)⟩⟩
      · have HCall := Lib.hid (HHit.out t r hcut)
        have hR1 := HR.out
        rw [hsp] at hR1
        have HR1 := Lib.hid hR1
        have HLen := Lib.hid hlen
        clear hR1 hsp hcut h0 HCu HMiss HHit HCs HR hlen
        go_wp2_with fail
        refine HCall.out.mono ?_
        rintro e w1 ⟨rfl, n, rfl⟩
        obtain ⟨W1, hW1⟩ : ∃ W1, W1 = wr.drewN n := ⟨_, rfl⟩
        have HB1 : Hid (Below wr.heap.size wr W1) := Lib.hid (by rw [hW1]; exact below_drew wr n)
        rw [← hW1]
        clear hW1
        have HB01 := Lib.hid (HB.out.trans (HB1.out.mono (Nat.le_of_lt hlt)))
        have HL1 := Lib.hid (HLn.out ⟨t.toArray⟩ (by have := HS.out; have h2 := HLen.out; rw [← HSz.out] at h2; show t.length ≤ _; omega) W1 (HEE.out _ HB01.out))
        have hta : (⟨t.toArray⟩ : ByteArray).data.toList = t := by simp
        rw [hta] at HL1
        clear hta
        have g1 := neE_nil
        cases hrow : Mt.row t with
        | none =>
          rw [hrow] at HL1
          have HRR : Hid (R = .inr i) := Lib.hid (HR1.out.symm.trans (read_wrong (Mt.split_ne 10 r) hrow))
          clear hrow
          go_wp2_with fail
          refine HL1.out.mono ?_
          rintro e w2 ⟨hb2, rfl⟩
          have HB2 := Lib.hid hb2
          clear hb2
          go_wp2
          go_ret
          have HBy := Lib.hid (below_step (below_step HB1.out HB2.out) (below_alloc w2 (.cells #[.int .i64 0, .slice none 0 0, .slice none 0 0] 89)))
          exact ⟨HB.out.trans (HBy.out.mono (Nat.le_of_lt hlt)), by rw [HRR.out]; exact ⟨rfl, last, m, HRd.out.mono7 HBy.out⟩⟩
        | some ln =>
          rw [hrow] at HL1
          have HRw := Lib.hid hrow
          clear hrow
          go_wp2_with fail
          refine HL1.out.mono ?_
          rintro e w2 ⟨hb2, cv2, lv2, rfl, hc2, hl2⟩
          obtain ⟨⟨p2, k2, e2, _⟩, _, _⟩ := hc2.at
          obtain ⟨⟨p3, k3, e3, _⟩, _, _⟩ := hl2.at
          subst e2 e3
          have HB2 := Lib.hid hb2
          have HC2 := Lib.hid hc2
          have HL2 := Lib.hid hl2
          clear hb2 hc2 hl2
          go_wp2_with fail
          obtain ⟨W3, hW3⟩ : ∃ W3, W3 = w2.alloc (.cells #[.int .i64 (Mt.kind ln : Int), .slice p2 (lnCodes ln).length k2, .slice p3 (lnLens ln).length k3] 89) := ⟨_, rfl⟩
          have HB3 : Hid (Below w2.heap.size w2 W3) := Lib.hid (by rw [hW3]; exact below_alloc _ _)
          have HBox : Hid (W3.heap[w2.heap.size]? = some (.cells #[.int .i64 (Mt.kind ln : Int), .slice p2 (lnCodes ln).length k2, .slice p3 (lnLens ln).length k3] 89 (0, 0))) := Lib.hid (by rw [hW3]; exact obj_new w2 _ rfl _ _)
          rw [← hW3]
          clear hW3
          have HB13 := Lib.hid (below_step (below_step HB1.out HB2.out) HB3.out)
          have HB03 := Lib.hid (HB.out.trans (HB13.out.mono (Nat.le_of_lt hlt)))
          have HRd3 := Lib.hid (HRd.out.mono7 HB13.out)
          refine (HFol.out i last (Mt.kind ln) m W3 HRd3.out).mono ?_
          rintro e w4 ⟨rfl, rfl⟩
          have t0 := (HEE.out _ HB03.out).line
          have y0 := Lib.cell_of_heap HBox.out 0
          have y1 := Lib.cell_of_heap HBox.out 1
          have y2 := Lib.cell_of_heap HBox.out 2
          cases hg : Mt.good i last (Mt.kind ln) with
          | false =>
            have HRR : Hid (R = .inr i) := Lib.hid (HR1.out.symm.trans (read_out (Mt.split_ne 10 r) HRw.out hg))
            clear hg
            go_wp2_with fail
            go_ret
            exact ⟨HB03.out, by rw [HRR.out]; exact ⟨rfl, last, m, HRd3.out⟩⟩
          | true =>
            have HRR := Lib.hid (HR1.out.symm.trans (Mt.read_cons HRw.out hg (Mt.split_ne 10 r)))
            clear hg t0
            have HA := Lib.hid (HAdd.out (i : Int) (last : Int) m ln (.slice p2 (lnCodes ln).length k2) (.slice p3 (lnLens ln).length k3) W3.drew (HRd3.out.mono7 (below_drew1' W3)) (((HC2.out.mono7 HB3.out).mono7 (below_drew1' W3)).base (by have := HB1.out.size; omega)) (((HL2.out.mono7 HB3.out).mono7 (below_drew1' W3)).base (by have := HB1.out.size; omega)) (by have := HM.out; have := HS.out; omega))
            have e1 : IntKind.i64.wrap ((i : Int) + 1) = (i : Int) + 1 := IntWalk.i64_in _ (by have := HS.out; omega)
            clear r0
            go_wp2_with fail
            go_region_with (first | (go_at_call 49; (with_reducible refine HA.out.mono ?_); rintro e w5 ⟨rfl, hr5, hk5, hb5⟩; have HRd5 := Lib.hid hr5; have HK5 := Lib.hid hk5; have HB5 := Lib.hid hb5; clear hr5 hk5 hb5))
            obtain ⟨cv5, kv5, lv5, hh5, ho1, ho2, ho3⟩ := HRd5.out
            have hbx5 := HK5.out _ _ _ _ (obj_kept (below_drew1' W3) HBox.out) (by decide) (by decide) (by decide) (by decide)
            have k0 := Lib.cell_of_heap hbx5 0
            have z0 := Lib.cell_of_heap hh5 0
            have z1 := Lib.cell_of_heap hh5 1
            have x0 := Lib.frozen_of_heap hh5 0
            have x1 := Lib.frozen_of_heap hh5 1
            have HO1 := Lib.hid ho1
            have HO2 := Lib.hid ho2
            have HO3 := Lib.hid ho3
            have HH5 := Lib.hid hh5
            clear hh5 hbx5 ho1 ho2 ho3 y0 y1 y2
            go_wp2_with fail
            have hS := HS.out
            have hM := HM.out
            have hL := HLen.out
            rw [← HSz.out] at hL
            have hadd := add_len m ln
            have hb5 := (HB03.out.trans ((below_drew1' W3).mono (by have := HB13.out.size; omega))).trans HB5.out
            refine ⟨⟨⟨r.toArray⟩, i + 1, Mt.kind ln, Mt.add m ln, rfl, Lib.hid ?_, Lib.hid (by omega), Lib.hid ?_, Lib.hid ⟨cv5, kv5, lv5, heap_setCell_same _ _ 0 _ _ (.int .i64 ((i : Int) + 1)) (heap_setCell_same _ _ 1 _ _ (.int .i64 (Mt.kind ln : Int)) HH5.out), ?_, ?_, ?_⟩, Lib.hid ((hb5.setCell (p := ⟨RB, 1, none⟩) (Nat.le_refl _) _).setCell (p := ⟨RB, 0, none⟩) (Nat.le_refl _) _)⟩, ?_⟩
            · show r.length + (i + 1) ≤ s.size
              omega
            · have hta : (⟨r.toArray⟩ : ByteArray).data.toList = r := by simp
              rw [hta]
              exact HRR.out.symm
            · exact (HO1.out.set7 (Nat.lt_succ_self _)).set7 (Nat.lt_succ_self _)
            · exact (HO2.out.set7 (Nat.lt_succ_self _)).set7 (Nat.lt_succ_self _)
            · exact (HO3.out.set7 (Nat.lt_succ_self _)).set7 (Nat.lt_succ_self _)
            · show r.length < S.size
              omega
end Go.Proofs.YtmehldekebphfaaGreatDoor

namespace Go.Proofs.YtmehldekebphfaaGreatDoor
open Go.RowKit

theorem two_res (w : World) (p q : Nat) (a0 a1 a2 a3 a4 a5 a6 a7 b0 b1 : Value) {c0 c1 c2 c3 c4 c5 c6 c7 d0 d1 : Value} {T U : TypeId} (hp : w.heap[p]? = some (.cells #[c0, c1, c2, c3, c4, c5, c6, c7] T (0, 0))) (hq : w.heap[q]? = some (.cells #[d0, d1] U (0, 0))) (hne : p ≠ q) :
    ((((((((((w.setCell ⟨p, 0, none⟩ a0).setCell ⟨p, 1, none⟩ a1).setCell ⟨p, 2, none⟩ a2).setCell ⟨p, 3, none⟩ a3).setCell ⟨p, 4, none⟩ a4).setCell ⟨p, 5, none⟩ a5).setCell ⟨p, 6, none⟩ a6).setCell ⟨p, 7, none⟩ a7).setCell ⟨q, 0, none⟩ b0).setCell ⟨q, 1, none⟩ b1).heap[p]? = some (.cells #[a0, a1, a2, a3, a4, a5, a6, a7] T (0, 0)) ∧ ((((((((((w.setCell ⟨p, 0, none⟩ a0).setCell ⟨p, 1, none⟩ a1).setCell ⟨p, 2, none⟩ a2).setCell ⟨p, 3, none⟩ a3).setCell ⟨p, 4, none⟩ a4).setCell ⟨p, 5, none⟩ a5).setCell ⟨p, 6, none⟩ a6).setCell ⟨p, 7, none⟩ a7).setCell ⟨q, 0, none⟩ b0).setCell ⟨q, 1, none⟩ b1).heap[q]? = some (.cells #[b0, b1] U (0, 0)) ∧ ∀ B, B ≤ p → B ≤ q → Below B w ((((((((((w.setCell ⟨p, 0, none⟩ a0).setCell ⟨p, 1, none⟩ a1).setCell ⟨p, 2, none⟩ a2).setCell ⟨p, 3, none⟩ a3).setCell ⟨p, 4, none⟩ a4).setCell ⟨p, 5, none⟩ a5).setCell ⟨p, 6, none⟩ a6).setCell ⟨p, 7, none⟩ a7).setCell ⟨q, 0, none⟩ b0).setCell ⟨q, 1, none⟩ b1) := by
  have hb : ∀ B, B ≤ p → B ≤ q → Below B w w := fun B _ _ => Below.refl B w
  obtain ⟨w1, g0⟩ : ∃ w1, w1 = w.setCell ⟨p, 0, none⟩ a0 := ⟨_, rfl⟩
  rw [← g0]
  have hp : w1.heap[p]? = some (.cells #[a0, c1, c2, c3, c4, c5, c6, c7] T (0, 0)) := by rw [g0]; exact heap_setCell_same _ _ 0 _ _ a0 hp
  have hq : w1.heap[q]? = some (.cells #[d0, d1] U (0, 0)) := by rw [g0]; exact obj_set hq hne.symm
  have hb : ∀ B, B ≤ p → B ≤ q → Below B w w1 := fun B h1 h2 => by rw [g0]; exact (hb B h1 h2).setCell (p := ⟨p, 0, none⟩) h1 a0
  clear g0
  obtain ⟨w2, g1⟩ : ∃ w2, w2 = w1.setCell ⟨p, 1, none⟩ a1 := ⟨_, rfl⟩
  rw [← g1]
  have hp : w2.heap[p]? = some (.cells #[a0, a1, c2, c3, c4, c5, c6, c7] T (0, 0)) := by rw [g1]; exact heap_setCell_same _ _ 1 _ _ a1 hp
  have hq : w2.heap[q]? = some (.cells #[d0, d1] U (0, 0)) := by rw [g1]; exact obj_set hq hne.symm
  have hb : ∀ B, B ≤ p → B ≤ q → Below B w w2 := fun B h1 h2 => by rw [g1]; exact (hb B h1 h2).setCell (p := ⟨p, 1, none⟩) h1 a1
  clear g1
  obtain ⟨w3, g2⟩ : ∃ w3, w3 = w2.setCell ⟨p, 2, none⟩ a2 := ⟨_, rfl⟩
  rw [← g2]
  have hp : w3.heap[p]? = some (.cells #[a0, a1, a2, c3, c4, c5, c6, c7] T (0, 0)) := by rw [g2]; exact heap_setCell_same _ _ 2 _ _ a2 hp
  have hq : w3.heap[q]? = some (.cells #[d0, d1] U (0, 0)) := by rw [g2]; exact obj_set hq hne.symm
  have hb : ∀ B, B ≤ p → B ≤ q → Below B w w3 := fun B h1 h2 => by rw [g2]; exact (hb B h1 h2).setCell (p := ⟨p, 2, none⟩) h1 a2
  clear g2
  obtain ⟨w4, g3⟩ : ∃ w4, w4 = w3.setCell ⟨p, 3, none⟩ a3 := ⟨_, rfl⟩
  rw [← g3]
  have hp : w4.heap[p]? = some (.cells #[a0, a1, a2, a3, c4, c5, c6, c7] T (0, 0)) := by rw [g3]; exact heap_setCell_same _ _ 3 _ _ a3 hp
  have hq : w4.heap[q]? = some (.cells #[d0, d1] U (0, 0)) := by rw [g3]; exact obj_set hq hne.symm
  have hb : ∀ B, B ≤ p → B ≤ q → Below B w w4 := fun B h1 h2 => by rw [g3]; exact (hb B h1 h2).setCell (p := ⟨p, 3, none⟩) h1 a3
  clear g3
  obtain ⟨w5, g4⟩ : ∃ w5, w5 = w4.setCell ⟨p, 4, none⟩ a4 := ⟨_, rfl⟩
  rw [← g4]
  have hp : w5.heap[p]? = some (.cells #[a0, a1, a2, a3, a4, c5, c6, c7] T (0, 0)) := by rw [g4]; exact heap_setCell_same _ _ 4 _ _ a4 hp
  have hq : w5.heap[q]? = some (.cells #[d0, d1] U (0, 0)) := by rw [g4]; exact obj_set hq hne.symm
  have hb : ∀ B, B ≤ p → B ≤ q → Below B w w5 := fun B h1 h2 => by rw [g4]; exact (hb B h1 h2).setCell (p := ⟨p, 4, none⟩) h1 a4
  clear g4
  obtain ⟨w6, g5⟩ : ∃ w6, w6 = w5.setCell ⟨p, 5, none⟩ a5 := ⟨_, rfl⟩
  rw [← g5]
  have hp : w6.heap[p]? = some (.cells #[a0, a1, a2, a3, a4, a5, c6, c7] T (0, 0)) := by rw [g5]; exact heap_setCell_same _ _ 5 _ _ a5 hp
  have hq : w6.heap[q]? = some (.cells #[d0, d1] U (0, 0)) := by rw [g5]; exact obj_set hq hne.symm
  have hb : ∀ B, B ≤ p → B ≤ q → Below B w w6 := fun B h1 h2 => by rw [g5]; exact (hb B h1 h2).setCell (p := ⟨p, 5, none⟩) h1 a5
  clear g5
  obtain ⟨w7, g6⟩ : ∃ w7, w7 = w6.setCell ⟨p, 6, none⟩ a6 := ⟨_, rfl⟩
  rw [← g6]
  have hp : w7.heap[p]? = some (.cells #[a0, a1, a2, a3, a4, a5, a6, c7] T (0, 0)) := by rw [g6]; exact heap_setCell_same _ _ 6 _ _ a6 hp
  have hq : w7.heap[q]? = some (.cells #[d0, d1] U (0, 0)) := by rw [g6]; exact obj_set hq hne.symm
  have hb : ∀ B, B ≤ p → B ≤ q → Below B w w7 := fun B h1 h2 => by rw [g6]; exact (hb B h1 h2).setCell (p := ⟨p, 6, none⟩) h1 a6
  clear g6
  obtain ⟨w8, g7⟩ : ∃ w8, w8 = w7.setCell ⟨p, 7, none⟩ a7 := ⟨_, rfl⟩
  rw [← g7]
  have hp : w8.heap[p]? = some (.cells #[a0, a1, a2, a3, a4, a5, a6, a7] T (0, 0)) := by rw [g7]; exact heap_setCell_same _ _ 7 _ _ a7 hp
  have hq : w8.heap[q]? = some (.cells #[d0, d1] U (0, 0)) := by rw [g7]; exact obj_set hq hne.symm
  have hb : ∀ B, B ≤ p → B ≤ q → Below B w w8 := fun B h1 h2 => by rw [g7]; exact (hb B h1 h2).setCell (p := ⟨p, 7, none⟩) h1 a7
  clear g7
  obtain ⟨w9, g8⟩ : ∃ w9, w9 = w8.setCell ⟨q, 0, none⟩ b0 := ⟨_, rfl⟩
  rw [← g8]
  have hp : w9.heap[p]? = some (.cells #[a0, a1, a2, a3, a4, a5, a6, a7] T (0, 0)) := by rw [g8]; exact obj_set hp hne
  have hq : w9.heap[q]? = some (.cells #[b0, d1] U (0, 0)) := by rw [g8]; exact heap_setCell_same _ _ 0 _ _ b0 hq
  have hb : ∀ B, B ≤ p → B ≤ q → Below B w w9 := fun B h1 h2 => by rw [g8]; exact (hb B h1 h2).setCell (p := ⟨q, 0, none⟩) h2 b0
  clear g8
  obtain ⟨w10, g9⟩ : ∃ w10, w10 = w9.setCell ⟨q, 1, none⟩ b1 := ⟨_, rfl⟩
  rw [← g9]
  have hp : w10.heap[p]? = some (.cells #[a0, a1, a2, a3, a4, a5, a6, a7] T (0, 0)) := by rw [g9]; exact obj_set hp hne
  have hq : w10.heap[q]? = some (.cells #[b0, b1] U (0, 0)) := by rw [g9]; exact heap_setCell_same _ _ 1 _ _ b1 hq
  have hb : ∀ B, B ≤ p → B ≤ q → Below B w w10 := fun B h1 h2 => by rw [g9]; exact (hb B h1 h2).setCell (p := ⟨q, 1, none⟩) h2 b1
  clear g9
  exact ⟨hp, hq, hb⟩

theorem parse_read {l : List UInt8} {n : Nat} (h : Mt.read 0 0 {} (Mt.split 10 l) = .inr n) : Mt.parse l = .inr (70, (n : Int)) := by unfold Mt.parse; rw [h]
theorem parse_not {l : List UInt8} {m : Mt.Tab} (h : Mt.read 0 0 {} (Mt.split 10 l) = .inl m) (hm : Mt.may m = false) : Mt.parse l = .inr (71, -1) := by unfold Mt.parse; rw [h]; simp [hm]
theorem parse_yes {l : List UInt8} {m : Mt.Tab} (h : Mt.read 0 0 {} (Mt.split 10 l) = .inl m) (hm : Mt.may m = true) : Mt.parse l = .inl m := by unfold Mt.parse; rw [h]; simp [hm]

set_option maxHeartbeats 8000000 in
set_option maxRecDepth 100000 in
theorem metParse_any {aL aT : Addr} (add_c : AddC) (s : ByteArray) (hs : s.size ≤ 1073741824) (w : World) (hE : MEnv aL aT w) : Calls Tryz.prog 8 #[.string s] w (ParsePost s.data.toList w) := by
  obtain ⟨W0, hW0⟩ : ∃ W0, W0 = (w.alloc (.cells #[.int .i64 0, .int .i64 0, .int .i64 0, .int .i64 0, .int .i32 0, .slice none 0 0, .slice none 0 0, .slice none 0 0] 28)).alloc (.cells #[.int .i64 0, .int .i64 0] 31) := ⟨_, rfl⟩
  have hb0 : Below w.heap.size w W0 := by rw [hW0]; exact below_step (below_alloc _ _) (below_alloc _ _)
  have HE0 := Lib.hid (hE.mono hb0)
  have hs0 : W0.heap.size = w.heap.size + 1 + 1 := by rw [hW0, World.size_alloc, World.size_alloc]
  have HP0 := Lib.hid (show W0.heap[w.heap.size]? = some (.cells #[.int .i64 0, .int .i64 0, .int .i64 0, .int .i64 0, .int .i32 0, .slice none 0 0, .slice none 0 0, .slice none 0 0] 28 (0, 0)) by rw [hW0]; exact obj_kept (below_alloc _ _) (obj_new w _ rfl _ _))
  have HP1 := Lib.hid (show W0.heap[w.heap.size + 1]? = some (.cells #[.int .i64 0, .int .i64 0] 31 (0, 0)) by rw [hW0]; exact obj_new _ _ (by rw [World.size_alloc]) _ _)
  have HB0 := Lib.hid hb0
  have HRd := Lib.hid (read_any (aL := aL) (aT := aT) add_c s hs W0 (W0.alloc (.cells #[.int .i64 0, .int .i64 0, .int .i64 0, .int .i64 0, .int .i64 0, .int .i64 0, .int .i32 0, .slice none 0 0, .slice none 0 0, .slice none 0 0] 57)) W0.heap.size rfl (below_alloc _ _) HE0.out ⟨_, _, _, obj_new W0 _ rfl _ _, ownR_nil _ _ _ _ _, ownR_nil _ _ _ _ _, ownR_nil _ _ _ _ _⟩)
  have HEE := Lib.hid (fun w' (h : Below W0.heap.size W0 w') => HE0.out.mono h)
  have HBL := Lib.hid hE.bL
  have HBT := Lib.hid hE.bT
  have HNe := Lib.hid hE.ne
  have HS0 := Lib.hid hs0
  obtain ⟨RB, hRB⟩ : ∃ RB, RB = W0.heap.size := ⟨_, rfl⟩
  rw [← hRB] at HRd
  have HRB := Lib.hid hRB
  have HW0 := Lib.hid hW0
  have HRB2 := Lib.hid (show w.heap.size + 1 + 1 = RB by rw [hRB, hs0])
  clear hE hb0 add_c hW0 hRB hs0
  go_enter Tryz.func8, Tryz.ntmps8
  go_wp2_with fail
  rw [← HW0.out, HRB2.out]
  refine HRd.out.mono ?_
  rintro e w2 ⟨hb2, hpost⟩
  have hp0 := (show w2.heap[w.heap.size]? = _ from (hb2.block _ (by have := HRB2.out; omega)).trans HP0.out)
  have hp1 := (show w2.heap[w.heap.size + 1]? = _ from (hb2.block _ (by have := HRB2.out; omega)).trans HP1.out)
  have hbw : Below w.heap.size w w2 := HB0.out.trans (hb2.mono (by have := HRB2.out; omega))
  have hen := HEE.out w2 (by rw [← HRB.out]; exact hb2)
  have hlt1 : w.heap.size + 1 < RB := by have := HRB2.out; omega
  have hBL := hen.bL
  have hBT := hen.bT
  have HQ0 := Lib.hid hp0
  have HQ1 := Lib.hid hp1
  have HBW := Lib.hid hbw
  clear hp0 hp1 hbw
  cases hread : Mt.read 0 0 {} (Mt.split 10 s.data.toList) with
  | inr n =>
    rw [hread] at hpost
    obtain ⟨rfl, last, m, cv, kv, lv, hh, _, _, _⟩ := hpost
    have HPa := Lib.hid (parse_read hread)
    have t0 := hen.line
    have r0 := Lib.cell_of_heap hh 0
    have a0 := Lib.cell_of_heap HQ0.out 0
    have d0 := Lib.frozen_of_heap HQ0.out 0
    have a1 := Lib.cell_of_heap HQ0.out 1
    have d1 := Lib.frozen_of_heap HQ0.out 1
    have a2 := Lib.cell_of_heap HQ0.out 2
    have d2 := Lib.frozen_of_heap HQ0.out 2
    have a3 := Lib.cell_of_heap HQ0.out 3
    have d3 := Lib.frozen_of_heap HQ0.out 3
    have a4 := Lib.cell_of_heap HQ0.out 4
    have d4 := Lib.frozen_of_heap HQ0.out 4
    have a5 := Lib.cell_of_heap HQ0.out 5
    have d5 := Lib.frozen_of_heap HQ0.out 5
    have a6 := Lib.cell_of_heap HQ0.out 6
    have d6 := Lib.frozen_of_heap HQ0.out 6
    have a7 := Lib.cell_of_heap HQ0.out 7
    have d7 := Lib.frozen_of_heap HQ0.out 7
    have b0 := Lib.cell_of_heap HQ1.out 0
    have f0 := Lib.frozen_of_heap HQ1.out 0
    have b1 := Lib.cell_of_heap HQ1.out 1
    have f1 := Lib.frozen_of_heap HQ1.out 1
    clear hh hb2 hen hread hBL hBT
    unfold rErr
    go_wp2_with fail
    refine (is_yes aL w2).mono ?_
    rintro e w3 ⟨rfl, rfl⟩
    go_wp2_with fail
    go_region
    go_wp2
    obtain ⟨W, hW⟩ : ∃ W, W = ((((((((((w2.setCell ⟨w.heap.size, 0, none⟩ (.int .i64 0)).setCell ⟨w.heap.size, 1, none⟩ (.int .i64 0)).setCell ⟨w.heap.size, 2, none⟩ (.int .i64 0)).setCell ⟨w.heap.size, 3, none⟩ (.int .i64 0)).setCell ⟨w.heap.size, 4, none⟩ (.int .i32 0)).setCell ⟨w.heap.size, 5, none⟩ (.slice none 0 0)).setCell ⟨w.heap.size, 6, none⟩ (.slice none 0 0)).setCell ⟨w.heap.size, 7, none⟩ (.slice none 0 0)).setCell ⟨(w.heap.size + 1), 0, none⟩ (.int .i64 70)).setCell ⟨(w.heap.size + 1), 1, none⟩ (.int .i64 (n : Int))) := ⟨_, rfl⟩
    have HQ := Lib.hid (two_res w2 w.heap.size (w.heap.size + 1) (.int .i64 0) (.int .i64 0) (.int .i64 0) (.int .i64 0) (.int .i32 0) (.slice none 0 0) (.slice none 0 0) (.slice none 0 0) (.int .i64 70) (.int .i64 (n : Int)) HQ0.out HQ1.out (by omega))
    rw [← hW] at HQ ⊢
    clear hW
    have s0 := Lib.cell_of_heap HQ.out.1 0
    have s1 := Lib.cell_of_heap HQ.out.1 1
    have s2 := Lib.cell_of_heap HQ.out.1 2
    have s3 := Lib.cell_of_heap HQ.out.1 3
    have s4 := Lib.cell_of_heap HQ.out.1 4
    have s5 := Lib.cell_of_heap HQ.out.1 5
    have s6 := Lib.cell_of_heap HQ.out.1 6
    have s7 := Lib.cell_of_heap HQ.out.1 7
    have u0 := Lib.cell_of_heap HQ.out.2.1 0
    have u1 := Lib.cell_of_heap HQ.out.2.1 1
    exact bodyPost_ret (v := .tuple #[.agg #[.int .i64 0, .int .i64 0, .int .i64 0, .int .i64 0, .int .i32 0, .slice none 0 0, .slice none 0 0, .slice none 0 0], .agg #[.int .i64 70, .int .i64 (n : Int)]]) (by simp [results, Tryz.results8, go_sem, s0, s1, s2, s3, s4, s5, s6, s7, u0, u1]) rfl (by unfold ParsePost; rw [HPa.out]; exact ⟨rfl, (HBW.out.trans (HQ.out.2.2 w.heap.size (Nat.le_refl _) (Nat.le_succ _))).trans ⟨rfl, rfl, rfl, Nat.le_refl _, fun _ _ => rfl⟩⟩)
  | inl m =>
    rw [hread] at hpost
    obtain ⟨rfl, i, last, cv, kv, lv, hh, ho1, ho2, ho3⟩ := hpost
    cases hm : Mt.may m with
    | false =>
      have HPa := Lib.hid (parse_not hread hm)
      have t0 := hen.line
      have t1 := hen.table
      obtain ⟨cL, tL, hbL⟩ := hBL
      obtain ⟨cT, tT, hbT⟩ := hBT
      have HNo := Lib.hid (is_no (fun e => HNe.out e.symm) w2 hbT hbL)
      have a0 := Lib.cell_of_heap HQ0.out 0
      have d0 := Lib.frozen_of_heap HQ0.out 0
      have a1 := Lib.cell_of_heap HQ0.out 1
      have d1 := Lib.frozen_of_heap HQ0.out 1
      have a2 := Lib.cell_of_heap HQ0.out 2
      have d2 := Lib.frozen_of_heap HQ0.out 2
      have a3 := Lib.cell_of_heap HQ0.out 3
      have d3 := Lib.frozen_of_heap HQ0.out 3
      have a4 := Lib.cell_of_heap HQ0.out 4
      have d4 := Lib.frozen_of_heap HQ0.out 4
      have a5 := Lib.cell_of_heap HQ0.out 5
      have d5 := Lib.frozen_of_heap HQ0.out 5
      have a6 := Lib.cell_of_heap HQ0.out 6
      have d6 := Lib.frozen_of_heap HQ0.out 6
      have a7 := Lib.cell_of_heap HQ0.out 7
      have d7 := Lib.frozen_of_heap HQ0.out 7
      have b0 := Lib.cell_of_heap HQ1.out 0
      have f0 := Lib.frozen_of_heap HQ1.out 0
      have b1 := Lib.cell_of_heap HQ1.out 1
      have f1 := Lib.frozen_of_heap HQ1.out 1
      clear hh hb2 hen hread hbL hbT ho1 ho2 ho3 hm
      simp only [Bool.false_eq_true, if_false]
      unfold rErr
      go_wp2_with fail
      refine HNo.out.mono ?_
      rintro e w3 ⟨rfl, rfl⟩
      go_wp2_with fail
      refine (is_yes aT w2).mono ?_
      rintro e w4 ⟨rfl, rfl⟩
      go_wp2
      obtain ⟨W, hW⟩ : ∃ W, W = ((((((((((w2.setCell ⟨w.heap.size, 0, none⟩ (.int .i64 0)).setCell ⟨w.heap.size, 1, none⟩ (.int .i64 0)).setCell ⟨w.heap.size, 2, none⟩ (.int .i64 0)).setCell ⟨w.heap.size, 3, none⟩ (.int .i64 0)).setCell ⟨w.heap.size, 4, none⟩ (.int .i32 0)).setCell ⟨w.heap.size, 5, none⟩ (.slice none 0 0)).setCell ⟨w.heap.size, 6, none⟩ (.slice none 0 0)).setCell ⟨w.heap.size, 7, none⟩ (.slice none 0 0)).setCell ⟨(w.heap.size + 1), 0, none⟩ (.int .i64 71)).setCell ⟨(w.heap.size + 1), 1, none⟩ (.int .i64 (-1))) := ⟨_, rfl⟩
      have HQ := Lib.hid (two_res w2 w.heap.size (w.heap.size + 1) (.int .i64 0) (.int .i64 0) (.int .i64 0) (.int .i64 0) (.int .i32 0) (.slice none 0 0) (.slice none 0 0) (.slice none 0 0) (.int .i64 71) (.int .i64 (-1)) HQ0.out HQ1.out (by omega))
      rw [← hW] at HQ ⊢
      clear hW
      have s0 := Lib.cell_of_heap HQ.out.1 0
      have s1 := Lib.cell_of_heap HQ.out.1 1
      have s2 := Lib.cell_of_heap HQ.out.1 2
      have s3 := Lib.cell_of_heap HQ.out.1 3
      have s4 := Lib.cell_of_heap HQ.out.1 4
      have s5 := Lib.cell_of_heap HQ.out.1 5
      have s6 := Lib.cell_of_heap HQ.out.1 6
      have s7 := Lib.cell_of_heap HQ.out.1 7
      have u0 := Lib.cell_of_heap HQ.out.2.1 0
      have u1 := Lib.cell_of_heap HQ.out.2.1 1
      exact bodyPost_ret (v := .tuple #[.agg #[.int .i64 0, .int .i64 0, .int .i64 0, .int .i64 0, .int .i32 0, .slice none 0 0, .slice none 0 0, .slice none 0 0], .agg #[.int .i64 71, .int .i64 (-1)]]) (by simp [results, Tryz.results8, go_sem, s0, s1, s2, s3, s4, s5, s6, s7, u0, u1]) rfl (by unfold ParsePost; rw [HPa.out]; exact ⟨rfl, HBW.out.trans (HQ.out.2.2 w.heap.size (Nat.le_refl _) (Nat.le_succ _))⟩)
    | true =>
      have HPa := Lib.hid (parse_yes hread hm)
      have t0 := hen.line
      have t1 := hen.table
      obtain ⟨⟨p1, k1, e1, _⟩, _, _⟩ := ho1.at (fun _ => rfl)
      obtain ⟨⟨p2, k2, e2, _⟩, _, _⟩ := ho2.at (fun _ => rfl)
      obtain ⟨⟨p3, k3, e3, _⟩, _, _⟩ := ho3.at (fun _ => rfl)
      subst e1 e2 e3
      have HO1 := Lib.hid ho1
      have HO2 := Lib.hid ho2
      have HO3 := Lib.hid ho3
      have HH := Lib.hid hh
      have r2 := Lib.cell_of_heap hh 2
      have r3 := Lib.cell_of_heap hh 3
      have r4 := Lib.cell_of_heap hh 4
      have r5 := Lib.cell_of_heap hh 5
      have r6 := Lib.cell_of_heap hh 6
      have r7 := Lib.cell_of_heap hh 7
      have r8 := Lib.cell_of_heap hh 8
      have r9 := Lib.cell_of_heap hh 9
      have a0 := Lib.cell_of_heap HQ0.out 0
      have d0 := Lib.frozen_of_heap HQ0.out 0
      have a1 := Lib.cell_of_heap HQ0.out 1
      have d1 := Lib.frozen_of_heap HQ0.out 1
      have a2 := Lib.cell_of_heap HQ0.out 2
      have d2 := Lib.frozen_of_heap HQ0.out 2
      have a3 := Lib.cell_of_heap HQ0.out 3
      have d3 := Lib.frozen_of_heap HQ0.out 3
      have a4 := Lib.cell_of_heap HQ0.out 4
      have d4 := Lib.frozen_of_heap HQ0.out 4
      have a5 := Lib.cell_of_heap HQ0.out 5
      have d5 := Lib.frozen_of_heap HQ0.out 5
      have a6 := Lib.cell_of_heap HQ0.out 6
      have d6 := Lib.frozen_of_heap HQ0.out 6
      have a7 := Lib.cell_of_heap HQ0.out 7
      have d7 := Lib.frozen_of_heap HQ0.out 7
      have b0 := Lib.cell_of_heap HQ1.out 0
      have f0 := Lib.frozen_of_heap HQ1.out 0
      have b1 := Lib.cell_of_heap HQ1.out 1
      have f1 := Lib.frozen_of_heap HQ1.out 1
      clear hh hb2 hen hread ho1 ho2 ho3 hm hBL hBT
      simp only [if_true]
      go_wp2_with fail
      refine (is_nil aL w2).mono ?_
      rintro e w3 ⟨rfl, rfl⟩
      go_wp2_with fail
      refine (is_nil aT w2).mono ?_
      rintro e w4 ⟨rfl, rfl⟩
      go_wp2
      obtain ⟨W, hW⟩ : ∃ W, W = ((((((((((w2.setCell ⟨w.heap.size, 0, none⟩ (.int .i64 m.sw)).setCell ⟨w.heap.size, 1, none⟩ (.int .i64 m.st)).setCell ⟨w.heap.size, 2, none⟩ (.int .i64 m.sk)).setCell ⟨w.heap.size, 3, none⟩ (.int .i64 m.order)).setCell ⟨w.heap.size, 4, none⟩ (.int .i32 m.hyph)).setCell ⟨w.heap.size, 5, none⟩ (.slice p1 m.chars.length k1)).setCell ⟨w.heap.size, 6, none⟩ (.slice p2 m.kerns.length k2)).setCell ⟨w.heap.size, 7, none⟩ (.slice p3 m.ligs.length k3)).setCell ⟨(w.heap.size + 1), 0, none⟩ (.int .i64 0)).setCell ⟨(w.heap.size + 1), 1, none⟩ (.int .i64 0)) := ⟨_, rfl⟩
      have HQ := Lib.hid (two_res w2 w.heap.size (w.heap.size + 1) (.int .i64 m.sw) (.int .i64 m.st) (.int .i64 m.sk) (.int .i64 m.order) (.int .i32 m.hyph) (.slice p1 m.chars.length k1) (.slice p2 m.kerns.length k2) (.slice p3 m.ligs.length k3) (.int .i64 0) (.int .i64 0) HQ0.out HQ1.out (by omega))
      rw [← hW] at HQ ⊢
      have HX1 := (show OwnR _ _ _ _ _ _ W by rw [hW]; exact ((((((((((HO1.out).set7 (by omega)).set7 (by omega)).set7 (by omega)).set7 (by omega)).set7 (by omega)).set7 (by omega)).set7 (by omega)).set7 (by omega)).set7 (by omega)).set7 (by omega))
      have HX2 := (show OwnR _ _ _ _ _ _ W by rw [hW]; exact ((((((((((HO2.out).set7 (by omega)).set7 (by omega)).set7 (by omega)).set7 (by omega)).set7 (by omega)).set7 (by omega)).set7 (by omega)).set7 (by omega)).set7 (by omega)).set7 (by omega))
      have HX3 := (show OwnR _ _ _ _ _ _ W by rw [hW]; exact ((((((((((HO3.out).set7 (by omega)).set7 (by omega)).set7 (by omega)).set7 (by omega)).set7 (by omega)).set7 (by omega)).set7 (by omega)).set7 (by omega)).set7 (by omega)).set7 (by omega))
      clear hW
      have s0 := Lib.cell_of_heap HQ.out.1 0
      have s1 := Lib.cell_of_heap HQ.out.1 1
      have s2 := Lib.cell_of_heap HQ.out.1 2
      have s3 := Lib.cell_of_heap HQ.out.1 3
      have s4 := Lib.cell_of_heap HQ.out.1 4
      have s5 := Lib.cell_of_heap HQ.out.1 5
      have s6 := Lib.cell_of_heap HQ.out.1 6
      have s7 := Lib.cell_of_heap HQ.out.1 7
      have u0 := Lib.cell_of_heap HQ.out.2.1 0
      have u1 := Lib.cell_of_heap HQ.out.2.1 1
      exact bodyPost_ret (v := .tuple #[.agg #[.int .i64 m.sw, .int .i64 m.st, .int .i64 m.sk, .int .i64 m.order, .int .i32 m.hyph, (.slice p1 m.chars.length k1), (.slice p2 m.kerns.length k2), (.slice p3 m.ligs.length k3)], .agg #[.int .i64 0, .int .i64 0]]) (by simp [results, Tryz.results8, go_sem, s0, s1, s2, s3, s4, s5, s6, s7, u0, u1]) rfl (by unfold ParsePost; rw [HPa.out]; exact ⟨_, rfl, ⟨_, _, _, rfl, HX1.at (fun _ => rfl), HX2.at (fun _ => rfl), HX3.at (fun _ => rfl)⟩, HBW.out.trans (HQ.out.2.2 w.heap.size (Nat.le_refl _) (Nat.le_succ _))⟩)
end Go.Proofs.YtmehldekebphfaaGreatDoor

namespace Go.Proofs.YtmehldekebphfaaGreatDoor
open Go.RowKit

theorem add_c : AddC := fun RB i last m ln cv lv w h1 h2 h3 h4 => addTo_any RB i last m ln cv lv w h1 h2 h3 h4
theorem metW_of {aL aT : Addr} {W : World} (hE : MEnv aL aT W) : MetW W :=
  ⟨fun v m w h => check_any v m w h, fun v m w hb h => metPrint_any v m w (hE.mono (aL := aL) (aT := aT) hb) h, fun s w hb hs => metParse_any add_c s hs w (hE.mono hb),
    fun v m c w h => find_any v m c w h, fun v m a b w h => kern_any v m a b w h, fun v m a b w h => lig_any v m a b w h⟩
end Go.Proofs.YtmehldekebphfaaGreatDoor

namespace Go.Proofs.YtmehldekebphfaaGreatDoor
open Go.ChangeShapes Go.WideShapes Go.ChangeAt Go.RowKit

theorem uCh7 : Tryz.prog.underlying 38 = some (.struct (Tryz.prog.fieldsOf 38)) := by kernel_rfl
theorem uKn7 : Tryz.prog.underlying 52 = some (.struct (Tryz.prog.fieldsOf 52)) := by kernel_rfl
theorem uLg7 : Tryz.prog.underlying 54 = some (.struct (Tryz.prog.fieldsOf 54)) := by kernel_rfl
theorem uGl7 : Tryz.prog.underlying 23 = some (.struct (Tryz.prog.fieldsOf 23)) := by kernel_rfl
theorem uMt7 : Tryz.prog.underlying 28 = some (.struct (Tryz.prog.fieldsOf 28)) := by kernel_rfl
theorem cCh7 : Tryz.prog.cellsOf 38 = 4 := by kernel_rfl
theorem cKn7 : Tryz.prog.cellsOf 52 = 3 := by kernel_rfl
theorem cLg7 : Tryz.prog.cellsOf 54 = 3 := by kernel_rfl
theorem cGl7 : Tryz.prog.cellsOf 23 = 4 := by kernel_rfl
theorem cMt7 : Tryz.prog.cellsOf 28 = 8 := by kernel_rfl
theorem cI647 : Tryz.prog.cellsOf 2 = 1 := by kernel_rfl
theorem cInt7 : Tryz.prog.cellsOf 3 = 1 := by kernel_rfl
theorem cI327 : Tryz.prog.cellsOf 21 = 1 := by kernel_rfl
theorem cCs7 : Tryz.prog.cellsOf 24 = 1 := by kernel_rfl
theorem cKs7 : Tryz.prog.cellsOf 25 = 1 := by kernel_rfl
theorem cLs7 : Tryz.prog.cellsOf 26 = 1 := by kernel_rfl
theorem four_fields {fs : Array Field} {a b c d : TypeId × Nat} (h : fs.toList.map (fun f => (f.type, f.offset)) = [a, b, c, d]) : ∃ f0 f1 f2 f3 : Field, fs = #[f0, f1, f2, f3] ∧ (f0.type = a.1 ∧ f0.offset = a.2) ∧ (f1.type = b.1 ∧ f1.offset = b.2) ∧ (f2.type = c.1 ∧ f2.offset = c.2) ∧ (f3.type = d.1 ∧ f3.offset = d.2) := by
  obtain ⟨l⟩ := fs
  have hl : l.length = 4 := by simpa using congrArg List.length h
  match l, hl with
  | [x, y, z, q], _ =>
    simp only [List.map_cons, List.map_nil, List.cons.injEq] at h
    obtain ⟨rfl, rfl, rfl, rfl, _⟩ := h
    exact ⟨x, y, z, q, rfl, ⟨rfl, rfl⟩, ⟨rfl, rfl⟩, ⟨rfl, rfl⟩, ⟨rfl, rfl⟩⟩
theorem three_fields {fs : Array Field} {a b c : TypeId × Nat} (h : fs.toList.map (fun f => (f.type, f.offset)) = [a, b, c]) : ∃ f0 f1 f2 : Field, fs = #[f0, f1, f2] ∧ (f0.type = a.1 ∧ f0.offset = a.2) ∧ (f1.type = b.1 ∧ f1.offset = b.2) ∧ (f2.type = c.1 ∧ f2.offset = c.2) := by
  obtain ⟨l⟩ := fs
  have hl : l.length = 3 := by simpa using congrArg List.length h
  match l, hl with
  | [x, y, z], _ =>
    simp only [List.map_cons, List.map_nil, List.cons.injEq] at h
    obtain ⟨rfl, rfl, rfl, _⟩ := h
    exact ⟨x, y, z, rfl, ⟨rfl, rfl⟩, ⟨rfl, rfl⟩, ⟨rfl, rfl⟩⟩
theorem five_fields {fs : Array Field} {a b c d g : TypeId × Nat} (h : fs.toList.map (fun f => (f.type, f.offset)) = [a, b, c, d, g]) : ∃ f0 f1 f2 f3 f4 : Field, fs = #[f0, f1, f2, f3, f4] ∧ (f0.type = a.1 ∧ f0.offset = a.2) ∧ (f1.type = b.1 ∧ f1.offset = b.2) ∧ (f2.type = c.1 ∧ f2.offset = c.2) ∧ (f3.type = d.1 ∧ f3.offset = d.2) ∧ (f4.type = g.1 ∧ f4.offset = g.2) := by
  obtain ⟨l⟩ := fs
  have hl : l.length = 5 := by simpa using congrArg List.length h
  match l, hl with
  | [x, y, z, q, r], _ =>
    simp only [List.map_cons, List.map_nil, List.cons.injEq] at h
    obtain ⟨rfl, rfl, rfl, rfl, rfl, _⟩ := h
    exact ⟨x, y, z, q, r, rfl, ⟨rfl, rfl⟩, ⟨rfl, rfl⟩, ⟨rfl, rfl⟩, ⟨rfl, rfl⟩, ⟨rfl, rfl⟩⟩
theorem in64_wf {n : Int} (h : (Lit.int .i64 n).wf = true) : In64 n := by
  simp [Lit.wf, IntKind.min, IntKind.max, IntKind.bits, IntKind.signed] at h
  unfold In64
  omega
theorem in32_wf {n : Int} (h : (Lit.int .i32 n).wf = true) : In32 n := by
  simp [Lit.wf, IntKind.min, IntKind.max, IntKind.bits, IntKind.signed] at h
  unfold In32
  omega
instance : Inhabited Mt.Ch := ⟨⟨0, 0, 0, 0⟩⟩
instance : Inhabited Mt.Kn := ⟨⟨0, 0, 0⟩⟩
instance : Inhabited Mt.Lg := ⟨⟨0, 0, 0⟩⟩
section
variable {H : Type} {enc : TypeId × Value → H} {W : World} {base : Nat} {held : Bool} {spare : Nat → Bool}

theorem ch_open {fuel : Nat} {cs : List Value} {x : DataW H × List MemPlace} (h : DataW.trod enc Tryz.prog W base spare held fuel 38 cs = some x) :
    ∃ c : Mt.Ch, cs = chC c ∧ In32 c.code ∧ In64 c.w ∧ In64 c.h ∧ In64 c.d := by
  obtain ⟨f0, f1, f2, f3, hfs, ⟨t0, o0⟩, ⟨t1, o1⟩, ⟨t2, o2⟩, ⟨t3, o3⟩⟩ := four_fields (show (Tryz.prog.fieldsOf 38).toList.map (fun f => (f.type, f.offset)) = [(21, 0), (2, 1), (2, 2), (2, 3)] by kernel_rfl)
  obtain ⟨xs, m, hm', hxe, hcl, hxl, hxi⟩ := DataW.trod_struct uCh7 h
  rw [hfs] at hxl hxi
  rw [cCh7] at hcl
  match cs, hcl, xs, hxl with
  | [v0, v1, v2, v3], _, [y0, y1, y2, y3], _ =>
    have g0 := hxi 0 f0 rfl
    have g1 := hxi 1 f1 rfl
    have g2 := hxi 2 f2 rfl
    have g3 := hxi 3 f3 rfl
    rw [t0, o0, cI327] at g0
    rw [t1, o1, cI647] at g1
    rw [t2, o2, cI647] at g2
    rw [t3, o3, cI647] at g3
    simp at g0 g1 g2 g3
    obtain ⟨a, e0, _, w0⟩ := DataW.trod_int Tryz.underlying21 g0
    obtain ⟨b, e1, _, w1⟩ := DataW.trod_int Tryz.underlying2 g1
    obtain ⟨c, e2, _, w2⟩ := DataW.trod_int Tryz.underlying2 g2
    obtain ⟨d, e3, _, w3⟩ := DataW.trod_int Tryz.underlying2 g3
    simp at e0 e1 e2 e3
    subst e0 e1 e2 e3
    exact ⟨⟨a, b, c, d⟩, rfl, in32_wf w0, in64_wf w1, in64_wf w2, in64_wf w3⟩
theorem kn_open {fuel : Nat} {cs : List Value} {x : DataW H × List MemPlace} (h : DataW.trod enc Tryz.prog W base spare held fuel 52 cs = some x) :
    ∃ c : Mt.Kn, cs = knC c ∧ In32 c.a ∧ In32 c.b ∧ In64 c.w := by
  obtain ⟨f0, f1, f2, hfs, ⟨t0, o0⟩, ⟨t1, o1⟩, ⟨t2, o2⟩⟩ := three_fields (show (Tryz.prog.fieldsOf 52).toList.map (fun f => (f.type, f.offset)) = [(21, 0), (21, 1), (2, 2)] by kernel_rfl)
  obtain ⟨xs, m, hm', hxe, hcl, hxl, hxi⟩ := DataW.trod_struct uKn7 h
  rw [hfs] at hxl hxi
  rw [cKn7] at hcl
  match cs, hcl, xs, hxl with
  | [v0, v1, v2], _, [y0, y1, y2], _ =>
    have g0 := hxi 0 f0 rfl
    have g1 := hxi 1 f1 rfl
    have g2 := hxi 2 f2 rfl
    rw [t0, o0, cI327] at g0
    rw [t1, o1, cI327] at g1
    rw [t2, o2, cI647] at g2
    simp at g0 g1 g2
    obtain ⟨a, e0, _, w0⟩ := DataW.trod_int Tryz.underlying21 g0
    obtain ⟨b, e1, _, w1⟩ := DataW.trod_int Tryz.underlying21 g1
    obtain ⟨c, e2, _, w2⟩ := DataW.trod_int Tryz.underlying2 g2
    simp at e0 e1 e2
    subst e0 e1 e2
    exact ⟨⟨a, b, c⟩, rfl, in32_wf w0, in32_wf w1, in64_wf w2⟩
theorem lg_open {fuel : Nat} {cs : List Value} {x : DataW H × List MemPlace} (h : DataW.trod enc Tryz.prog W base spare held fuel 54 cs = some x) :
    ∃ c : Mt.Lg, cs = lgC c ∧ In32 c.a ∧ In32 c.b ∧ In32 c.to := by
  obtain ⟨f0, f1, f2, hfs, ⟨t0, o0⟩, ⟨t1, o1⟩, ⟨t2, o2⟩⟩ := three_fields (show (Tryz.prog.fieldsOf 54).toList.map (fun f => (f.type, f.offset)) = [(21, 0), (21, 1), (21, 2)] by kernel_rfl)
  obtain ⟨xs, m, hm', hxe, hcl, hxl, hxi⟩ := DataW.trod_struct uLg7 h
  rw [hfs] at hxl hxi
  rw [cLg7] at hcl
  match cs, hcl, xs, hxl with
  | [v0, v1, v2], _, [y0, y1, y2], _ =>
    have g0 := hxi 0 f0 rfl
    have g1 := hxi 1 f1 rfl
    have g2 := hxi 2 f2 rfl
    rw [t0, o0, cI327] at g0
    rw [t1, o1, cI327] at g1
    rw [t2, o2, cI327] at g2
    simp at g0 g1 g2
    obtain ⟨a, e0, _, w0⟩ := DataW.trod_int Tryz.underlying21 g0
    obtain ⟨b, e1, _, w1⟩ := DataW.trod_int Tryz.underlying21 g1
    obtain ⟨c, e2, _, w2⟩ := DataW.trod_int Tryz.underlying21 g2
    simp at e0 e1 e2
    subst e0 e1 e2
    exact ⟨⟨a, b, c⟩, rfl, in32_wf w0, in32_wf w1, in32_wf w2⟩
theorem bulk_len {H : Type} (ds : List (DataW H)) : ds.length ≤ Rows.uptoBulkAll ds := by
  induction ds with
  | nil => exact Nat.zero_le _
  | cons d r ih =>
    simp only [List.length_cons, Rows.uptoBulkAll]
    have : 1 ≤ Rows.uptoBulk d := by
      unfold Rows.uptoBulk
      split <;> omega
    omega
/-- a slice of records, as it comes in -/
theorem recs_open {α : Type} [Inhabited α] {T S : TypeId} (hS : Tryz.prog.underlying S = some (.slice T)) {k : Nat} (hk : Tryz.prog.cellsOf T = k) (hk0 : 0 < k) {f : α → List Value} (hf : ∀ x, (f x).length = k) {P : α → Prop}
    (each : ∀ (fuel : Nat) (cs : List Value) (x : DataW H × List MemPlace), DataW.trod enc Tryz.prog W base spare held fuel T cs = some x → ∃ a, cs = f a ∧ P a)
    {fuel : Nat} {cs : List Value} {x : DataW H × List MemPlace} (h : DataW.trod enc Tryz.prog W base spare held fuel S cs = some x) :
    ∃ v l, cs = [v] ∧ SlcAt f k W v l ∧ (∀ a ∈ l, P a) ∧ l.length ≤ Rows.uptoBulk x.1 := by
  rcases DataW.trod_slice hS h with ⟨rfl, rfl⟩ | ⟨a, len, cap, elems, rest, n, hn, rfl, rfl, _, hl, hm, hlen, hel, _, _⟩
  · exact ⟨_, [], rfl, slc_none _ _ _, by simp, Nat.zero_le _⟩
  · have each2 : ∀ i, i < len → ∃ y : α, P y ∧ ∀ j, j < k → W.cell? ((a.add (i * k)).add j) = (f y)[j]? := fun i hi => by
      have h1 := hel i hi
      rw [hk] at h1
      have hlt : i < elems.length := by omega
      rw [List.getElem?_eq_getElem hlt] at h1
      obtain ⟨cs', hc, hy⟩ := Option.bind_eq_some_iff.1 h1
      obtain ⟨y, rfl, hP⟩ := each _ _ _ hy
      obtain ⟨_, _, hcells⟩ := World.cells?_some hc
      exact ⟨y, hP, fun j hj => hcells j hj⟩
    obtain ⟨F, hF⟩ := Go.Deep.choose_lt each2
    have hln : ((List.range len).map F).length = len := by simp
    refine ⟨_, (List.range len).map F, rfl, ⟨⟨some a, cap, by rw [hln], by rw [hln]; exact hl⟩, by rw [hln]; omega, fun hp => ?_⟩, ?_, ?_⟩
    · rw [hln] at hp
      obtain ⟨b, off, spot⟩ := a
      have h00 := (hF 0 (by omega)).2 0 hk0
      have hspot : spot = none := by
        have hu : ∃ u, (f (F 0))[0]? = some u := ⟨_, List.getElem?_eq_getElem (by rw [hf]; exact hk0)⟩
        obtain ⟨u, hu⟩ := hu
        rw [hu] at h00
        have h01 : W.cell? ⟨b, off, spot⟩ = some u := by simpa [Addr.add] using h00
        exact World.cell?_spot h01
      subst hspot
      refine ⟨b, off, cap, by rw [hln], fun i t hi j u hj => ?_⟩
      have hil : i < len := by
        rcases Nat.lt_or_ge i len with h' | h'
        · exact h'
        · rw [List.getElem?_eq_none (by rw [hln]; exact h')] at hi; cases hi
      have hti : F i = t := by
        rw [List.getElem?_map, List.getElem?_range hil] at hi
        exact Option.some.inj hi
      have q := (hF i hil).2 j (by rw [← hf t]; exact (List.getElem?_eq_some_iff.1 hj).1)
      rw [hti, hj, Go.WideShapes.add_plain, Go.WideShapes.add_plain] at q
      exact q
    · intro y hy
      obtain ⟨i, hi, rfl⟩ := List.mem_map.1 hy
      exact (hF i (List.mem_range.1 hi)).1
    · rw [hln]
      have := bulk_len (elems.map (·.1))
      simp only [List.length_map] at this
      simp only [Rows.uptoBulk]
      omega
/-- a table, as it comes in: its value is what it was, its numbers fit, and its records are no more than the bulk -/
theorem met_in {v : Value} {d : DataW H} {p : List MemPlace} (h : DataW.Trod enc Tryz.prog W base spare held 28 v d p) {cs : Array Value} (hv : v = .agg cs) :
    ∃ m : Mt.Tab, MetAt W v m ∧ TabIn m ∧ m.chars.length + m.kerns.length + m.ligs.length ≤ Rows.uptoBulk d := by
  obtain ⟨fuel, hf⟩ := h
  subst hv
  obtain ⟨f0, f1, f2, f3, f4, hfs, ⟨t0, o0⟩, ⟨t1, o1⟩, ⟨t2, o2⟩, ⟨t3, o3⟩, ⟨t4, o4⟩⟩ := five_fields (show (Tryz.prog.fieldsOf 28).toList.map (fun f => (f.type, f.offset)) = [(23, 0), (21, 4), (24, 5), (25, 6), (26, 7)] by kernel_rfl)
  obtain ⟨xs, m, hm', hxe, hcl, hxl, hxi⟩ := DataW.trod_struct uMt7 hf
  have hcs : (Value.agg cs).cells.toList = cs.toList := rfl
  rw [hcs] at hcl hxi
  rw [hfs] at hxl hxi
  rw [cMt7] at hcl
  obtain ⟨l⟩ := cs
  simp only [] at hcl hxi
  match l, hcl, xs, hxl with
  | [v0, v1, v2, v3, v4, v5, v6, v7], _, [y0, y1, y2, y3, y4], _ =>
    have g0 := hxi 0 f0 rfl
    have g1 := hxi 1 f1 rfl
    have g2 := hxi 2 f2 rfl
    have g3 := hxi 3 f3 rfl
    have g4 := hxi 4 f4 rfl
    rw [t0, o0, cGl7] at g0
    rw [t1, o1, cI327] at g1
    rw [t2, o2, cCs7] at g2
    rw [t3, o3, cKs7] at g3
    rw [t4, o4, cLs7] at g4
    simp at g0 g1 g2 g3 g4
    obtain ⟨e0, e1, e2, e3, hes, ⟨s0, q0⟩, ⟨s1, q1⟩, ⟨s2, q2⟩, ⟨s3, q3⟩⟩ := four_fields (show (Tryz.prog.fieldsOf 23).toList.map (fun f => (f.type, f.offset)) = [(2, 0), (2, 1), (2, 2), (3, 3)] by kernel_rfl)
    obtain ⟨zs, m2, _, _, _, hzl, hzi⟩ := DataW.trod_struct uGl7 g0
    rw [hes] at hzl hzi
    match zs, hzl with
    | [z0, z1, z2, z3], _ =>
      have k0 := hzi 0 e0 rfl
      have k1 := hzi 1 e1 rfl
      have k2 := hzi 2 e2 rfl
      have k3 := hzi 3 e3 rfl
      rw [s0, q0, cI647] at k0
      rw [s1, q1, cI647] at k1
      rw [s2, q2, cI647] at k2
      rw [s3, q3, cInt7] at k3
      simp at k0 k1 k2 k3
      obtain ⟨a, i0, _, w0⟩ := DataW.trod_int Tryz.underlying2 k0
      obtain ⟨b, i1, _, w1⟩ := DataW.trod_int Tryz.underlying2 k1
      obtain ⟨c, i2, _, w2⟩ := DataW.trod_int Tryz.underlying2 k2
      obtain ⟨o, i3, _, w3⟩ := DataW.trod_int Tryz.underlying3 k3
      obtain ⟨hy, i4, _, w4⟩ := DataW.trod_int Tryz.underlying21 g1
      simp at i0 i1 i2 i3 i4
      subst i0 i1 i2 i3 i4
      obtain ⟨u2, C, j2, hC, pC, bC⟩ := recs_open Tryz.underlying24 cCh7 (by decide) (f := chC) (fun x => rfl) (fun fuel cs x h => ch_open h) g2
      obtain ⟨u3, K, j3, hK, pK, bK⟩ := recs_open Tryz.underlying25 cKn7 (by decide) (f := knC) (fun x => rfl) (fun fuel cs x h => kn_open h) g3
      obtain ⟨u4, L, j4, hL, pL, bL⟩ := recs_open Tryz.underlying26 cLg7 (by decide) (f := lgC) (fun x => rfl) (fun fuel cs x h => lg_open h) g4
      simp at j2 j3 j4
      subst j2 j3 j4
      refine ⟨⟨a, b, c, o, hy, C, K, L⟩, ⟨_, _, _, rfl, hC, hK, hL⟩, ⟨in64_wf w0, in64_wf w1, in64_wf w2, in64_wf w3, in32_wf w4, pC, pK, pL⟩, ?_⟩
      simp only [Prod.mk.injEq] at hxe
      obtain ⟨rfl, _⟩ := hxe
      simp only [List.map_cons, List.map_nil, Rows.uptoBulk, Rows.uptoBulkAll]
      omega
end
end Go.Proofs.YtmehldekebphfaaGreatDoor

namespace Go.Proofs.YtmehldekebphfaaGreatDoor
open Go.ChangeShapes Go.WideShapes Go.ChangeAt Go.RowKit

theorem own : ownKnob Tryz.prog.godebug = none := by kernel_rfl
theorem laidOut : laidOutB Tryz.prog = true := by kernel_rfl

theorem gTab : Tryz.prog.globalNamed "internal/strconv.uint64pow10" = some 4 := by kernel_rfl
theorem gTabType : (Tryz.prog.globals[4]?).map (·.type) = some 186 := by kernel_rfl
theorem gSyn : Tryz.prog.globalNamed "strconv.ErrSyntax" = some 7 := by kernel_rfl
theorem gSynType : (Tryz.prog.globals[7]?).map (·.type) = some 59 := by kernel_rfl
theorem gRng : Tryz.prog.globalNamed "strconv.ErrRange" = some 8 := by kernel_rfl
theorem gRngType : (Tryz.prog.globals[8]?).map (·.type) = some 59 := by kernel_rfl
theorem gLn : Tryz.prog.globalNamed "variorum/metric.errLine" = some 0 := by kernel_rfl
theorem gLnType : (Tryz.prog.globals[0]?).map (·.type) = some 59 := by kernel_rfl
theorem gTb : Tryz.prog.globalNamed "variorum/metric.errTable" = some 1 := by kernel_rfl
theorem gTbType : (Tryz.prog.globals[1]?).map (·.type) = some 59 := by kernel_rfl
theorem gPt : Tryz.prog.globalNamed "variorum/metric.patterns" = some 2 := by kernel_rfl
theorem gPtType : (Tryz.prog.globals[2]?).map (·.type) = some 130 := by kernel_rfl
theorem maxLen_of {W : World} (h : W.ShapedOpen Tryz.prog) : ∃ m, W.cell? ⟨3, 0, none⟩ = some (.int .i64 m) :=
  Go.Proofs.cell_of_shapedOpen_int (zero := #[.int .i64 0]) (t := 3) h (of_decide_eq_true (by kernel_rfl)) (by kernel_rfl) rfl (by kernel_rfl) (by kernel_rfl) Tryz.underlying3
theorem star : "*" ++ "errors.errorString" = "*errors.errorString" := by decide
theorem rowErr (u : TypeId) (h : Tryz.prog.typeName? 3 u = some "*errors.errorString") : u = 207 :=
  typeName_ptr_named (nm := "errors.errorString") (by rw [star]; kernel_rfl) (by kernel_rfl) (by decide) u (by rw [star]; exact h)
theorem cellsErr : Tryz.prog.cellsOf 209 = 1 := by kernel_rfl
theorem cellsStr : Tryz.prog.cellsOf 9 = 1 := by kernel_rfl
theorem cellsInt : Tryz.prog.cellsOf 3 = 1 := by kernel_rfl
theorem cellsPat : Tryz.prog.cellsOf 129 = 3 := by kernel_rfl
theorem cellsPats : Tryz.prog.cellsOf 130 = 15 := by kernel_rfl

/-- the list that every row of this seat bears -/
def laidList : List (String × DataW Unit) := [("math/bits.deBruijn32tab", Rows.laid_math_bits_deBruijn32tab), ("math/bits.deBruijn64tab", Rows.laid_math_bits_deBruijn64tab), ("internal/strconv.uint64pow10", Rows.laid_internal_strconv_uint64pow10), ("unicode/utf8.acceptRanges", Rows.laid_unicode_utf8_acceptRanges), ("strconv.ErrRange", Rows.laid_strconv_ErrRange), ("strconv.ErrSyntax", Rows.laid_strconv_ErrSyntax), ("variorum/metric.errLine", Rows.laid_variorum_metric_errLine), ("variorum/metric.patterns", Rows.laid_variorum_metric_patterns), ("variorum/metric.errTable", Rows.laid_variorum_metric_errTable), ("unicode/utf8.first", Rows.laid_unicode_utf8_first)]
theorem uPat : Tryz.prog.underlying 129 = some (.struct (Tryz.prog.fieldsOf 129)) := by kernel_rfl
theorem fPat : (Tryz.prog.fieldsOf 129).toList.map (fun f => (f.name, f.type, f.offset)) = [("name", 9, 0), ("codes", 3, 1), ("lengths", 3, 2)] := by kernel_rfl
theorem pat_fields : ∃ f0 f1 f2 : Field, Tryz.prog.fieldsOf 129 = #[f0, f1, f2] ∧ (f0.type = 9 ∧ f0.offset = 0) ∧ (f1.type = 3 ∧ f1.offset = 1) ∧ (f2.type = 3 ∧ f2.offset = 2) := by
  have h := fPat
  generalize Tryz.prog.fieldsOf 129 = fs at h
  obtain ⟨l⟩ := fs
  have hl : l.length = 3 := by simpa using congrArg List.length h
  match l, hl with
  | [x, y, z], _ =>
    simp only [List.map_cons, List.map_nil, List.cons.injEq, Prod.mk.injEq] at h
    obtain ⟨⟨_, h1, h2⟩, ⟨_, h3, h4⟩, ⟨_, h5, h6⟩, _⟩ := h
    exact ⟨x, y, z, rfl, ⟨h1, h2⟩, ⟨h3, h4⟩, ⟨h5, h6⟩⟩
def patD {H : Type} (s : List UInt8) (a b : Int) : DataW H := .agg [.lit (.string s), .lit (.int .i64 a), .lit (.int .i64 b)]
theorem pat_open {H : Type} {enc : TypeId × Value → H} {W : World} {base : Nat} {held : Bool} {spare : Nat → Bool} {fuel : Nat} {cs : List Value} {x : DataW H × List MemPlace}
    (h : DataW.trod enc Tryz.prog W base spare held fuel 129 cs = some x) : ∃ (s : List UInt8) (a b : Int), cs = [.string (str s), .int .i64 a, .int .i64 b] ∧ x.1 = patD s a b := by
  obtain ⟨f0, f1, f2, hf, ⟨t0, o0⟩, ⟨t1, o1⟩, ⟨t2, o2⟩⟩ := pat_fields
  obtain ⟨xs, n, _, rfl, hl, hx, hi⟩ := DataW.trod_struct uPat h
  rw [hf] at hx hi
  rw [cellsPat] at hl
  match cs, hl, xs, hx with
  | [v0, v1, v2], _, [y0, y1, y2], _ =>
    have g0 := hi 0 f0 rfl
    have g1 := hi 1 f1 rfl
    have g2 := hi 2 f2 rfl
    rw [t0, o0, cellsStr] at g0
    rw [t1, o1, cellsInt] at g1
    rw [t2, o2, cellsInt] at g2
    simp at g0 g1 g2
    obtain ⟨S, e0, rfl, _⟩ := DataW.trod_string Tryz.underlying9 g0
    obtain ⟨A, e1, rfl, _⟩ := DataW.trod_int Tryz.underlying3 g1
    obtain ⟨B, e2, rfl, _⟩ := DataW.trod_int Tryz.underlying3 g2
    simp at e0 e1 e2
    subst e0 e1 e2
    exact ⟨S.data.toList, A, B, by rw [str_of], rfl⟩
theorem pats_is : (Rows.laid_variorum_metric_patterns : DataW Unit) = .agg [patD [115, 112, 97, 99, 101] 0 3, patD [104, 121, 112, 104, 101, 110] 1 0, patD [99, 104, 97, 114] 1 3, patD [107, 101, 114, 110] 2 1, patD [108, 105, 103] 3 0] := by kernel_rfl
theorem patD_inj {s s' : List UInt8} {a b a' b' : Int} (h : (patD s a b : DataW Unit) = patD s' a' b') : s = s' ∧ a = a' ∧ b = b' := by
  unfold patD at h
  simpa using h
theorem var_cells {W : World} {n : String} {g : Nat} {cs : Array Value} (hg : Tryz.prog.globalNamed n = some g) (h : W.var? Tryz.prog n = some cs) (j : Nat) (u : Value) (hj : cs[j]? = some u) : W.cell? ⟨g, j, none⟩ = some u := by
  unfold World.var? at h
  rw [hg, Option.bind_some] at h
  split at h
  · rename_i c T fr hh
    injection h with h
    subst h
    unfold World.cell?
    simp only [hh]
    exact hj
  · cases h
theorem pats_of_reads {W : World} (h : Lib.VarReads Tryz.prog W "variorum/metric.patterns" Rows.laid_variorum_metric_patterns) : Laid W 2 patCells := by
  obtain ⟨g, t, cs, fuel, p, hg, ht, hv, hd⟩ := h
  obtain rfl := Option.some.inj (gPt.symm.trans hg)
  obtain rfl := Option.some.inj (gPtType.symm.trans ht)
  obtain ⟨xs, m, rfl, hx, hl, hxl, hall⟩ := DataW.trod_array Tryz.underlying130 hd
  rw [cellsPats] at hl
  rw [cellsPat] at hall
  rw [pats_is] at hx
  have hx1 := congrArg Prod.fst hx
  simp only [DataW.agg.injEq] at hx1
  match xs, hxl with
  | [x0, x1, x2, x3, x4], _ =>
    simp only [List.map_cons, List.map_nil, List.cons.injEq, and_true] at hx1
    obtain ⟨d0, d1, d2, d3, d4⟩ := hx1
    obtain ⟨l⟩ := cs
    simp only at hl
    match l, hl with
    | [v0, v1, v2, v3, v4, v5, v6, v7, v8, v9, v10, v11, v12, v13, v14], _ =>
      obtain ⟨s0, a0, b0, e0, f0⟩ := pat_open (hall 0 (by decide))
      obtain ⟨s1, a1, b1, e1, f1⟩ := pat_open (hall 1 (by decide))
      obtain ⟨s2, a2, b2, e2, f2⟩ := pat_open (hall 2 (by decide))
      obtain ⟨s3, a3, b3, e3, f3⟩ := pat_open (hall 3 (by decide))
      obtain ⟨s4, a4, b4, e4, f4⟩ := pat_open (hall 4 (by decide))
      obtain ⟨rfl, rfl, rfl⟩ := patD_inj (d0.trans f0)
      obtain ⟨rfl, rfl, rfl⟩ := patD_inj (d1.trans f1)
      obtain ⟨rfl, rfl, rfl⟩ := patD_inj (d2.trans f2)
      obtain ⟨rfl, rfl, rfl⟩ := patD_inj (d3.trans f3)
      obtain ⟨rfl, rfl, rfl⟩ := patD_inj (d4.trans f4)
      simp only [Nat.zero_mul, Nat.one_mul, List.drop_zero, List.drop_succ_cons, List.take_succ_cons, List.take_zero, List.cons.injEq, and_true, Nat.reduceMul] at e0 e1 e2 e3 e4
      obtain ⟨rfl, rfl, rfl⟩ := e0
      obtain ⟨rfl, rfl, rfl⟩ := e1
      obtain ⟨rfl, rfl, rfl⟩ := e2
      obtain ⟨rfl, rfl, rfl⟩ := e3
      obtain ⟨rfl, rfl, rfl⟩ := e4
      exact ⟨fun j u hj => var_cells gPt hv j u hj⟩
/-- WHAT A ROW's LIST GIVES THE WALKS. -/
theorem menv_of_laid {W : World} (h : laidMetH Tryz.prog laidList W) (hsh : W.ShapedOpen Tryz.prog) : ∃ aL aT, MEnv aL aT W := by
  have h0 : laidMet Tryz.prog laidList W := by
    have e : (laidList.filter fun x => x.2.handleName?.isSome) = [] := by kernel_rfl
    unfold laidMetH at h
    rw [e] at h
    exact h
  have h1 := h0.tail
  have h2 := h1.tail
  have h3 := h2.tail
  have h4 := h3.tail
  have h5 := h4.tail
  have tab : Lib.TabIs Tryz.prog W "internal/strconv.uint64pow10" .u64 Lib.pow10Tab :=
    Lib.tabIs_of_head (zs := Lib.pow10Tab) gTab gTabType Tryz.underlying186 Tryz.underlying135 (by kernel_rfl) (by kernel_rfl) h2
  obtain ⟨a, s, hr, _⟩ := laid_sentinel h4 gRng gRngType Tryz.underlying59 rowErr Tryz.underlying207 Tryz.underlying209 rfl rfl Tryz.underlying9 cellsErr cellsStr
  obtain ⟨a', s', hs, _⟩ := laid_sentinel h5 gSyn gSynType Tryz.underlying59 rowErr Tryz.underlying207 Tryz.underlying209 rfl rfl Tryz.underlying9 cellsErr cellsStr
  have h6 : laidMet Tryz.prog [("variorum/metric.errLine", Rows.laid_variorum_metric_errLine), ("variorum/metric.errTable", Rows.laid_variorum_metric_errTable)] W := by
    have hf := h0.filter (fun x => x.1 == "variorum/metric.errLine" || x.1 == "variorum/metric.errTable")
    exact hf
  obtain ⟨aL, aT, _, _, cL, cT, tL, tT, hL, hT, _, _, _, _, _, _, hne, hbL, hbT⟩ := laid_sentinels2 h6 gLn gLnType gTb gTbType Tryz.underlying59 rowErr Tryz.underlying207 Tryz.underlying209 rfl rfl Tryz.underlying9 cellsErr cellsStr
  have hP := pats_of_reads (Lib.laidMet.reads h0 (.tail _ (.tail _ (.tail _ (.tail _ (.tail _ (.tail _ (.tail _ (.head _)))))))))
  exact ⟨aL, aT, tab, ⟨_, _, hs⟩, ⟨_, _, hr⟩, maxLen_of hsh, var_cells gLn hL 0 _ rfl, var_cells gTb hT 0 _ rfl, hne, ⟨_, _, hbL⟩, ⟨_, _, hbT⟩, hP⟩
theorem metW_of_laid {W : World} (h : laidMetH Tryz.prog laidList W) (hsh : W.ShapedOpen Tryz.prog) : MetW W := by
  obtain ⟨aL, aT, hE⟩ := menv_of_laid h hsh
  exact metW_of hE
/-! ### a law that answers true and leaves what it was handed as it was -/
section
variable {H : Type} {enc : TypeId × Value → H} {P : Program}
/-- the arguments read behind the call as they did before -/
theorem args_kept (hl : laidOutB P = true) {W W' : World} (hb : Below W.heap.size W W') : ∀ (ts : List TypeId) (vs : List Value) (ds : List (DataW H)) (ps : List MemPlace), (∀ t ∈ ts, P.readableRec t = true ∧ t < P.types.size) →
    DataW.TrodAll enc P W 0 (fun _ => true) true ts vs ds ps → (∀ x ∈ ps, x.block < W.heap.size) → DataW.TrodAll enc P W' 0 (fun b => decide (b < W.heap.size)) true ts vs ds ps
  | [], vs, ds, ps, _, h, _ => by
    obtain ⟨rfl, rfl, rfl⟩ := trodAll_nil h
    exact trodAll_mk0
  | t :: ts, vs, ds, ps, hr, h, hlt => by
    obtain ⟨v, vs', d, ds', p, q, rfl, rfl, rfl, h0, r0⟩ := trodAll_cons h
    have h1 := hr t (List.mem_cons_self ..)
    exact trodAll_cons_mk (Below.trod hl h1.1 h1.2 h0 hb (fun x hx => hlt x (List.mem_append_left _ hx))) (args_kept hl hb ts vs' ds' q (fun t ht => hr t (List.mem_cons_of_mem _ ht)) r0 (fun x hx => hlt x (List.mem_append_right _ hx)))
end
end Go.Proofs.YtmehldekebphfaaGreatDoor
