/-
  The landed ascend, at the three kinds of records, with the closures that tell whether a record stands ahead of another one.
-/
import Derived.Test.YtmehldekebphfaaGreatDoorUp7
import Derived.Test.YtmehldekebphfaaGreatDoorRefFind7
import Derived.Shelf.Abstract
import Derived.Deep.RegionLaw
import Derived.Deep.RegionHeld3
import Derived.Deep.DeepCutAuto
set_option linter.unusedVariables false
set_option linter.unusedSimpArgs false
namespace Go.Proofs.YtmehldekebphfaaGreatDoor
open Go.RowKit

set_option maxHeartbeats 2000000 in
theorem below7_any (a b c d : Int) (w : World) : Calls Tryz.prog 68 #[.int .i32 a, .int .i32 b, .int .i32 c, .int .i32 d] w (Is (.bool (Mt.rises a b c d)) w) := by
  have hR : Mt.rises a b c d = (decide (a < c) || (a == c && decide (b < d))) := rfl
  rw [hR]
  by_cases h1 : a < c
  · rw [decide_eq_true h1]
    go_enter Tryz.func68, Tryz.ntmps68
    go_wp2
    go_ret
    exact ⟨rfl, rfl⟩
  · rw [decide_eq_false h1]
    by_cases h2 : a = c
    · have q : (a == c) = true := beq_iff_eq.2 h2
      rw [q]
      go_enter Tryz.func68, Tryz.ntmps68
      go_wp2
      go_ret
      exact ⟨by simp, rfl⟩
    · have q : (a == c) = false := beq_eq_false_iff_ne.2 h2
      rw [q]
      go_enter Tryz.func68, Tryz.ntmps68
      go_wp2
      go_ret
      exact ⟨by simp, rfl⟩


set_option maxHeartbeats 2000000 in
set_option maxRecDepth 100000 in
theorem ord_ch (x y : Mt.Ch) (w : World) : Calls Tryz.prog 64 #[.agg #[.int .i32 x.code, .int .i64 x.w, .int .i64 x.h, .int .i64 x.d], .agg #[.int .i32 y.code, .int .i64 y.w, .int .i64 y.h, .int .i64 y.d]] w (Ret (.bool (decide (x.code < y.code))) w) := by
  have HB := Lib.hid (below_step (below_alloc w (.cells #[.int .i32 x.code, .int .i64 x.w, .int .i64 x.h, .int .i64 x.d] 38)) (below_alloc (w.alloc (.cells #[.int .i32 x.code, .int .i64 x.w, .int .i64 x.h, .int .i64 x.d] 38)) (.cells #[.int .i32 y.code, .int .i64 y.w, .int .i64 y.h, .int .i64 y.d] 38)))
  go_enter Tryz.func64, Tryz.ntmps64
  go_wp2
  go_ret
  exact ⟨rfl, HB.out⟩
theorem eo_ch : ∀ args w, (callFunc 64 args).run Tryz.prog w = .ok (.enter 64 args) w := enters_of Tryz.func64 (by kernel_rfl) rfl


set_option maxHeartbeats 8000000 in
set_option maxRecDepth 100000 in
theorem ascend_ch (v : Value) (l : List Mt.Ch) (w : World) (h : SlcAt chC 4 w v l) : Calls Tryz.prog 63 #[v, .func (.func 64) #[] #[]] w (Ret (.bool (Mt.up (fun x y => decide (x.code < y.code)) l)) w) := by
  have eg := eo_ch
  have HA := Lib.hid h
  obtain ⟨⟨a, cp, rfl, hcap⟩, hm, _⟩ := h
  have hza : l.length ≤ 9223372036854775807 := by unfold maxLen at hm; omega
  obtain ⟨n, hn⟩ : ∃ n, n = l.length := ⟨_, rfl⟩
  have Hn := Lib.hid hn
  obtain ⟨r, hr⟩ : ∃ r, r = Mt.up (fun x y => decide (x.code < y.code)) l := ⟨_, rfl⟩
  rw [← hr]
  rw [← hn] at hza ⊢
  have HR : Hid (r = Mt.up (fun x y => decide (x.code < y.code)) (l.drop 0)) := Lib.hid hr
  clear hr hn hm hcap
  go_enter Tryz.func63, Tryz.ntmps63
  go_wp2_with fail
  go_loopw [5] (fun iv wr => ∃ j : Nat, (j = 0 ∨ j + 1 ≤ n) ∧ iv = .int .i64 (j + 1 : Nat) ∧ Hid (Below w.heap.size w wr) ∧ Hid (r = Mt.up (fun x y => decide (x.code < y.code)) (l.drop j))) (fun iv _ => n + 1 - (intOf iv).toNat)
  case atStart => exact ⟨0, .inl rfl, rfl, Lib.hid (Below.refl _ _), HR⟩
  case round =>
    obtain ⟨j, hj, rfl, HB, HK⟩ := hrel
    clear HR
    by_cases hlt : j + 1 < n
    · obtain ⟨b1, o1, d1, e1, r1⟩ := HA.out.2.2 (by rw [← Hn.out]; omega)
      obtain ⟨rfl, rfl⟩ : a = some ⟨b1, o1, none⟩ ∧ cp = d1 := by injection e1 with a1 a2 a3; exact ⟨a1, a3⟩
      obtain ⟨x, hx⟩ : ∃ x, l[j + 1]? = some x := ⟨_, List.getElem?_eq_getElem (by rw [← Hn.out]; exact hlt)⟩
      obtain ⟨y, hy⟩ : ∃ y, l[j]? = some y := ⟨_, List.getElem?_eq_getElem (by rw [← Hn.out]; omega)⟩
      obtain ⟨y0, y1, y2, y3⟩ := ch_cells ((r1 j y hy).mono HB.out)
      obtain ⟨z0, z1, z2, z3⟩ := ch_cells ((r1 (j + 1) x hx).mono HB.out)
      have HE : Hid (r = ((decide (y.code < x.code)) && Mt.up (fun x y => decide (x.code < y.code)) (l.drop (j + 1)))) := Lib.hid (HK.out.trans (up_on hy hx))
      have HO := Lib.hid (fun w => ord_ch y x w)
      generalize decide (y.code < x.code) = q at HE HO
      obtain ⟨K, hK⟩ : ∃ K : Nat, K = j + 1 := ⟨_, rfl⟩
      rw [← hK]
      have k0 : (0 : Int) ≤ (K : Int) := by omega
      have kl : (K : Int) < (n : Int) := by omega
      have k1 : (1 : Int) ≤ (K : Int) := by omega
      have kj : IntKind.i64.wrap ((K : Int) - 1) = (j : Int) := by rw [show (K : Int) - 1 = (j : Int) by omega]; exact IntWalk.i64_in _ (by omega)
      have j0 : (0 : Int) ≤ (j : Int) := by omega
      have jl : (j : Int) < (n : Int) := by omega
      rw [← hK] at z0 z1 z2 z3 HE
      have HKj := Lib.hid hK
      clear r1 e1 hx hy hK hj
      have HD : Hid (Below wr.heap.size wr wr.drew) := Lib.hid ⟨rfl, rfl, rfl, Nat.le_refl _, fun _ _ => rfl⟩
      go_wp2_with fail
      cases q with
      | true =>
        go_region_held3 (fun w' => w'.cell? ⟨b1, o1 + j * 4, none⟩ = some (.int .i32 y.code) ∧ w'.cell? ⟨b1, o1 + j * 4 + 1, none⟩ = some (.int .i64 y.w) ∧ w'.cell? ⟨b1, o1 + j * 4 + 2, none⟩ = some (.int .i64 y.h) ∧ w'.cell? ⟨b1, o1 + j * 4 + 3, none⟩ = some (.int .i64 y.d) ∧ w'.cell? ⟨b1, o1 + K * 4, none⟩ = some (.int .i32 x.code) ∧ w'.cell? ⟨b1, o1 + K * 4 + 1, none⟩ = some (.int .i64 x.w) ∧ w'.cell? ⟨b1, o1 + K * 4 + 2, none⟩ = some (.int .i64 x.h) ∧ w'.cell? ⟨b1, o1 + K * 4 + 3, none⟩ = some (.int .i64 x.d)) (first | go_keep | exact ⟨cell_below HX.out y0, cell_below HX.out y1, cell_below HX.out y2, cell_below HX.out y3, cell_below HX.out z0, cell_below HX.out z1, cell_below HX.out z2, cell_below HX.out z3⟩) ((refine (HO.out _).mono ?_; rintro e w7 ⟨rfl, hb7⟩; have HX := Lib.hid (below_step HD.out hb7); have HB7 := Lib.hid (below_step HB.out (below_step HD.out hb7)); clear hb7))
        go_wp2
        go_roundw
        case rel => exact ⟨K, .inr (by omega), by go_num, HB7, Lib.hid (by rw [HE.out]; rfl)⟩
        case measure => simp [intOf]; omega
      | false =>
        go_region_held3 (fun w' => w'.cell? ⟨b1, o1 + j * 4, none⟩ = some (.int .i32 y.code) ∧ w'.cell? ⟨b1, o1 + j * 4 + 1, none⟩ = some (.int .i64 y.w) ∧ w'.cell? ⟨b1, o1 + j * 4 + 2, none⟩ = some (.int .i64 y.h) ∧ w'.cell? ⟨b1, o1 + j * 4 + 3, none⟩ = some (.int .i64 y.d) ∧ w'.cell? ⟨b1, o1 + K * 4, none⟩ = some (.int .i32 x.code) ∧ w'.cell? ⟨b1, o1 + K * 4 + 1, none⟩ = some (.int .i64 x.w) ∧ w'.cell? ⟨b1, o1 + K * 4 + 2, none⟩ = some (.int .i64 x.h) ∧ w'.cell? ⟨b1, o1 + K * 4 + 3, none⟩ = some (.int .i64 x.d)) (first | go_keep | exact ⟨cell_below HX.out y0, cell_below HX.out y1, cell_below HX.out y2, cell_below HX.out y3, cell_below HX.out z0, cell_below HX.out z1, cell_below HX.out z2, cell_below HX.out z3⟩) ((refine (HO.out _).mono ?_; rintro e w7 ⟨rfl, hb7⟩; have HX := Lib.hid (below_step HD.out hb7); have HB7 := Lib.hid (below_step HB.out (below_step HD.out hb7)); clear hb7))
        go_wp2
        go_ret
        rw [HE.out]
        exact ⟨rfl, HB7.out⟩
    · have HE : Hid (r = true) := Lib.hid (HK.out.trans (up_end (by rw [← Hn.out]; omega)))
      have kl : ¬ ((((j + 1 : Nat)) : Int) < (n : Int)) := by omega
      go_wp2
      go_ret
      rw [HE.out]
      exact ⟨rfl, HB.out⟩


set_option maxHeartbeats 2000000 in
set_option maxRecDepth 100000 in
theorem ord_kn (x y : Mt.Kn) (w : World) : Calls Tryz.prog 67 #[.agg #[.int .i32 x.a, .int .i32 x.b, .int .i64 x.w], .agg #[.int .i32 y.a, .int .i32 y.b, .int .i64 y.w]] w (Ret (.bool (Mt.rises x.a x.b y.a y.b)) w) := by
  have HB := Lib.hid (below_step (below_alloc w (.cells #[.int .i32 x.a, .int .i32 x.b, .int .i64 x.w] 52)) (below_alloc (w.alloc (.cells #[.int .i32 x.a, .int .i32 x.b, .int .i64 x.w] 52)) (.cells #[.int .i32 y.a, .int .i32 y.b, .int .i64 y.w] 52)))
  have HR := Lib.hid (fun w => below7_any x.a x.b y.a y.b w)
  generalize Mt.rises x.a x.b y.a y.b = r at HR ⊢
  go_enter Tryz.func67, Tryz.ntmps67
  go_wp2_with fail
  refine (HR.out _).mono ?_
  rintro e w1 ⟨rfl, rfl⟩
  go_wp2
  go_ret
  exact ⟨rfl, HB.out⟩
theorem eo_kn : ∀ args w, (callFunc 67 args).run Tryz.prog w = .ok (.enter 67 args) w := enters_of Tryz.func67 (by kernel_rfl) rfl


set_option maxHeartbeats 8000000 in
set_option maxRecDepth 100000 in
theorem ascend_kn (v : Value) (l : List Mt.Kn) (w : World) (h : SlcAt knC 3 w v l) : Calls Tryz.prog 66 #[v, .func (.func 67) #[] #[]] w (Ret (.bool (Mt.up (fun x y => Mt.rises x.a x.b y.a y.b) l)) w) := by
  have eg := eo_kn
  have HA := Lib.hid h
  obtain ⟨⟨a, cp, rfl, hcap⟩, hm, _⟩ := h
  have hza : l.length ≤ 9223372036854775807 := by unfold maxLen at hm; omega
  obtain ⟨n, hn⟩ : ∃ n, n = l.length := ⟨_, rfl⟩
  have Hn := Lib.hid hn
  obtain ⟨r, hr⟩ : ∃ r, r = Mt.up (fun x y => Mt.rises x.a x.b y.a y.b) l := ⟨_, rfl⟩
  rw [← hr]
  rw [← hn] at hza ⊢
  have HR : Hid (r = Mt.up (fun x y => Mt.rises x.a x.b y.a y.b) (l.drop 0)) := Lib.hid hr
  clear hr hn hm hcap
  go_enter Tryz.func66, Tryz.ntmps66
  go_wp2_with fail
  go_loopw [5] (fun iv wr => ∃ j : Nat, (j = 0 ∨ j + 1 ≤ n) ∧ iv = .int .i64 (j + 1 : Nat) ∧ Hid (Below w.heap.size w wr) ∧ Hid (r = Mt.up (fun x y => Mt.rises x.a x.b y.a y.b) (l.drop j))) (fun iv _ => n + 1 - (intOf iv).toNat)
  case atStart => exact ⟨0, .inl rfl, rfl, Lib.hid (Below.refl _ _), HR⟩
  case round =>
    obtain ⟨j, hj, rfl, HB, HK⟩ := hrel
    clear HR
    by_cases hlt : j + 1 < n
    · obtain ⟨b1, o1, d1, e1, r1⟩ := HA.out.2.2 (by rw [← Hn.out]; omega)
      obtain ⟨rfl, rfl⟩ : a = some ⟨b1, o1, none⟩ ∧ cp = d1 := by injection e1 with a1 a2 a3; exact ⟨a1, a3⟩
      obtain ⟨x, hx⟩ : ∃ x, l[j + 1]? = some x := ⟨_, List.getElem?_eq_getElem (by rw [← Hn.out]; exact hlt)⟩
      obtain ⟨y, hy⟩ : ∃ y, l[j]? = some y := ⟨_, List.getElem?_eq_getElem (by rw [← Hn.out]; omega)⟩
      obtain ⟨y0, y1, y2⟩ := kn_cells ((r1 j y hy).mono HB.out)
      obtain ⟨z0, z1, z2⟩ := kn_cells ((r1 (j + 1) x hx).mono HB.out)
      have HE : Hid (r = ((Mt.rises y.a y.b x.a x.b) && Mt.up (fun x y => Mt.rises x.a x.b y.a y.b) (l.drop (j + 1)))) := Lib.hid (HK.out.trans (up_on hy hx))
      have HO := Lib.hid (fun w => ord_kn y x w)
      generalize Mt.rises y.a y.b x.a x.b = q at HE HO
      obtain ⟨K, hK⟩ : ∃ K : Nat, K = j + 1 := ⟨_, rfl⟩
      rw [← hK]
      have k0 : (0 : Int) ≤ (K : Int) := by omega
      have kl : (K : Int) < (n : Int) := by omega
      have k1 : (1 : Int) ≤ (K : Int) := by omega
      have kj : IntKind.i64.wrap ((K : Int) - 1) = (j : Int) := by rw [show (K : Int) - 1 = (j : Int) by omega]; exact IntWalk.i64_in _ (by omega)
      have j0 : (0 : Int) ≤ (j : Int) := by omega
      have jl : (j : Int) < (n : Int) := by omega
      rw [← hK] at z0 z1 z2 HE
      have HKj := Lib.hid hK
      clear r1 e1 hx hy hK hj
      have HD : Hid (Below wr.heap.size wr wr.drew) := Lib.hid ⟨rfl, rfl, rfl, Nat.le_refl _, fun _ _ => rfl⟩
      go_wp2_with fail
      cases q with
      | true =>
        go_region_held3 (fun w' => w'.cell? ⟨b1, o1 + j * 3, none⟩ = some (.int .i32 y.a) ∧ w'.cell? ⟨b1, o1 + j * 3 + 1, none⟩ = some (.int .i32 y.b) ∧ w'.cell? ⟨b1, o1 + j * 3 + 2, none⟩ = some (.int .i64 y.w) ∧ w'.cell? ⟨b1, o1 + K * 3, none⟩ = some (.int .i32 x.a) ∧ w'.cell? ⟨b1, o1 + K * 3 + 1, none⟩ = some (.int .i32 x.b) ∧ w'.cell? ⟨b1, o1 + K * 3 + 2, none⟩ = some (.int .i64 x.w)) (first | go_keep | exact ⟨cell_below HX.out y0, cell_below HX.out y1, cell_below HX.out y2, cell_below HX.out z0, cell_below HX.out z1, cell_below HX.out z2⟩) ((refine (HO.out _).mono ?_; rintro e w7 ⟨rfl, hb7⟩; have HX := Lib.hid (below_step HD.out hb7); have HB7 := Lib.hid (below_step HB.out (below_step HD.out hb7)); clear hb7))
        go_wp2
        go_roundw
        case rel => exact ⟨K, .inr (by omega), by go_num, HB7, Lib.hid (by rw [HE.out]; rfl)⟩
        case measure => simp [intOf]; omega
      | false =>
        go_region_held3 (fun w' => w'.cell? ⟨b1, o1 + j * 3, none⟩ = some (.int .i32 y.a) ∧ w'.cell? ⟨b1, o1 + j * 3 + 1, none⟩ = some (.int .i32 y.b) ∧ w'.cell? ⟨b1, o1 + j * 3 + 2, none⟩ = some (.int .i64 y.w) ∧ w'.cell? ⟨b1, o1 + K * 3, none⟩ = some (.int .i32 x.a) ∧ w'.cell? ⟨b1, o1 + K * 3 + 1, none⟩ = some (.int .i32 x.b) ∧ w'.cell? ⟨b1, o1 + K * 3 + 2, none⟩ = some (.int .i64 x.w)) (first | go_keep | exact ⟨cell_below HX.out y0, cell_below HX.out y1, cell_below HX.out y2, cell_below HX.out z0, cell_below HX.out z1, cell_below HX.out z2⟩) ((refine (HO.out _).mono ?_; rintro e w7 ⟨rfl, hb7⟩; have HX := Lib.hid (below_step HD.out hb7); have HB7 := Lib.hid (below_step HB.out (below_step HD.out hb7)); clear hb7))
        go_wp2
        go_ret
        rw [HE.out]
        exact ⟨rfl, HB7.out⟩
    · have HE : Hid (r = true) := Lib.hid (HK.out.trans (up_end (by rw [← Hn.out]; omega)))
      have kl : ¬ ((((j + 1 : Nat)) : Int) < (n : Int)) := by omega
      go_wp2
      go_ret
      rw [HE.out]
      exact ⟨rfl, HB.out⟩


set_option maxHeartbeats 2000000 in
set_option maxRecDepth 100000 in
theorem ord_lg (x y : Mt.Lg) (w : World) : Calls Tryz.prog 71 #[.agg #[.int .i32 x.a, .int .i32 x.b, .int .i32 x.to], .agg #[.int .i32 y.a, .int .i32 y.b, .int .i32 y.to]] w (Ret (.bool (Mt.rises x.a x.b y.a y.b)) w) := by
  have HB := Lib.hid (below_step (below_alloc w (.cells #[.int .i32 x.a, .int .i32 x.b, .int .i32 x.to] 54)) (below_alloc (w.alloc (.cells #[.int .i32 x.a, .int .i32 x.b, .int .i32 x.to] 54)) (.cells #[.int .i32 y.a, .int .i32 y.b, .int .i32 y.to] 54)))
  have HR := Lib.hid (fun w => below7_any x.a x.b y.a y.b w)
  generalize Mt.rises x.a x.b y.a y.b = r at HR ⊢
  go_enter Tryz.func71, Tryz.ntmps71
  go_wp2_with fail
  refine (HR.out _).mono ?_
  rintro e w1 ⟨rfl, rfl⟩
  go_wp2
  go_ret
  exact ⟨rfl, HB.out⟩
theorem eo_lg : ∀ args w, (callFunc 71 args).run Tryz.prog w = .ok (.enter 71 args) w := enters_of Tryz.func71 (by kernel_rfl) rfl


set_option maxHeartbeats 8000000 in
set_option maxRecDepth 100000 in
theorem ascend_lg (v : Value) (l : List Mt.Lg) (w : World) (h : SlcAt lgC 3 w v l) : Calls Tryz.prog 70 #[v, .func (.func 71) #[] #[]] w (Ret (.bool (Mt.up (fun x y => Mt.rises x.a x.b y.a y.b) l)) w) := by
  have eg := eo_lg
  have HA := Lib.hid h
  obtain ⟨⟨a, cp, rfl, hcap⟩, hm, _⟩ := h
  have hza : l.length ≤ 9223372036854775807 := by unfold maxLen at hm; omega
  obtain ⟨n, hn⟩ : ∃ n, n = l.length := ⟨_, rfl⟩
  have Hn := Lib.hid hn
  obtain ⟨r, hr⟩ : ∃ r, r = Mt.up (fun x y => Mt.rises x.a x.b y.a y.b) l := ⟨_, rfl⟩
  rw [← hr]
  rw [← hn] at hza ⊢
  have HR : Hid (r = Mt.up (fun x y => Mt.rises x.a x.b y.a y.b) (l.drop 0)) := Lib.hid hr
  clear hr hn hm hcap
  go_enter Tryz.func70, Tryz.ntmps70
  go_wp2_with fail
  go_loopw [5] (fun iv wr => ∃ j : Nat, (j = 0 ∨ j + 1 ≤ n) ∧ iv = .int .i64 (j + 1 : Nat) ∧ Hid (Below w.heap.size w wr) ∧ Hid (r = Mt.up (fun x y => Mt.rises x.a x.b y.a y.b) (l.drop j))) (fun iv _ => n + 1 - (intOf iv).toNat)
  case atStart => exact ⟨0, .inl rfl, rfl, Lib.hid (Below.refl _ _), HR⟩
  case round =>
    obtain ⟨j, hj, rfl, HB, HK⟩ := hrel
    clear HR
    by_cases hlt : j + 1 < n
    · obtain ⟨b1, o1, d1, e1, r1⟩ := HA.out.2.2 (by rw [← Hn.out]; omega)
      obtain ⟨rfl, rfl⟩ : a = some ⟨b1, o1, none⟩ ∧ cp = d1 := by injection e1 with a1 a2 a3; exact ⟨a1, a3⟩
      obtain ⟨x, hx⟩ : ∃ x, l[j + 1]? = some x := ⟨_, List.getElem?_eq_getElem (by rw [← Hn.out]; exact hlt)⟩
      obtain ⟨y, hy⟩ : ∃ y, l[j]? = some y := ⟨_, List.getElem?_eq_getElem (by rw [← Hn.out]; omega)⟩
      obtain ⟨y0, y1, y2⟩ := lg_cells ((r1 j y hy).mono HB.out)
      obtain ⟨z0, z1, z2⟩ := lg_cells ((r1 (j + 1) x hx).mono HB.out)
      have HE : Hid (r = ((Mt.rises y.a y.b x.a x.b) && Mt.up (fun x y => Mt.rises x.a x.b y.a y.b) (l.drop (j + 1)))) := Lib.hid (HK.out.trans (up_on hy hx))
      have HO := Lib.hid (fun w => ord_lg y x w)
      generalize Mt.rises y.a y.b x.a x.b = q at HE HO
      obtain ⟨K, hK⟩ : ∃ K : Nat, K = j + 1 := ⟨_, rfl⟩
      rw [← hK]
      have k0 : (0 : Int) ≤ (K : Int) := by omega
      have kl : (K : Int) < (n : Int) := by omega
      have k1 : (1 : Int) ≤ (K : Int) := by omega
      have kj : IntKind.i64.wrap ((K : Int) - 1) = (j : Int) := by rw [show (K : Int) - 1 = (j : Int) by omega]; exact IntWalk.i64_in _ (by omega)
      have j0 : (0 : Int) ≤ (j : Int) := by omega
      have jl : (j : Int) < (n : Int) := by omega
      rw [← hK] at z0 z1 z2 HE
      have HKj := Lib.hid hK
      clear r1 e1 hx hy hK hj
      have HD : Hid (Below wr.heap.size wr wr.drew) := Lib.hid ⟨rfl, rfl, rfl, Nat.le_refl _, fun _ _ => rfl⟩
      go_wp2_with fail
      cases q with
      | true =>
        go_region_held3 (fun w' => w'.cell? ⟨b1, o1 + j * 3, none⟩ = some (.int .i32 y.a) ∧ w'.cell? ⟨b1, o1 + j * 3 + 1, none⟩ = some (.int .i32 y.b) ∧ w'.cell? ⟨b1, o1 + j * 3 + 2, none⟩ = some (.int .i32 y.to) ∧ w'.cell? ⟨b1, o1 + K * 3, none⟩ = some (.int .i32 x.a) ∧ w'.cell? ⟨b1, o1 + K * 3 + 1, none⟩ = some (.int .i32 x.b) ∧ w'.cell? ⟨b1, o1 + K * 3 + 2, none⟩ = some (.int .i32 x.to)) (first | go_keep | exact ⟨cell_below HX.out y0, cell_below HX.out y1, cell_below HX.out y2, cell_below HX.out z0, cell_below HX.out z1, cell_below HX.out z2⟩) ((refine (HO.out _).mono ?_; rintro e w7 ⟨rfl, hb7⟩; have HX := Lib.hid (below_step HD.out hb7); have HB7 := Lib.hid (below_step HB.out (below_step HD.out hb7)); clear hb7))
        go_wp2
        go_roundw
        case rel => exact ⟨K, .inr (by omega), by go_num, HB7, Lib.hid (by rw [HE.out]; rfl)⟩
        case measure => simp [intOf]; omega
      | false =>
        go_region_held3 (fun w' => w'.cell? ⟨b1, o1 + j * 3, none⟩ = some (.int .i32 y.a) ∧ w'.cell? ⟨b1, o1 + j * 3 + 1, none⟩ = some (.int .i32 y.b) ∧ w'.cell? ⟨b1, o1 + j * 3 + 2, none⟩ = some (.int .i32 y.to) ∧ w'.cell? ⟨b1, o1 + K * 3, none⟩ = some (.int .i32 x.a) ∧ w'.cell? ⟨b1, o1 + K * 3 + 1, none⟩ = some (.int .i32 x.b) ∧ w'.cell? ⟨b1, o1 + K * 3 + 2, none⟩ = some (.int .i32 x.to)) (first | go_keep | exact ⟨cell_below HX.out y0, cell_below HX.out y1, cell_below HX.out y2, cell_below HX.out z0, cell_below HX.out z1, cell_below HX.out z2⟩) ((refine (HO.out _).mono ?_; rintro e w7 ⟨rfl, hb7⟩; have HX := Lib.hid (below_step HD.out hb7); have HB7 := Lib.hid (below_step HB.out (below_step HD.out hb7)); clear hb7))
        go_wp2
        go_ret
        rw [HE.out]
        exact ⟨rfl, HB7.out⟩
    · have HE : Hid (r = true) := Lib.hid (HK.out.trans (up_end (by rw [← Hn.out]; omega)))
      have kl : ¬ ((((j + 1 : Nat)) : Int) < (n : Int)) := by omega
      go_wp2
      go_ret
      rw [HE.out]
      exact ⟨rfl, HB.out⟩

end Go.Proofs.YtmehldekebphfaaGreatDoor
