/-
  The landed Check: whether a table may be.
-/
import Derived.Test.YtmehldekebphfaaGreatDoorSizes7
import Derived.Test.YtmehldekebphfaaGreatDoorAscend7
import Derived.Test.YtmehldekebphfaaGreatDoorFind7
import Derived.Test.YtmehldekebphfaaGreatDoorShelf
set_option linter.unusedVariables false
set_option linter.unusedSimpArgs false
namespace Go.Proofs.YtmehldekebphfaaGreatDoor
open Go.RowKit

theorem valid_letter (c : Int) : Lib.validRune c = Ut.letter c := by
  unfold Lib.validRune Ut.letter
  rw [Bool.eq_iff_iff, decide_eq_true_iff, decide_eq_true_iff]
  omega
set_option maxHeartbeats 1000000 in
set_option maxRecDepth 100000 in
theorem letter7_any (c : Int) (w : World) : Calls Tryz.prog 65 #[.int .i32 c] w (Is (.bool (Ut.letter c)) w) := by
  rw [← valid_letter]
  go_enter Tryz.func65, Tryz.ntmps65
  go_wp2_with fail
  refine (Tryz.utf8_ValidRune _ _).mono ?_
  rintro e w' ⟨rfl, rfl⟩
  go_wp2_with fail
  go_ret
  exact ⟨rfl, rfl⟩
theorem ints_new (k : IntKind) (w : World) (p : Nat) (hp : w.heap.size = p) (xs : List Int) (T : TypeId) (hl : xs.length ≤ 1000) : IntsAt k (w.alloc (.cells (xs.map (Value.int k)).toArray T)) (.slice (some ⟨p, 0, none⟩) xs.length xs.length) xs := by
  subst hp
  refine ⟨⟨_, _, rfl, Nat.le_refl _⟩, by unfold maxLen; omega, fun _ => ⟨w.heap.size, 0, _, rfl, fun i x hi => ?_⟩⟩
  rw [Nat.zero_add]
  exact cell_lay w _ _ i _ (by simp [hi])

set_option maxHeartbeats 4000000 in
set_option maxRecDepth 100000 in
theorem chars_any (v : Value) (l : List Mt.Ch) (w : World) (h : SlcAt chC 4 w v l) : Calls Tryz.prog 35 #[v] w (Ret (.bool (decide (l.length ≤ 256) && Mt.up (fun x y => decide (x.code < y.code)) l && l.all Mt.chOk)) w) := by
  have HA := Lib.hid h
  have HU := Lib.hid (ascend_ch v l w h)
  obtain ⟨⟨a, cp, rfl, hcap⟩, hm, _⟩ := h
  have hza : l.length ≤ 9223372036854775807 := by unfold maxLen at hm; omega
  obtain ⟨n, hn⟩ : ∃ n, n = l.length := ⟨_, rfl⟩
  have Hn := Lib.hid hn
  rw [← hn] at hza HU ⊢
  generalize Mt.up (fun x y : Mt.Ch => decide (x.code < y.code)) l = u at HU ⊢
  obtain ⟨r, hr⟩ : ∃ r, r = l.all Mt.chOk := ⟨_, rfl⟩
  have HR : Hid (r = (l.drop 0).all Mt.chOk) := Lib.hid hr
  rw [← hr]
  clear hr hn hm hcap
  by_cases hlen : n ≤ 256
  · have g1 : ¬ ((256 : Int) < (n : Int)) := by omega
    rw [decide_eq_true hlen]
    clear hlen
    cases u with
    | false =>
      go_enter Tryz.func35, Tryz.ntmps35
      go_wp2_with fail
      refine HU.out.mono ?_
      rintro e w1 ⟨rfl, hb1⟩
      have HB1 := Lib.hid hb1
      clear hb1
      go_wp2
      go_ret
      exact ⟨rfl, HB1.out⟩
    | true =>
      go_enter Tryz.func35, Tryz.ntmps35
      go_wp2_with fail
      refine HU.out.mono ?_
      rintro e w1 ⟨rfl, hb1⟩
      have HB1 := Lib.hid hb1
      clear hb1
      go_wp2_with fail
      go_loopw [15] (fun iv wr => ∃ k : Nat, k ≤ n ∧ iv = .int .i64 k ∧ Hid (Below w.heap.size w wr) ∧ Hid (r = (l.drop k).all Mt.chOk)) (fun iv _ => n - (intOf iv).toNat)
      case atStart => exact ⟨0, Nat.zero_le _, rfl, HB1, HR⟩
      case round =>
        obtain ⟨k, hk, rfl, HB, HK⟩ := hrel
        clear HR HB1
        by_cases hlt : k < n
        · obtain ⟨b1, o1, d1, e1, r1⟩ := HA.out.2.2 (by rw [← Hn.out]; omega)
          obtain ⟨rfl, rfl⟩ : a = some ⟨b1, o1, none⟩ ∧ cp = d1 := by injection e1 with a1 a2 a3; exact ⟨a1, a3⟩
          obtain ⟨x, hx⟩ : ∃ x, l[k]? = some x := ⟨_, List.getElem?_eq_getElem (by rw [← Hn.out]; exact hlt)⟩
          obtain ⟨y0, y1, y2, y3⟩ := ch_cells ((r1 k x hx).mono HB.out)
          have k0 : (0 : Int) ≤ (k : Int) := by omega
          have kl : (k : Int) < (n : Int) := by omega
          have HE : Hid (r = ((Ut.letter x.code && [x.w, x.h, x.d].all Mt.amount) && (l.drop (k + 1)).all Mt.chOk)) := Lib.hid (by rw [HK.out, all_on hx, all_three]; unfold Mt.chOk; simp only [Bool.and_assoc])
          have HL := Lib.hid (fun w => letter7_any x.code w)
          have HS := Lib.hid (fun w p hp => areSizes_any _ _ _ (ints_new .i64 w p hp [x.w, x.h, x.d] 2 (by simp)))
          generalize Ut.letter x.code = q at HE HL
          generalize [x.w, x.h, x.d].all Mt.amount = q2 at HE HS
          have HB2 := Lib.hid (below_step HB.out (below_step (below_alloc wr (.cells #[.int .i32 x.code, .int .i64 x.w, .int .i64 x.h, .int .i64 x.d] 38)) (below_alloc _ (.cells #[.int .i64 x.w, .int .i64 x.h, .int .i64 x.d] 2))))
          have HB1 := Lib.hid (below_step HB.out (below_alloc wr (.cells #[.int .i32 x.code, .int .i64 x.w, .int .i64 x.h, .int .i64 x.d] 38)))
          clear r1 e1 hx
          cases q with
          | false =>
            go_wp2_with fail
            refine (HL.out _).mono ?_
            rintro e w1 ⟨rfl, rfl⟩
            go_wp2
            go_ret
            rw [HE.out]
            exact ⟨rfl, HB1.out⟩
          | true =>
            cases q2 with
            | false =>
              go_wp2_with fail
              refine (HL.out _).mono ?_
              rintro e w1 ⟨rfl, rfl⟩
              go_wp2_with fail
              refine (HS.out _ _ (World.size_alloc _ _)).mono ?_
              rintro e w1 ⟨rfl, rfl⟩
              go_wp2
              go_ret
              rw [HE.out]
              exact ⟨rfl, HB2.out⟩
            | true =>
              go_wp2_with fail
              refine (HL.out _).mono ?_
              rintro e w1 ⟨rfl, rfl⟩
              go_wp2_with fail
              refine (HS.out _ _ (World.size_alloc _ _)).mono ?_
              rintro e w1 ⟨rfl, rfl⟩
              go_wp2
              go_roundw
              case rel => exact ⟨k + 1, by omega, by go_num, HB2, Lib.hid (by rw [HE.out]; rfl)⟩
              case measure => simp [intOf]; omega
        · have HE : Hid (r = true) := Lib.hid (HK.out.trans (all_end (by rw [← Hn.out]; omega)))
          go_wp2
          go_ret
          rw [HE.out]
          exact ⟨rfl, HB.out⟩
  · have g1 : (256 : Int) < (n : Int) := by omega
    rw [decide_eq_false hlen]
    go_enter Tryz.func35, Tryz.ntmps35
    go_wp2
    go_ret
    exact ⟨rfl, Below.refl _ _⟩

/-! ### known: are all of these codes those of letters of the table? -/
set_option maxHeartbeats 4000000 in
set_option maxRecDepth 100000 in
theorem known_any (p : Nat) (sw st sk so hy : Int) (pc pk pl : Option Addr) (na nb nc cc ck cl : Nat) (m : Mt.Tab) (v : Value) (xs : List Int) (w : World)
    (hl : Laid w p #[.int .i64 sw, .int .i64 st, .int .i64 sk, .int .i64 so, .int .i32 hy, .slice pc na cc, .slice pk nb ck, .slice pl nc cl])
    (hm : MetAt w (.agg #[.int .i64 sw, .int .i64 st, .int .i64 sk, .int .i64 so, .int .i32 hy, .slice pc na cc, .slice pk nb ck, .slice pl nc cl]) m) (h : IntsAt .i32 w v xs) :
    Calls Tryz.prog 33 #[v, .pointer (some ⟨p, 0, none⟩)] w (Ret (.bool (xs.all (Mt.has m))) w) := by
  have HL := Lib.hid hl
  have HM := Lib.hid hm
  have HA := Lib.hid h
  obtain ⟨⟨a, cp, rfl, hcap⟩, hm2, _⟩ := h
  have hza : xs.length ≤ 9223372036854775807 := by unfold maxLen at hm2; omega
  obtain ⟨n, hn⟩ : ∃ n, n = xs.length := ⟨_, rfl⟩
  have Hn := Lib.hid hn
  rw [← hn] at hza ⊢
  obtain ⟨r, hr⟩ : ∃ r, r = xs.all (Mt.has m) := ⟨_, rfl⟩
  have HR : Hid (r = (xs.drop 0).all (Mt.has m)) := Lib.hid hr
  rw [← hr]
  clear hr hn hm2 hcap hl hm
  go_enter Tryz.func33, Tryz.ntmps33
  go_wp2_with fail
  go_loopw [10] (fun iv wr => ∃ k : Nat, k ≤ n ∧ iv = .int .i64 k ∧ Hid (Below w.heap.size w wr) ∧ Hid (r = (xs.drop k).all (Mt.has m))) (fun iv _ => n - (intOf iv).toNat)
  case atStart => exact ⟨0, Nat.zero_le _, rfl, Lib.hid (Below.refl _ _), HR⟩
  case round =>
    obtain ⟨k, hk, rfl, HB, HK⟩ := hrel
    clear HR
    by_cases hlt : k < n
    · obtain ⟨b1, o1, d1, e1, r1⟩ := HA.out.2.2 (by rw [← Hn.out]; omega)
      obtain ⟨rfl, rfl⟩ : a = some ⟨b1, o1, none⟩ ∧ cp = d1 := by injection e1 with a1 a2 a3; exact ⟨a1, a3⟩
      obtain ⟨x, hx⟩ : ∃ x, xs[k]? = some x := ⟨_, List.getElem?_eq_getElem (by rw [← Hn.out]; exact hlt)⟩
      have z0 := cell_below HB.out (r1 k x hx)
      have k0 : (0 : Int) ≤ (k : Int) := by omega
      have kl : (k : Int) < (n : Int) := by omega
      have HE := Lib.hid (HK.out.trans (all_on hx))
      have HLr := HL.out.mono HB.out
      have y0 := HLr.at_ 0 _ rfl
      have y1 := HLr.at_ 1 _ rfl
      have y2 := HLr.at_ 2 _ rfl
      have y3 := HLr.at_ 3 _ rfl
      have y4 := HLr.at_ 4 _ rfl
      have y5 := HLr.at_ 5 _ rfl
      have y6 := HLr.at_ 6 _ rfl
      have y7 := HLr.at_ 7 _ rfl
      have HF := Lib.hid (find_any _ m x wr (HM.out.mono HB.out))
      have hR : Mt.has m x = (Mt.find m x).isSome := rfl
      rw [hR] at HE
      generalize Mt.find m x = f at HE HF
      clear r1 e1 hx HLr hR
      cases f with
      | none =>
        simp only [findV] at HF
        go_wp2_with fail
        refine HF.out.mono ?_
        rintro e w1 ⟨rfl, hb1⟩
        have HB1 := Lib.hid (below_step HB.out (below_step hb1 (below_alloc w1 (.cells #[.int .i32 0, .int .i64 0, .int .i64 0, .int .i64 0] 38))))
        clear hb1
        go_wp2
        go_ret
        rw [HE.out]
        exact ⟨rfl, HB1.out⟩
      | some c =>
        simp only [findV] at HF
        go_wp2_with fail
        refine HF.out.mono ?_
        rintro e w1 ⟨rfl, hb1⟩
        have HB1 := Lib.hid (below_step HB.out (below_step hb1 (below_alloc w1 (.cells #[.int .i32 c.code, .int .i64 c.w, .int .i64 c.h, .int .i64 c.d] 38))))
        clear hb1
        go_wp2
        go_roundw
        case rel => exact ⟨k + 1, by omega, by go_num, HB1, Lib.hid (by rw [HE.out]; rfl)⟩
        case measure => simp [intOf]; omega
    · have HE : Hid (r = true) := Lib.hid (HK.out.trans (all_end (by rw [← Hn.out]; omega)))
      go_wp2
      go_ret
      rw [HE.out]
      exact ⟨rfl, HB.out⟩
theorem eg_known : ∀ args w, (callFunc 33 args).run Tryz.prog w = .ok (.enter 33 args) w := enters_of Tryz.func33 (by kernel_rfl) rfl


set_option maxHeartbeats 4000000 in
set_option maxRecDepth 100000 in
theorem kns_any (p : Nat) (sw st sk so hy : Int) (pc pk pl : Option Addr) (na nb nc cc ck cl : Nat) (m : Mt.Tab) (v : Value) (l : List Mt.Kn) (w : World) (hl : Laid w p #[.int .i64 sw, .int .i64 st, .int .i64 sk, .int .i64 so, .int .i32 hy, .slice pc na cc, .slice pk nb ck, .slice pl nc cl]) (hm : MetAt w (.agg #[.int .i64 sw, .int .i64 st, .int .i64 sk, .int .i64 so, .int .i32 hy, .slice pc na cc, .slice pk nb ck, .slice pl nc cl]) m) (h : SlcAt knC 3 w v l) :
    Calls Tryz.prog 36 #[v, .func (.func 33) #[] #[.pointer (some ⟨p, 0, none⟩)]] w (Ret (.bool (decide (l.length ≤ 1000) && Mt.up (fun x y => Mt.rises x.a x.b y.a y.b) l && l.all (Mt.knOk m))) w) := by
  have eg := eg_known
  have HLd := Lib.hid hl
  have HMt := Lib.hid hm
  have HA := Lib.hid h
  have HU := Lib.hid (ascend_kn v l w h)
  obtain ⟨⟨a, cp, rfl, hcap⟩, hm2, _⟩ := h
  have hza : l.length ≤ 9223372036854775807 := by unfold maxLen at hm2; omega
  obtain ⟨n, hn⟩ : ∃ n, n = l.length := ⟨_, rfl⟩
  have Hn := Lib.hid hn
  rw [← hn] at hza HU ⊢
  generalize Mt.up (fun x y : Mt.Kn => Mt.rises x.a x.b y.a y.b) l = u at HU ⊢
  obtain ⟨r, hr⟩ : ∃ r, r = l.all (Mt.knOk m) := ⟨_, rfl⟩
  have HR : Hid (r = (l.drop 0).all (Mt.knOk m)) := Lib.hid hr
  rw [← hr]
  clear hr hn hm2 hcap hl hm
  by_cases hlen : n ≤ 1000
  · have g1 : ¬ ((1000 : Int) < (n : Int)) := by omega
    rw [decide_eq_true hlen]
    clear hlen
    cases u with
    | false =>
      go_enter Tryz.func36, Tryz.ntmps36
      go_wp2_with fail
      refine HU.out.mono ?_
      rintro e w1 ⟨rfl, hb1⟩
      have HB1 := Lib.hid hb1
      clear hb1
      go_wp2
      go_ret
      exact ⟨rfl, HB1.out⟩
    | true =>
      go_enter Tryz.func36, Tryz.ntmps36
      go_wp2_with fail
      refine HU.out.mono ?_
      rintro e w1 ⟨rfl, hb1⟩
      have HB1 := Lib.hid hb1
      clear hb1
      go_wp2_with fail
      go_loopw [17] (fun iv wr => ∃ k : Nat, k ≤ n ∧ iv = .int .i64 k ∧ Hid (Below w.heap.size w wr) ∧ Hid (r = (l.drop k).all (Mt.knOk m))) (fun iv _ => n - (intOf iv).toNat)
      case atStart => exact ⟨0, Nat.zero_le _, rfl, HB1, HR⟩
      case round =>
        obtain ⟨k, hk, rfl, HB, HK⟩ := hrel
        clear HR HB1
        by_cases hlt : k < n
        · obtain ⟨b1, o1, d1, e1, r1⟩ := HA.out.2.2 (by rw [← Hn.out]; omega)
          obtain ⟨rfl, rfl⟩ : a = some ⟨b1, o1, none⟩ ∧ cp = d1 := by injection e1 with a1 a2 a3; exact ⟨a1, a3⟩
          obtain ⟨x, hx⟩ : ∃ x, l[k]? = some x := ⟨_, List.getElem?_eq_getElem (by rw [← Hn.out]; exact hlt)⟩
          obtain ⟨y0, y1, y2⟩ := kn_cells ((r1 k x hx).mono HB.out)
          have k0 : (0 : Int) ≤ (k : Int) := by omega
          have kl : (k : Int) < (n : Int) := by omega
          have HE : Hid (r = (([x.a, x.b].all (Mt.has m) && Sc.fits x.w) && (l.drop (k + 1)).all (Mt.knOk m))) := Lib.hid (by rw [HK.out, all_on hx]; unfold Mt.knOk; simp only [List.all_cons, List.all_nil, Bool.and_true, Bool.and_assoc])
          have HS := Lib.hid (fun w1 q (hq : w1.heap.size = q) (hb : Below w.heap.size w w1) => known_any p sw st sk so hy pc pk pl na nb nc cc ck cl m _ _ _ ((HLd.out.mono hb).mono (below_alloc w1 _)) ((HMt.out.mono hb).mono (below_alloc w1 _)) (ints_new .i32 w1 q hq [x.a, x.b] 21 (by simp)))
          generalize [x.a, x.b].all (Mt.has m) = q at HE HS
          have HB1 := Lib.hid (below_step HB.out (below_alloc wr (.cells #[.int .i32 x.a, .int .i32 x.b, .int .i64 x.w] 52)))
          have HBx := Lib.hid (below_step HB1.out (below_alloc _ (.cells #[.int .i32 x.a, .int .i32 x.b] 21)))
          have HT : Hid (((wr.alloc (.cells #[.int .i32 x.a, .int .i32 x.b, .int .i64 x.w] 52)).alloc (.cells #[.int .i32 x.a, .int .i32 x.b] 21)).cell? ⟨wr.heap.size, 2, none⟩ = some (.int .i64 x.w)) := Lib.hid (cell_below (below_alloc _ _) (cell_lay wr _ _ 2 _ rfl))
          clear r1 e1 hx
          cases q with
          | false =>
            go_wp2_with fail
            refine (HS.out _ _ (World.size_alloc _ _) HB1.out).mono ?_
            rintro e w1 ⟨rfl, hb1⟩
            have HB2 := Lib.hid (below_step HBx.out hb1)
            clear hb1
            go_wp2
            go_ret
            rw [HE.out]
            exact ⟨rfl, HB2.out⟩
          | true =>
            cases hf : Sc.fits x.w with
            | false =>
              have HF := Lib.hid (fun w => fits_any x.w false hf w)
              rw [hf] at HE
              clear hf
              go_wp2_with fail
              refine (HS.out _ _ (World.size_alloc _ _) HB1.out).mono ?_
              rintro e w1 ⟨rfl, hb1⟩
              have HB2 := Lib.hid (below_step HBx.out hb1)
              have t2 := cell_below hb1 HT.out
              clear hb1
              go_wp2_with fail
              refine (HF.out _).mono ?_
              rintro e w2 ⟨rfl, rfl⟩
              go_wp2
              go_ret
              rw [HE.out]
              exact ⟨rfl, HB2.out⟩
            | true =>
              have HF := Lib.hid (fun w => fits_any x.w true hf w)
              rw [hf] at HE
              clear hf
              go_wp2_with fail
              refine (HS.out _ _ (World.size_alloc _ _) HB1.out).mono ?_
              rintro e w1 ⟨rfl, hb1⟩
              have HB2 := Lib.hid (below_step HBx.out hb1)
              have t2 := cell_below hb1 HT.out
              clear hb1
              go_wp2_with fail
              refine (HF.out _).mono ?_
              rintro e w2 ⟨rfl, rfl⟩
              go_wp2
              go_roundw
              case rel => exact ⟨k + 1, by omega, by go_num, HB2, Lib.hid (by rw [HE.out]; rfl)⟩
              case measure => simp [intOf]; omega
        · have HE : Hid (r = true) := Lib.hid (HK.out.trans (all_end (by rw [← Hn.out]; omega)))
          go_wp2
          go_ret
          rw [HE.out]
          exact ⟨rfl, HB.out⟩
  · have g1 : (1000 : Int) < (n : Int) := by omega
    rw [decide_eq_false hlen]
    go_enter Tryz.func36, Tryz.ntmps36
    go_wp2
    go_ret
    exact ⟨rfl, Below.refl _ _⟩


set_option maxHeartbeats 4000000 in
set_option maxRecDepth 100000 in
theorem lgs_any (p : Nat) (sw st sk so hy : Int) (pc pk pl : Option Addr) (na nb nc cc ck cl : Nat) (m : Mt.Tab) (v : Value) (l : List Mt.Lg) (w : World) (hl : Laid w p #[.int .i64 sw, .int .i64 st, .int .i64 sk, .int .i64 so, .int .i32 hy, .slice pc na cc, .slice pk nb ck, .slice pl nc cl]) (hm : MetAt w (.agg #[.int .i64 sw, .int .i64 st, .int .i64 sk, .int .i64 so, .int .i32 hy, .slice pc na cc, .slice pk nb ck, .slice pl nc cl]) m) (h : SlcAt lgC 3 w v l) :
    Calls Tryz.prog 37 #[v, .func (.func 33) #[] #[.pointer (some ⟨p, 0, none⟩)]] w (Ret (.bool (decide (l.length ≤ 1000) && Mt.up (fun x y => Mt.rises x.a x.b y.a y.b) l && l.all (Mt.lgOk m))) w) := by
  have eg := eg_known
  have HLd := Lib.hid hl
  have HMt := Lib.hid hm
  have HA := Lib.hid h
  have HU := Lib.hid (ascend_lg v l w h)
  obtain ⟨⟨a, cp, rfl, hcap⟩, hm2, _⟩ := h
  have hza : l.length ≤ 9223372036854775807 := by unfold maxLen at hm2; omega
  obtain ⟨n, hn⟩ : ∃ n, n = l.length := ⟨_, rfl⟩
  have Hn := Lib.hid hn
  rw [← hn] at hza HU ⊢
  generalize Mt.up (fun x y : Mt.Lg => Mt.rises x.a x.b y.a y.b) l = u at HU ⊢
  obtain ⟨r, hr⟩ : ∃ r, r = l.all (Mt.lgOk m) := ⟨_, rfl⟩
  have HR : Hid (r = (l.drop 0).all (Mt.lgOk m)) := Lib.hid hr
  rw [← hr]
  clear hr hn hm2 hcap hl hm
  by_cases hlen : n ≤ 1000
  · have g1 : ¬ ((1000 : Int) < (n : Int)) := by omega
    rw [decide_eq_true hlen]
    clear hlen
    cases u with
    | false =>
      go_enter Tryz.func37, Tryz.ntmps37
      go_wp2_with fail
      refine HU.out.mono ?_
      rintro e w1 ⟨rfl, hb1⟩
      have HB1 := Lib.hid hb1
      clear hb1
      go_wp2
      go_ret
      exact ⟨rfl, HB1.out⟩
    | true =>
      go_enter Tryz.func37, Tryz.ntmps37
      go_wp2_with fail
      refine HU.out.mono ?_
      rintro e w1 ⟨rfl, hb1⟩
      have HB1 := Lib.hid hb1
      clear hb1
      go_wp2_with fail
      go_loopw [17] (fun iv wr => ∃ k : Nat, k ≤ n ∧ iv = .int .i64 k ∧ Hid (Below w.heap.size w wr) ∧ Hid (r = (l.drop k).all (Mt.lgOk m))) (fun iv _ => n - (intOf iv).toNat)
      case atStart => exact ⟨0, Nat.zero_le _, rfl, HB1, HR⟩
      case round =>
        obtain ⟨k, hk, rfl, HB, HK⟩ := hrel
        clear HR HB1
        by_cases hlt : k < n
        · obtain ⟨b1, o1, d1, e1, r1⟩ := HA.out.2.2 (by rw [← Hn.out]; omega)
          obtain ⟨rfl, rfl⟩ : a = some ⟨b1, o1, none⟩ ∧ cp = d1 := by injection e1 with a1 a2 a3; exact ⟨a1, a3⟩
          obtain ⟨x, hx⟩ : ∃ x, l[k]? = some x := ⟨_, List.getElem?_eq_getElem (by rw [← Hn.out]; exact hlt)⟩
          obtain ⟨y0, y1, y2⟩ := lg_cells ((r1 k x hx).mono HB.out)
          have k0 : (0 : Int) ≤ (k : Int) := by omega
          have kl : (k : Int) < (n : Int) := by omega
          have HE : Hid (r = ([x.a, x.b, x.to].all (Mt.has m) && (l.drop (k + 1)).all (Mt.lgOk m))) := Lib.hid (by rw [HK.out, all_on hx]; unfold Mt.lgOk; simp only [List.all_cons, List.all_nil, Bool.and_true, Bool.and_assoc])
          have HS := Lib.hid (fun w1 q (hq : w1.heap.size = q) (hb : Below w.heap.size w w1) => known_any p sw st sk so hy pc pk pl na nb nc cc ck cl m _ _ _ ((HLd.out.mono hb).mono (below_alloc w1 _)) ((HMt.out.mono hb).mono (below_alloc w1 _)) (ints_new .i32 w1 q hq [x.a, x.b, x.to] 21 (by simp)))
          generalize [x.a, x.b, x.to].all (Mt.has m) = q at HE HS
          have HB1 := Lib.hid (below_step HB.out (below_alloc wr (.cells #[.int .i32 x.a, .int .i32 x.b, .int .i32 x.to] 54)))
          have HBx := Lib.hid (below_step HB1.out (below_alloc _ (.cells #[.int .i32 x.a, .int .i32 x.b, .int .i32 x.to] 21)))
          have HT : Hid (((wr.alloc (.cells #[.int .i32 x.a, .int .i32 x.b, .int .i32 x.to] 54)).alloc (.cells #[.int .i32 x.a, .int .i32 x.b, .int .i32 x.to] 21)).cell? ⟨wr.heap.size, 2, none⟩ = some (.int .i32 x.to)) := Lib.hid (cell_below (below_alloc _ _) (cell_lay wr _ _ 2 _ rfl))
          clear r1 e1 hx
          cases q with
          | false =>
            go_wp2_with fail
            refine (HS.out _ _ (World.size_alloc _ _) HB1.out).mono ?_
            rintro e w1 ⟨rfl, hb1⟩
            have HB2 := Lib.hid (below_step HBx.out hb1)
            clear hb1
            go_wp2
            go_ret
            rw [HE.out]
            exact ⟨rfl, HB2.out⟩
          | true =>
            go_wp2_with fail
            refine (HS.out _ _ (World.size_alloc _ _) HB1.out).mono ?_
            rintro e w1 ⟨rfl, hb1⟩
            have HB2 := Lib.hid (below_step HBx.out hb1)
            clear hb1
            go_wp2
            go_roundw
            case rel => exact ⟨k + 1, by omega, by go_num, HB2, Lib.hid (by rw [HE.out]; rfl)⟩
            case measure => simp [intOf]; omega
        · have HE : Hid (r = true) := Lib.hid (HK.out.trans (all_end (by rw [← Hn.out]; omega)))
          go_wp2
          go_ret
          rw [HE.out]
          exact ⟨rfl, HB.out⟩
  · have g1 : (1000 : Int) < (n : Int) := by omega
    rw [decide_eq_false hlen]
    go_enter Tryz.func37, Tryz.ntmps37
    go_wp2
    go_ret
    exact ⟨rfl, Below.refl _ _⟩


set_option maxHeartbeats 8000000 in
set_option maxRecDepth 100000 in
theorem check_any (v : Value) (m : Mt.Tab) (w : World) (h : MetAt w v m) : Calls Tryz.prog 16 #[v] w (Ret (.int .i64 (if Mt.may m then 0 else 71)) w) := by
  have hmf := mkf
  have eg := eg_known
  have hmet := h
  obtain ⟨R, hord⟩ : ∃ R : Int, R = if Mt.may m then 0 else 71 := ⟨_, rfl⟩
  rw [← hord]
  rw [may_order m] at hord
  obtain ⟨cv, kv, lv, rfl, a1, b1, c1⟩ := hmet
  have HC0 := Lib.hid (fun v w h => chars_any v m.chars w h)
  have HA := Lib.hid (a1.mono (below_alloc w (.cells #[.int .i64 m.sw, .int .i64 m.st, .int .i64 m.sk, .int .i64 m.order, .int .i32 m.hyph, cv, kv, lv] 28)))
  have HK := Lib.hid (b1.mono (below_alloc w (.cells #[.int .i64 m.sw, .int .i64 m.st, .int .i64 m.sk, .int .i64 m.order, .int .i32 m.hyph, cv, kv, lv] 28)))
  have HG := Lib.hid (c1.mono (below_alloc w (.cells #[.int .i64 m.sw, .int .i64 m.st, .int .i64 m.sk, .int .i64 m.order, .int .i32 m.hyph, cv, kv, lv] 28)))
  obtain ⟨⟨pc, cc, rfl, _⟩, _, _⟩ := a1
  obtain ⟨⟨pk, ck, rfl, _⟩, _, _⟩ := b1
  obtain ⟨⟨pl, cl, rfl, _⟩, _, _⟩ := c1
  unfold metV at h ⊢
  have HKn := Lib.hid (fun p na nb nc v w hl hm h => kns_any p m.sw m.st m.sk m.order m.hyph pc pk pl na nb nc cc ck cl m v m.kerns w hl hm h)
  have HLg := Lib.hid (fun p na nb nc v w hl hm h => lgs_any p m.sw m.st m.sk m.order m.hyph pc pk pl na nb nc cc ck cl m v m.ligs w hl hm h)
  have HSp := Lib.hid (fun w => space_any m.sw m.st m.sk m.order w)
  have HHy := Lib.hid (fun p na nb nc w q hq hl hm => known_any p m.sw m.st m.sk m.order m.hyph pc pk pl na nb nc cc ck cl m _ _ _ hl hm (ints_new .i32 w q hq [m.hyph] 21 (by simp)))
  have hh : [m.hyph].all (Mt.has m) = Mt.has m m.hyph := by simp
  rw [hh] at HHy
  generalize (decide (m.order = 0) && (Mt.amount m.sw && Mt.amount m.st && Mt.amount m.sk)) = S at hord HSp
  generalize (decide (m.chars.length ≤ 256) && Mt.up (fun a b => decide (a.code < b.code)) m.chars && m.chars.all Mt.chOk) = C at hord HC0
  generalize Mt.has m m.hyph = Y at hord HHy
  generalize (decide (m.kerns.length ≤ 1000) && Mt.up (fun a b => Mt.rises a.a a.b b.a b.b) m.kerns && m.kerns.all (Mt.knOk m)) = K at hord HKn
  generalize (decide (m.ligs.length ≤ 1000) && Mt.up (fun a b => Mt.rises a.a a.b b.a b.b) m.ligs && m.ligs.all (Mt.lgOk m)) = G at hord HLg
  have HOrd := Lib.hid hord
  generalize m.chars.length = na at h ⊢ HA HK HG
  generalize m.kerns.length = nb at h ⊢ HA HK HG
  generalize m.ligs.length = nc at h ⊢ HA HK HG
  generalize m.sw = sw at h ⊢ HA HK HG HKn HLg HSp HHy
  generalize m.st = st at h ⊢ HA HK HG HKn HLg HSp HHy
  generalize m.sk = sk at h ⊢ HA HK HG HKn HLg HSp HHy
  generalize m.order = so at h ⊢ HA HK HG HKn HLg HSp HHy
  generalize m.hyph = hy at h ⊢ HA HK HG HKn HLg HSp HHy
  have HM := Lib.hid (h.mono (below_alloc w (.cells #[.int .i64 sw, .int .i64 st, .int .i64 sk, .int .i64 so, .int .i32 hy, .slice pc na cc, .slice pk nb ck, .slice pl nc cl] 28)))
  have HL := Lib.hid (laid_one w #[.int .i64 sw, .int .i64 st, .int .i64 sk, .int .i64 so, .int .i32 hy, .slice pc na cc, .slice pk nb ck, .slice pl nc cl] 28)
  have HB := Lib.hid (below_alloc w (.cells #[.int .i64 sw, .int .i64 st, .int .i64 sk, .int .i64 so, .int .i32 hy, .slice pc na cc, .slice pk nb ck, .slice pl nc cl] 28))
  clear h hh hord
  go_enter Tryz.func16, Tryz.ntmps16
  have y0 := HL.out.at_ 0 _ rfl
  have y1 := HL.out.at_ 1 _ rfl
  have y2 := HL.out.at_ 2 _ rfl
  have y3 := HL.out.at_ 3 _ rfl
  have y4 := HL.out.at_ 4 _ rfl
  have y5 := HL.out.at_ 5 _ rfl
  have y6 := HL.out.at_ 6 _ rfl
  have y7 := HL.out.at_ 7 _ rfl
  go_wp2_with fail
  refine (HSp.out _).mono ?_
  rintro e w1 ⟨rfl, hb1⟩
  clear y0 y1 y2 y3 y4 y5 y6 y7
  have HB := Lib.hid (below_step HB.out hb1)
  have HL := Lib.hid (HL.out.mono hb1)
  have HM := Lib.hid (HM.out.mono hb1)
  have HA := Lib.hid (HA.out.mono hb1)
  have HK := Lib.hid (HK.out.mono hb1)
  have HG := Lib.hid (HG.out.mono hb1)
  clear hb1
  cases S with
  | false =>
    go_wp2
    go_ret
    exact ⟨by rw [HOrd.out]; rfl, HB.out⟩
  | true =>
    have y0 := HL.out.at_ 0 _ rfl
    have y1 := HL.out.at_ 1 _ rfl
    have y2 := HL.out.at_ 2 _ rfl
    have y3 := HL.out.at_ 3 _ rfl
    have y4 := HL.out.at_ 4 _ rfl
    have y5 := HL.out.at_ 5 _ rfl
    have y6 := HL.out.at_ 6 _ rfl
    have y7 := HL.out.at_ 7 _ rfl
    go_wp2_with fail
    refine (HC0.out _ _ HA.out).mono ?_
    rintro e w2 ⟨rfl, hb1⟩
    clear y0 y1 y2 y3 y4 y5 y6 y7
    have HB := Lib.hid (below_step HB.out hb1)
    have HL := Lib.hid (HL.out.mono hb1)
    have HM := Lib.hid (HM.out.mono hb1)
    have HA := Lib.hid (HA.out.mono hb1)
    have HK := Lib.hid (HK.out.mono hb1)
    have HG := Lib.hid (HG.out.mono hb1)
    clear hb1
    cases C with
    | false =>
      go_wp2
      go_ret
      exact ⟨by rw [HOrd.out]; rfl, HB.out⟩
    | true =>
      have y0 := HL.out.at_ 0 _ rfl
      have y1 := HL.out.at_ 1 _ rfl
      have y2 := HL.out.at_ 2 _ rfl
      have y3 := HL.out.at_ 3 _ rfl
      have y4 := HL.out.at_ 4 _ rfl
      have y5 := HL.out.at_ 5 _ rfl
      have y6 := HL.out.at_ 6 _ rfl
      have y7 := HL.out.at_ 7 _ rfl
      go_wp2_with fail
      refine (HHy.out _ _ _ _ _ _ rfl (HL.out.mono (below_alloc w2 _)) (HM.out.mono (below_alloc w2 _))).mono ?_
      intro e w3 hr
      obtain ⟨rfl, hb0⟩ := hr
      have hb1 := below_step (below_alloc w2 (.cells #[.int .i32 hy] 21)) hb0
      clear hb0 y0 y1 y2 y3 y4 y5 y6 y7
      have HB := Lib.hid (below_step HB.out hb1)
      have HL := Lib.hid (HL.out.mono hb1)
      have HM := Lib.hid (HM.out.mono hb1)
      have HA := Lib.hid (HA.out.mono hb1)
      have HK := Lib.hid (HK.out.mono hb1)
      have HG := Lib.hid (HG.out.mono hb1)
      clear hb1
      cases Y with
      | false =>
        go_wp2
        go_ret
        exact ⟨by rw [HOrd.out]; rfl, HB.out⟩
      | true =>
        have y0 := HL.out.at_ 0 _ rfl
        have y1 := HL.out.at_ 1 _ rfl
        have y2 := HL.out.at_ 2 _ rfl
        have y3 := HL.out.at_ 3 _ rfl
        have y4 := HL.out.at_ 4 _ rfl
        have y5 := HL.out.at_ 5 _ rfl
        have y6 := HL.out.at_ 6 _ rfl
        have y7 := HL.out.at_ 7 _ rfl
        go_wp2_with fail
        refine (HKn.out _ _ _ _ _ _ HL.out HM.out HK.out).mono ?_
        rintro e w4 ⟨rfl, hb1⟩
        clear y0 y1 y2 y3 y4 y5 y6 y7
        have HB := Lib.hid (below_step HB.out hb1)
        have HL := Lib.hid (HL.out.mono hb1)
        have HM := Lib.hid (HM.out.mono hb1)
        have HA := Lib.hid (HA.out.mono hb1)
        have HK := Lib.hid (HK.out.mono hb1)
        have HG := Lib.hid (HG.out.mono hb1)
        clear hb1
        cases K with
        | false =>
          go_wp2
          go_ret
          exact ⟨by rw [HOrd.out]; rfl, HB.out⟩
        | true =>
          have y0 := HL.out.at_ 0 _ rfl
          have y1 := HL.out.at_ 1 _ rfl
          have y2 := HL.out.at_ 2 _ rfl
          have y3 := HL.out.at_ 3 _ rfl
          have y4 := HL.out.at_ 4 _ rfl
          have y5 := HL.out.at_ 5 _ rfl
          have y6 := HL.out.at_ 6 _ rfl
          have y7 := HL.out.at_ 7 _ rfl
          go_wp2_with fail
          refine (HLg.out _ _ _ _ _ _ HL.out HM.out HG.out).mono ?_
          rintro e w5 ⟨rfl, hb1⟩
          clear y0 y1 y2 y3 y4 y5 y6 y7
          have HB := Lib.hid (below_step HB.out hb1)
          have HL := Lib.hid (HL.out.mono hb1)
          have HM := Lib.hid (HM.out.mono hb1)
          have HA := Lib.hid (HA.out.mono hb1)
          have HK := Lib.hid (HK.out.mono hb1)
          have HG := Lib.hid (HG.out.mono hb1)
          clear hb1
          cases G with
          | false =>
            go_wp2
            go_ret
            exact ⟨by rw [HOrd.out]; rfl, HB.out⟩
          | true =>
            go_wp2
            go_ret
            exact ⟨by rw [HOrd.out]; rfl, HB.out⟩

end Go.Proofs.YtmehldekebphfaaGreatDoor
