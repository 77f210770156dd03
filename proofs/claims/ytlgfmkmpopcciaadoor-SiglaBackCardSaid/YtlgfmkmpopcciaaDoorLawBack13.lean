/-
  The law SiglaBack: keys are expanded from what they are compacted to: each once, in the table's order; and compacted again they are the same.
-/
import Derived.Test.YtlgfmkmpopcciaaDoorLawKept13
import Derived.Test.YtlgfmkmpopcciaaDoorLawAll13
import Derived.Test.YtlgfmkmpopcciaaDoorRefKey13
import Derived.Test.YtlgfmkmpopcciaaDoorComp13
import Derived.Deep.RegionHeld3
set_option linter.unusedVariables false
set_option linter.unusedSimpArgs false
namespace Go.Proofs.YtlgfmkmpopcciaaDoor
open Go.RowKit

/-- the place of a text in a list, or -1 -/
def asSig (l : List (List UInt8)) : List Sg.Sig := l.map fun k => ⟨k, []⟩
def place13 (l : List (List UInt8)) (s : List UInt8) : Int := Sg.find (asSig l) s
theorem place_neg {l : List (List UInt8)} {s : List UInt8} : place13 l s < 0 ↔ s ∉ l := by
  unfold place13
  rw [Sg.find_neg]
  have : Sg.keys (asSig l) = l := by unfold Sg.keys asSig; rw [List.map_map]; simp [Function.comp_def]
  rw [this]
theorem place_here {l : List (List UInt8)} {k : Nat} {x s : List UInt8} (hx : l[k]? = some x) (h : ∀ y ∈ l.take k, y ≠ s) (he : x = s) : place13 l s = (k : Int) := by
  refine find_here (x := ⟨x, []⟩) (by unfold asSig; rw [List.getElem?_map, hx]; rfl) (fun y hy => ?_) he
  unfold asSig at hy
  rw [← List.map_take] at hy
  obtain ⟨z, hz, rfl⟩ := List.mem_map.1 hy
  exact h z hz
theorem place_miss {l : List (List UInt8)} {s : List UInt8} (h : ∀ y ∈ l, y ≠ s) : place13 l s = -1 := by
  refine find_miss fun y hy => ?_
  unfold asSig at hy
  obtain ⟨z, hz, rfl⟩ := List.mem_map.1 hy
  exact h z hz
set_option maxHeartbeats 4000000 in
set_option maxRecDepth 100000 in
theorem at_any (v : Value) (l : List (List UInt8)) (s : List UInt8) (w : World) (h : TxsAt w v l) : Calls Tryd.prog 24 #[v, .string (str s)] w (Is (.int .i64 (place13 l s)) w) := by
  have HA := Lib.hid h
  obtain ⟨⟨a, cp, rfl, hcap⟩, hm, _⟩ := h
  have hza : l.length ≤ 9223372036854775807 := by unfold maxLen at hm; omega
  obtain ⟨n, hn⟩ : ∃ n, n = l.length := ⟨_, rfl⟩
  have Hn := Lib.hid hn
  obtain ⟨q, hq⟩ : ∃ q, q = place13 l s := ⟨_, rfl⟩
  have HQ := Lib.hid hq
  rw [← hn] at hza ⊢
  rw [← hq]
  clear hn hm hcap hq
  have H0 : Hid (∀ y ∈ l.take 0, y ≠ s) := Lib.hid (by simp)
  go_enter Tryd.func24, Tryd.ntmps24
  go_wp2_with fail
  go_loopw [5] (fun iv wr => ∃ k : Nat, k ≤ n ∧ iv = .int .i64 k ∧ Hid (∀ y ∈ l.take k, y ≠ s) ∧ wr = w) (fun iv _ => n - (intOf iv).toNat)
  case atStart => exact ⟨0, Nat.zero_le _, rfl, H0, rfl⟩
  case round =>
    obtain ⟨k, hk, rfl, HT, rfl⟩ := hrel
    clear H0
    by_cases hlt : k < n
    · obtain ⟨b1, o1, d1, e1, r1⟩ := HA.out.2.2 (by rw [← Hn.out]; omega)
      obtain ⟨rfl, rfl⟩ : a = some ⟨b1, o1, none⟩ ∧ cp = d1 := by injection e1 with a1 a2 a3; exact ⟨a1, a3⟩
      obtain ⟨x, hx⟩ : ∃ x, l[k]? = some x := ⟨_, List.getElem?_eq_getElem (by rw [← Hn.out]; exact hlt)⟩
      have y0 := tx_cells (r1 k x hx)
      rw [Nat.mul_one] at y0
      have k0 : (0 : Int) ≤ (k : Int) := by omega
      have kl : (k : Int) < (n : Int) := by omega
      by_cases he : x = s
      · have HE : Hid (q = (k : Int)) := Lib.hid (HQ.out.trans (place_here hx HT.out he))
        rw [he] at y0
        clear r1 e1 hx he
        go_wp2
        go_ret
        rw [HE.out]
        exact ⟨rfl, rfl⟩
      · have HN : Hid (∀ y ∈ l.take (k + 1), y ≠ s) := Lib.hid (fun y hy => by
          rw [It.take_snoc hx] at hy
          rcases List.mem_append.1 hy with hy | hy
          · exact HT.out y hy
          · simp at hy; subst hy; exact he)
        have hb := toL_no13 he
        clear r1 e1 hx he
        go_wp2
        go_roundw
        case rel => exact ⟨k + 1, by omega, by go_num, HN, by first | trivial | rfl⟩
        case measure => simp [intOf]; omega
    · have HE : Hid (q = -1) := Lib.hid (HQ.out.trans (place_miss (by have := HT.out; rwa [List.take_of_length_le (by rw [← Hn.out]; omega)] at this)))
      go_wp2
      go_ret
      rw [HE.out]
      exact ⟨rfl, rfl⟩
theorem compact_fault13 {t : List Sg.Sig} {sel : List (List UInt8)} {c : List UInt8} {k z : Int} (h : Sg.compact t sel = (c, k, z)) (hk : k ≠ 0) : c = [] := by
  unfold Sg.compact at h
  split at h
  · injection h with h1 _; exact h1.symm
  · split at h
    · injection h with h1 _; exact h1.symm
    · injection h with h1 h2; injection h2 with h2 _; exact absurd h2.symm hk
theorem join_len (ws : List (List UInt8)) (h : ∀ w ∈ ws, w.length ≤ 20) : (Mt.join 32 ws).length ≤ 21 * ws.length := by
  have := spaced_len ws h
  cases ws with
  | nil => simp [Mt.join]
  | cons w r => rw [spaced_join, List.length_cons] at this; omega
theorem compact_len {t : List Sg.Sig} {sel : List (List UInt8)} {c : List UInt8} {z : Int} (h : Sg.compact t sel = (c, 0, z)) : c.length ≤ 2100 := by
  obtain ⟨hm, _, rfl, _⟩ := Sg.compact_some h
  obtain ⟨h1, h2, _⟩ := Sg.may_yes hm
  have hk : ∀ k ∈ Sg.keys t, k.length ≤ 8 := fun k hk => by
    unfold Sg.keys at hk
    obtain ⟨x, hx, rfl⟩ := List.mem_map.1 hk
    exact key_small hm hx
  have hw := comp_words (fun k => decide (k ∈ sel)) (Sg.keys t) [] (by simp) hk
  have hj := join_len _ hw.2
  have hl : (Sg.keys t).length = t.length := by unfold Sg.keys; rw [List.length_map]
  have h3 := hw.1
  rw [List.length_nil] at h3
  exact Nat.le_trans hj (by omega)
/-- in a table's order keys rise -/
theorem keys_rise {t : List Sg.Sig} (hn : (Sg.keys t).Nodup) : (Sg.keys t).Pairwise (fun a b => Sg.find t a < Sg.find t b) := by
  rw [List.pairwise_iff_getElem]
  intro i j hi hj hij
  rw [Sg.find_at hn (List.getElem?_eq_getElem hi), Sg.find_at hn (List.getElem?_eq_getElem hj)]
  omega
theorem rise_at {t : List Sg.Sig} (hn : (Sg.keys t).Nodup) (P : List UInt8 → Bool) {j : Nat} {a b : List UInt8} (ha : ((Sg.keys t).filter P)[j]? = some a) (hb : ((Sg.keys t).filter P)[j + 1]? = some b) : Sg.find t a < Sg.find t b := by
  have h := (keys_rise hn).filter P
  rw [List.pairwise_iff_getElem] at h
  obtain ⟨h1, h2⟩ := List.getElem?_eq_some_iff.1 ha
  obtain ⟨h3, h4⟩ := List.getElem?_eq_some_iff.1 hb
  have := h j (j + 1) h1 h3 (by omega)
  rwa [h2, h4] at this
theorem tx_slice {B : Nat} {v : Value} {l : List (List UInt8)} {w : World} (h : OwnTx B v l w) : ∃ a cap, v = .slice a l.length cap := by
  obtain ⟨⟨a, cap, e, _⟩, _⟩ := h.at txC_len
  exact ⟨a, cap, e⟩
set_option maxHeartbeats 8000000 in
set_option maxRecDepth 100000 in
theorem siglaBack_any (v kv : Value) (t : List Sg.Sig) (sel : List (List UInt8)) (m : Int) (w : World) (h : SgsAt w v t) (hs : SgSmall t) (hk : TxsAt w kv sel) (hks : TxSmall sel) (hm : w.cell? ⟨0, 0, none⟩ = some (.int .i64 m)) :
    Calls Tryd.prog 5 #[v, kv] w (Ret (.bool true) w) := by
  have HA := Lib.hid h
  have HKv := Lib.hid hk
  have HF := Lib.hid (fun wx (hb : Below w.heap.size w wx) => fixed_any m wx (cell_below hb hm))
  have HM := Lib.hid (fun wx (hb : Below w.heap.size w wx) => cell_below hb hm)
  have HC := Lib.hid (fun wx (hx : SgsAt wx v t) (hy : TxsAt wx kv sel) => compact_any v kv t sel wx hx hs hy hks)
  have HC2 := Lib.hid (fun kv2 L wx (hx : SgsAt wx v t) (hy : TxsAt wx kv2 L) hz => compact_any v kv2 t L wx hx hs hy hz)
  have HEx := Lib.hid (fun s wx (hx : SgsAt wx v t) hl hmm => expand_any v t s m wx hx hs hl hmm)
  have HFd := Lib.hid (fun k wx (hx : SgsAt wx v t) => find_any v t k wx hx)
  have HAt := Lib.hid (fun s wx (hx : TxsAt wx kv sel) => at_any kv sel s wx hx)
  obtain ⟨⟨a, cp, rfl, hcap⟩, hmx, hd1⟩ := h
  obtain ⟨⟨ka, kcp, rfl, hkcap⟩, hkm, hd2⟩ := hk
  clear hd1 hd2
  have hza : t.length ≤ 9223372036854775807 := by unfold maxLen at hmx; omega
  have hzb : sel.length ≤ 9223372036854775807 := by unfold maxLen at hkm; omega
  obtain ⟨n, hn⟩ : ∃ n, n = t.length := ⟨_, rfl⟩
  have Hn := Lib.hid hn
  obtain ⟨ns, hns⟩ : ∃ n, n = sel.length := ⟨_, rfl⟩
  have Hns := Lib.hid hns
  rw [← hn] at HA HC HC2 HEx HFd hza ⊢
  rw [← hns] at HKv HC HAt hzb ⊢
  obtain ⟨R, hR⟩ : ∃ R, R = Sg.compact t sel := ⟨_, rfl⟩
  unfold CompPost at HC HC2
  rw [← hR] at HC
  obtain ⟨C, cc, z⟩ := R
  simp only [flt] at HC
  have HR := Lib.hid hR
  clear hcap hmx hkcap hkm hm hs hks hn hns hR
  by_cases hlen : n ≤ 100
  · have g1 : ¬ ((100 : Int) < (n : Int)) := by omega
    by_cases hlen2 : ns ≤ 200
    · have g2 : ¬ ((200 : Int) < (ns : Int)) := by omega
      go_enter Tryd.func5, Tryd.ntmps5
      go_wp2_with fail
      refine (HF.out _ (Below.refl _ _)).mono ?_
      rintro e w1 ⟨rfl, hb⟩
      have HB := Lib.hid hb
      clear hb
      go_wp2_with fail
      refine (HC.out _ (SlcAt.mono HA.out HB.out) (SlcAt.mono HKv.out HB.out)).mono ?_
      rintro e w2 ⟨rfl, hb⟩
      replace HB := Lib.hid (below_step HB.out hb)
      clear hb
      have hb := below_alloc w2 (.cells #[.int .i64 cc, .int .i64 z] 26)
      have HO1 := Lib.hid (flt_obj w2 cc z)
      replace HB := Lib.hid (below_step HB.out hb)
      clear hb
      obtain ⟨q1, _⟩ := two_of13 HO1.out
      by_cases hcc : cc = 0
      · subst hcc
        obtain ⟨hmay, hsub, hCj, rfl⟩ := Sg.compact_some HR.out.symm
        obtain ⟨hex, hag⟩ := Sg.back HR.out.symm
        have hCl := compact_len HR.out.symm
        obtain ⟨L, hL⟩ : ∃ L, L = (Sg.keys t).filter (fun k => decide (k ∈ sel)) := ⟨_, rfl⟩
        rw [← hL] at hex hag
        have hnd := (Sg.may_yes hmay).2.2
        have HRise : Hid (∀ (j : Nat) (x y : List UInt8), L[j]? = some x → L[j + 1]? = some y → Sg.find t x < Sg.find t y) := Lib.hid (fun j x y hx hy => by rw [hL] at hx hy; exact rise_at hnd _ hx hy)
        have HIn1 : Hid (∀ x ∈ L, x ∈ sel) := Lib.hid (fun x hx => by rw [hL] at hx; simpa using (List.mem_filter.1 hx).2)
        have HIn2 : Hid (∀ x ∈ sel, x ∈ L) := Lib.hid (fun x hx => by rw [hL]; exact List.mem_filter.2 ⟨hsub x hx, by simpa using hx⟩)
        have hLs : TxSmall L := fun x hx => by
          rw [hL] at hx
          have h1 := (List.mem_filter.1 hx).1
          unfold Sg.keys at h1
          obtain ⟨y, hy, rfl⟩ := List.mem_map.1 h1
          have := key_small hmay hy
          omega
        have HLs := Lib.hid hLs
        have hLl : L.length ≤ 100 := by
          rw [hL]
          have := List.length_filter_le (fun k => decide (k ∈ sel)) (Sg.keys t)
          unfold Sg.keys at this
          rw [List.length_map] at this
          have := (Sg.may_yes hmay).1
          unfold Sg.keys
          omega
        have HE1 := HEx.out C
        unfold ExpPost at HE1
        rw [hex] at HE1
        simp only [flt] at HE1
        have HE1 := Lib.hid HE1
        have HG := HC2.out
        have HAg := Lib.hid hag
        clear hmay hsub hCj hex hag hL hnd hLs HG HEx
        go_wp2_with fail
        refine (HE1.out _ (SlcAt.mono HA.out HB.out) (by omega) (HM.out _ HB.out)).mono ?_
        rintro e w3 ⟨lv, rfl, ho, hb⟩
        replace HB := Lib.hid (below_step HB.out hb)
        have HL := Lib.hid (ho.at txC_len)
        have HC3 := Lib.hid (fun wx hx hy => HC2.out lv L wx hx hy HLs.out)
        rw [HAg.out] at HC3
        simp only [flt] at HC3
        have HAt2 := Lib.hid (fun s wx (hx : TxsAt wx lv L) => at_any lv L s wx hx)
        obtain ⟨la, ld, rfl⟩ := tx_slice ho
        obtain ⟨nl, hnl⟩ : ∃ n, n = L.length := ⟨_, rfl⟩
        have Hnl := Lib.hid hnl
        rw [← hnl] at HL HC3 HAt2 hLl ⊢
        clear hb ho hnl q1 HO1
        have hb := below_alloc w3 (.cells #[.int .i64 0, .int .i64 0] 26)
        have HO2 := Lib.hid (flt_obj w3 0 0)
        replace HB := Lib.hid (below_step HB.out hb)
        replace HL := Lib.hid (SlcAt.mono HL.out hb)
        clear hb
        go_wp2_with fail
        refine (HC3.out _ (SlcAt.mono HA.out HB.out) HL.out).mono ?_
        rintro e w4 ⟨rfl, hb⟩
        replace HB := Lib.hid (below_step HB.out hb)
        replace HL := Lib.hid (SlcAt.mono HL.out hb)
        replace HO2 := Lib.hid (HO2.out.mono hb)
        clear hb
        have hb := below_alloc w4 (.cells #[.int .i64 0, .int .i64 0] 26)
        have HO3 := Lib.hid (flt_obj w4 0 0)
        replace HB := Lib.hid (below_step HB.out hb)
        replace HL := Lib.hid (SlcAt.mono HL.out hb)
        obtain ⟨q2, _⟩ := two_of13 (HO2.out.mono hb)
        obtain ⟨q3, _⟩ := two_of13 HO3.out
        clear hb
        obtain ⟨W4, hW4⟩ : ∃ W4, W4 = w4.alloc (.cells #[.int .i64 0, .int .i64 0] 26) := ⟨_, rfl⟩
        rw [← hW4] at HB HL
        go_wp2_with fail
        rw [← hW4]
        clear hW4 q2 q3
        go_loopw [11] (fun iv wr => ∃ i : Nat, i ≤ nl ∧ iv = .int .i64 i ∧ Hid (Below W4.heap.size W4 wr)) (fun iv _ => nl - (intOf iv).toNat)
        case atStart => exact ⟨0, Nat.zero_le _, rfl, Lib.hid (Below.refl _ _)⟩
        case round =>
          obtain ⟨i, hi, rfl, HW⟩ := hrel
          by_cases hlt : i < nl
          · obtain ⟨b1, o1, d3, e1, r1⟩ := HL.out.2.2 (by rw [← Hnl.out]; omega)
            rw [← Hnl.out] at e1
            obtain ⟨rfl, rfl⟩ : la = some ⟨b1, o1, none⟩ ∧ ld = d3 := by injection e1 with a1 a2 a3; exact ⟨a1, a3⟩
            obtain ⟨x, hx⟩ : ∃ x, L[i]? = some x := ⟨_, List.getElem?_eq_getElem (by rw [← Hnl.out]; exact hlt)⟩
            have y1 := cell_below HW.out (tx_cells (r1 i x hx))
            rw [Nat.mul_one] at y1
            have hin := HIn1.out x (List.mem_of_getElem? hx)
            have hpl : ¬ place13 sel x < 0 := fun h => place_neg.1 h hin
            have HAx := Lib.hid (fun wx hh => HAt.out x wx hh)
            obtain ⟨p, hp⟩ : ∃ p, p = place13 sel x := ⟨_, rfl⟩
            rw [← hp] at hpl HAx
            have k0 : (0 : Int) ≤ (i : Int) := by omega
            have kl : (i : Int) < (nl : Int) := by omega
            by_cases hi0 : i = 0
            · have HKW := Lib.hid (SlcAt.mono HKv.out (below_step HB.out HW.out))
              have HAy := Lib.hid (fun nn => HAx.out (wr.drewN nn) (SlcAt.mono HKW.out (below_drew wr nn)))
              have dg : decide (0 < i) = false := decide_eq_false (by omega)
              have HI := Lib.hid hi0
              clear e1 r1 hx hin hp hi hi0 HE1 HO2 HO3 HC3 HAt2 HAx HFd HRise HIn1 HIn2
              go_wp2_with fail
              go_quiet ((go_at_call 24; refine Calls.quiet_of_same ((HAy.out _).mono fun _ _ h => ⟨h.1, h.2.symm⟩)))
              go_wp2
              go_roundw
              case rel => exact ⟨i + 1, by omega, by go_num, Lib.hid (below_step HW.out (below_drew _ _))⟩
              case measure => have := HI.out; simp [intOf]; omega
            · obtain ⟨j, rfl⟩ : ∃ j, i = j + 1 := ⟨i - 1, by omega⟩
              clear hi0
              obtain ⟨y, hy⟩ : ∃ y, L[j]? = some y := ⟨_, List.getElem?_eq_getElem (by rw [← Hnl.out]; omega)⟩
              have y0 := cell_below HW.out (tx_cells (r1 j y hy))
              rw [Nat.mul_one] at y0
              have hri := HRise.out j y x hy hx
              obtain ⟨fx, hfx⟩ : ∃ f, f = Sg.find t x := ⟨_, rfl⟩
              obtain ⟨fy, hfy⟩ : ∃ f, f = Sg.find t y := ⟨_, rfl⟩
              have HFx := Lib.hid (fun wx hh => HFd.out x wx hh)
              have HFy := Lib.hid (fun wx hh => HFd.out y wx hh)
              rw [← hfx] at HFx hri
              rw [← hfy] at HFy hri
              have hri' : ¬ fx ≤ fy := by omega
              obtain ⟨I, hI⟩ : ∃ I : Nat, I = j + 1 := ⟨_, rfl⟩
              rw [← hI] at y1 k0 kl ⊢
              have k1 : (0 : Int) < (I : Int) := by omega
              have k1n : 0 < I := by omega
              have kw := wr_back13 hI.symm (by omega)
              obtain ⟨kw1, kw2⟩ := kw
              have j0 : (0 : Int) ≤ (j : Int) := by omega
              have jl : (j : Int) < (nl : Int) := by omega
              have HI := Lib.hid hI
              have HLt := Lib.hid hlt
              have HD : Hid (Below wr.heap.size wr wr.drew) := Lib.hid (below_drew wr 1)
              have HAW := Lib.hid (SlcAt.mono HA.out (below_step HB.out HW.out))
              have HKW := Lib.hid (SlcAt.mono HKv.out (below_step HB.out HW.out))
              clear e1 r1 hx hy hin hp hfx hfy hI hlt hi
              go_wp2_with fail
              have dg1 : decide (fx ≤ fy) = false := decide_eq_false (by omega)
              have dg2 : decide (p < 0) = false := decide_eq_false (by omega)
              have dg3 : decide (0 < I) = true := decide_eq_true k1n
              go_region_held3 (fun w' => w'.cell? ⟨b1, o1 + j, none⟩ = some (.string (str y)) ∧ w'.cell? ⟨b1, o1 + I, none⟩ = some (.string (str x))) (first | (exact ⟨cell_below HX2.out y0, cell_below HX2.out y1⟩) | (exact ⟨cell_below HX1.out y0, cell_below HX1.out y1⟩) | go_keep) (first | ((with_reducible refine (HFy.out _ (SlcAt.mono HAW.out HD.out)).mono ?_); rintro e w5 ⟨rfl, hb5⟩; have HX1 := Lib.hid (below_step HD.out hb5); clear hb5) | ((with_reducible refine (HFx.out _ (SlcAt.mono HAW.out HX1.out)).mono ?_); rintro e w6 ⟨rfl, hb6⟩; have HX2 := Lib.hid (below_step HX1.out hb6); clear hb6) | ((with_reducible refine (HAx.out _ (SlcAt.mono HKW.out HX2.out)).mono ?_); rintro e w7 ⟨rfl, hw7⟩; subst hw7))
              replace HW := Lib.hid (below_step HW.out HX2.out)
              clear HX1 HX2 y0 y1
              go_wp2
              go_roundw
              case rel => exact ⟨I + 1, by have := HLt.out; have := HI.out; omega, by go_num, HW⟩
              case measure => have := HLt.out; have := HI.out; simp [intOf]; omega
          · have HB2 := Lib.hid (below_step HB.out HW.out)
            have HL2 := Lib.hid (SlcAt.mono HL.out HW.out)
            have HK2 := Lib.hid (SlcAt.mono HKv.out HB2.out)
            go_wp2_with fail
            clear hlt
            go_loopw [12] (fun iv wx => ∃ i : Nat, i ≤ ns ∧ iv = .int .i64 i ∧ wx = wr) (fun iv _ => ns - (intOf iv).toNat)
            case atStart => exact ⟨0, Nat.zero_le _, rfl, rfl⟩
            case round =>
              obtain ⟨i2, hi2, rfl, rfl⟩ := hrel
              by_cases hlt : i2 < ns
              · obtain ⟨b1, o1, d3, e1, r1⟩ := HK2.out.2.2 (by rw [← Hns.out]; omega)
                rw [← Hns.out] at e1
                obtain ⟨rfl, rfl⟩ : ka = some ⟨b1, o1, none⟩ ∧ kcp = d3 := by injection e1 with a1 a2 a3; exact ⟨a1, a3⟩
                obtain ⟨x, hx⟩ : ∃ x, sel[i2]? = some x := ⟨_, List.getElem?_eq_getElem (by rw [← Hns.out]; exact hlt)⟩
                have y1 := tx_cells (r1 i2 x hx)
                rw [Nat.mul_one] at y1
                have hin := HIn2.out x (List.mem_of_getElem? hx)
                have hpl : ¬ place13 L x < 0 := fun h => place_neg.1 h hin
                have HAx := Lib.hid (fun wx hh => HAt2.out x wx hh)
                obtain ⟨p, hp⟩ : ∃ p, p = place13 L x := ⟨_, rfl⟩
                rw [← hp] at hpl HAx
                have k0 : (0 : Int) ≤ (i2 : Int) := by omega
                have kl : (i2 : Int) < (ns : Int) := by omega
                clear e1 r1 hx hin hp
                go_wp2_with fail
                refine (HAx.out _ HL2.out).mono ?_
                rintro e w5 ⟨rfl, rfl⟩
                go_wp2
                go_roundw
                case rel => exact ⟨i2 + 1, by omega, by go_num, by first | trivial | rfl⟩
                case measure => simp [intOf]; omega
              · go_wp2
                go_ret
                exact ⟨rfl, HB2.out⟩
      · have hcb : (cc == 0) = false := by rw [beq_eq_false_iff_ne]; exact hcc
        obtain rfl : C = [] := compact_fault13 HR.out.symm hcc
        have hst : (str ([] : List UInt8)).toList.isEmpty = true := by rw [Lib.toList_data, str_data]; rfl
        go_wp2
        go_ret
        exact ⟨rfl, HB.out⟩
    · have g2 : ((200 : Int) < (ns : Int)) := by omega
      go_enter Tryd.func5, Tryd.ntmps5
      go_wp2_with fail
      refine (HF.out _ (Below.refl _ _)).mono ?_
      rintro e w1 ⟨rfl, hb⟩
      have HB := Lib.hid hb
      clear hb
      go_wp2_with fail
      refine (HF.out _ HB.out).mono ?_
      rintro e w2 ⟨rfl, hb⟩
      replace HB := Lib.hid (below_step HB.out hb)
      clear hb
      go_wp2
      go_ret
      exact ⟨rfl, HB.out⟩
  · have g1 : ((100 : Int) < (n : Int)) := by omega
    go_enter Tryd.func5, Tryd.ntmps5
    go_wp2_with fail
    refine (HF.out _ (Below.refl _ _)).mono ?_
    rintro e w1 ⟨rfl, hb⟩
    have HB := Lib.hid hb
    clear hb
    go_wp2_with fail
    refine (HF.out _ HB.out).mono ?_
    rintro e w2 ⟨rfl, hb⟩
    replace HB := Lib.hid (below_step HB.out hb)
    clear hb
    go_wp2
    go_ret
    exact ⟨rfl, HB.out⟩
end Go.Proofs.YtlgfmkmpopcciaaDoor
