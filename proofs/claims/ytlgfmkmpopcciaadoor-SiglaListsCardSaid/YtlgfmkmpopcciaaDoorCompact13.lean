/-
  The landed Compact: keys in short.
-/
import Derived.Test.YtlgfmkmpopcciaaDoorShort13
import Derived.Test.YtlgfmkmpopcciaaDoorLine13
set_option linter.unusedVariables false
set_option linter.unusedSimpArgs false
namespace Go.Proofs.YtlgfmkmpopcciaaDoor
open Go.RowKit Go.Maps

def TxSmall (l : List (List UInt8)) : Prop := ∀ x ∈ l, x.length ≤ 281474976710656
/-- what Compact answers -/
def CompPost (r : List UInt8 × Int × Int) (w : World) (e : Ending) (w' : World) : Prop := e = .returned (.tuple #[.string (str r.1), flt r.2.1 r.2.2]) ∧ Below w.heap.size w w'
/-- which keys are used -/
def marks (K sel : List (List UInt8)) : List Bool := K.map fun k => decide (k ∈ sel)
theorem marks_none (K : List (List UInt8)) : marks K [] = List.replicate K.length false := by
  unfold marks
  rw [List.eq_replicate_iff]
  refine ⟨by simp, fun b hb => ?_⟩
  obtain ⟨k, _, rfl⟩ := List.mem_map.1 hb
  simp
theorem marks_next {K sel : List (List UInt8)} (hK : K.Nodup) {i : Nat} {k : List UInt8} (hk : K[i]? = some k) : marks K (sel ++ [k]) = (marks K sel).set i true := by
  unfold marks
  apply List.ext_getElem?
  intro j
  rw [List.getElem?_map, List.getElem?_set, List.length_map, List.getElem?_map]
  by_cases h : i = j
  · subst h
    rw [if_pos rfl, if_pos (List.getElem?_eq_some_iff.1 hk).1, hk]
    simp
  · rw [if_neg h]
    cases e : K[j]? with
    | none => rfl
    | some m =>
      have hne : m ≠ k := by
        rintro rfl
        obtain ⟨h1, h2⟩ := List.getElem?_eq_some_iff.1 hk
        obtain ⟨h3, h4⟩ := List.getElem?_eq_some_iff.1 e
        rcases Nat.lt_or_gt_of_ne h with h5 | h5
        · exact List.pairwise_iff_getElem.1 hK i j h1 h3 h5 (by rw [h2, h4])
        · exact List.pairwise_iff_getElem.1 hK j i h3 h1 h5 (by rw [h2, h4])
      simp [hne]
/-- the row of marks in memory -/
def MarksAt (w : World) (b : Nat) (l : List Bool) : Prop := w.heap[b]? = some (.cells (l.map Value.bool).toArray 4 (0, 0))
theorem MarksAt.at {w : World} {b : Nat} {l : List Bool} (h : MarksAt w b l) (hl : l.length ≤ 100000) : BlsAt w (.slice (some ⟨b, 0, none⟩) l.length l.length) l := by
  refine ⟨⟨_, _, rfl, Nat.le_refl _⟩, by unfold maxLen; omega, fun _ => ⟨b, 0, _, rfl, fun i x hi j u hj => ?_⟩⟩
  cases j with
  | succ j => cases hj
  | zero =>
    obtain rfl : Value.bool x = u := by simpa [blC] using hj
    rw [Nat.zero_add, Nat.mul_one, Nat.add_zero, Lib.cell_of_heap h]
    simp [hi]
theorem MarksAt.set {w : World} {b i : Nat} {l : List Bool} (h : MarksAt w b l) : MarksAt (w.setCell ⟨b, i, none⟩ (.bool true)) b (l.set i true) := by
  have := heap_setCell_same w b i _ _ (.bool true) h
  unfold MarksAt
  rw [this]
  simp
theorem run_marks (w : World) (n : Nat) (hn : n ≤ 100000) : (Instr.makeSlice 70 (.int .i64 (n : Int)) (.int .i64 (n : Int))).run Tryd.prog w = .ok (.slice (some ⟨w.heap.size, 0, none⟩) n n) (w.alloc (.cells ((List.replicate n false).map Value.bool).toArray 4)) := by
  obtain ⟨i0, hi0, hz0, hz1, hz2⟩ := info_parts (show (Tryd.prog.info? 4).map (fun i => (i.zero, i.size, i.bytes)) = some (some (.bool false), 1, 1) by kernel_rfl)
  have h := run_make (P := Tryd.prog) w 70 4 i0 _ Tryd.underlying70 hi0 hz0 .i64 .i64 (n : Int) (n : Int) (by omega) (Int.le_refl _) (by rw [hz2]; omega) (by omega)
  rw [Int.toNat_natCast, hz1, Nat.mul_one] at h
  rw [h]
  congr 3
  have h2 := toList_madeCells_one (Value.bool false) n
  have h3 : madeCells (Value.bool false).cells n = (List.replicate n (Value.bool false)).toArray := by
    apply Array.ext'
    rw [List.toList_toArray]
    exact h2
  rw [h3]
  congr 1
  simp
theorem MapAt.set {w : World} {b p i : Nat} {l : List (List UInt8)} {v : Value} (h : MapAt w b l) (hne : b ≠ p) : MapAt (w.setCell ⟨p, i, none⟩ v) b l := by
  obtain ⟨D, n, ho, hi, hn⟩ := h
  exact ⟨D, n, ho.setCell (a := ⟨p, i, none⟩) hne v, hi, hn⟩
theorem MapAt.obj {w : World} {b : Nat} {l : List (List UInt8)} (h : MapAt w b l) : ∃ es clock, w.heap[b]? = some (.map es clock) := by
  obtain ⟨D, n, ⟨es, clock, ho, _⟩, _⟩ := h
  exact ⟨es, clock, ho⟩
theorem compact_bad {t : List Sg.Sig} {sel : List (List UInt8)} (hm : Sg.may t = true) {j : Nat} {x : List UInt8} (hx : sel[j]? = some x) (hb : ∀ k ∈ sel.take j, k ∈ Sg.keys t) (hn : x ∉ Sg.keys t) : Sg.compact t sel = ([], 133, (j : Int)) := by
  unfold Sg.compact
  rw [if_neg (by rw [hm]; decide)]
  obtain ⟨hl, he⟩ := List.getElem?_eq_some_iff.1 hx
  have e : sel.findIdx? (fun k => decide (Sg.find t k < 0)) = some j := by
    rw [List.findIdx?_eq_some_iff_getElem]
    refine ⟨hl, by rw [he]; simpa using Sg.find_neg.2 hn, fun i hi => ?_⟩
    have hmem : sel[i] ∈ sel.take j := by
      rw [List.mem_take_iff_getElem]
      exact ⟨i, by omega, rfl⟩
    simp only [decide_eq_true_eq]
    intro h
    exact Sg.find_neg.1 h (hb _ hmem)
  rw [e]
set_option maxHeartbeats 8000000 in
set_option maxRecDepth 100000 in
theorem compact_any (v kv : Value) (t : List Sg.Sig) (sel : List (List UInt8)) (w : World) (h : SgsAt w v t) (hs : SgSmall t) (hk : TxsAt w kv sel) (hks : TxSmall sel) : Calls Tryd.prog 19 #[v, kv] w (CompPost (Sg.compact t sel) w) := by
  obtain ⟨W0, hW0⟩ : ∃ W0, W0 = w.alloc (.cells #[.int .i64 0, .int .i64 0] 26) := ⟨_, rfl⟩
  have hb0 : Below w.heap.size w W0 := by rw [hW0]; exact below_alloc _ _
  have HB0 := Lib.hid hb0
  have HO0 : Hid (W0.heap[w.heap.size]? = some (.cells #[.int .i64 0, .int .i64 0] 26 (0, 0))) := Lib.hid (by rw [hW0]; exact new_two13 w w.heap.size rfl _ _ _)
  have HM := Lib.hid (may_any v t W0 (h.mono hb0) hs)
  have HA := Lib.hid h
  have HK := Lib.hid hk
  have HS := Lib.hid hs
  have HKS := Lib.hid hks
  obtain ⟨⟨a, cp, rfl, hcap⟩, hm, _⟩ := h
  obtain ⟨⟨ka, kcp, rfl, hkcap⟩, hkm, _⟩ := hk
  obtain ⟨R, hR⟩ : ∃ R, R = Sg.compact t sel := ⟨_, rfl⟩
  have HR := Lib.hid hR
  rw [← hR]
  have HP := Lib.hid (fun wx (hx : SgsAt wx (.slice a t.length cp) t) (hl : t.length ≤ 100000) => places_any _ t wx hx hs hl)
  obtain ⟨n, hnn⟩ : ∃ n, n = t.length := ⟨_, rfl⟩
  have Hn := Lib.hid hnn
  obtain ⟨m, hmm⟩ : ∃ m, m = sel.length := ⟨_, rfl⟩
  have Hm := Lib.hid hmm
  have hm63 : m ≤ 9223372036854775807 := by rw [hmm]; unfold maxLen at hkm; omega
  rw [← hnn] at HA HM HP ⊢
  rw [← hmm] at HK ⊢
  clear hcap hm hkcap hkm hR hnn hmm hb0 hs hks
  cases hmay : Sg.may t with
  | false =>
    have HE : Hid (R = ([], 130, -1)) := Lib.hid (by rw [HR.out]; unfold Sg.compact; rw [if_pos hmay])
    rw [hmay] at HM
    have HNt := Lib.hid (fun w => noTable_any w)
    clear hmay
    go_enter Tryd.func19, Tryd.ntmps19
    go_wp2_with fail
    rw [← hW0]
    clear hW0
    refine HM.out.mono ?_
    rintro e w1 ⟨rfl, hb1⟩
    have HB1 := Lib.hid (below_step HB0.out hb1)
    have HO1 := Lib.hid (obj_kept hb1 HO0.out)
    clear hb1 HB0 HO0
    go_wp2_with fail
    refine (HNt.out _).mono ?_
    rintro e w2 ⟨rfl, hb2⟩
    have HB2 := Lib.hid (below_step HB1.out hb2)
    have ho := obj_kept hb2 HO1.out
    obtain ⟨n0, n1⟩ := two_of13 ho
    have f0 := Lib.frozen_of_heap ho 0
    have f1 := Lib.frozen_of_heap ho 1
    obtain ⟨s0, s1⟩ := two_of13 (set_two13 (a := .int .i64 130) (b := .int .i64 (-1)) ho)
    have hlt := lt_of_obj ho
    clear ho hb2 HB1 HO1
    unfold flt
    go_wp2
    refine bodyPost_ret (v := .tuple #[.string ⟨#[]⟩, flt 130 (-1)]) (by simp [results, Tryd.results19, go_sem, s0, s1, flt]) rfl ⟨by rw [HE.out]; rfl, below_two13 (Nat.le_refl _) HB2.out⟩
  | true =>
    obtain ⟨hm1, hm2, hm3⟩ := Sg.may_yes hmay
    have HNd := Lib.hid hm3
    have HMay := Lib.hid hmay
    have hn100 : n ≤ 100 := by rw [Hn.out]; exact hm1
    have HK8 : Hid (∀ x ∈ t, x.k.length ≤ 8) := Lib.hid (fun x hx => (Sg.keyOk_yes (hm2 x hx).1).2.2)
    rw [hmay] at HM
    have HNk := Lib.hid (fun n w => noKey_any n w)
    have HMk := Lib.hid (fun w => run_marks w n (by omega))
    clear hmay hm1 hm2 hm3
    go_enter Tryd.func19, Tryd.ntmps19
    go_wp2_with fail
    rw [← hW0]
    clear hW0
    refine HM.out.mono ?_
    rintro e w1 ⟨rfl, hb1⟩
    have HB1 := Lib.hid (below_step HB0.out hb1)
    have HO1 := Lib.hid (obj_kept hb1 HO0.out)
    clear hb1 HB0 HO0
    go_wp2_with fail
    refine (HP.out _ (SlcAt.mono HA.out HB1.out) (by omega)).mono ?_
    rintro e w2 ⟨b, rfl, hbb, hma, hb2⟩
    have HB2 := Lib.hid (below_step HB1.out hb2)
    have HO2 := Lib.hid (obj_kept hb2 HO1.out)
    have hrun := HMk.out w2
    obtain ⟨U0, hU0⟩ : ∃ U0 : Array Value, U0 = ((List.replicate n false).map Value.bool).toArray := ⟨_, rfl⟩
    rw [← hU0] at hrun
    have hb3 := below_alloc w2 (.cells U0 4)
    have HB3 := Lib.hid (below_step HB2.out hb3)
    have HO3 := Lib.hid (obj_kept hb3 HO2.out)
    have HMa3 := Lib.hid (hma.mono hb3)
    obtain ⟨es0, cl0, hes0⟩ := hma.obj
    have hbu : b ≠ w2.heap.size := fun e => by have := lt_of_obj hes0; omega
    obtain ⟨K, hK⟩ : ∃ K, K = Sg.keys t := ⟨_, rfl⟩
    have HKe := Lib.hid hK
    have HKl : Hid (K.length = n) := Lib.hid (by rw [hK]; unfold Sg.keys; rw [List.length_map]; exact Hn.out.symm)
    rw [← hK] at HMa3 HNd
    have HMr3 : Hid (MarksAt (w2.alloc (.cells U0 4)) w2.heap.size (marks K (sel.take 0))) := Lib.hid (by
      unfold MarksAt
      rw [heap_alloc_new, hU0, List.take_zero, marks_none, HKl.out])
    have H0 : Hid (∀ x ∈ sel.take 0, x ∈ K) := Lib.hid (by simp)
    have hpu : w.heap.size < w2.heap.size := lt_of_obj HO2.out
    obtain ⟨ub, hub⟩ : ∃ ub, ub = w2.heap.size := ⟨_, rfl⟩
    obtain ⟨W3, hW3⟩ : ∃ W3, W3 = w2.alloc (.cells U0 4) := ⟨_, rfl⟩
    rw [← hub] at HMr3 hrun hbu hpu
    rw [← hW3] at HB3 HO3 HMa3 HMr3 hrun
    have HBU := Lib.hid hbu
    clear hb2 hb3 hma HB1 HO1 HB2 HO2 hU0 hbb hes0 hK hub hW3
    go_wp2_with fail
    clear hrun
    go_loopw [23] (fun iv wr => ∃ j : Nat, j ≤ m ∧ iv = .int .i64 j ∧ Hid (∀ x ∈ sel.take j, x ∈ K) ∧ Hid (MarksAt wr ub (marks K (sel.take j))) ∧ Hid (MapAt wr b K) ∧ Hid (wr.heap[w.heap.size]? = some (.cells #[.int .i64 0, .int .i64 0] 26 (0, 0))) ∧ Hid (Below w.heap.size w wr)) (fun iv _ => m - (intOf iv).toNat)
    case atStart => exact ⟨0, Nat.zero_le _, rfl, H0, HMr3, HMa3, HO3, HB3⟩
    case round =>
      obtain ⟨j, hj, rfl, HT, HMr, HMa, HO, HW⟩ := hrel
      clear H0 HMr3 HMa3 HO3 HB3
      by_cases hlt : j < m
      · obtain ⟨b1, o1, d1, e1, r1⟩ := HK.out.2.2 (by rw [← Hm.out]; omega)
        rw [← Hm.out] at e1
        obtain ⟨rfl, rfl⟩ : ka = some ⟨b1, o1, none⟩ ∧ kcp = d1 := by injection e1 with a1 a2 a3; exact ⟨a1, a3⟩
        obtain ⟨x, hx⟩ : ∃ x, sel[j]? = some x := ⟨_, List.getElem?_eq_getElem (by rw [← Hm.out]; exact hlt)⟩
        have y0 : wr.cell? ⟨b1, o1 + j, none⟩ = some (.string (str x)) := by
          have := tx_cells ((r1 j x hx).mono HW.out)
          rwa [Nat.mul_one] at this
        have k0 : (0 : Int) ≤ (j : Int) := by omega
        have kl : (j : Int) < (m : Int) := by omega
        have hkey := keyStr13 x (HKS.out x (List.mem_of_getElem? hx))
        obtain ⟨D, nD, ho, hi, hnD⟩ := HMa.out
        by_cases hmem : x ∈ K
        · obtain ⟨i, hi2⟩ := List.getElem?_of_mem hmem
          have hhas : Maps.has D (.string x) = true := by rw [hi.keys x, decide_eq_true hmem]
          have hel := fun z => hi.elem HNd.out i x hi2 z
          have hin : i < n := by rw [← HKl.out]; exact (List.getElem?_eq_some_iff.1 hi2).1
          have i0 : (0 : Int) ≤ (i : Int) := by omega
          have il : (i : Int) < (n : Int) := by omega
          have HN : Hid (∀ y ∈ sel.take (j + 1), y ∈ K) := Lib.hid (fun y hy => by
            rw [It.take_snoc hx] at hy
            rcases List.mem_append.1 hy with hy | hy
            · exact HT.out y hy
            · rw [List.mem_singleton] at hy; subst hy; exact hmem)
          have HMn : Hid (MarksAt (wr.setCell ⟨ub, i, none⟩ (.bool true)) ub (marks K (sel.take (j + 1)))) := Lib.hid (by
            rw [It.take_snoc hx, marks_next HNd.out hi2]
            exact HMr.out.set)
          have HMan := Lib.hid (HMa.out.set (i := i) (v := .bool true) HBU.out)
          have HOn := Lib.hid (obj_set (i := i) (v := .bool true) HO.out (show w.heap.size ≠ ub by omega))
          have HWn := Lib.hid (HW.out.setCell (p := ⟨ub, i, none⟩) (show w.heap.size ≤ ub by omega) (.bool true))
          have hfz := Lib.frozen_of_heap HMr.out i
          have hcl : wr.cell? ⟨ub, i, none⟩ = some (.bool ((marks K (sel.take j))[i]'(by unfold marks; rw [List.length_map, HKl.out]; exact hin))) := by
            rw [Lib.cell_of_heap HMr.out]
            simp [show i < (marks K (sel.take j)).length by unfold marks; rw [List.length_map, HKl.out]; exact hin]
          have hublt := lt_of_obj HMr.out
          clear r1 e1 hx hi hi2 hmem HT
          go_wp2_with (first
            | (at_lookup; refine wpList_lookup_own_ok_int _ rfl _ _ 66 rfl 9 3 .i64 keyLaw13 Tryd.underlying66 Tryd.underlying3 (zeroInt13 _) b nD D rfl ho _ _ rfl hkey ?_; intro c hat hwc; obtain rfl : c = (i : Int) := (by have h9 := hel (.lit (.int .i64 0)); rw [hat] at h9; injection h9 with h9; injection h9); clear hat hwc)
            | go_in)
          go_roundw
          case rel => exact ⟨j + 1, by omega, by go_num, HN, HMn, HMan, HOn, HWn⟩
          case measure => simp [intOf]; omega
        · have hhas : Maps.has D (.string x) = false := by rw [hi.keys x, decide_eq_false hmem]
          have HE : Hid (R = ([], 133, (j : Int))) := Lib.hid (by rw [HR.out]; exact compact_bad HMay.out hx (by rw [← HKe.out]; exact HT.out) (by rw [← HKe.out]; exact hmem))
          clear r1 e1 hx hi hmem HT
          go_wp2_with (at_lookup; refine wpList_lookup_own_ok_int _ rfl _ _ 66 rfl 9 3 .i64 keyLaw13 Tryd.underlying66 Tryd.underlying3 (zeroInt13 _) b nD D rfl ho _ _ rfl hkey ?_; intro c hat hwc; clear hat hwc)
          refine (HNk.out _ _).mono ?_
          rintro e w5 ⟨rfl, hb5⟩
          have HB5 := Lib.hid (below_step HW.out hb5)
          have ho5 := obj_kept hb5 HO.out
          obtain ⟨n0, n1⟩ := two_of13 ho5
          have f0 := Lib.frozen_of_heap ho5 0
          have f1 := Lib.frozen_of_heap ho5 1
          obtain ⟨s0, s1⟩ := two_of13 (set_two13 (a := .int .i64 133) (b := .int .i64 (j : Int)) ho5)
          have hlt5 := lt_of_obj ho5
          clear ho5 hb5 HO HW y0 ho
          unfold flt
          go_wp2
          refine bodyPost_ret (v := .tuple #[.string ⟨#[]⟩, flt 133 (j : Int)]) (by simp [results, Tryd.results19, go_sem, s0, s1, flt]) rfl ⟨by rw [HE.out]; rfl, below_two13 (Nat.le_refl _) HB5.out⟩
      · have hjm : j = m := by omega
        have HT2 : Hid (sel.take j = sel) := Lib.hid (List.take_of_length_le (by rw [← Hm.out]; omega))
        have HE : Hid (R = (Mt.join 32 (Sg.comp (fun k => decide (k ∈ sel)) [] (Sg.keys t)), 0, 0)) := Lib.hid (by
          have := HT.out
          rw [HT2.out] at this
          rw [HR.out]
          exact Sg.compact_ok HMay.out (by rw [← HKe.out]; exact this))
        have hmr := HMr.out
        rw [HT2.out] at hmr
        have hml : (marks K sel).length = n := by unfold marks; rw [List.length_map]; exact HKl.out
        have hbl := hmr.at (by rw [hml]; omega)
        rw [hml] at hbl
        have HSh := Lib.hid (short_any (fun k => decide (k ∈ sel)) _ _ t wr (SlcAt.mono HA.out HW.out) (by rw [← HKe.out]; exact hbl) (by rw [← Hn.out]; exact hn100) HK8.out)
        clear hmr hml hbl
        go_wp2_with fail
        refine HSh.out.mono ?_
        rintro e w5 ⟨rfl, hb5⟩
        have HB5 := Lib.hid (below_step HW.out hb5)
        have ho5 := obj_kept hb5 HO.out
        obtain ⟨n0, n1⟩ := two_of13 ho5
        have f0 := Lib.frozen_of_heap ho5 0
        have f1 := Lib.frozen_of_heap ho5 1
        obtain ⟨s0, s1⟩ := two_of13 (set_two13 (a := .int .i64 0) (b := .int .i64 0) ho5)
        have hlt5 := lt_of_obj ho5
        clear ho5 hb5 HO HW HSh
        go_wp2
        refine bodyPost_ret (v := .tuple #[.string (str (Mt.join 32 (Sg.comp (fun k => decide (k ∈ sel)) [] (Sg.keys t)))), flt 0 0]) (by simp [results, Tryd.results19, go_sem, s0, s1, flt]) rfl ⟨by rw [HE.out], below_two13 (Nat.le_refl _) HB5.out⟩
end Go.Proofs.YtlgfmkmpopcciaaDoor
