/-
  The law SiglaAll: all keys of a table that has three or more are the first one, two dots, and the last one; one key is itself.
-/
import Derived.Test.YtlgfmkmpopcciaaDoorFixed13
set_option linter.unusedVariables false
set_option linter.unusedSimpArgs false
namespace Go.Proofs.YtlgfmkmpopcciaaDoor
open Go.RowKit

theorem wr_back13 {j n : Nat} (h : j + 1 = n) (hb : n ≤ 100000) : IntKind.i64.wrap ((n : Int) - 1) = (j : Int) ∧ wrap64 ((n : Int) - 1) = (j : Int) := by
  have e : (n : Int) - 1 = (j : Int) := by omega
  rw [e]
  exact ⟨IntWalk.i64_in _ (by omega), w64 (by omega) (by omega)⟩
theorem key_small {t : List Sg.Sig} (h : Sg.may t = true) {x : Sg.Sig} (hx : x ∈ t) : x.k.length ≤ 8 := (Sg.keyOk_yes ((Sg.may_yes h).2.1 x hx).1).2.2
theorem may_small2 {t : List Sg.Sig} (h : Sg.may t = true) : SgSmall t := fun x hx => by
  obtain ⟨h1, h2⟩ := (Sg.may_yes h).2.1 x hx
  have := (Sg.keyOk_yes h1).2.2
  have := (Sg.nameOk_yes h2).2.2
  omega
theorem keys_first {t : List Sg.Sig} {x : Sg.Sig} (h : t[0]? = some x) : (Sg.keys t).headD [] = x.k := by
  rw [List.headD_eq_head?_getD, List.head?_eq_getElem?]
  unfold Sg.keys
  rw [List.getElem?_map, h]
  rfl
theorem keys_last {t : List Sg.Sig} {j : Nat} {y : Sg.Sig} (h : t[j]? = some y) (hj : j + 1 = t.length) : (Sg.keys t).getLastD [] = y.k := by
  have e : (Sg.keys t)[j]? = some y.k := by
    unfold Sg.keys
    rw [List.getElem?_map, h]
    rfl
  have := Sg.getLastD_at (l := Sg.keys t) (i := 0) (n := j) (by unfold Sg.keys; rw [List.length_map]; omega)
  rw [e] at this
  exact (Option.some.inj this).symm
set_option maxHeartbeats 8000000 in
set_option maxRecDepth 100000 in
theorem siglaAll_any (v : Value) (t : List Sg.Sig) (m : Int) (w : World) (h : SgsAt w v t) (hs : SgSmall t) (hm : w.cell? ⟨0, 0, none⟩ = some (.int .i64 m)) :
    Calls Tryd.prog 8 #[v] w (Ret (.bool true) w) := by
  have HA := Lib.hid h
  have HF := Lib.hid (fun wx (hb : Below w.heap.size w wx) => fixed_any m wx (cell_below hb hm))
  have HMy := Lib.hid (fun wx (hx : SgsAt wx v t) => may_any v t wx hx hs)
  have HC := Lib.hid (fun kv sel wx (hx : SgsAt wx v t) hk hks => compact_any v kv t sel wx hx hs hk hks)
  obtain ⟨⟨a, cp, rfl, hcap⟩, hmx, _⟩ := h
  have hza : t.length ≤ 9223372036854775807 := by unfold maxLen at hmx; omega
  obtain ⟨n, hn⟩ : ∃ n, n = t.length := ⟨_, rfl⟩
  have Hn := Lib.hid hn
  rw [← hn] at HA HMy HC hza ⊢
  clear hcap hmx hm hs hn
  by_cases hlen : n ≤ 100
  · have g1 : ¬ ((100 : Int) < (n : Int)) := by omega
    cases hmay : Sg.may t with
    | false =>
      rw [hmay] at HMy
      clear hmay
      go_enter Tryd.func8, Tryd.ntmps8
      go_wp2_with fail
      refine (HF.out _ (Below.refl _ _)).mono ?_
      rintro e w1 ⟨rfl, hb⟩
      have HB := Lib.hid hb
      clear hb
      go_wp2_with fail
      refine (HMy.out _ (SlcAt.mono HA.out HB.out)).mono ?_
      rintro e w2 ⟨rfl, hb⟩
      have HB := Lib.hid (below_step HB.out hb)
      clear hb
      go_wp2_with fail
      refine (HF.out _ HB.out).mono ?_
      rintro e w3 ⟨rfl, hb⟩
      have HB := Lib.hid (below_step HB.out hb)
      clear hb
      go_wp2
      go_ret
      exact ⟨rfl, HB.out⟩
    | true =>
      have HMay := Lib.hid hmay
      rw [hmay] at HMy
      clear hmay
      go_enter Tryd.func8, Tryd.ntmps8
      go_wp2_with fail
      refine (HF.out _ (Below.refl _ _)).mono ?_
      rintro e w1 ⟨rfl, hb⟩
      have HB := Lib.hid hb
      clear hb
      go_wp2_with fail
      refine (HMy.out _ (SlcAt.mono HA.out HB.out)).mono ?_
      rintro e w2 ⟨rfl, hb⟩
      have HB := Lib.hid (below_step HB.out hb)
      clear hb
      have hb := below_alloc w2 (.cells #[] 9)
      have HB0 := Lib.hid (below_step HB.out hb)
      have HK0 : Hid (OwnTx w2.heap.size (.slice (some ⟨w2.heap.size, 0, none⟩) 0 0) (Sg.keys (t.take 0)) (w2.alloc (.cells #[] 9))) := Lib.hid (own_empty _ _ _ _)
      have HZ0 := Lib.hid hb.size
      have HZb := Lib.hid HB.out.size
      obtain ⟨k0v, hk0v⟩ : ∃ k0v, k0v = (.slice (some ⟨w2.heap.size, 0, none⟩) 0 0 : Value) := ⟨_, rfl⟩
      rw [← hk0v] at HK0
      clear hb
      go_wp2_with fail
      rw [← hk0v]
      clear hk0v
      go_loopw [3, 4] (fun kv iv wr => ∃ i : Nat, i ≤ n ∧ iv = .int .i64 i ∧ Hid (OwnTx w2.heap.size kv (Sg.keys (t.take i)) wr) ∧ Hid (Below w.heap.size w wr) ∧ Hid (w2.heap.size ≤ wr.heap.size)) (fun _ iv _ => n - (intOf iv).toNat)
      case atStart => exact ⟨0, Nat.zero_le _, rfl, HK0, HB0, HZ0⟩
      case round =>
        obtain ⟨i, hi, rfl, HK, HW, HZ⟩ := hrel
        clear HK0 HB0 HZ0 HB
        by_cases hlt : i < n
        · obtain ⟨b1, o1, d1, e1, r1⟩ := HA.out.2.2 (by rw [← Hn.out]; omega)
          rw [← Hn.out] at e1
          obtain ⟨rfl, rfl⟩ : a = some ⟨b1, o1, none⟩ ∧ cp = d1 := by injection e1 with a1 a2 a3; exact ⟨a1, a3⟩
          obtain ⟨x, hx⟩ : ∃ x, t[i]? = some x := ⟨_, List.getElem?_eq_getElem (by rw [← Hn.out]; exact hlt)⟩
          have Hrec := Lib.hid (r1 i x hx)
          have hmem := List.mem_of_getElem? hx
          obtain ⟨y0, _⟩ := sg_cells (Hrec.out.mono HW.out)
          have k0 : (0 : Int) ≤ (i : Int) := by omega
          have kl : (i : Int) < (n : Int) := by omega
          have HKn := Lib.hid (keys_take hx)
          have hkl : (Sg.keys (t.take i)).length = i := by unfold Sg.keys; rw [List.length_map, List.length_take, ← Hn.out]; omega
          have HKl := Lib.hid hkl
          have HOne : Hid (Sg.compact t [x.k] = (x.k, 0, 0)) := Lib.hid (Sg.compact_one HMay.out (by unfold Sg.keys; exact List.mem_map_of_mem hmem))
          have hxs : TxSmall [x.k] := fun z hz => by rw [List.mem_singleton] at hz; subst hz; have := key_small HMay.out hmem; omega
          have HXs := Lib.hid hxs
          have hb := below_alloc wr (.cells #[.string (str x.k)] 9)
          have HK4 := Lib.hid (HK.out.mono hb)
          have HS4 := Lib.hid (slc_new txC_len wr wr.heap.size rfl [x.k] 9 (by simp) #[.string (str x.k)] rfl)
          have HW4 := Lib.hid (below_step HW.out hb)
          have hz4 := Nat.le_trans HZ.out hb.size
          clear hb hkl hxs r1 e1 hx hmem
          go_wp2_with (at_builtin; refine wpList_append_slc Tryd.underlying34 infoTx13 rfl (by decide) txC_len txC_cell rfl _ _ rfl w2.heap.size _ _ (Sg.keys (t.take i)) [x.k] rfl HK4.out rfl HS4.out (by rw [HKl.out]; simp; omega) (by rw [HKl.out]; unfold maxLen; simp; omega) hz4 ?_; intro v9 w9 h9 hg9; have HK9 := Lib.hid h9; have HZ9 := Lib.hid (Nat.le_trans hz4 hg9.size); have HW9 := Lib.hid (below_app HW4.out hg9 (HK4.out.down13 HZb.out) HW4.out.size); clear h9 hg9 y0; obtain ⟨y0, _⟩ := sg_cells (Hrec.out.mono HW9.out))
          have hb := below_alloc w9 (.cells #[.string (str x.k)] 9)
          have HS5 := Lib.hid (slc_new txC_len w9 w9.heap.size rfl [x.k] 9 (by simp) #[.string (str x.k)] rfl)
          have HW5 := Lib.hid (below_step HW9.out hb)
          have HK5 := Lib.hid (HK9.out.mono hb)
          have HZ5 := Lib.hid (Nat.le_trans HZ9.out hb.size)
          have HCx := HC.out _ [x.k] _ (SlcAt.mono HA.out HW5.out) HS5.out HXs.out
          unfold CompPost at HCx
          rw [HOne.out] at HCx
          have HCx := Lib.hid HCx
          clear hb y0
          simp only [flt] at HCx
          go_wp2_with fail
          refine HCx.out.mono ?_
          rintro e w6 ⟨rfl, hb⟩
          have HW6 := Lib.hid (below_step HW5.out hb)
          have HK6 := Lib.hid (HK5.out.mono hb)
          have HZ6 := Lib.hid (Nat.le_trans HZ5.out hb.size)
          clear hb
          have hb := below_alloc w6 (.cells #[.int .i64 0, .int .i64 0] 26)
          have HO7 := Lib.hid (flt_obj w6 0 0)
          have HW7 := Lib.hid (below_step HW6.out hb)
          have HK7 := Lib.hid (HK6.out.mono hb)
          have HZ7 := Lib.hid (Nat.le_trans HZ6.out hb.size)
          clear hb
          obtain ⟨q0, q1⟩ := two_of13 HO7.out
          obtain ⟨y0, _⟩ := sg_cells (Hrec.out.mono HW7.out)
          go_wp2
          go_roundw
          case rel => exact ⟨i + 1, by omega, by go_num, Lib.hid (by rw [HKn.out]; exact HK7.out), HW7, HZ7⟩
          case measure => simp [intOf]; omega
        · have HT : Hid (t.take i = t) := Lib.hid (List.take_of_length_le (by rw [← Hn.out]; omega))
          rw [HT.out] at HK
          have hks : TxSmall (Sg.keys t) := fun z hz => by
            unfold Sg.keys at hz
            obtain ⟨y, hy, rfl⟩ := List.mem_map.1 hz
            have := key_small HMay.out hy
            omega
          have HCx := HC.out _ (Sg.keys t) _ (SlcAt.mono HA.out HW.out) (HK.out.at txC_len) hks
          unfold CompPost at HCx
          by_cases h3 : 3 ≤ n
          · rw [Sg.compact_all HMay.out (by rw [← Hn.out]; exact h3)] at HCx
            obtain ⟨b1, o1, d1, e1, r1⟩ := HA.out.2.2 (by rw [← Hn.out]; omega)
            rw [← Hn.out] at e1
            obtain ⟨rfl, rfl⟩ : a = some ⟨b1, o1, none⟩ ∧ cp = d1 := by injection e1 with a1 a2 a3; exact ⟨a1, a3⟩
            obtain ⟨j, hj⟩ : ∃ j, j + 1 = n := ⟨n - 1, by omega⟩
            obtain ⟨x, hx⟩ : ∃ x, t[0]? = some x := ⟨_, List.getElem?_eq_getElem (by rw [← Hn.out]; omega)⟩
            obtain ⟨y, hy⟩ : ∃ y, t[j]? = some y := ⟨_, List.getElem?_eq_getElem (by rw [← Hn.out]; omega)⟩
            rw [keys_first hx, keys_last hy (by rw [← Hn.out]; exact hj)] at HCx
            have hxl := key_small HMay.out (List.mem_of_getElem? hx)
            have hyl := key_small HMay.out (List.mem_of_getElem? hy)
            have Hr0 := Lib.hid (r1 0 x hx)
            have Hr1 := Lib.hid (r1 j y hy)
            obtain ⟨c1, hc1⟩ : ∃ c, c = x.k ++ [46, 46] := ⟨_, rfl⟩
            obtain ⟨c2, hc2⟩ : ∃ c, c = c1 ++ y.k := ⟨_, rfl⟩
            have l1 : c1.length = x.k.length + 2 := by rw [hc1]; simp
            have a1 := fun wx => sum_str13 x.k [46, 46] c1 (by simp; omega) hc1 wx
            have a2 := fun wx => sum_str13 c1 y.k c2 (by omega) hc2 wx
            have e46 : str [46, 46] = ⟨#[46, 46]⟩ := rfl
            rw [e46] at a1
            have hcc : x.k ++ (Sg.dd ++ y.k) = c2 := by rw [hc2, hc1, List.append_assoc]; rfl
            rw [hcc] at HCx
            simp only [flt] at HCx
            have HCx := Lib.hid HCx
            have nl := wr_back13 hj (by omega)
            have g3 : ¬ ((n : Int) < (3 : Int)) := by omega
            have j0 : (0 : Int) ≤ (j : Int) := by omega
            have jl : (j : Int) < (n : Int) := by omega
            have n0 : (0 : Int) < (n : Int) := by omega
            have n0' : 0 < n := by omega
            have n0'' : n ≠ 0 := by omega
            clear e1 r1 hx hy hxl hyl hc1 hc2 l1 e46 hcc hks
            obtain ⟨nl1, nl2⟩ := nl
            go_wp2_with fail
            refine HCx.out.mono ?_
            rintro e w6 ⟨rfl, hb⟩
            have HW6 := Lib.hid (below_step HW.out hb)
            clear hb
            have hb := below_alloc w6 (.cells #[.int .i64 0, .int .i64 0] 26)
            have HO7 := Lib.hid (flt_obj w6 0 0)
            have HW7 := Lib.hid (below_step HW6.out hb)
            clear hb
            obtain ⟨q0, q1⟩ := two_of13 HO7.out
            obtain ⟨y0, _⟩ := sg_cells (Hr0.out.mono HW7.out)
            obtain ⟨y1, _⟩ := sg_cells (Hr1.out.mono HW7.out)
            rw [Nat.zero_mul, Nat.add_zero] at y0
            go_wp2_with fail
            go_quiet (fail)
            go_wp2
            go_ret
            exact ⟨rfl, below_step HW7.out (below_drew _ _)⟩
          · rw [Sg.compact_ok HMay.out (fun k hk => hk)] at HCx
            simp only [flt] at HCx
            have HCx := Lib.hid HCx
            have g3 : ((n : Int) < (3 : Int)) := by omega
            clear hks
            go_wp2_with fail
            refine HCx.out.mono ?_
            rintro e w6 ⟨rfl, hb⟩
            have HW6 := Lib.hid (below_step HW.out hb)
            clear hb
            have hb := below_alloc w6 (.cells #[.int .i64 0, .int .i64 0] 26)
            have HO7 := Lib.hid (flt_obj w6 0 0)
            have HW7 := Lib.hid (below_step HW6.out hb)
            clear hb
            obtain ⟨q0, q1⟩ := two_of13 HO7.out
            go_wp2_with fail
            go_quiet (fail)
            go_wp2
            go_ret
            exact ⟨rfl, below_step HW7.out (below_drew _ _)⟩
  · have g1 : ((100 : Int) < (n : Int)) := by omega
    go_enter Tryd.func8, Tryd.ntmps8
    go_wp2_with fail
    refine (HF.out _ (Below.refl _ _)).mono ?_
    rintro e w1 ⟨rfl, hb⟩
    have HB := Lib.hid hb
    clear hb
    go_wp2_with fail
    refine (HF.out _ HB.out).mono ?_
    rintro e w2 ⟨rfl, hb⟩
    have HB := Lib.hid (below_step HB.out hb)
    clear hb
    go_wp2
    go_ret
    exact ⟨rfl, HB.out⟩
end Go.Proofs.YtlgfmkmpopcciaaDoor
