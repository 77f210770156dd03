/-
  The reference's Parse.
-/
import Derived.Test.YtlgfmkmpopcciaaDoorParse13
import Derived.Test.YtlgfmkmpopcciaaDoorRefSplit13
import Derived.Test.YtlgfmkmpopcciaaDoorRefCut13
import Derived.Test.YtlgfmkmpopcciaaDoorRefKey13
import Derived.Test.YtlgfmkmpopcciaaDoorExpand13
set_option linter.unusedVariables false
set_option linter.unusedSimpArgs false
namespace Go.Proofs.YtlgfmkmpopcciaaDoor
open Go.RowKit

theorem split_len13 (c : UInt8) (s : List UInt8) : ∀ x ∈ Mt.split c s, x.length ≤ s.length := by
  intro x hx
  obtain ⟨p, q, e⟩ := List.append_of_mem hx
  have h := Mt.join_split c s
  rw [e] at h
  have key : ∀ (p q : List (List UInt8)), x.length ≤ (Mt.join c (p ++ x :: q)).length := by
    intro p
    induction p with
    | nil =>
      intro q
      cases q with
      | nil => exact Nat.le_refl _
      | cons y r => rw [List.nil_append, Mt.join_cons c x (by simp), List.length_append]; omega
    | cons y r ih =>
      intro q
      rw [List.cons_append, Mt.join_cons c y (by simp), List.length_append, List.length_cons]
      have := ih q
      omega
  rw [← h]
  exact key p q
theorem wr_less13 {j n : Nat} (h : j + 1 = n) (hb : n ≤ 1099511627776) : IntKind.i64.wrap ((n : Int) - 1) = (j : Int) ∧ wrap64 ((n : Int) - 1) = (j : Int) := by
  have e : (n : Int) - 1 = (j : Int) := by omega
  rw [e]
  exact ⟨IntWalk.i64_in _ (by omega), w64 (by omega) (by omega)⟩
theorem tx_slice13 {B : Nat} {v : Value} {l : List (List UInt8)} {w : World} (h : OwnTx B v l w) : ∃ a cap, v = .slice a l.length cap := by
  obtain ⟨⟨a, cap, e, _⟩, _⟩ := h.at txC_len
  exact ⟨a, cap, e⟩
theorem own_apart13 {B1 B2 : Nat} {lv v : Value} {l : List (List UInt8)} {t : List Sg.Sig} {w : World} (h : OwnTx B1 lv l w) (h2 : OwnSg B2 v t w) : lv.ownBlock = none ∨ lv.ownBlock ≠ v.ownBlock := by
  rcases h.2 with ⟨rfl, _⟩ | ⟨g, cap, cur, rfl, _, hg, _⟩
  · left; rfl
  · right; exact own_off9 h2 hg (by decide)
theorem parse_last {acc : List Sg.Sig} {i : Nat} {L : List (List UInt8)} {x : List UInt8} (hx : L[i]? = some x) (hi : i + 1 = L.length) : Sg.parseL acc i (L.drop i) = if x = [] then (acc, 0, 0) else ([], 130, (i : Int)) := by
  obtain ⟨h1, h2⟩ := List.getElem?_eq_some_iff.1 hx
  rw [List.drop_eq_getElem_cons h1, h2, List.drop_eq_nil_of_le (by omega)]
  rfl
theorem parse_more {acc : List Sg.Sig} {i : Nat} {L : List (List UInt8)} {x : List UInt8} (hx : L[i]? = some x) (hi : i + 1 < L.length) : Sg.parseL acc i (L.drop i) = match Sg.lineOk x with
    | none => ([], 130, (i : Int))
    | some x => if x.k ∈ Sg.keys acc then ([], 131, (i : Int)) else if acc.length = 100 then ([], 132, (i : Int)) else Sg.parseL (acc ++ [x]) (i + 1) (L.drop (i + 1)) := by
  obtain ⟨h1, h2⟩ := List.getElem?_eq_some_iff.1 hx
  rw [List.drop_eq_getElem_cons h1, h2]
  obtain ⟨m, r, e⟩ : ∃ m r, L.drop (i + 1) = m :: r := ⟨_, _, List.drop_eq_getElem_cons hi⟩
  rw [e]
  rfl
set_option maxHeartbeats 8000000 in
set_option maxRecDepth 100000 in
theorem refParse_any (s : List UInt8) (hs : s.length ≤ 4294967296) (w : World) : Calls Tryd.prog 11 #[.string (str s)] w (ParsePost (Sg.parse s) w) := by
  obtain ⟨R, hR⟩ : ∃ R, R = Sg.parse s := ⟨_, rfl⟩
  have H0 : Hid (R = Sg.parseL [] 0 ((Mt.split 10 s).drop 0)) := Lib.hid (by rw [hR, List.drop_zero]; rfl)
  rw [← hR]
  clear hR
  have HSp := Lib.hid (fun wx => refSplit_any s hs 10 wx)
  obtain ⟨L, hLL⟩ : ∃ L, L = Mt.split 10 s := ⟨_, rfl⟩
  have hcnt := split_count 10 s
  have hlen := split_len13 10 s
  rw [← hLL] at HSp H0 hcnt hlen
  have HLen : Hid (∀ x ∈ L, x.length ≤ 4294967296) := Lib.hid (fun x hx => Nat.le_trans (hlen x hx) hs)
  have hcn : L.length ≤ 4294967297 := by omega
  have HCt := Lib.hid (fun (x : List UInt8) (hx : x.length ≤ 4294967296) wx => (by have h := refCut_any (str x) (by rw [str_size13]; omega) wx; rwa [str_data] at h : Calls Tryd.prog 30 #[.string (str x)] wx (Ret (cutV (Sg.cut x)) wx)))
  have HKy := Lib.hid (fun (x : List UInt8) (hx : x.length ≤ 4294967296) wx => (by have h := refKey_any (str x) (by rw [str_size13]; omega) wx; rwa [str_data] at h : Calls Tryd.prog 31 #[.string (str x)] wx (Is (.bool (Sg.keyOk x)) wx)))
  have HNm := Lib.hid (fun (x : List UInt8) (hx : x.length ≤ 4294967296) wx => (by have h := refName_any (str x) (by rw [str_size13]; omega) wx; rwa [str_data] at h : Calls Tryd.prog 32 #[.string (str x)] wx (Is (.bool (Sg.nameOk x)) wx)))
  clear hLL hcnt hlen hs
  have HO0 := Lib.hid (new_two13 w w.heap.size rfl (.int .i64 0) (.int .i64 0) 26)
  have HB0 := Lib.hid (below_alloc w (.cells #[.int .i64 0, .int .i64 0] 26))
  obtain ⟨W1, hW1⟩ : ∃ W1, W1 = w.alloc (.cells #[.int .i64 0, .int .i64 0] 26) := ⟨_, rfl⟩
  have hz1 : W1.heap.size = w.heap.size + 1 := by rw [hW1, World.size_alloc]
  rw [← hW1] at HO0 HB0
  have HN0 : Hid (OwnSg (w.heap.size + 1) (.slice (some ⟨w.heap.size + 1, 0, none⟩) 0 0) [] (W1.alloc (.cells #[] 45))) := Lib.hid (by rw [← hz1]; exact own_empty _ _ _ _)
  have hb2 := below_alloc W1 (.cells #[] 45)
  have HO2 := Lib.hid (obj_kept hb2 HO0.out)
  have HB2 := Lib.hid (below_step HB0.out hb2)
  have HZ2 : Hid (w.heap.size + 1 ≤ (W1.alloc (.cells #[] 45)).heap.size) := Lib.hid (by rw [← hz1]; exact hb2.size)
  rw [hW1] at HN0 HO2 HB2 HZ2
  clear hz1 hb2 HO0 HB0 hW1
  go_enter Tryd.func11, Tryd.ntmps11
  go_wp2_with fail
  obtain ⟨W2, hW2⟩ : ∃ W2, W2 = (w.alloc (.cells #[.int .i64 0, .int .i64 0] 26)).alloc (.cells #[] 45) := ⟨_, rfl⟩
  rw [← hW2] at HN0 HO2 HB2 HZ2
  rw [← hW2]
  clear hW2
  refine (HSp.out _).mono ?_
  rintro e w3 ⟨lv, rfl, hl, hb⟩
  obtain ⟨p, d, rfl⟩ := tx_slice13 hl
  have HL3 := Lib.hid hl
  have HN3 := Lib.hid (HN0.out.mono hb)
  have HO3 := Lib.hid (obj_kept hb HO2.out)
  have HB3 := Lib.hid (below_step HB2.out hb)
  have HZ3 := Lib.hid (Nat.le_trans HZ2.out hb.size)
  obtain ⟨nl, hnl⟩ : ∃ n, n = L.length := ⟨_, rfl⟩
  have Hnl := Lib.hid hnl
  rw [← hnl] at HL3 hcn ⊢
  clear hl hb hnl HN0 HO2 HB2 HZ2
  go_wp2_with fail
  go_loopw [4, 6] (fun ov iv wr => ∃ (i : Nat) (acc : List Sg.Sig) (a : Option Addr) (cap : Nat), iv = .int .i64 i ∧ ov = .slice a acc.length cap ∧ i ≤ nl ∧ acc.length ≤ 100 ∧ Hid (R = Sg.parseL acc i (L.drop i)) ∧ Hid (OwnTx W2.heap.size (.slice p nl d) L wr) ∧ Hid (OwnSg (w.heap.size + 1) (.slice a acc.length cap) acc wr) ∧ Hid (wr.heap[w.heap.size]? = some (.cells #[.int .i64 0, .int .i64 0] 26 (0, 0))) ∧ Hid (w.heap.size + 1 ≤ wr.heap.size) ∧ Hid (Below w.heap.size w wr)) (fun _ iv _ => nl - (intOf iv).toNat)
  case atStart => exact ⟨0, [], _, 0, rfl, rfl, Nat.zero_le _, by simp, H0, HL3, HN3, HO3, HZ3, HB3⟩
  case round =>
    obtain ⟨i, acc, a, cap, rfl, rfl, hi, hacc, HR, HL, HN, HO, HZ, HW⟩ := hrel
    clear H0 HL3 HN3 HO3 HZ3 HB3
    obtain ⟨na, hna⟩ : ∃ n, n = acc.length := ⟨_, rfl⟩
    have Hna := Lib.hid hna
    rw [← hna] at HN hacc ⊢
    clear hna
    by_cases hlt : i < nl
    · have hlat := HL.out.at txC_len
      obtain ⟨b1, o1, d1, e1, r1⟩ := hlat.2.2 (by rw [← Hnl.out]; omega)
      rw [← Hnl.out] at e1
      obtain ⟨rfl, rfl⟩ : p = some ⟨b1, o1, none⟩ ∧ d = d1 := by injection e1 with a1 a2 a3; exact ⟨a1, a3⟩
      obtain ⟨x, hx⟩ : ∃ x, L[i]? = some x := ⟨_, List.getElem?_eq_getElem (by rw [← Hnl.out]; exact hlt)⟩
      have y0 := tx_cells (r1 i x hx)
      rw [Nat.mul_one] at y0
      have hxl := HLen.out x (List.mem_of_getElem? hx)
      have k0 : (0 : Int) ≤ (i : Int) := by omega
      have kl : (i : Int) < (nl : Int) := by omega
      have HCx := Lib.hid (fun wx => HCt.out x hxl wx)
      by_cases hlast : i + 1 = nl
      · have hp := parse_last (acc := acc) hx (by rw [← Hnl.out]; exact hlast)
        obtain ⟨nl1, nl2⟩ := wr_less13 hlast (by omega)
        by_cases hxe : x = []
        · subst hxe
          have he : (str ([] : List UInt8)).toList.isEmpty = true := by rw [Lib.toList_data]; rfl
          have HE : Hid (R = (acc, 0, 0)) := Lib.hid (by rw [HR.out, hp, if_pos rfl])
          clear hlat e1 r1 hx hp hlast HR
          have ho := HO.out
          obtain ⟨n0, n1⟩ := two_of13 ho
          have f0 := Lib.frozen_of_heap ho 0
          have f1 := Lib.frozen_of_heap ho 1
          obtain ⟨s0, s1⟩ := two_of13 (set_two13 (a := .int .i64 0) (b := .int .i64 0) ho)
          have hlt := lt_of_obj ho
          clear ho
          go_wp2
          refine bodyPost_ret (v := .tuple #[.slice a na cap, flt 0 0]) (by simp [results, Tryd.results11, go_sem, s0, s1, flt]) rfl ⟨_, by rw [HE.out], ?_, below_two13 (Nat.le_refl _) HW.out⟩
          rw [HE.out]
          exact ((HN.out.set9 (Nat.lt_succ_self _)).set9 (Nat.lt_succ_self _)).base13 (Nat.le_succ _)
        · have he : (str x).toList.isEmpty = false := by rw [Lib.toList_data, str_data, List.isEmpty_eq_false_iff]; exact hxe
          have HE : Hid (R = ([], 130, (i : Int))) := Lib.hid (by rw [HR.out, hp, if_neg hxe])
          obtain ⟨K, V, b, hcv⟩ : ∃ K V b, cutV (Sg.cut x) = .tuple #[.string K, .string V, .bool b] := by
            cases Sg.cut x with
            | none => exact ⟨_, _, _, rfl⟩
            | some x => exact ⟨_, _, _, rfl⟩
          rw [hcv] at HCx
          clear hlat e1 r1 hx hp hlast HR hcv hxe
          go_wp2_with fail
          refine (HCx.out _).mono ?_
          rintro e w1 ⟨rfl, hb⟩
          replace HW := Lib.hid (below_step HW.out hb)
          replace HO := Lib.hid (obj_kept hb HO.out)
          replace HN := Lib.hid (HN.out.mono hb)
          replace HL := Lib.hid (HL.out.mono hb)
          replace HZ := Lib.hid (Nat.le_trans HZ.out hb.size)
          clear hb
          have ho := HO.out
          obtain ⟨n0, n1⟩ := two_of13 ho
          have f0 := Lib.frozen_of_heap ho 0
          have f1 := Lib.frozen_of_heap ho 1
          obtain ⟨s0, s1⟩ := two_of13 (set_two13 (a := .int .i64 130) (b := .int .i64 (i : Int)) ho)
          have hlt := lt_of_obj ho
          clear ho
          go_wp2
          refine bodyPost_ret (v := .tuple #[.slice none 0 0, flt 130 (i : Int)]) (by simp [results, Tryd.results11, go_sem, s0, s1, flt]) rfl ⟨_, by rw [HE.out], ?_, below_two13 (Nat.le_refl _) HW.out⟩
          rw [HE.out]
          exact ownR_nil _ _ _ _ _
      · have hp := parse_more (acc := acc) hx (by rw [← Hnl.out]; omega)
        obtain ⟨j, hj⟩ : ∃ j, j + 1 = nl := ⟨nl - 1, by omega⟩
        obtain ⟨nl1, nl2⟩ := wr_less13 hj (by omega)
        have gne : ((i : Int) == (j : Int)) = false := by rw [beq_eq_false_iff_ne]; omega
        cases hc : Sg.cut x with
        | none =>
          have hlo : Sg.lineOk x = none := by unfold Sg.lineOk; rw [hc]
          have HE : Hid (R = ([], 130, (i : Int))) := Lib.hid (by rw [HR.out, hp, hlo])
          rw [hc] at HCx
          unfold cutV at HCx
          clear hlat e1 r1 hx hp hlast HR hc hlo hj
          go_wp2_with fail
          refine (HCx.out _).mono ?_
          rintro e w1 ⟨rfl, hb⟩
          replace HW := Lib.hid (below_step HW.out hb)
          replace HO := Lib.hid (obj_kept hb HO.out)
          replace HN := Lib.hid (HN.out.mono hb)
          replace HL := Lib.hid (HL.out.mono hb)
          replace HZ := Lib.hid (Nat.le_trans HZ.out hb.size)
          clear hb
          have ho := HO.out
          obtain ⟨n0, n1⟩ := two_of13 ho
          have f0 := Lib.frozen_of_heap ho 0
          have f1 := Lib.frozen_of_heap ho 1
          obtain ⟨s0, s1⟩ := two_of13 (set_two13 (a := .int .i64 130) (b := .int .i64 (i : Int)) ho)
          have hlt := lt_of_obj ho
          clear ho
          go_wp2
          refine bodyPost_ret (v := .tuple #[.slice none 0 0, flt 130 (i : Int)]) (by simp [results, Tryd.results11, go_sem, s0, s1, flt]) rfl ⟨_, by rw [HE.out], ?_, below_two13 (Nat.le_refl _) HW.out⟩
          rw [HE.out]
          exact ownR_nil _ _ _ _ _
        | some kn =>
          obtain ⟨k, v⟩ := kn
          have hkv := (Sg.cut_some hc).1
          have hkl : k.length ≤ 4294967296 := by have := congrArg List.length hkv; rw [List.length_append] at this; omega
          have hvl : v.length ≤ 4294967296 := by have := congrArg List.length hkv; rw [List.length_append, List.length_cons] at this; omega
          have HKx := Lib.hid (fun wx => HKy.out k hkl wx)
          have HVx := Lib.hid (fun wx => HNm.out v hvl wx)
          rw [hc] at HCx
          unfold cutV at HCx
          cases hk : Sg.keyOk k with
          | false =>
            have hlo : Sg.lineOk x = none := by unfold Sg.lineOk; rw [hc]; simp only []; rw [if_neg (by rw [hk]; simp)]
            have HE : Hid (R = ([], 130, (i : Int))) := Lib.hid (by rw [HR.out, hp, hlo])
            rw [hk] at HKx
            clear hlat e1 r1 hx hp hlast HR hc hlo hj hkv hkl hvl hk
            go_wp2_with fail
            refine (HCx.out _).mono ?_
            rintro e w1 ⟨rfl, hb⟩
            replace HW := Lib.hid (below_step HW.out hb)
            replace HO := Lib.hid (obj_kept hb HO.out)
            replace HN := Lib.hid (HN.out.mono hb)
            replace HL := Lib.hid (HL.out.mono hb)
            replace HZ := Lib.hid (Nat.le_trans HZ.out hb.size)
            clear hb
            go_wp2_with fail
            refine (HKx.out _).mono ?_
            rintro e wy ⟨rfl, rfl⟩
            have ho := HO.out
            obtain ⟨n0, n1⟩ := two_of13 ho
            have f0 := Lib.frozen_of_heap ho 0
            have f1 := Lib.frozen_of_heap ho 1
            obtain ⟨s0, s1⟩ := two_of13 (set_two13 (a := .int .i64 130) (b := .int .i64 (i : Int)) ho)
            have hlt := lt_of_obj ho
            clear ho
            go_wp2
            refine bodyPost_ret (v := .tuple #[.slice none 0 0, flt 130 (i : Int)]) (by simp [results, Tryd.results11, go_sem, s0, s1, flt]) rfl ⟨_, by rw [HE.out], ?_, below_two13 (Nat.le_refl _) HW.out⟩
            rw [HE.out]
            exact ownR_nil _ _ _ _ _
          | true =>
            rw [hk] at HKx
            cases hv : Sg.nameOk v with
            | false =>
              have hlo : Sg.lineOk x = none := by unfold Sg.lineOk; rw [hc]; simp only []; rw [if_neg (by rw [hv]; simp)]
              have HE : Hid (R = ([], 130, (i : Int))) := Lib.hid (by rw [HR.out, hp, hlo])
              rw [hv] at HVx
              clear hlat e1 r1 hx hp hlast HR hc hlo hj hkv hkl hvl hk hv
              go_wp2_with fail
              refine (HCx.out _).mono ?_
              rintro e w1 ⟨rfl, hb⟩
              replace HW := Lib.hid (below_step HW.out hb)
              replace HO := Lib.hid (obj_kept hb HO.out)
              replace HN := Lib.hid (HN.out.mono hb)
              replace HL := Lib.hid (HL.out.mono hb)
              replace HZ := Lib.hid (Nat.le_trans HZ.out hb.size)
              clear hb
              go_wp2_with fail
              refine (HKx.out _).mono ?_
              rintro e wy ⟨rfl, rfl⟩
              go_wp2_with fail
              refine (HVx.out _).mono ?_
              rintro e wy ⟨rfl, rfl⟩
              have ho := HO.out
              obtain ⟨n0, n1⟩ := two_of13 ho
              have f0 := Lib.frozen_of_heap ho 0
              have f1 := Lib.frozen_of_heap ho 1
              obtain ⟨s0, s1⟩ := two_of13 (set_two13 (a := .int .i64 130) (b := .int .i64 (i : Int)) ho)
              have hlt := lt_of_obj ho
              clear ho
              go_wp2
              refine bodyPost_ret (v := .tuple #[.slice none 0 0, flt 130 (i : Int)]) (by simp [results, Tryd.results11, go_sem, s0, s1, flt]) rfl ⟨_, by rw [HE.out], ?_, below_two13 (Nat.le_refl _) HW.out⟩
              rw [HE.out]
              exact ownR_nil _ _ _ _ _
            | true =>
              have hlo : Sg.lineOk x = some ⟨k, v⟩ := by unfold Sg.lineOk; rw [hc]; simp only []; rw [if_pos ⟨hk, hv⟩]
              rw [hlo] at hp
              simp only [] at hp
              rw [hv] at HVx
              have HFd := Lib.hid (fun wx hh => refFind_any (.slice a na cap) acc k wx hh)
              obtain ⟨q, hq⟩ : ∃ q, q = Sg.find acc k := ⟨_, rfl⟩
              rw [← hq] at HFd
              by_cases hm : k ∈ Sg.keys acc
              · have hq0 : (0 : Int) ≤ q := by
                  have h : ¬ Sg.find acc k < 0 := fun h => Sg.find_neg.1 h hm
                  omega
                have HE : Hid (R = ([], 131, (i : Int))) := Lib.hid (by rw [HR.out, hp, if_pos hm])
                clear hlat e1 r1 hx hp hlast HR hc hlo hj hkv hkl hvl hk hv hm hq
                go_wp2_with fail
                refine (HCx.out _).mono ?_
                rintro e w1 ⟨rfl, hb⟩
                replace HW := Lib.hid (below_step HW.out hb)
                replace HO := Lib.hid (obj_kept hb HO.out)
                replace HN := Lib.hid (HN.out.mono hb)
                replace HL := Lib.hid (HL.out.mono hb)
                replace HZ := Lib.hid (Nat.le_trans HZ.out hb.size)
                clear hb
                go_wp2_with fail
                refine (HKx.out _).mono ?_
                rintro e wy ⟨rfl, rfl⟩
                go_wp2_with fail
                refine (HVx.out _).mono ?_
                rintro e wy ⟨rfl, rfl⟩
                go_wp2_with fail
                refine (HFd.out _ (HN.out.at sgC_len)).mono ?_
                rintro e wy ⟨rfl, rfl⟩
                have ho := HO.out
                obtain ⟨n0, n1⟩ := two_of13 ho
                have f0 := Lib.frozen_of_heap ho 0
                have f1 := Lib.frozen_of_heap ho 1
                obtain ⟨s0, s1⟩ := two_of13 (set_two13 (a := .int .i64 131) (b := .int .i64 (i : Int)) ho)
                have hlt := lt_of_obj ho
                clear ho
                go_wp2
                refine bodyPost_ret (v := .tuple #[.slice none 0 0, flt 131 (i : Int)]) (by simp [results, Tryd.results11, go_sem, s0, s1, flt]) rfl ⟨_, by rw [HE.out], ?_, below_two13 (Nat.le_refl _) HW.out⟩
                rw [HE.out]
                exact ownR_nil _ _ _ _ _
              · have hq0 : ¬ (0 : Int) ≤ q := by
                  have h := Sg.find_neg.2 hm
                  omega
                by_cases hh : na = 100
                · have HE : Hid (R = ([], 132, (i : Int))) := Lib.hid (by rw [HR.out, hp, if_neg hm, if_pos (by rw [← Hna.out]; exact hh)])
                  have gh : ((na : Int) == 100) = true := by rw [hh]; rfl
                  clear hlat e1 r1 hx hp hlast HR hc hlo hj hkv hkl hvl hk hv hm hq hh
                  go_wp2_with fail
                  refine (HCx.out _).mono ?_
                  rintro e w1 ⟨rfl, hb⟩
                  replace HW := Lib.hid (below_step HW.out hb)
                  replace HO := Lib.hid (obj_kept hb HO.out)
                  replace HN := Lib.hid (HN.out.mono hb)
                  replace HL := Lib.hid (HL.out.mono hb)
                  replace HZ := Lib.hid (Nat.le_trans HZ.out hb.size)
                  clear hb
                  go_wp2_with fail
                  refine (HKx.out _).mono ?_
                  rintro e wy ⟨rfl, rfl⟩
                  go_wp2_with fail
                  refine (HVx.out _).mono ?_
                  rintro e wy ⟨rfl, rfl⟩
                  go_wp2_with fail
                  refine (HFd.out _ (HN.out.at sgC_len)).mono ?_
                  rintro e wy ⟨rfl, rfl⟩
                  have ho := HO.out
                  obtain ⟨n0, n1⟩ := two_of13 ho
                  have f0 := Lib.frozen_of_heap ho 0
                  have f1 := Lib.frozen_of_heap ho 1
                  obtain ⟨s0, s1⟩ := two_of13 (set_two13 (a := .int .i64 132) (b := .int .i64 (i : Int)) ho)
                  have hlt := lt_of_obj ho
                  clear ho
                  go_wp2
                  refine bodyPost_ret (v := .tuple #[.slice none 0 0, flt 132 (i : Int)]) (by simp [results, Tryd.results11, go_sem, s0, s1, flt]) rfl ⟨_, by rw [HE.out], ?_, below_two13 (Nat.le_refl _) HW.out⟩
                  rw [HE.out]
                  exact ownR_nil _ _ _ _ _
                · have HE : Hid (R = Sg.parseL (acc ++ [⟨k, v⟩]) (i + 1) (L.drop (i + 1))) := Lib.hid (by rw [HR.out, hp, if_neg hm, if_neg (by rw [← Hna.out]; exact hh)])
                  have gh : ((na : Int) == 100) = false := by rw [beq_eq_false_iff_ne]; omega
                  have hna2 : na + 1 ≤ 100 := by omega
                  clear hlat e1 r1 hx hp hlast HR hc hlo hj hkv hkl hvl hk hv hm hq hh
                  go_wp2_with fail
                  refine (HCx.out _).mono ?_
                  rintro e w1 ⟨rfl, hb⟩
                  replace HW := Lib.hid (below_step HW.out hb)
                  replace HO := Lib.hid (obj_kept hb HO.out)
                  replace HN := Lib.hid (HN.out.mono hb)
                  replace HL := Lib.hid (HL.out.mono hb)
                  replace HZ := Lib.hid (Nat.le_trans HZ.out hb.size)
                  clear hb
                  go_wp2_with fail
                  refine (HKx.out _).mono ?_
                  rintro e wy ⟨rfl, rfl⟩
                  go_wp2_with fail
                  refine (HVx.out _).mono ?_
                  rintro e wy ⟨rfl, rfl⟩
                  go_wp2_with fail
                  refine (HFd.out _ (HN.out.at sgC_len)).mono ?_
                  rintro e wz ⟨rfl, rfl⟩
                  have hb5 := below_alloc w1 (.cells #[.string (str k), .string (str v)] 45)
                  have HN5 := Lib.hid (HN.out.mono hb5)
                  have HS5 := Lib.hid (slc_new sgC_len w1 w1.heap.size rfl [(⟨k, v⟩ : Sg.Sig)] 45 (by simp) #[.string (str k), .string (str v)] rfl)
                  have HW5 := Lib.hid (below_step HW.out hb5)
                  have HO5 := Lib.hid (obj_kept hb5 HO.out)
                  have HL5 := Lib.hid (HL.out.mono hb5)
                  have hz5 := Nat.le_trans HZ.out hb5.size
                  clear HW HO HN HL HZ hb5 y0
                  go_wp2_with (at_builtin; refine wpList_append_slc Tryd.underlying22 infoSg13 rfl (by decide) sgC_len sgC_cell rfl _ _ rfl (w.heap.size + 1) _ _ acc [(⟨k, v⟩ : Sg.Sig)] rfl HN5.out rfl HS5.out (by have := Hna.out; simp; omega) (by have := Hna.out; unfold maxLen; simp; omega) hz5 ?_; intro v9 w9 h9 hg9; have HN9 := Lib.hid h9; have HZ9 := Lib.hid (Nat.le_trans hz5 hg9.size); have HO9 := Lib.hid (obj_far HO5.out hg9 (own_off9 HN5.out HO5.out (by decide))); have HW9 := Lib.hid (below_app HW5.out hg9 (HN5.out.base13 (Nat.le_succ _)) HW5.out.size); have HL9 := Lib.hid (HL5.out.grown hg9 (own_apart13 HL5.out HN5.out)); clear h9 hg9)
                  obtain ⟨a9, c9, rfl⟩ := sg_slice HN9.out
                  go_wp2
                  go_roundw
                  case rel => exact ⟨i + 1, acc ++ [(⟨k, v⟩ : Sg.Sig)], a9, c9, by go_num, rfl, by omega, by rw [List.length_append, ← Hna.out]; exact hna2, HE, HL9, HN9, HO9, HZ9, HW9⟩
                  case measure => simp [intOf]; omega
    · have HE : Hid (R = (acc, 0, 0)) := Lib.hid (by rw [HR.out, List.drop_eq_nil_of_le (by rw [← Hnl.out]; omega)]; rfl)
      have ho := HO.out
      obtain ⟨n0, n1⟩ := two_of13 ho
      have f0 := Lib.frozen_of_heap ho 0
      have f1 := Lib.frozen_of_heap ho 1
      obtain ⟨s0, s1⟩ := two_of13 (set_two13 (a := .int .i64 0) (b := .int .i64 0) ho)
      have hlt := lt_of_obj ho
      clear ho
      go_wp2
      refine bodyPost_ret (v := .tuple #[.slice a na cap, flt 0 0]) (by simp [results, Tryd.results11, go_sem, s0, s1, flt]) rfl ⟨_, by rw [HE.out], ?_, below_two13 (Nat.le_refl _) HW.out⟩
      rw [HE.out]
      exact ((HN.out.set9 (Nat.lt_succ_self _)).set9 (Nat.lt_succ_self _)).base13 (Nat.le_succ _)
end Go.Proofs.YtlgfmkmpopcciaaDoor
