/-
  The reference's Expand.
-/
import Derived.Test.YtlgfmkmpopcciaaDoorRefParse13
import Derived.Test.YtlgfmkmpopcciaaDoorSep13
import Derived.Test.YtlgfmkmpopcciaaDoorRefHas13
import Derived.Test.YtlgfmkmpopcciaaDoorRefMay13
import Derived.Test.YtlgfmkmpopcciaaDoorDenoted13
set_option linter.unusedVariables false
set_option linter.unusedSimpArgs false
namespace Go.Proofs.YtlgfmkmpopcciaaDoor
open Go.RowKit

theorem sep_step {B : Nat} {lv v v' : Value} {l : List (List UInt8)} {w : World} (h : OwnTx B lv l w) (hs : lv.ownBlock = none ∨ lv.ownBlock ≠ v.ownBlock) (hv : v'.ownBlock = v.ownBlock ∨ v'.ownBlock = some w.heap.size) : lv.ownBlock = none ∨ lv.ownBlock ≠ v'.ownBlock := by
  rcases hs with hs | hs
  · exact .inl hs
  · rcases hv with hv | hv
    · exact .inr (by rw [hv]; exact hs)
    · refine .inr fun e => ?_
      rw [hv] at e
      have := (World.ownsRow.lt h _ e).2
      omega
theorem sep_new {B g : Nat} {lv v : Value} {l : List (List UInt8)} {w : World} (h : OwnTx B lv l w) (hv : v.ownBlock = some g) (hg : g < B) : lv.ownBlock = none ∨ lv.ownBlock ≠ v.ownBlock := by
  refine .inr fun e => ?_
  rw [hv] at e
  have := (World.ownsRow.lt h _ e).1
  omega
theorem quiet_at13 {f : FuncId} {args : Array Value} {v : Value} {w : World} {n : Nat} (h : Calls Tryd.prog f args (w.drewN n) (Is v (w.drewN n))) : Calls Tryd.prog f args (w.drewN n) fun e w'' => e = .returned v ∧ ∃ m, w'' = w.drewN m := Calls.quiet_of_same (h.mono fun _ _ h => ⟨h.1, h.2.symm⟩)
theorem dots_le : ∀ {L : List UInt8} {d : Nat}, Sg.dots L = some d → d + 2 ≤ L.length
  | [], d, h => by simp [Sg.dots] at h
  | [a], d, h => by simp [Sg.dots] at h
  | a :: b :: r, d, h => by
    simp only [Sg.dots] at h
    split at h
    · injection h with h; subst h; simp
    · cases e : Sg.dots (b :: r) with
      | none => rw [e] at h; cases h
      | some k =>
        rw [e] at h
        have h : k + 1 = d := by simpa using h
        have := dots_le e
        simp only [List.length_cons] at this ⊢
        omega
theorem find_place {t : List Sg.Sig} (hn : (Sg.keys t).Nodup) {k : List UInt8} (h : ¬ Sg.find t k < 0) : ∃ i : Nat, Sg.find t k = (i : Int) ∧ i < t.length := by
  have hk : k ∈ Sg.keys t := by
    by_cases hm : k ∈ Sg.keys t
    · exact hm
    · exact absurd (Sg.find_neg.2 hm) h
  obtain ⟨i, _, h1, h2⟩ := key_place hn hk
  exact ⟨i, h1, h2⟩
theorem expand_more {t : List Sg.Sig} {acc : List (List UInt8)} {i : Nat} {L : List (List UInt8)} {x : List UInt8} (hx : L[i]? = some x) : Sg.expandL t i acc (L.drop i) = match Sg.wordOf t x with
    | none => ([], 133, (i : Int))
    | some l => Sg.expandL t (i + 1) (acc ++ l) (L.drop (i + 1)) := by
  obtain ⟨h1, h2⟩ := List.getElem?_eq_some_iff.1 hx
  rw [List.drop_eq_getElem_cons h1, h2]
  rfl
set_option maxHeartbeats 8000000 in
set_option maxRecDepth 100000 in
theorem refExpand_any (v : Value) (t : List Sg.Sig) (s : List UInt8) (w : World) (h : SgsAt w v t) (hs : SgSmall t) (hl : s.length ≤ 1000000) : Calls Tryd.prog 22 #[v, .string (str s)] w (ExpPost (Sg.expand t s) w) := by
  have HA := Lib.hid h
  have HMy := Lib.hid (fun wx (hx : SgsAt wx v t) => refMay13_any v t wx hx hs)
  have HFd := Lib.hid (fun k wx (hx : SgsAt wx v t) => refFind_any v t k wx hx)
  have HSp := Lib.hid (fun wx => refSplit_any s (by omega) 32 wx)
  obtain ⟨⟨a, cp, rfl, hcap⟩, hmx, hd1⟩ := h
  have hza : t.length ≤ 9223372036854775807 := by unfold maxLen at hmx; omega
  obtain ⟨nt, hnt⟩ : ∃ n, n = t.length := ⟨_, rfl⟩
  have Hnt := Lib.hid hnt
  rw [← hnt] at HA HMy HFd hza ⊢
  obtain ⟨R, hR⟩ : ∃ R, R = Sg.expand t s := ⟨_, rfl⟩
  have HR0 := Lib.hid hR
  rw [← hR]
  obtain ⟨L, hLL⟩ : ∃ L, L = Mt.split 32 s := ⟨_, rfl⟩
  have hcnt := split_count 32 s
  have hlen := split_len13 32 s
  rw [← hLL] at HSp hcnt hlen
  have HLen : Hid (∀ x ∈ L, x.length ≤ 1000000) := Lib.hid (fun x hx => Nat.le_trans (hlen x hx) hl)
  have hcn : L.length ≤ 1000001 := by omega
  have HLL := Lib.hid hLL
  have HDt := Lib.hid (fun (x : List UInt8) (hx : x.length ≤ 1000000) wx => (by have h := refDots_any (str x) (by rw [str_size13]; omega) wx; rwa [str_data] at h : Calls Tryd.prog 46 #[.string (str x)] wx (Is (.int .i64 (dotsZ (Sg.dots x))) wx)))
  clear hLL hcnt hlen hcap hmx hd1 hR hs hl hnt
  have HO0 := Lib.hid (new_two13 w w.heap.size rfl (.int .i64 0) (.int .i64 0) 26)
  have HB0 := Lib.hid (below_alloc w (.cells #[.int .i64 0, .int .i64 0] 26))
  obtain ⟨W1, hW1⟩ : ∃ W1, W1 = w.alloc (.cells #[.int .i64 0, .int .i64 0] 26) := ⟨_, rfl⟩
  have hz1 : W1.heap.size = w.heap.size + 1 := by rw [hW1, World.size_alloc]
  rw [← hW1] at HO0 HB0
  have HZ1 := Lib.hid hz1
  clear hz1
  cases hmay : Sg.may t with
  | false =>
    have HE : Hid (R = ([], 130, -1)) := Lib.hid (by rw [HR0.out]; unfold Sg.expand; rw [if_pos hmay])
    rw [hmay] at HMy
    clear hmay HR0
    go_enter Tryd.func22, Tryd.ntmps22
    go_wp2_with fail
    rw [← hW1]
    clear hW1
    refine (HMy.out _ (SlcAt.mono HA.out HB0.out)).mono ?_
    rintro e w1 ⟨rfl, rfl⟩
    have HO := HO0
    have HW := HB0
    clear HO0 HB0
    have ho := HO.out
    obtain ⟨n0, n1⟩ := two_of13 ho
    have f0 := Lib.frozen_of_heap ho 0
    have f1 := Lib.frozen_of_heap ho 1
    obtain ⟨s0, s1⟩ := two_of13 (set_two13 (a := .int .i64 130) (b := .int .i64 (-1)) ho)
    have hlt := lt_of_obj ho
    clear ho
    go_wp2
    refine bodyPost_ret (v := .tuple #[.slice none 0 0, flt 130 (-1)]) (by simp [results, Tryd.results22, go_sem, s0, s1, flt]) rfl ⟨_, by rw [HE.out], ?_, below_two13 (Nat.le_refl _) HW.out⟩
    rw [HE.out]
    exact ownR_nil _ _ _ _ _
  | true =>
    have hmy := Sg.may_yes hmay
    have hnt : nt ≤ 100 := by rw [Hnt.out]; exact hmy.1
    have HNd := Lib.hid hmy.2.2
    have H0 : Hid (R = if s = [] then ([], 0, 0) else Sg.expandL t 0 [] (L.drop 0)) := Lib.hid (by rw [HR0.out]; unfold Sg.expand; rw [if_neg (by rw [hmay]; decide), HLL.out, List.drop_zero])
    rw [hmay] at HMy
    clear hmay HR0 hmy HLL
    have HN0 : Hid (OwnTx (w.heap.size + 1) (.slice (some ⟨W1.heap.size, 0, none⟩) 0 0) [] (W1.alloc (.cells #[] 9))) := Lib.hid (by rw [← HZ1.out]; exact own_empty _ _ _ _)
    have hb2 := below_alloc W1 (.cells #[] 9)
    have HO2 := Lib.hid (obj_kept hb2 HO0.out)
    have HB2 := Lib.hid (below_step HB0.out hb2)
    have HZ2 : Hid (w.heap.size + 1 ≤ (W1.alloc (.cells #[] 9)).heap.size) := Lib.hid (by rw [← HZ1.out]; exact hb2.size)
    have HZ3 : Hid (W1.heap.size < (W1.alloc (.cells #[] 9)).heap.size) := Lib.hid (by rw [World.size_alloc]; exact Nat.lt_succ_self _)
    clear hb2
    go_enter Tryd.func22, Tryd.ntmps22
    go_wp2_with fail
    rw [← hW1]
    clear hW1
    refine (HMy.out _ (SlcAt.mono HA.out HB0.out)).mono ?_
    rintro e w1 ⟨rfl, rfl⟩
    go_wp2_with fail
    obtain ⟨W2, hW2⟩ : ∃ W2, W2 = W1.alloc (.cells #[] 9) := ⟨_, rfl⟩
    rw [← hW2] at HN0 HO2 HB2 HZ2 HZ3
    rw [← hW2]
    clear hW2
    refine (HSp.out _).mono ?_
    rintro e w3 ⟨lv, rfl, ho, hb⟩
    obtain ⟨p, d, rfl⟩ := tx_slice13 ho
    have HL3 := Lib.hid ho
    have HS3 := Lib.hid (sep_new (v := .slice (some ⟨W1.heap.size, 0, none⟩) 0 0) ho rfl HZ3.out)
    obtain ⟨ov0, hov⟩ : ∃ o, o = (.slice (some ⟨W1.heap.size, 0, none⟩) 0 0 : Value) := ⟨_, rfl⟩
    rw [← hov] at HN0 HS3
    have HN3 := Lib.hid (HN0.out.mono hb)
    have HO3 := Lib.hid (obj_kept hb HO2.out)
    have HB3 := Lib.hid (below_step HB2.out hb)
    have HZ4 := Lib.hid (Nat.le_trans HZ2.out hb.size)
    obtain ⟨nl, hnl⟩ : ∃ n, n = L.length := ⟨_, rfl⟩
    have Hnl := Lib.hid hnl
    rw [← hnl] at HL3 HS3 hcn ⊢
    rw [← hov]
    clear ho hb hnl hov HN0 HO2 HB2 HZ2 HZ3 HO0 HB0
    go_wp2_with fail
    go_loopw [6, 8] (fun uv iv wr => ∃ (i : Nat) (acc : List (List UInt8)) (ov : Value), iv = .int .i64 i ∧ ov = uv ∧ i ≤ nl ∧ acc.length ≤ 100 * i ∧ Hid (R = if s = [] then (acc, 0, 0) else Sg.expandL t i acc (L.drop i)) ∧ Hid (OwnTx W2.heap.size (.slice p nl d) L wr) ∧ Hid (OwnTx (w.heap.size + 1) ov acc wr) ∧ Hid ((Value.slice p nl d).ownBlock = none ∨ (Value.slice p nl d).ownBlock ≠ ov.ownBlock) ∧ Hid (wr.heap[w.heap.size]? = some (.cells #[.int .i64 0, .int .i64 0] 26 (0, 0))) ∧ Hid (w.heap.size + 1 ≤ wr.heap.size) ∧ Hid (Below w.heap.size w wr)) (fun _ iv _ => nl - (intOf iv).toNat)
    case atStart => exact ⟨0, [], _, rfl, rfl, Nat.zero_le _, by simp, H0, HL3, HN3, HS3, HO3, HZ4, HB3⟩
    case round =>
      obtain ⟨i, acc, ov, rfl, rfl, hi, hacc, HR, HL, HN, HS, HO, HZ, HW⟩ := hrel
      clear H0 HL3 HN3 HS3 HO3 HZ4 HB3
      by_cases hse : s = []
      · subst hse
        have he : (str ([] : List UInt8)).toList.isEmpty = true := by rw [Lib.toList_data]; rfl
        have HE : Hid (R = (acc, 0, 0)) := Lib.hid (by rw [HR.out, if_pos rfl])
        by_cases hlt : i < nl
        · have kl : (i : Int) < (nl : Int) := by omega
          have ho := HO.out
          obtain ⟨n0, n1⟩ := two_of13 ho
          have f0 := Lib.frozen_of_heap ho 0
          have f1 := Lib.frozen_of_heap ho 1
          obtain ⟨s0, s1⟩ := two_of13 (set_two13 (a := .int .i64 0) (b := .int .i64 0) ho)
          have hlt9 := lt_of_obj ho
          clear ho
          go_wp2
          refine bodyPost_ret (v := .tuple #[ov, flt 0 0]) (by simp [results, Tryd.results22, go_sem, s0, s1, flt]) rfl ⟨_, by rw [HE.out], ?_, below_two13 (Nat.le_refl _) HW.out⟩
          rw [HE.out]
          exact ((HN.out.set9 (Nat.lt_succ_self _)).set9 (Nat.lt_succ_self _)).base13 (Nat.le_succ _)
        · have kl : ¬ (i : Int) < (nl : Int) := by omega
          have ho := HO.out
          obtain ⟨n0, n1⟩ := two_of13 ho
          have f0 := Lib.frozen_of_heap ho 0
          have f1 := Lib.frozen_of_heap ho 1
          obtain ⟨s0, s1⟩ := two_of13 (set_two13 (a := .int .i64 0) (b := .int .i64 0) ho)
          have hlt9 := lt_of_obj ho
          clear ho
          go_wp2
          refine bodyPost_ret (v := .tuple #[ov, flt 0 0]) (by simp [results, Tryd.results22, go_sem, s0, s1, flt]) rfl ⟨_, by rw [HE.out], ?_, below_two13 (Nat.le_refl _) HW.out⟩
          rw [HE.out]
          exact ((HN.out.set9 (Nat.lt_succ_self _)).set9 (Nat.lt_succ_self _)).base13 (Nat.le_succ _)
      · have he : (str s).toList.isEmpty = false := by rw [Lib.toList_data, str_data, List.isEmpty_eq_false_iff]; exact hse
        by_cases hlt : i < nl
        · have kl : (i : Int) < (nl : Int) := by omega
          have hlat := HL.out.at txC_len
          obtain ⟨b1, o1, d1, e1, r1⟩ := hlat.2.2 (by rw [← Hnl.out]; omega)
          rw [← Hnl.out] at e1
          obtain ⟨rfl, rfl⟩ : p = some ⟨b1, o1, none⟩ ∧ d = d1 := by injection e1 with a1 a2 a3; exact ⟨a1, a3⟩
          obtain ⟨x, hx⟩ : ∃ x, L[i]? = some x := ⟨_, List.getElem?_eq_getElem (by rw [← Hnl.out]; exact hlt)⟩
          have y0 := tx_cells (r1 i x hx)
          rw [Nat.mul_one] at y0
          have hxl := HLen.out x (List.mem_of_getElem? hx)
          have k0 : (0 : Int) ≤ (i : Int) := by omega
          have hp := expand_more (t := t) (acc := acc) hx
          have HRx : Hid (R = Sg.expandL t i acc (L.drop i)) := Lib.hid (by rw [HR.out, if_neg hse])
          have HDx := Lib.hid (fun wx => HDt.out x hxl wx)
          have HAW := Lib.hid (SlcAt.mono HA.out HW.out)
          have HFx := Lib.hid (fun nn => quiet_at13 (HFd.out x (wr.drewN nn) (SlcAt.mono HAW.out (below_drew wr nn))))
          obtain ⟨q, hq⟩ : ∃ q, q = Sg.find t x := ⟨_, rfl⟩
          rw [← hq] at HFx
          clear hlat e1 r1 HR
          cases hd : Sg.dots x with
          | none =>
            rw [hd] at HDx
            simp only [dotsZ] at HDx
            have hwo : Sg.wordOf t x = if Sg.find t x < 0 then none else some (Sg.range t (Sg.find t x) (Sg.find t x)) := by unfold Sg.wordOf; rw [hd]
            rw [← hq] at hwo
            by_cases hq0 : q < 0
            · have HE : Hid (R = ([], 133, (i : Int))) := Lib.hid (by rw [HRx.out, hp, hwo, if_pos hq0])
              clear hx hp hwo hq hd HRx
              go_wp2_with fail
              go_quiet (with_reducible exact HFx.out _)
              go_wp2_with fail
              refine (HDx.out _).mono ?_
              rintro e wy ⟨rfl, rfl⟩
              have hb := below_drew wr nq
              replace HW := Lib.hid (below_step HW.out hb)
              replace HO := Lib.hid (obj_kept hb HO.out)
              replace HN := Lib.hid (HN.out.mono hb)
              replace HL := Lib.hid (HL.out.mono hb)
              replace HZ := Lib.hid (Nat.le_trans HZ.out hb.size)
              generalize wr.drewN nq = w4 at *
              clear hb y0
              have ho := HO.out
              obtain ⟨n0, n1⟩ := two_of13 ho
              have f0 := Lib.frozen_of_heap ho 0
              have f1 := Lib.frozen_of_heap ho 1
              obtain ⟨s0, s1⟩ := two_of13 (set_two13 (a := .int .i64 133) (b := .int .i64 ((i : Int))) ho)
              have hlt := lt_of_obj ho
              clear ho
              go_wp2
              refine bodyPost_ret (v := .tuple #[.slice none 0 0, flt 133 ((i : Int))]) (by simp [results, Tryd.results22, go_sem, s0, s1, flt]) rfl ⟨_, by rw [HE.out], ?_, below_two13 (Nat.le_refl _) HW.out⟩
              rw [HE.out]
              exact ownR_nil _ _ _ _ _
            · obtain ⟨a0, ha0, hat⟩ := find_place HNd.out (k := x) (by rw [← hq]; exact hq0)
              have hqa : q = (a0 : Int) := by rw [hq, ha0]
              obtain ⟨b0, hb0⟩ : ∃ b0, b0 = a0 := ⟨_, rfl⟩
              have Hrest : Hid (R = Sg.expandL t (i + 1) (acc ++ Sg.range t (a0 : Int) (b0 : Int)) (L.drop (i + 1))) := Lib.hid (by rw [HRx.out, hp, hwo, if_neg hq0, hqa, hb0])
              have hbt : b0 < nt := by rw [Hnt.out, hb0]; exact hat
              have hab : a0 ≤ b0 := by omega
              have hab2 : (a0 : Int) = (b0 : Int) := by rw [hb0]
              have ha00 : ¬ ((a0 : Int) < 0) := by omega
              have hb00 : ¬ ((b0 : Int) < 0) := by omega
              rw [hqa] at HFx
              clear hx hp hwo hq hd HRx ha0 hat hqa hq0
              go_wp2_with fail
              go_quiet (with_reducible exact HFx.out _)
              go_wp2_with fail
              refine (HDx.out _).mono ?_
              rintro e wy ⟨rfl, rfl⟩
              have hb := below_drew wr nq
              replace HW := Lib.hid (below_step HW.out hb)
              replace HO := Lib.hid (obj_kept hb HO.out)
              replace HN := Lib.hid (HN.out.mono hb)
              replace HL := Lib.hid (HL.out.mono hb)
              replace HZ := Lib.hid (Nat.le_trans HZ.out hb.size)
              generalize wr.drewN nq = w4 at *
              clear hb y0 HFx HAW HDx
              subst hb0
              clear hab2
              have hj0 : Hid (acc = acc ++ ((Sg.keys t).drop b0).take (b0 - b0)) := Lib.hid (by rw [Nat.sub_self, List.take_zero, List.append_nil])
              go_wp2_with fail
              go_loopw [6, 12] (fun uv kv wr => ∃ (j : Nat) (acc2 : List (List UInt8)) (ov : Value), kv = .int .i64 j ∧ ov = uv ∧ b0 ≤ j ∧ j ≤ b0 + 1 ∧ Hid (acc2 = acc ++ ((Sg.keys t).drop b0).take (j - b0)) ∧ Hid (OwnTx W2.heap.size (.slice (some ⟨b1, o1, none⟩) nl d) L wr) ∧ Hid (OwnTx (w.heap.size + 1) ov acc2 wr) ∧ Hid ((Value.slice (some ⟨b1, o1, none⟩) nl d).ownBlock = none ∨ (Value.slice (some ⟨b1, o1, none⟩) nl d).ownBlock ≠ ov.ownBlock) ∧ Hid (wr.heap[w.heap.size]? = some (.cells #[.int .i64 0, .int .i64 0] 26 (0, 0))) ∧ Hid (w.heap.size + 1 ≤ wr.heap.size) ∧ Hid (Below w.heap.size w wr)) (fun _ kv _ => b0 + 1 - (intOf kv).toNat)
              case atStart => exact ⟨b0, acc, _, rfl, rfl, Nat.le_refl _, by omega, hj0, HL, HN, HS, HO, HZ, HW⟩
              case round =>
                obtain ⟨j, acc2, ov, rfl, rfl, ja, jb, HJ, HL1, HN1, HS1, HO1, HZ1, HW1⟩ := hrel
                clear hj0 HL HN HS HO HZ HW
                by_cases hjb : j ≤ b0
                · have kb : (j : Int) ≤ (b0 : Int) := by omega
                  obtain ⟨bt, ot, dt, et, rt⟩ := HA.out.2.2 (by rw [← Hnt.out]; omega)
                  rw [← Hnt.out] at et
                  obtain ⟨rfl, rfl⟩ : a = some ⟨bt, ot, none⟩ ∧ cp = dt := by injection et with a1 a2 a3; exact ⟨a1, a3⟩
                  obtain ⟨z, hz⟩ : ∃ z, t[j]? = some z := ⟨_, List.getElem?_eq_getElem (by rw [← Hnt.out]; omega)⟩
                  obtain ⟨z0, z1⟩ := sg_cells ((rt j z hz).mono HW1.out)
                  have k0 : (0 : Int) ≤ (j : Int) := by omega
                  have kl : (j : Int) < (nt : Int) := by omega
                  have HJ2 : Hid (acc2 ++ [z.k] = acc ++ ((Sg.keys t).drop b0).take (j + 1 - b0)) := Lib.hid (by
                    have e : j + 1 - b0 = (j - b0) + 1 := by omega
                    have hk : ((Sg.keys t).drop b0)[j - b0]? = some z.k := by
                      rw [List.getElem?_drop, show b0 + (j - b0) = j by omega]
                      unfold Sg.keys
                      rw [List.getElem?_map, hz]
                      rfl
                    rw [e, It.take_snoc hk, HJ.out, List.append_assoc])
                  have hl2 : acc2.length ≤ acc.length + 200 := by
                    rw [HJ.out, List.length_append, List.length_take]
                    have := hnt
                    omega
                  have hb5 := below_alloc wr (.cells #[.string (str z.k)] 9)
                  have HN5 := Lib.hid (HN1.out.mono hb5)
                  have HS5 := Lib.hid (slc_new txC_len wr wr.heap.size rfl [z.k] 9 (by simp) #[.string (str z.k)] rfl)
                  have HW5 := Lib.hid (below_step HW1.out hb5)
                  have HO5 := Lib.hid (obj_kept hb5 HO1.out)
                  have HL5 := Lib.hid (HL1.out.mono hb5)
                  have hz5 := Nat.le_trans HZ1.out hb5.size
                  clear hb5 et rt hz HW1 HO1 HN1 HL1 HZ1
                  go_wp2_with (at_builtin; refine wpList_append_sep Tryd.underlying34 infoTx13 rfl (by decide) txC_len txC_cell rfl _ _ rfl (w.heap.size + 1) _ _ acc2 z.k rfl HN5.out rfl HS5.out (by omega) (by unfold maxLen; omega) hz5 ?_; intro v9 w9 h9 hg9 hq9; have HN9 := Lib.hid h9; have HZ9 := Lib.hid (Nat.le_trans hz5 hg9.size); have HO9 := Lib.hid (obj_far HO5.out hg9 (own_off9 HN5.out HO5.out (by decide))); have HW9 := Lib.hid (below_app HW5.out hg9 (HN5.out.base13 (Nat.le_succ _)) HW5.out.size); have HL9 := Lib.hid (HL5.out.grown hg9 HS1.out); have HS9 := Lib.hid (sep_step HL5.out HS1.out hq9); clear h9 hg9 hq9)
                  go_wp2
                  go_roundw
                  case rel => exact ⟨j + 1, acc2 ++ [z.k], _, by go_num, rfl, by omega, by omega, HJ2, HL9, HN9, HS9, HO9, HZ9, HW9⟩
                  case measure => simp [intOf]; omega
                · have kb : ¬ (j : Int) ≤ (b0 : Int) := by omega
                  obtain rfl : j = b0 + 1 := by omega
                  have HA2 : Hid (R = if s = [] then (acc2, 0, 0) else Sg.expandL t (i + 1) acc2 (L.drop (i + 1))) := Lib.hid (by rw [if_neg hse, Hrest.out, HJ.out]; unfold Sg.range; simp only [Int.toNat_natCast]; rw [List.drop_take])
                  have hl2 : acc2.length ≤ 100 * (i + 1) := by
                    rw [HJ.out, List.length_append, List.length_take]
                    have h1 : ((Sg.keys t).drop b0).length ≤ 100 := by rw [List.length_drop]; unfold Sg.keys; rw [List.length_map, ← Hnt.out]; omega
                    omega
                  go_wp2
                  go_roundw
                  case rel => exact ⟨i + 1, acc2, _, by go_num, rfl, by omega, hl2, HA2, HL1, HN1, HS1, HO1, HZ1, HW1⟩
                  case measure => simp [intOf]; omega
          | some dd =>

            rw [hd] at HDx
            simp only [dotsZ] at HDx
            have hdl := dots_le hd
            obtain ⟨qa, hqa⟩ : ∃ q, q = Sg.find t (x.take dd) := ⟨_, rfl⟩
            obtain ⟨qb, hqb⟩ : ∃ q, q = Sg.find t (x.drop (dd + 2)) := ⟨_, rfl⟩
            have hwo : Sg.wordOf t x = if qa < 0 ∨ qb < 0 ∨ qb ≤ qa then none else some (Sg.range t qa qb) := by unfold Sg.wordOf; rw [hd, hqa, hqb]
            have hs1 : ∀ wx, (Instr.slice 9 (.string (str x)) none (some (.int .i64 (dd : Int))) none).run Tryd.prog wx = .ok (.string (str (x.take dd))) wx := fun wx => by
              rw [run_slice_string_h wx 9 (str x) Tryd.underlying9 .i64 dd (by omega) (by rw [str_size13]; omega), Int.toNat_natCast, extract13 (str x) 0 dd (by rw [str_size13]; omega), str_data, List.drop_zero, Nat.sub_zero]
            have hs2 : ∀ wx, (Instr.slice 9 (.string (str x)) (some (.int .i64 ((dd : Int) + 2))) none none).run Tryd.prog wx = .ok (.string (str (x.drop (dd + 2)))) wx := fun wx => by
              rw [run_slice_string_l wx 9 (str x) Tryd.underlying9 .i64 ((dd : Int) + 2) (by omega) (by rw [str_size13]; omega), show ((dd : Int) + 2).toNat = dd + 2 by omega, extract13 (str x) (dd + 2) _ (Nat.le_refl _), str_data, str_size13]
              rw [List.take_of_length_le (by rw [List.length_drop]; omega)]
            have hs3 : ∀ wx, (Instr.sliceAt 9 (.string (str x)) none (some (.int .i64 (dd : Int))) none).run Tryd.prog wx = .ok (.string (str (x.take dd))) wx := fun wx => by
              rw [run_sliceAt_string (h := Tryd.underlying9)]; exact hs1 wx
            have hs4 : ∀ wx, (Instr.sliceAt 9 (.string (str x)) (some (.int .i64 ((dd : Int) + 2))) none none).run Tryd.prog wx = .ok (.string (str (x.drop (dd + 2)))) wx := fun wx => by
              rw [run_sliceAt_string (h := Tryd.underlying9)]; exact hs2 wx
            have d0 : (0 : Int) ≤ (dd : Int) := by omega
            have W2a : Hid (IntKind.i64.wrap ((dd : Int) + 2) = (dd : Int) + 2) := Lib.hid (IntWalk.i64_in _ (by omega))
            have W2b : Hid (wrap64 ((dd : Int) + 2) = (dd : Int) + 2) := Lib.hid (w64 (by omega) (by omega))
            obtain ⟨xa, hxa⟩ : ∃ y, y = x.take dd := ⟨_, rfl⟩
            obtain ⟨xb, hxb⟩ : ∃ y, y = x.drop (dd + 2) := ⟨_, rfl⟩
            rw [← hxa] at hs1 hs3 hqa
            rw [← hxb] at hs2 hs4 hqb
            by_cases hbad : qa < 0 ∨ qb < 0 ∨ qb ≤ qa
            · have HE : Hid (R = ([], 133, (i : Int))) := Lib.hid (by rw [HRx.out, hp, hwo, if_pos hbad])
              clear hx hp hwo hq hd HRx hdl hxa hxb
              go_wp2_with fail
              go_quiet (with_reducible exact HFx.out _)
              go_wp2_with fail
              refine (HDx.out _).mono ?_
              rintro e wy ⟨rfl, rfl⟩
              have hb := below_drew wr nq
              replace y0 := cell_below hb y0
              replace HAW := Lib.hid (SlcAt.mono HAW.out hb)
              replace HW := Lib.hid (below_step HW.out hb)
              replace HO := Lib.hid (obj_kept hb HO.out)
              replace HN := Lib.hid (HN.out.mono hb)
              replace HL := Lib.hid (HL.out.mono hb)
              replace HZ := Lib.hid (Nat.le_trans HZ.out hb.size)
              generalize wr.drewN nq = w4 at *
              clear hb HFx HDx
              have HFa := Lib.hid (fun nn => quiet_at13 (HFd.out xa (w4.drewN nn) (SlcAt.mono HAW.out (below_drew w4 nn))))
              have HFb := Lib.hid (fun nn => quiet_at13 (HFd.out xb (w4.drewN nn) (SlcAt.mono HAW.out (below_drew w4 nn))))
              rw [← hqa] at HFa
              rw [← hqb] at HFb
              have w2a := W2a.out
              have w2b := W2b.out
              go_wp2_with fail
              go_quiet (first | with_reducible exact HFa.out _ | with_reducible exact HFb.out _)
              have hb := below_drew w4 nq
              replace HW := Lib.hid (below_step HW.out hb)
              replace HO := Lib.hid (obj_kept hb HO.out)
              replace HN := Lib.hid (HN.out.mono hb)
              replace HL := Lib.hid (HL.out.mono hb)
              replace HZ := Lib.hid (Nat.le_trans HZ.out hb.size)
              generalize w4.drewN nq = w5 at *
              clear hb y0 hs1 hs2 hs3 hs4 HAW HFa HFb w2a w2b W2a W2b
              clear hqa hqb
              by_cases c1 : qa < 0
              · have ho := HO.out
                obtain ⟨n0, n1⟩ := two_of13 ho
                have f0 := Lib.frozen_of_heap ho 0
                have f1 := Lib.frozen_of_heap ho 1
                obtain ⟨s0, s1⟩ := two_of13 (set_two13 (a := .int .i64 133) (b := .int .i64 ((i : Int))) ho)
                have hlt := lt_of_obj ho
                clear ho
                go_wp2
                refine bodyPost_ret (v := .tuple #[.slice none 0 0, flt 133 ((i : Int))]) (by simp [results, Tryd.results22, go_sem, s0, s1, flt]) rfl ⟨_, by rw [HE.out], ?_, below_two13 (Nat.le_refl _) HW.out⟩
                rw [HE.out]
                exact ownR_nil _ _ _ _ _
              · by_cases c2 : qb < 0
                · have ho := HO.out
                  obtain ⟨n0, n1⟩ := two_of13 ho
                  have f0 := Lib.frozen_of_heap ho 0
                  have f1 := Lib.frozen_of_heap ho 1
                  obtain ⟨s0, s1⟩ := two_of13 (set_two13 (a := .int .i64 133) (b := .int .i64 ((i : Int))) ho)
                  have hlt := lt_of_obj ho
                  clear ho
                  go_wp2
                  refine bodyPost_ret (v := .tuple #[.slice none 0 0, flt 133 ((i : Int))]) (by simp [results, Tryd.results22, go_sem, s0, s1, flt]) rfl ⟨_, by rw [HE.out], ?_, below_two13 (Nat.le_refl _) HW.out⟩
                  rw [HE.out]
                  exact ownR_nil _ _ _ _ _
                · have c3 : qb ≤ qa := by omega
                  have ho := HO.out
                  obtain ⟨n0, n1⟩ := two_of13 ho
                  have f0 := Lib.frozen_of_heap ho 0
                  have f1 := Lib.frozen_of_heap ho 1
                  obtain ⟨s0, s1⟩ := two_of13 (set_two13 (a := .int .i64 133) (b := .int .i64 ((i : Int))) ho)
                  have hlt := lt_of_obj ho
                  clear ho
                  go_wp2
                  refine bodyPost_ret (v := .tuple #[.slice none 0 0, flt 133 ((i : Int))]) (by simp [results, Tryd.results22, go_sem, s0, s1, flt]) rfl ⟨_, by rw [HE.out], ?_, below_two13 (Nat.le_refl _) HW.out⟩
                  rw [HE.out]
                  exact ownR_nil _ _ _ _ _
            · obtain ⟨a0, ha0, hat⟩ := find_place HNd.out (k := xa) (by rw [← hqa]; omega)
              obtain ⟨b0, hb0, hbt⟩ := find_place HNd.out (k := xb) (by rw [← hqb]; omega)
              have ea : qa = (a0 : Int) := by rw [hqa, ha0]
              have eb : qb = (b0 : Int) := by rw [hqb, hb0]
              have Hrest : Hid (R = Sg.expandL t (i + 1) (acc ++ Sg.range t (a0 : Int) (b0 : Int)) (L.drop (i + 1))) := Lib.hid (by rw [HRx.out, hp, hwo, if_neg hbad, ea, eb])
              rw [← Hnt.out] at hbt
              have hlt2 : ¬ ((b0 : Int) ≤ (a0 : Int)) := by omega
              have hab : a0 ≤ b0 := by omega
              have ha00 : ¬ ((a0 : Int) < 0) := by omega
              have hb00 : ¬ ((b0 : Int) < 0) := by omega
              clear hx hp hwo hq hd HRx hdl hxa hxb hat hqa hqb ea eb hbad
              go_wp2_with fail
              go_quiet (with_reducible exact HFx.out _)
              go_wp2_with fail
              refine (HDx.out _).mono ?_
              rintro e wy ⟨rfl, rfl⟩
              have hb := below_drew wr nq
              replace y0 := cell_below hb y0
              replace HAW := Lib.hid (SlcAt.mono HAW.out hb)
              replace HW := Lib.hid (below_step HW.out hb)
              replace HO := Lib.hid (obj_kept hb HO.out)
              replace HN := Lib.hid (HN.out.mono hb)
              replace HL := Lib.hid (HL.out.mono hb)
              replace HZ := Lib.hid (Nat.le_trans HZ.out hb.size)
              generalize wr.drewN nq = w4 at *
              clear hb HFx HDx
              have HFa := Lib.hid (fun nn => quiet_at13 (HFd.out xa (w4.drewN nn) (SlcAt.mono HAW.out (below_drew w4 nn))))
              have HFb := Lib.hid (fun nn => quiet_at13 (HFd.out xb (w4.drewN nn) (SlcAt.mono HAW.out (below_drew w4 nn))))
              rw [ha0] at HFa
              rw [hb0] at HFb
              have w2a := W2a.out
              have w2b := W2b.out
              go_wp2_with fail
              go_quiet (first | with_reducible exact HFa.out _ | with_reducible exact HFb.out _)
              have hb := below_drew w4 nq
              replace HW := Lib.hid (below_step HW.out hb)
              replace HO := Lib.hid (obj_kept hb HO.out)
              replace HN := Lib.hid (HN.out.mono hb)
              replace HL := Lib.hid (HL.out.mono hb)
              replace HZ := Lib.hid (Nat.le_trans HZ.out hb.size)
              generalize w4.drewN nq = w5 at *
              clear hb y0 hs1 hs2 hs3 hs4 HAW HFa HFb w2a w2b W2a W2b
              clear ha0 hb0
              have dgn : decide (b0 ≤ a0) = false := decide_eq_false (by omega)
              have dgm : decide ((b0 : Int) ≤ (a0 : Int)) = false := decide_eq_false (by omega)
              have hj0 : Hid (acc = acc ++ ((Sg.keys t).drop a0).take (a0 - a0)) := Lib.hid (by rw [Nat.sub_self, List.take_zero, List.append_nil])
              go_wp2_with fail
              go_loopw [6, 12] (fun uv kv wr => ∃ (j : Nat) (acc2 : List (List UInt8)) (ov : Value), kv = .int .i64 j ∧ ov = uv ∧ a0 ≤ j ∧ j ≤ b0 + 1 ∧ Hid (acc2 = acc ++ ((Sg.keys t).drop a0).take (j - a0)) ∧ Hid (OwnTx W2.heap.size (.slice (some ⟨b1, o1, none⟩) nl d) L wr) ∧ Hid (OwnTx (w.heap.size + 1) ov acc2 wr) ∧ Hid ((Value.slice (some ⟨b1, o1, none⟩) nl d).ownBlock = none ∨ (Value.slice (some ⟨b1, o1, none⟩) nl d).ownBlock ≠ ov.ownBlock) ∧ Hid (wr.heap[w.heap.size]? = some (.cells #[.int .i64 0, .int .i64 0] 26 (0, 0))) ∧ Hid (w.heap.size + 1 ≤ wr.heap.size) ∧ Hid (Below w.heap.size w wr)) (fun _ kv _ => b0 + 1 - (intOf kv).toNat)
              case atStart => exact ⟨a0, acc, _, rfl, rfl, Nat.le_refl _, by omega, hj0, HL, HN, HS, HO, HZ, HW⟩
              case round =>
                obtain ⟨j, acc2, ov, rfl, rfl, ja, jb, HJ, HL1, HN1, HS1, HO1, HZ1, HW1⟩ := hrel
                clear hj0 HL HN HS HO HZ HW
                by_cases hjb : j ≤ b0
                · have kb : (j : Int) ≤ (b0 : Int) := by omega
                  obtain ⟨bt, ot, dt, et, rt⟩ := HA.out.2.2 (by rw [← Hnt.out]; omega)
                  rw [← Hnt.out] at et
                  obtain ⟨rfl, rfl⟩ : a = some ⟨bt, ot, none⟩ ∧ cp = dt := by injection et with a1 a2 a3; exact ⟨a1, a3⟩
                  obtain ⟨z, hz⟩ : ∃ z, t[j]? = some z := ⟨_, List.getElem?_eq_getElem (by rw [← Hnt.out]; omega)⟩
                  obtain ⟨z0, z1⟩ := sg_cells ((rt j z hz).mono HW1.out)
                  have k0 : (0 : Int) ≤ (j : Int) := by omega
                  have kl : (j : Int) < (nt : Int) := by omega
                  have HJ2 : Hid (acc2 ++ [z.k] = acc ++ ((Sg.keys t).drop a0).take (j + 1 - a0)) := Lib.hid (by
                    have e : j + 1 - a0 = (j - a0) + 1 := by omega
                    have hk : ((Sg.keys t).drop a0)[j - a0]? = some z.k := by
                      rw [List.getElem?_drop, show a0 + (j - a0) = j by omega]
                      unfold Sg.keys
                      rw [List.getElem?_map, hz]
                      rfl
                    rw [e, It.take_snoc hk, HJ.out, List.append_assoc])
                  have hl2 : acc2.length ≤ acc.length + 200 := by
                    rw [HJ.out, List.length_append, List.length_take]
                    have := hnt
                    omega
                  have hb5 := below_alloc wr (.cells #[.string (str z.k)] 9)
                  have HN5 := Lib.hid (HN1.out.mono hb5)
                  have HS5 := Lib.hid (slc_new txC_len wr wr.heap.size rfl [z.k] 9 (by simp) #[.string (str z.k)] rfl)
                  have HW5 := Lib.hid (below_step HW1.out hb5)
                  have HO5 := Lib.hid (obj_kept hb5 HO1.out)
                  have HL5 := Lib.hid (HL1.out.mono hb5)
                  have hz5 := Nat.le_trans HZ1.out hb5.size
                  clear hb5 et rt hz HW1 HO1 HN1 HL1 HZ1
                  go_wp2_with (at_builtin; refine wpList_append_sep Tryd.underlying34 infoTx13 rfl (by decide) txC_len txC_cell rfl _ _ rfl (w.heap.size + 1) _ _ acc2 z.k rfl HN5.out rfl HS5.out (by omega) (by unfold maxLen; omega) hz5 ?_; intro v9 w9 h9 hg9 hq9; have HN9 := Lib.hid h9; have HZ9 := Lib.hid (Nat.le_trans hz5 hg9.size); have HO9 := Lib.hid (obj_far HO5.out hg9 (own_off9 HN5.out HO5.out (by decide))); have HW9 := Lib.hid (below_app HW5.out hg9 (HN5.out.base13 (Nat.le_succ _)) HW5.out.size); have HL9 := Lib.hid (HL5.out.grown hg9 HS1.out); have HS9 := Lib.hid (sep_step HL5.out HS1.out hq9); clear h9 hg9 hq9)
                  go_wp2
                  go_roundw
                  case rel => exact ⟨j + 1, acc2 ++ [z.k], _, by go_num, rfl, by omega, by omega, HJ2, HL9, HN9, HS9, HO9, HZ9, HW9⟩
                  case measure => simp [intOf]; omega
                · have kb : ¬ (j : Int) ≤ (b0 : Int) := by omega
                  obtain rfl : j = b0 + 1 := by omega
                  have HA2 : Hid (R = if s = [] then (acc2, 0, 0) else Sg.expandL t (i + 1) acc2 (L.drop (i + 1))) := Lib.hid (by rw [if_neg hse, Hrest.out, HJ.out]; unfold Sg.range; simp only [Int.toNat_natCast]; rw [List.drop_take])
                  have hl2 : acc2.length ≤ 100 * (i + 1) := by
                    rw [HJ.out, List.length_append, List.length_take]
                    have h1 : ((Sg.keys t).drop a0).length ≤ 100 := by rw [List.length_drop]; unfold Sg.keys; rw [List.length_map, ← Hnt.out]; omega
                    omega
                  go_wp2
                  go_roundw
                  case rel => exact ⟨i + 1, acc2, _, by go_num, rfl, by omega, hl2, HA2, HL1, HN1, HS1, HO1, HZ1, HW1⟩
                  case measure => simp [intOf]; omega
        · have kl : ¬ (i : Int) < (nl : Int) := by omega
          have HE : Hid (R = (acc, 0, 0)) := Lib.hid (by rw [HR.out, if_neg hse, List.drop_eq_nil_of_le (by rw [← Hnl.out]; omega)]; rfl)
          have ho := HO.out
          obtain ⟨n0, n1⟩ := two_of13 ho
          have f0 := Lib.frozen_of_heap ho 0
          have f1 := Lib.frozen_of_heap ho 1
          obtain ⟨s0, s1⟩ := two_of13 (set_two13 (a := .int .i64 0) (b := .int .i64 0) ho)
          have hlt9 := lt_of_obj ho
          clear ho
          go_wp2
          refine bodyPost_ret (v := .tuple #[ov, flt 0 0]) (by simp [results, Tryd.results22, go_sem, s0, s1, flt]) rfl ⟨_, by rw [HE.out], ?_, below_two13 (Nat.le_refl _) HW.out⟩
          rw [HE.out]
          exact ((HN.out.set9 (Nat.lt_succ_self _)).set9 (Nat.lt_succ_self _)).base13 (Nat.le_succ _)
end Go.Proofs.YtlgfmkmpopcciaaDoor
