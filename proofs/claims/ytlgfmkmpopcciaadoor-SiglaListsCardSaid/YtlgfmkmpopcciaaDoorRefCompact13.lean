/-
  The reference's Compact.
-/
import Derived.Test.YtlgfmkmpopcciaaDoorRefParse13
import Derived.Test.YtlgfmkmpopcciaaDoorRefHas13
import Derived.Test.YtlgfmkmpopcciaaDoorRefMay13
import Derived.Test.YtlgfmkmpopcciaaDoorCompact13
import Derived.Test.YtlgfmkmpopcciaaDoorComp13
import Derived.Test.YtlgfmkmpopcciaaDoorRefPrint13
set_option linter.unusedVariables false
set_option linter.unusedSimpArgs false
namespace Go.Proofs.YtlgfmkmpopcciaaDoor
open Go.RowKit

theorem key_len13 {t : List Sg.Sig} (h : Sg.may t = true) {x : Sg.Sig} (hx : x ∈ t) : x.k.length ≤ 8 := (Sg.keyOk_yes ((Sg.may_yes h).2.1 x hx).1).2.2
theorem join_len13 (ws : List (List UInt8)) (h : ∀ w ∈ ws, w.length ≤ 20) : (Mt.join 32 ws).length ≤ 21 * ws.length := by
  have := spaced_len ws h
  cases ws with
  | nil => simp [Mt.join]
  | cons w r => rw [spaced_join, List.length_cons] at this; omega
theorem join_snoc13 (x : List UInt8) : ∀ ws : List (List UInt8), Mt.join 32 (ws ++ [x]) = if ws = [] then x else Mt.join 32 ws ++ 32 :: x
  | [] => rfl
  | [w] => rfl
  | w :: a :: r => by
    rw [if_neg (by simp), List.cons_append, Mt.join_cons 32 w (by simp), join_snoc13 x (a :: r), if_neg (by simp), Mt.join_cons 32 w (by simp)]
    simp
theorem cmp_step {P : List UInt8 → Bool} {K ws : List (List UInt8)} {i e : Nat} (h : Sg.comp P [] K = ws ++ Sg.comp P [] (K.drop i)) (hi : i ≤ e) (he : e ≤ K.length) (hrun : ∀ k ∈ (K.drop i).take (e - i), P k = true) (hend : ∀ k, K[e]? = some k → P k = false) :
    Sg.comp P [] K = (ws ++ Sg.emit ((K.drop i).take (e - i))) ++ Sg.comp P [] (K.drop (e + 1)) := by
  have hd : K.drop i = (K.drop i).take (e - i) ++ K.drop e := by
    have := List.take_append_drop (e - i) (K.drop i)
    rw [List.drop_drop, show i + (e - i) = e by omega] at this
    exact this.symm
  obtain ⟨c1, c2⟩ := comp_step P _ hrun
  cases hk : K[e]? with
  | none =>
    have hl := List.getElem?_eq_none_iff.1 hk
    rw [List.drop_eq_nil_of_le hl, List.append_nil] at hd
    rw [List.drop_eq_nil_of_le (show K.length ≤ e + 1 by omega), h]
    conv => lhs; rw [hd]
    rw [c1]
    simp [Sg.comp, Sg.emit]
  | some k =>
    obtain ⟨h1, h2⟩ := List.getElem?_eq_some_iff.1 hk
    have hd2 : K.drop e = k :: K.drop (e + 1) := by rw [List.drop_eq_getElem_cons h1, h2]
    rw [h]
    conv => lhs; rw [hd, hd2]
    rw [c2 k _ (hend k hk), List.append_assoc]
theorem wr_diff13 {e i r : Nat} (h : i + r = e) (hb : e ≤ 1000) : IntKind.i64.wrap ((e : Int) - (i : Int)) = (r : Int) ∧ wrap64 ((e : Int) - (i : Int)) = (r : Int) := by
  have q : (e : Int) - (i : Int) = (r : Int) := by omega
  rw [q]
  exact ⟨IntWalk.i64_in _ (by omega), w64 (by omega) (by omega)⟩
/-- what stands between two rounds: the words so far -/
structure Cmp13 (sel K : List (List UInt8)) (i : Nat) (ws : List (List UInt8)) : Prop where
  eq : Sg.comp (fun k => decide (k ∈ sel)) [] K = ws ++ Sg.comp (fun k => decide (k ∈ sel)) [] (K.drop i)
  le : ws.length ≤ i
  wd : ∀ x ∈ ws, x.length ≤ 20 ∧ x ≠ []
theorem Cmp13.join {sel K ws : List (List UInt8)} {i : Nat} (h : Cmp13 sel K i ws) : (Mt.join 32 ws).length ≤ 21 * i ∧ (Mt.join 32 ws = [] ↔ ws = []) := by
  refine ⟨?_, fun e => ?_, fun e => by rw [e]; rfl⟩
  · have := join_len13 ws (fun w hw => (h.wd w hw).1)
    have := h.le
    omega
  · by_cases hw : ws = []
    · exact hw
    · exact absurd e (Sg.join_ne hw fun w hw => (h.wd w hw).2)
theorem Cmp13.more {sel K ws : List (List UInt8)} {i e : Nat} (h : Cmp13 sel K i ws) (hi : i ≤ e) (he : e ≤ K.length) (hok : ∀ k ∈ K, Sg.keyOk k = true) (hrun : ∀ k ∈ (K.drop i).take (e - i), k ∈ sel) (hend : ∀ k, K[e]? = some k → k ∉ sel) : Cmp13 sel K (e + 1) (ws ++ Sg.emit ((K.drop i).take (e - i))) := by
  have hm : ∀ k ∈ (K.drop i).take (e - i), Sg.keyOk k = true := fun k hk => hok k (List.mem_of_mem_drop (List.mem_of_mem_take hk))
  have h8 := emit_words (run := (K.drop i).take (e - i)) (fun k hk => (Sg.keyOk_yes (hm k hk)).2.2)
  refine ⟨cmp_step h.eq hi he (fun k hk => by simpa using hrun k hk) (fun k hk => by simpa using hend k hk), ?_, fun x hx => ?_⟩
  · rw [List.length_append]
    have := h.le
    have h1 := h8.1
    rw [List.length_take] at h1
    omega
  · rcases List.mem_append.1 hx with hx | hx
    · exact h.wd x hx
    · exact ⟨h8.2 x hx, (Sg.emit_free hm x hx).2⟩
/-- one word more -/
theorem join_one13 {sel K ws pre : List (List UInt8)} {i : Nat} {x : List UInt8} (S : List UInt8) (hS : S = Mt.join 32 (ws ++ pre)) (hw : ∀ y ∈ ws ++ pre, y ≠ []) : (S = [] → Mt.join 32 (ws ++ (pre ++ [x])) = x) ∧ (S ≠ [] → Mt.join 32 (ws ++ (pre ++ [x])) = S ++ 32 :: x) := by
  rw [← List.append_assoc, join_snoc13]
  constructor
  · intro e
    by_cases hn : ws ++ pre = []
    · rw [if_pos hn]
    · exact absurd (hS.symm.trans e) (Sg.join_ne hn hw)
  · intro e
    rw [if_neg (fun hn => e (by rw [hS, hn]; rfl)), hS]
theorem take_key13 {t : List Sg.Sig} {i e : Nat} {z : Sg.Sig} (hz : t[e]? = some z) (h : i ≤ e) : ((Sg.keys t).drop i).take (e + 1 - i) = ((Sg.keys t).drop i).take (e - i) ++ [z.k] := by
  have hk : ((Sg.keys t).drop i)[e - i]? = some z.k := by
    rw [List.getElem?_drop, show i + (e - i) = e by omega]
    unfold Sg.keys
    rw [List.getElem?_map, hz]
    rfl
  rw [show e + 1 - i = (e - i) + 1 by omega, It.take_snoc hk]
theorem emit_big13 {t : List Sg.Sig} {i e j : Nat} {x1 x2 : Sg.Sig} (h1 : t[i]? = some x1) (h2 : t[j]? = some x2) (hj : j + 1 = e) (h3 : i + 3 ≤ e) (he : e ≤ t.length) : Sg.emit (((Sg.keys t).drop i).take (e - i)) = [x1.k ++ ([46, 46] ++ x2.k)] := by
  have hl : (((Sg.keys t).drop i).take (e - i)).length = e - i := by
    rw [List.length_take, List.length_drop]
    unfold Sg.keys
    rw [List.length_map]
    omega
  have g1 : (((Sg.keys t).drop i).take (e - i))[0]? = some x1.k := by
    rw [List.getElem?_take_of_lt (by omega), List.getElem?_drop]
    unfold Sg.keys
    rw [List.getElem?_map, Nat.add_zero, h1]
    rfl
  have g2 : (((Sg.keys t).drop i).take (e - i))[e - i - 1]? = some x2.k := by
    rw [List.getElem?_take_of_lt (by omega), List.getElem?_drop, show i + (e - i - 1) = j by omega]
    unfold Sg.keys
    rw [List.getElem?_map, h2]
    rfl
  unfold Sg.emit
  rw [if_pos (by rw [hl]; omega)]
  have q1 : (((Sg.keys t).drop i).take (e - i)).headD [] = x1.k := by
    rw [List.headD_eq_head?_getD, List.head?_eq_getElem?, g1]
    rfl
  have q2 : (((Sg.keys t).drop i).take (e - i)).getLastD [] = x2.k := by
    have := Sg.getLastD_at (l := ((Sg.keys t).drop i).take (e - i)) (i := 0) (n := e - i - 1) (by rw [hl]; omega)
    rw [g2] at this
    exact (Option.some.inj this).symm
  rw [q1, q2]
  rfl
set_option maxHeartbeats 8000000 in
set_option maxRecDepth 100000 in
theorem refCompact_any (v kv : Value) (t : List Sg.Sig) (sel : List (List UInt8)) (w : World) (h : SgsAt w v t) (hs : SgSmall t) (hk : TxsAt w kv sel) : Calls Tryd.prog 20 #[v, kv] w (CompPost (Sg.compact t sel) w) := by
  have HA := Lib.hid h
  have HK := Lib.hid hk
  have HMy := Lib.hid (fun wx (hx : SgsAt wx v t) => refMay13_any v t wx hx hs)
  have HFd := Lib.hid (fun k wx (hx : SgsAt wx v t) => refFind_any v t k wx hx)
  have HHs := Lib.hid (fun k wx (hx : TxsAt wx kv sel) => refHas_any kv sel k wx hx)
  obtain ⟨⟨a, cp, rfl, hcap⟩, hmx, hd1⟩ := h
  obtain ⟨⟨ka, kcp, rfl, hkcap⟩, hkm, hd2⟩ := hk
  have hza : t.length ≤ 9223372036854775807 := by unfold maxLen at hmx; omega
  have hzb : sel.length ≤ 9223372036854775807 := by unfold maxLen at hkm; omega
  obtain ⟨n, hn⟩ : ∃ n, n = t.length := ⟨_, rfl⟩
  have Hn := Lib.hid hn
  obtain ⟨ns, hns⟩ : ∃ n, n = sel.length := ⟨_, rfl⟩
  have Hns := Lib.hid hns
  rw [← hn] at HA HMy HFd hza ⊢
  rw [← hns] at HK HHs hzb ⊢
  obtain ⟨R, hR⟩ : ∃ R, R = Sg.compact t sel := ⟨_, rfl⟩
  have HR := Lib.hid hR
  rw [← hR]
  clear hcap hmx hkcap hkm hs hn hns hR hd1 hd2
  have HO0 := Lib.hid (new_two13 w w.heap.size rfl (.int .i64 0) (.int .i64 0) 26)
  have HB0 := Lib.hid (below_alloc w (.cells #[.int .i64 0, .int .i64 0] 26))
  obtain ⟨W1, hW1⟩ : ∃ W1, W1 = w.alloc (.cells #[.int .i64 0, .int .i64 0] 26) := ⟨_, rfl⟩
  rw [← hW1] at HO0 HB0
  have HA1 := Lib.hid (SlcAt.mono HA.out HB0.out)
  have HK1 := Lib.hid (SlcAt.mono HK.out HB0.out)
  cases hmay : Sg.may t with
  | false =>
    have HE : Hid (R = ([], 130, -1)) := Lib.hid (by rw [HR.out]; unfold Sg.compact; rw [if_pos hmay])
    rw [hmay] at HMy
    clear hmay HR
    go_enter Tryd.func20, Tryd.ntmps20
    go_wp2_with fail
    rw [← hW1]
    clear hW1
    refine (HMy.out _ HA1.out).mono ?_
    rintro e w1 ⟨rfl, rfl⟩
    have HO := HO0
    have HW := HB0
    clear HO0 HB0
    have ho := HO.out
    obtain ⟨n0, n1⟩ := two_of13 ho
    have f0 := Lib.frozen_of_heap ho 0
    have f1 := Lib.frozen_of_heap ho 1
    obtain ⟨s0, s1⟩ := two_of13 (set_two13 (a := .int .i64 (130)) (b := .int .i64 (-1)) ho)
    have hlt9 := lt_of_obj ho
    clear ho
    go_wp2
    refine bodyPost_ret (v := .tuple #[.string (⟨#[]⟩), flt (130) (-1)]) (by simp [results, Tryd.results20, go_sem, s0, s1, flt]) rfl ⟨by rw [HE.out]; rfl, below_two13 (Nat.le_refl _) HW.out⟩
  | true =>
    have hmy := Sg.may_yes hmay
    have hnt : n ≤ 100 := by rw [Hn.out]; exact hmy.1
    have HMay := Lib.hid hmay
    have HOk : Hid (∀ k ∈ Sg.keys t, Sg.keyOk k = true) := Lib.hid (fun k hk => Sg.mem_key hmay hk)
    have HKl : Hid ((Sg.keys t).length = n) := Lib.hid (by unfold Sg.keys; rw [List.length_map, Hn.out])
    rw [hmay] at HMy
    clear hmay hmy
    go_enter Tryd.func20, Tryd.ntmps20
    go_wp2_with fail
    rw [← hW1]
    clear hW1
    refine (HMy.out _ HA1.out).mono ?_
    rintro e w1 ⟨rfl, rfl⟩
    have HT0 : Hid (∀ k ∈ sel.take 0, k ∈ Sg.keys t) := Lib.hid (by simp)
    go_wp2_with fail
    go_loopw [6] (fun iv wr => ∃ j : Nat, j ≤ ns ∧ iv = .int .i64 j ∧ wr = W1 ∧ Hid (∀ k ∈ sel.take j, k ∈ Sg.keys t)) (fun iv _ => ns - (intOf iv).toNat)
    case atStart => exact ⟨0, Nat.zero_le _, rfl, rfl, HT0⟩
    case round =>
      obtain ⟨j, hj, rfl, rfl, HT⟩ := hrel
      clear HT0
      by_cases hlt : j < ns
      · obtain ⟨b1, o1, d1, e1, r1⟩ := HK1.out.2.2 (by rw [← Hns.out]; omega)
        rw [← Hns.out] at e1
        obtain ⟨rfl, rfl⟩ : ka = some ⟨b1, o1, none⟩ ∧ kcp = d1 := by injection e1 with a1 a2 a3; exact ⟨a1, a3⟩
        obtain ⟨x, hx⟩ : ∃ x, sel[j]? = some x := ⟨_, List.getElem?_eq_getElem (by rw [← Hns.out]; exact hlt)⟩
        have y0 := tx_cells (r1 j x hx)
        rw [Nat.mul_one] at y0
        have k0 : (0 : Int) ≤ (j : Int) := by omega
        have kl : (j : Int) < (ns : Int) := by omega
        have HFx := Lib.hid (fun wx hh => HFd.out x wx hh)
        by_cases hm : x ∈ Sg.keys t
        · have hq : ¬ Sg.find t x < 0 := fun h => Sg.find_neg.1 h hm
          obtain ⟨q, hqq⟩ : ∃ q, q = Sg.find t x := ⟨_, rfl⟩
          rw [← hqq] at hq HFx
          have HN : Hid (∀ k ∈ sel.take (j + 1), k ∈ Sg.keys t) := Lib.hid (fun y hy => by
            rw [It.take_snoc hx] at hy
            rcases List.mem_append.1 hy with hy | hy
            · exact HT.out y hy
            · simp at hy; subst hy; exact hm)
          clear e1 r1 hx hm hqq
          go_wp2_with fail
          refine (HFx.out _ HA1.out).mono ?_
          rintro e w5 ⟨rfl, rfl⟩
          go_wp2
          go_roundw
          case rel => exact ⟨j + 1, by omega, by go_num, by first | trivial | rfl, HN⟩
          case measure => simp [intOf]; omega
        · have hq := Sg.find_neg.2 hm
          obtain ⟨q, hqq⟩ : ∃ q, q = Sg.find t x := ⟨_, rfl⟩
          rw [← hqq] at hq HFx
          have HE : Hid (R = ([], 133, (j : Int))) := Lib.hid (by rw [HR.out]; exact compact_bad HMay.out hx HT.out hm)
          clear e1 r1 hx hm hqq
          go_wp2_with fail
          refine (HFx.out _ HA1.out).mono ?_
          rintro e w5 ⟨rfl, rfl⟩
          have HO := HO0
          have HW := HB0
          clear HO0 HB0 y0
          have ho := HO.out
          obtain ⟨n0, n1⟩ := two_of13 ho
          have f0 := Lib.frozen_of_heap ho 0
          have f1 := Lib.frozen_of_heap ho 1
          obtain ⟨s0, s1⟩ := two_of13 (set_two13 (a := .int .i64 (133)) (b := .int .i64 ((j : Int))) ho)
          have hlt9 := lt_of_obj ho
          clear ho
          go_wp2
          refine bodyPost_ret (v := .tuple #[.string (⟨#[]⟩), flt (133) ((j : Int))]) (by simp [results, Tryd.results20, go_sem, s0, s1, flt]) rfl ⟨by rw [HE.out]; rfl, below_two13 (Nat.le_refl _) HW.out⟩
      · have HE0 : Hid (R = (Mt.join 32 (Sg.comp (fun k => decide (k ∈ sel)) [] (Sg.keys t)), 0, 0)) := Lib.hid (by
          have := HT.out
          rw [List.take_of_length_le (by rw [← Hns.out]; omega)] at this
          rw [HR.out]
          exact Sg.compact_ok HMay.out this)
        have HC0 : Hid (Cmp13 sel (Sg.keys t) 0 []) := Lib.hid ⟨rfl, Nat.le_refl _, fun x hx => by cases hx⟩
        go_wp2_with fail
        clear hlt HT
        obtain ⟨W0, hW0⟩ : ∃ W0, W0 = wr := ⟨_, rfl⟩
        rw [← hW0] at HO0 HB0 HA1 HK1
        rw [← hW0]
        clear hW0
        go_loopw [7, 8] (fun sv iv wr => ∃ (i : Nat) (ws : List (List UInt8)), iv = .int .i64 i ∧ sv = .string (str (Mt.join 32 ws)) ∧ i ≤ n + 1 ∧ Hid (Cmp13 sel (Sg.keys t) i ws) ∧ Hid (Below W0.heap.size W0 wr)) (fun _ iv _ => n + 1 - (intOf iv).toNat)
        case atStart => exact ⟨0, [], rfl, rfl, Nat.zero_le _, HC0, Lib.hid (Below.refl _ _)⟩
        case round =>
          obtain ⟨i, ws, rfl, rfl, hi, HC, HD⟩ := hrel
          clear HC0
          by_cases hlt : i < n
          · have kli : (i : Int) < (n : Int) := by omega
            have HE1 : Hid (∀ k ∈ ((Sg.keys t).drop i).take (i - i), k ∈ sel) := Lib.hid (by rw [Nat.sub_self]; simp)
            obtain ⟨S0, hS0⟩ : ∃ S, S = Mt.join 32 ws := ⟨_, rfl⟩
            have HS0 := Lib.hid hS0
            rw [← hS0]
            clear hS0

            obtain ⟨bt, ot, dt, et, rt⟩ := HA1.out.2.2 (by rw [← Hn.out]; omega)
            rw [← Hn.out] at et
            obtain ⟨rfl, rfl⟩ : a = some ⟨bt, ot, none⟩ ∧ cp = dt := by injection et with a1 a2 a3; exact ⟨a1, a3⟩
            have HRt := Lib.hid rt
            clear et rt
            go_wp2_with fail
            go_loopw [9] (fun ev wr => ∃ e : Nat, ev = .int .i64 e ∧ i ≤ e ∧ e ≤ n ∧ Hid (∀ k ∈ ((Sg.keys t).drop i).take (e - i), k ∈ sel) ∧ Hid (Below W0.heap.size W0 wr)) (fun ev _ => n - (intOf ev).toNat)
            case atStart => exact ⟨i, rfl, Nat.le_refl _, by omega, HE1, HD⟩
            case round =>
              obtain ⟨e, rfl, ie, en, HE2, HD2⟩ := hrel
              clear HE1 HD
              by_cases hen : e < n
              · have ke1 : (e : Int) < (n : Int) := by omega
                have ke0 : (0 : Int) ≤ (e : Int) := by omega
                obtain ⟨z, hz⟩ : ∃ z, t[e]? = some z := ⟨_, List.getElem?_eq_getElem (by rw [← Hn.out]; exact hen)⟩
                have z0 := (sg_cells ((HRt.out e z hz).mono HD2.out)).1
                have HHx := Lib.hid (fun wx hh => HHs.out z.k wx hh)
                by_cases hm : z.k ∈ sel
                · have HE3 : Hid (∀ k ∈ ((Sg.keys t).drop i).take (e + 1 - i), k ∈ sel) := Lib.hid (fun k hk => by
                    rw [take_key13 hz ie] at hk
                    rcases List.mem_append.1 hk with hk | hk
                    · exact HE2.out k hk
                    · rw [List.mem_singleton] at hk; subst hk; exact hm)
                  rw [decide_eq_true hm] at HHx
                  clear hz hm
                  go_wp2_with fail
                  refine (HHx.out _ (SlcAt.mono HK1.out HD2.out)).mono ?_
                  rintro e5 w5 ⟨rfl, rfl⟩
                  go_wp2
                  go_roundw
                  case rel => exact ⟨e + 1, by go_num, by omega, by omega, HE3, HD2⟩
                  case measure => simp [intOf]; omega
                · have hend : ∀ k, (Sg.keys t)[e]? = some k → k ∉ sel := fun k hk => by
                    unfold Sg.keys at hk
                    rw [List.getElem?_map, hz] at hk
                    injection hk with hk
                    rw [← hk]
                    exact hm
                  rw [decide_eq_false hm] at HHx
                  clear hz hm
                  go_wp2_with fail
                  refine (HHx.out _ (SlcAt.mono HK1.out HD2.out)).mono ?_
                  rintro e5 w5 ⟨rfl, rfl⟩
                  clear z0 HHx
                  have HC2 := Lib.hid (HC.out.more ie (by rw [HKl.out]; exact en) HOk.out HE2.out hend)
                  obtain ⟨r, hr⟩ : ∃ r, i + r = e := ⟨e - i, by omega⟩
                  have HP0 : Hid (S0 = Mt.join 32 (ws ++ ((Sg.keys t).drop i).take (i - i))) := Lib.hid (by rw [HS0.out, Nat.sub_self, List.take_zero, List.append_nil])
                  go_wp2_with fail
                  go_loopw [7, 10] (fun sv kv wr => ∃ (k : Nat) (S : List UInt8), kv = .int .i64 k ∧ sv = .string (str S) ∧ i ≤ k ∧ k ≤ e ∧ (3 ≤ r → k = i) ∧ Hid (S = Mt.join 32 (ws ++ ((Sg.keys t).drop i).take (k - i))) ∧ Hid (Below W0.heap.size W0 wr)) (fun _ kv _ => e - (intOf kv).toNat)
                  case atStart => exact ⟨i, S0, rfl, rfl, Nat.le_refl _, ie, fun _ => rfl, HP0, HD2⟩
                  case round =>
                    obtain ⟨k, S, rfl, rfl, ik, ke, h3, HS, HD3⟩ := hrel
                    clear HP0 HD2
                    by_cases hke : k < e
                    · have kke : (k : Int) < (e : Int) := by omega
                      have hwd : ∀ y ∈ ws ++ ((Sg.keys t).drop i).take (k - i), y.length ≤ 20 ∧ y ≠ [] := fun y hy => by
                        rcases List.mem_append.1 hy with hy | hy
                        · exact HC.out.wd y hy
                        · have := Sg.keyOk_yes (HOk.out y (List.mem_of_mem_drop (List.mem_of_mem_take hy)))
                          exact ⟨by omega, fun e => by rw [e] at this; simp at this⟩
                      have hwne : ∀ y ∈ ws ++ ((Sg.keys t).drop i).take (k - i), y ≠ [] := fun y hy => (hwd y hy).2
                      have hsl : S.length ≤ 10000 := by
                        have h1 := join_len13 _ (fun y hy => (hwd y hy).1)
                        rw [← HS.out, List.length_append, List.length_take] at h1
                        have := HC.out.le
                        omega
                      clear hwd
                      by_cases hSe : S = []
                      · have he : (str S).toList.isEmpty = true := by rw [hSe, Lib.toList_data]; rfl
                        by_cases hr3 : 3 ≤ r
                        · have hki : i = k := (h3 hr3).symm
                          subst hki
                          clear h3 hwne
                          obtain ⟨x1, hx1⟩ : ∃ x, t[i]? = some x := ⟨_, List.getElem?_eq_getElem (by rw [← Hn.out]; exact hlt)⟩
                          obtain ⟨j, hj⟩ : ∃ j, j + 1 = e := ⟨e - 1, by omega⟩
                          obtain ⟨x2, hx2⟩ : ∃ x, t[j]? = some x := ⟨_, List.getElem?_eq_getElem (by rw [← Hn.out]; omega)⟩
                          have y1 := (sg_cells ((HRt.out i x1 hx1).mono HD3.out)).1
                          have y2 := (sg_cells ((HRt.out j x2 hx2).mono HD3.out)).1
                          have hl1 := key_len13 HMay.out (List.mem_of_getElem? hx1)
                          have hl2 := key_len13 HMay.out (List.mem_of_getElem? hx2)
                          have hem : Sg.emit (((Sg.keys t).drop i).take (e - i)) = [x1.k ++ ([46, 46] ++ x2.k)] := emit_big13 hx1 hx2 hj (by omega) (by rw [← Hn.out]; exact en)
                          obtain ⟨c1, hc1⟩ : ∃ c, c = x1.k ++ [46, 46] := ⟨_, rfl⟩
                          obtain ⟨c2, hc2⟩ : ∃ c, c = c1 ++ x2.k := ⟨_, rfl⟩
                          have l1 : c1.length = x1.k.length + 2 := by rw [hc1]; simp
                          have l2 : c2.length = c1.length + x2.k.length := by rw [hc2]; simp
                          have hcc : x1.k ++ ([46, 46] ++ x2.k) = c2 := by rw [hc2, hc1, List.append_assoc]
                          have jn := join_one13 (sel := sel) (K := Sg.keys t) (i := i) (ws := ws) (pre := []) (x := c2) S (by rw [HS.out, Nat.sub_self, List.take_zero]) (fun y hy => HC.out.wd y (by simpa using hy) |>.2)
                          rw [List.nil_append] at jn
                          have a1 := fun wx => sum_str13 x1.k [46, 46] c1 (by simp; omega) hc1 wx
                          have a2 := fun wx => sum_str13 c1 x2.k c2 (by omega) hc2 wx
                          have e46 : str [46, 46] = ⟨#[46, 46]⟩ := rfl
                          rw [e46] at a1
                          obtain ⟨c4, hc4⟩ : ∃ c, c = S ++ c2 := ⟨_, rfl⟩
                          have a4 := fun wx => sum_str13 S c2 c4 (by omega) hc4 wx
                          have HSn : Hid (Mt.join 32 (ws ++ Sg.emit (((Sg.keys t).drop i).take (e - i))) = c4) := Lib.hid (by rw [hem, hcc, jn.1 hSe, hc4, hSe, List.nil_append])
                          obtain ⟨dw1, dw2⟩ := wr_diff13 hr (by omega)
                          obtain ⟨nl1, nl2⟩ := wr_less13 hj (by omega)
                          have g3 : (3 : Int) ≤ (r : Int) := by omega
                          have k0 : (0 : Int) ≤ (i : Int) := by omega
                          have j0 : (0 : Int) ≤ (j : Int) := by omega
                          have jl : (j : Int) < (n : Int) := by omega
                          clear hx1 hx2 hl1 hl2 hem hc1 hc2 l1 l2 hcc jn e46 hc4 hj hr hSe
                          go_wp2_with fail
                          go_quiet (fail)
                          have HD4 := Lib.hid (below_step HD3.out (below_drew _ nq))
                          clear y1 y2 a1 a2 a4 dw1 dw2 nl1 nl2 j0 jl g3
                          go_wp2
                          go_roundw
                          case rel => exact ⟨e + 1, ws ++ Sg.emit (((Sg.keys t).drop i).take (e - i)), by go_num, by rw [HSn.out], by omega, HC2, HD4⟩
                          case measure => simp [intOf]; omega
                        · clear h3
                          obtain ⟨x1, hx1⟩ : ∃ x, t[k]? = some x := ⟨_, List.getElem?_eq_getElem (by rw [← Hn.out]; omega)⟩
                          have y1 := (sg_cells ((HRt.out k x1 hx1).mono HD3.out)).1
                          have hl1 := key_len13 HMay.out (List.mem_of_getElem? hx1)
                          have htk : ((Sg.keys t).drop i).take (k + 1 - i) = ((Sg.keys t).drop i).take (k - i) ++ [x1.k] := take_key13 hx1 ik
                          have jn := join_one13 (sel := sel) (K := Sg.keys t) (i := i) (ws := ws) (pre := ((Sg.keys t).drop i).take (k - i)) (x := x1.k) S HS.out hwne
                          rw [← htk] at jn
                          obtain ⟨c4, hc4⟩ : ∃ c, c = S ++ x1.k := ⟨_, rfl⟩
                          have a4 := fun wx => sum_str13 S x1.k c4 (by omega) hc4 wx
                          have HSn : Hid (c4 = Mt.join 32 (ws ++ ((Sg.keys t).drop i).take (k + 1 - i))) := Lib.hid (by rw [jn.1 hSe, hc4, hSe, List.nil_append])
                          obtain ⟨dw1, dw2⟩ := wr_diff13 hr (by omega)
                          have g3 : ¬ (3 : Int) ≤ (r : Int) := by omega
                          have k0 : (0 : Int) ≤ (k : Int) := by omega
                          have kl : (k : Int) < (n : Int) := by omega
                          have dgr : decide (3 ≤ r) = false := decide_eq_false hr3
                          clear hx1 hl1 htk jn hc4 hSe
                          go_wp2
                          go_roundw
                          case rel => exact ⟨k + 1, c4, by go_num, rfl, by omega, by omega, fun h => absurd h hr3, HSn, HD3⟩
                          case measure => simp [intOf]; omega
                      · have he : (str S).toList.isEmpty = false := by rw [Lib.toList_data, str_data, List.isEmpty_eq_false_iff]; exact hSe
                        by_cases hr3 : 3 ≤ r
                        · have hki : i = k := (h3 hr3).symm
                          subst hki
                          clear h3 hwne
                          obtain ⟨x1, hx1⟩ : ∃ x, t[i]? = some x := ⟨_, List.getElem?_eq_getElem (by rw [← Hn.out]; exact hlt)⟩
                          obtain ⟨j, hj⟩ : ∃ j, j + 1 = e := ⟨e - 1, by omega⟩
                          obtain ⟨x2, hx2⟩ : ∃ x, t[j]? = some x := ⟨_, List.getElem?_eq_getElem (by rw [← Hn.out]; omega)⟩
                          have y1 := (sg_cells ((HRt.out i x1 hx1).mono HD3.out)).1
                          have y2 := (sg_cells ((HRt.out j x2 hx2).mono HD3.out)).1
                          have hl1 := key_len13 HMay.out (List.mem_of_getElem? hx1)
                          have hl2 := key_len13 HMay.out (List.mem_of_getElem? hx2)
                          have hem : Sg.emit (((Sg.keys t).drop i).take (e - i)) = [x1.k ++ ([46, 46] ++ x2.k)] := emit_big13 hx1 hx2 hj (by omega) (by rw [← Hn.out]; exact en)
                          obtain ⟨c1, hc1⟩ : ∃ c, c = x1.k ++ [46, 46] := ⟨_, rfl⟩
                          obtain ⟨c2, hc2⟩ : ∃ c, c = c1 ++ x2.k := ⟨_, rfl⟩
                          have l1 : c1.length = x1.k.length + 2 := by rw [hc1]; simp
                          have l2 : c2.length = c1.length + x2.k.length := by rw [hc2]; simp
                          have hcc : x1.k ++ ([46, 46] ++ x2.k) = c2 := by rw [hc2, hc1, List.append_assoc]
                          have jn := join_one13 (sel := sel) (K := Sg.keys t) (i := i) (ws := ws) (pre := []) (x := c2) S (by rw [HS.out, Nat.sub_self, List.take_zero]) (fun y hy => HC.out.wd y (by simpa using hy) |>.2)
                          rw [List.nil_append] at jn
                          have a1 := fun wx => sum_str13 x1.k [46, 46] c1 (by simp; omega) hc1 wx
                          have a2 := fun wx => sum_str13 c1 x2.k c2 (by omega) hc2 wx
                          have e46 : str [46, 46] = ⟨#[46, 46]⟩ := rfl
                          rw [e46] at a1
                          obtain ⟨c3, hc3⟩ : ∃ c, c = S ++ [32] := ⟨_, rfl⟩
                          have l3 : c3.length = S.length + 1 := by rw [hc3]; simp
                          obtain ⟨c4, hc4⟩ : ∃ c, c = c3 ++ c2 := ⟨_, rfl⟩
                          have a3 := fun wx => sum_str13 S [32] c3 (by simp; omega) hc3 wx
                          have e32 : str [32] = ⟨#[32]⟩ := rfl
                          rw [e32] at a3
                          have a4 := fun wx => sum_str13 c3 c2 c4 (by omega) hc4 wx
                          have HSn : Hid (Mt.join 32 (ws ++ Sg.emit (((Sg.keys t).drop i).take (e - i))) = c4) := Lib.hid (by rw [hem, hcc, jn.2 hSe, hc4, hc3, List.append_assoc]; rfl)
                          obtain ⟨dw1, dw2⟩ := wr_diff13 hr (by omega)
                          obtain ⟨nl1, nl2⟩ := wr_less13 hj (by omega)
                          have g3 : (3 : Int) ≤ (r : Int) := by omega
                          have k0 : (0 : Int) ≤ (i : Int) := by omega
                          have j0 : (0 : Int) ≤ (j : Int) := by omega
                          have jl : (j : Int) < (n : Int) := by omega
                          clear hx1 hx2 hl1 hl2 hem hc1 hc2 l1 l2 hcc jn e46 hc4 hc3 l3 e32 hj hr hSe
                          go_wp2_with fail
                          go_quiet (fail)
                          have HD4 := Lib.hid (below_step HD3.out (below_drew _ nq))
                          clear y1 y2 a1 a2 a4 a3 dw1 dw2 nl1 nl2 j0 jl g3
                          go_wp2
                          go_roundw
                          case rel => exact ⟨e + 1, ws ++ Sg.emit (((Sg.keys t).drop i).take (e - i)), by go_num, by rw [HSn.out], by omega, HC2, HD4⟩
                          case measure => simp [intOf]; omega
                        · clear h3
                          obtain ⟨x1, hx1⟩ : ∃ x, t[k]? = some x := ⟨_, List.getElem?_eq_getElem (by rw [← Hn.out]; omega)⟩
                          have y1 := (sg_cells ((HRt.out k x1 hx1).mono HD3.out)).1
                          have hl1 := key_len13 HMay.out (List.mem_of_getElem? hx1)
                          have htk : ((Sg.keys t).drop i).take (k + 1 - i) = ((Sg.keys t).drop i).take (k - i) ++ [x1.k] := take_key13 hx1 ik
                          have jn := join_one13 (sel := sel) (K := Sg.keys t) (i := i) (ws := ws) (pre := ((Sg.keys t).drop i).take (k - i)) (x := x1.k) S HS.out hwne
                          rw [← htk] at jn
                          obtain ⟨c3, hc3⟩ : ∃ c, c = S ++ [32] := ⟨_, rfl⟩
                          have l3 : c3.length = S.length + 1 := by rw [hc3]; simp
                          obtain ⟨c4, hc4⟩ : ∃ c, c = c3 ++ x1.k := ⟨_, rfl⟩
                          have a3 := fun wx => sum_str13 S [32] c3 (by simp; omega) hc3 wx
                          have e32 : str [32] = ⟨#[32]⟩ := rfl
                          rw [e32] at a3
                          have a4 := fun wx => sum_str13 c3 x1.k c4 (by omega) hc4 wx
                          have HSn : Hid (c4 = Mt.join 32 (ws ++ ((Sg.keys t).drop i).take (k + 1 - i))) := Lib.hid (by rw [jn.2 hSe, hc4, hc3, List.append_assoc]; rfl)
                          obtain ⟨dw1, dw2⟩ := wr_diff13 hr (by omega)
                          have g3 : ¬ (3 : Int) ≤ (r : Int) := by omega
                          have k0 : (0 : Int) ≤ (k : Int) := by omega
                          have kl : (k : Int) < (n : Int) := by omega
                          have dgr : decide (3 ≤ r) = false := decide_eq_false hr3
                          clear hx1 hl1 htk jn hc4 hc3 l3 e32 hSe
                          go_wp2
                          go_roundw
                          case rel => exact ⟨k + 1, c4, by go_num, rfl, by omega, by omega, fun h => absurd h hr3, HSn, HD3⟩
                          case measure => simp [intOf]; omega
                    · have kke : ¬ (k : Int) < (e : Int) := by omega
                      have hrs : ¬ 3 ≤ r := fun h => by have := h3 h; omega
                      have HSn : Hid (S = Mt.join 32 (ws ++ Sg.emit (((Sg.keys t).drop i).take (e - i)))) := Lib.hid (by
                        have hke2 : k = e := by omega
                        have hem : Sg.emit (((Sg.keys t).drop i).take (e - i)) = ((Sg.keys t).drop i).take (e - i) := by
                          unfold Sg.emit
                          rw [if_neg (by rw [List.length_take]; omega)]
                        rw [hem, HS.out, hke2])
                      clear h3
                      go_wp2
                      go_roundw
                      case rel => exact ⟨e + 1, ws ++ Sg.emit (((Sg.keys t).drop i).take (e - i)), by go_num, by rw [← HSn.out], by omega, HC2, HD3⟩
                      case measure => simp [intOf]; omega
              · have ke1 : ¬ (e : Int) < (n : Int) := by omega
                have hend : ∀ k, (Sg.keys t)[e]? = some k → k ∉ sel := fun k hk => by
                  rw [List.getElem?_eq_none (by rw [HKl.out]; omega)] at hk
                  cases hk
                have HC2 := Lib.hid (HC.out.more ie (by rw [HKl.out]; exact en) HOk.out HE2.out hend)
                obtain ⟨r, hr⟩ : ∃ r, i + r = e := ⟨e - i, by omega⟩
                have HP0 : Hid (S0 = Mt.join 32 (ws ++ ((Sg.keys t).drop i).take (i - i))) := Lib.hid (by rw [HS0.out, Nat.sub_self, List.take_zero, List.append_nil])
                go_wp2_with fail
                go_loopw [7, 10] (fun sv kv wr => ∃ (k : Nat) (S : List UInt8), kv = .int .i64 k ∧ sv = .string (str S) ∧ i ≤ k ∧ k ≤ e ∧ (3 ≤ r → k = i) ∧ Hid (S = Mt.join 32 (ws ++ ((Sg.keys t).drop i).take (k - i))) ∧ Hid (Below W0.heap.size W0 wr)) (fun _ kv _ => e - (intOf kv).toNat)
                case atStart => exact ⟨i, S0, rfl, rfl, Nat.le_refl _, ie, fun _ => rfl, HP0, HD2⟩
                case round =>
                  obtain ⟨k, S, rfl, rfl, ik, ke, h3, HS, HD3⟩ := hrel
                  clear HP0 HD2
                  by_cases hke : k < e
                  · have kke : (k : Int) < (e : Int) := by omega
                    have hwd : ∀ y ∈ ws ++ ((Sg.keys t).drop i).take (k - i), y.length ≤ 20 ∧ y ≠ [] := fun y hy => by
                      rcases List.mem_append.1 hy with hy | hy
                      · exact HC.out.wd y hy
                      · have := Sg.keyOk_yes (HOk.out y (List.mem_of_mem_drop (List.mem_of_mem_take hy)))
                        exact ⟨by omega, fun e => by rw [e] at this; simp at this⟩
                    have hwne : ∀ y ∈ ws ++ ((Sg.keys t).drop i).take (k - i), y ≠ [] := fun y hy => (hwd y hy).2
                    have hsl : S.length ≤ 10000 := by
                      have h1 := join_len13 _ (fun y hy => (hwd y hy).1)
                      rw [← HS.out, List.length_append, List.length_take] at h1
                      have := HC.out.le
                      omega
                    clear hwd
                    by_cases hSe : S = []
                    · have he : (str S).toList.isEmpty = true := by rw [hSe, Lib.toList_data]; rfl
                      by_cases hr3 : 3 ≤ r
                      · have hki : i = k := (h3 hr3).symm
                        subst hki
                        clear h3 hwne
                        obtain ⟨x1, hx1⟩ : ∃ x, t[i]? = some x := ⟨_, List.getElem?_eq_getElem (by rw [← Hn.out]; exact hlt)⟩
                        obtain ⟨j, hj⟩ : ∃ j, j + 1 = e := ⟨e - 1, by omega⟩
                        obtain ⟨x2, hx2⟩ : ∃ x, t[j]? = some x := ⟨_, List.getElem?_eq_getElem (by rw [← Hn.out]; omega)⟩
                        have y1 := (sg_cells ((HRt.out i x1 hx1).mono HD3.out)).1
                        have y2 := (sg_cells ((HRt.out j x2 hx2).mono HD3.out)).1
                        have hl1 := key_len13 HMay.out (List.mem_of_getElem? hx1)
                        have hl2 := key_len13 HMay.out (List.mem_of_getElem? hx2)
                        have hem : Sg.emit (((Sg.keys t).drop i).take (e - i)) = [x1.k ++ ([46, 46] ++ x2.k)] := emit_big13 hx1 hx2 hj (by omega) (by rw [← Hn.out]; exact en)
                        obtain ⟨c1, hc1⟩ : ∃ c, c = x1.k ++ [46, 46] := ⟨_, rfl⟩
                        obtain ⟨c2, hc2⟩ : ∃ c, c = c1 ++ x2.k := ⟨_, rfl⟩
                        have l1 : c1.length = x1.k.length + 2 := by rw [hc1]; simp
                        have l2 : c2.length = c1.length + x2.k.length := by rw [hc2]; simp
                        have hcc : x1.k ++ ([46, 46] ++ x2.k) = c2 := by rw [hc2, hc1, List.append_assoc]
                        have jn := join_one13 (sel := sel) (K := Sg.keys t) (i := i) (ws := ws) (pre := []) (x := c2) S (by rw [HS.out, Nat.sub_self, List.take_zero]) (fun y hy => HC.out.wd y (by simpa using hy) |>.2)
                        rw [List.nil_append] at jn
                        have a1 := fun wx => sum_str13 x1.k [46, 46] c1 (by simp; omega) hc1 wx
                        have a2 := fun wx => sum_str13 c1 x2.k c2 (by omega) hc2 wx
                        have e46 : str [46, 46] = ⟨#[46, 46]⟩ := rfl
                        rw [e46] at a1
                        obtain ⟨c4, hc4⟩ : ∃ c, c = S ++ c2 := ⟨_, rfl⟩
                        have a4 := fun wx => sum_str13 S c2 c4 (by omega) hc4 wx
                        have HSn : Hid (Mt.join 32 (ws ++ Sg.emit (((Sg.keys t).drop i).take (e - i))) = c4) := Lib.hid (by rw [hem, hcc, jn.1 hSe, hc4, hSe, List.nil_append])
                        obtain ⟨dw1, dw2⟩ := wr_diff13 hr (by omega)
                        obtain ⟨nl1, nl2⟩ := wr_less13 hj (by omega)
                        have g3 : (3 : Int) ≤ (r : Int) := by omega
                        have k0 : (0 : Int) ≤ (i : Int) := by omega
                        have j0 : (0 : Int) ≤ (j : Int) := by omega
                        have jl : (j : Int) < (n : Int) := by omega
                        clear hx1 hx2 hl1 hl2 hem hc1 hc2 l1 l2 hcc jn e46 hc4 hj hr hSe
                        go_wp2_with fail
                        go_quiet (fail)
                        have HD4 := Lib.hid (below_step HD3.out (below_drew _ nq))
                        clear y1 y2 a1 a2 a4 dw1 dw2 nl1 nl2 j0 jl g3
                        go_wp2
                        go_roundw
                        case rel => exact ⟨e + 1, ws ++ Sg.emit (((Sg.keys t).drop i).take (e - i)), by go_num, by rw [HSn.out], by omega, HC2, HD4⟩
                        case measure => simp [intOf]; omega
                      · clear h3
                        obtain ⟨x1, hx1⟩ : ∃ x, t[k]? = some x := ⟨_, List.getElem?_eq_getElem (by rw [← Hn.out]; omega)⟩
                        have y1 := (sg_cells ((HRt.out k x1 hx1).mono HD3.out)).1
                        have hl1 := key_len13 HMay.out (List.mem_of_getElem? hx1)
                        have htk : ((Sg.keys t).drop i).take (k + 1 - i) = ((Sg.keys t).drop i).take (k - i) ++ [x1.k] := take_key13 hx1 ik
                        have jn := join_one13 (sel := sel) (K := Sg.keys t) (i := i) (ws := ws) (pre := ((Sg.keys t).drop i).take (k - i)) (x := x1.k) S HS.out hwne
                        rw [← htk] at jn
                        obtain ⟨c4, hc4⟩ : ∃ c, c = S ++ x1.k := ⟨_, rfl⟩
                        have a4 := fun wx => sum_str13 S x1.k c4 (by omega) hc4 wx
                        have HSn : Hid (c4 = Mt.join 32 (ws ++ ((Sg.keys t).drop i).take (k + 1 - i))) := Lib.hid (by rw [jn.1 hSe, hc4, hSe, List.nil_append])
                        obtain ⟨dw1, dw2⟩ := wr_diff13 hr (by omega)
                        have g3 : ¬ (3 : Int) ≤ (r : Int) := by omega
                        have k0 : (0 : Int) ≤ (k : Int) := by omega
                        have kl : (k : Int) < (n : Int) := by omega
                        have dgr : decide (3 ≤ r) = false := decide_eq_false hr3
                        clear hx1 hl1 htk jn hc4 hSe
                        go_wp2
                        go_roundw
                        case rel => exact ⟨k + 1, c4, by go_num, rfl, by omega, by omega, fun h => absurd h hr3, HSn, HD3⟩
                        case measure => simp [intOf]; omega
                    · have he : (str S).toList.isEmpty = false := by rw [Lib.toList_data, str_data, List.isEmpty_eq_false_iff]; exact hSe
                      by_cases hr3 : 3 ≤ r
                      · have hki : i = k := (h3 hr3).symm
                        subst hki
                        clear h3 hwne
                        obtain ⟨x1, hx1⟩ : ∃ x, t[i]? = some x := ⟨_, List.getElem?_eq_getElem (by rw [← Hn.out]; exact hlt)⟩
                        obtain ⟨j, hj⟩ : ∃ j, j + 1 = e := ⟨e - 1, by omega⟩
                        obtain ⟨x2, hx2⟩ : ∃ x, t[j]? = some x := ⟨_, List.getElem?_eq_getElem (by rw [← Hn.out]; omega)⟩
                        have y1 := (sg_cells ((HRt.out i x1 hx1).mono HD3.out)).1
                        have y2 := (sg_cells ((HRt.out j x2 hx2).mono HD3.out)).1
                        have hl1 := key_len13 HMay.out (List.mem_of_getElem? hx1)
                        have hl2 := key_len13 HMay.out (List.mem_of_getElem? hx2)
                        have hem : Sg.emit (((Sg.keys t).drop i).take (e - i)) = [x1.k ++ ([46, 46] ++ x2.k)] := emit_big13 hx1 hx2 hj (by omega) (by rw [← Hn.out]; exact en)
                        obtain ⟨c1, hc1⟩ : ∃ c, c = x1.k ++ [46, 46] := ⟨_, rfl⟩
                        obtain ⟨c2, hc2⟩ : ∃ c, c = c1 ++ x2.k := ⟨_, rfl⟩
                        have l1 : c1.length = x1.k.length + 2 := by rw [hc1]; simp
                        have l2 : c2.length = c1.length + x2.k.length := by rw [hc2]; simp
                        have hcc : x1.k ++ ([46, 46] ++ x2.k) = c2 := by rw [hc2, hc1, List.append_assoc]
                        have jn := join_one13 (sel := sel) (K := Sg.keys t) (i := i) (ws := ws) (pre := []) (x := c2) S (by rw [HS.out, Nat.sub_self, List.take_zero]) (fun y hy => HC.out.wd y (by simpa using hy) |>.2)
                        rw [List.nil_append] at jn
                        have a1 := fun wx => sum_str13 x1.k [46, 46] c1 (by simp; omega) hc1 wx
                        have a2 := fun wx => sum_str13 c1 x2.k c2 (by omega) hc2 wx
                        have e46 : str [46, 46] = ⟨#[46, 46]⟩ := rfl
                        rw [e46] at a1
                        obtain ⟨c3, hc3⟩ : ∃ c, c = S ++ [32] := ⟨_, rfl⟩
                        have l3 : c3.length = S.length + 1 := by rw [hc3]; simp
                        obtain ⟨c4, hc4⟩ : ∃ c, c = c3 ++ c2 := ⟨_, rfl⟩
                        have a3 := fun wx => sum_str13 S [32] c3 (by simp; omega) hc3 wx
                        have e32 : str [32] = ⟨#[32]⟩ := rfl
                        rw [e32] at a3
                        have a4 := fun wx => sum_str13 c3 c2 c4 (by omega) hc4 wx
                        have HSn : Hid (Mt.join 32 (ws ++ Sg.emit (((Sg.keys t).drop i).take (e - i))) = c4) := Lib.hid (by rw [hem, hcc, jn.2 hSe, hc4, hc3, List.append_assoc]; rfl)
                        obtain ⟨dw1, dw2⟩ := wr_diff13 hr (by omega)
                        obtain ⟨nl1, nl2⟩ := wr_less13 hj (by omega)
                        have g3 : (3 : Int) ≤ (r : Int) := by omega
                        have k0 : (0 : Int) ≤ (i : Int) := by omega
                        have j0 : (0 : Int) ≤ (j : Int) := by omega
                        have jl : (j : Int) < (n : Int) := by omega
                        clear hx1 hx2 hl1 hl2 hem hc1 hc2 l1 l2 hcc jn e46 hc4 hc3 l3 e32 hj hr hSe
                        go_wp2_with fail
                        go_quiet (fail)
                        have HD4 := Lib.hid (below_step HD3.out (below_drew _ nq))
                        clear y1 y2 a1 a2 a4 a3 dw1 dw2 nl1 nl2 j0 jl g3
                        go_wp2
                        go_roundw
                        case rel => exact ⟨e + 1, ws ++ Sg.emit (((Sg.keys t).drop i).take (e - i)), by go_num, by rw [HSn.out], by omega, HC2, HD4⟩
                        case measure => simp [intOf]; omega
                      · clear h3
                        obtain ⟨x1, hx1⟩ : ∃ x, t[k]? = some x := ⟨_, List.getElem?_eq_getElem (by rw [← Hn.out]; omega)⟩
                        have y1 := (sg_cells ((HRt.out k x1 hx1).mono HD3.out)).1
                        have hl1 := key_len13 HMay.out (List.mem_of_getElem? hx1)
                        have htk : ((Sg.keys t).drop i).take (k + 1 - i) = ((Sg.keys t).drop i).take (k - i) ++ [x1.k] := take_key13 hx1 ik
                        have jn := join_one13 (sel := sel) (K := Sg.keys t) (i := i) (ws := ws) (pre := ((Sg.keys t).drop i).take (k - i)) (x := x1.k) S HS.out hwne
                        rw [← htk] at jn
                        obtain ⟨c3, hc3⟩ : ∃ c, c = S ++ [32] := ⟨_, rfl⟩
                        have l3 : c3.length = S.length + 1 := by rw [hc3]; simp
                        obtain ⟨c4, hc4⟩ : ∃ c, c = c3 ++ x1.k := ⟨_, rfl⟩
                        have a3 := fun wx => sum_str13 S [32] c3 (by simp; omega) hc3 wx
                        have e32 : str [32] = ⟨#[32]⟩ := rfl
                        rw [e32] at a3
                        have a4 := fun wx => sum_str13 c3 x1.k c4 (by omega) hc4 wx
                        have HSn : Hid (c4 = Mt.join 32 (ws ++ ((Sg.keys t).drop i).take (k + 1 - i))) := Lib.hid (by rw [jn.2 hSe, hc4, hc3, List.append_assoc]; rfl)
                        obtain ⟨dw1, dw2⟩ := wr_diff13 hr (by omega)
                        have g3 : ¬ (3 : Int) ≤ (r : Int) := by omega
                        have k0 : (0 : Int) ≤ (k : Int) := by omega
                        have kl : (k : Int) < (n : Int) := by omega
                        have dgr : decide (3 ≤ r) = false := decide_eq_false hr3
                        clear hx1 hl1 htk jn hc4 hc3 l3 e32 hSe
                        go_wp2
                        go_roundw
                        case rel => exact ⟨k + 1, c4, by go_num, rfl, by omega, by omega, fun h => absurd h hr3, HSn, HD3⟩
                        case measure => simp [intOf]; omega
                  · have kke : ¬ (k : Int) < (e : Int) := by omega
                    have hrs : ¬ 3 ≤ r := fun h => by have := h3 h; omega
                    have HSn : Hid (S = Mt.join 32 (ws ++ Sg.emit (((Sg.keys t).drop i).take (e - i)))) := Lib.hid (by
                      have hke2 : k = e := by omega
                      have hem : Sg.emit (((Sg.keys t).drop i).take (e - i)) = ((Sg.keys t).drop i).take (e - i) := by
                        unfold Sg.emit
                        rw [if_neg (by rw [List.length_take]; omega)]
                      rw [hem, HS.out, hke2])
                    clear h3
                    go_wp2
                    go_roundw
                    case rel => exact ⟨e + 1, ws ++ Sg.emit (((Sg.keys t).drop i).take (e - i)), by go_num, by rw [← HSn.out], by omega, HC2, HD3⟩
                    case measure => simp [intOf]; omega
          · have kl : ¬ (i : Int) < (n : Int) := by omega
            have HE : Hid (R = (Mt.join 32 ws, 0, 0)) := Lib.hid (by
              rw [HE0.out, HC.out.eq, List.drop_eq_nil_of_le (by rw [HKl.out]; omega)]
              simp [Sg.comp, Sg.emit])
            have HO := Lib.hid (obj_kept HD.out HO0.out)
            have HW := Lib.hid (below_step HB0.out HD.out)
            obtain ⟨S, hS⟩ : ∃ S, S = Mt.join 32 ws := ⟨_, rfl⟩
            rw [← hS] at HE
            rw [← hS]
            clear hS
            have ho := HO.out
            obtain ⟨n0, n1⟩ := two_of13 ho
            have f0 := Lib.frozen_of_heap ho 0
            have f1 := Lib.frozen_of_heap ho 1
            obtain ⟨s0, s1⟩ := two_of13 (set_two13 (a := .int .i64 (0)) (b := .int .i64 (0)) ho)
            have hlt9 := lt_of_obj ho
            clear ho
            go_wp2
            refine bodyPost_ret (v := .tuple #[.string (str S), flt (0) (0)]) (by simp [results, Tryd.results20, go_sem, s0, s1, flt]) rfl ⟨by rw [HE.out], below_two13 (Nat.le_refl _) HW.out⟩
end Go.Proofs.YtlgfmkmpopcciaaDoor
