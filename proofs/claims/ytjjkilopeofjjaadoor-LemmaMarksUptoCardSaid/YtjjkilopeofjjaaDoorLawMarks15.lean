/-
  LemmaMarks: a mark tells which word of its line it is: no two have the same one, if no word has a hat in it; and it is the word alone, where that stands once.
-/
import Derived.Test.YtjjkilopeofjjaaDoorFixed15
set_option linter.unusedVariables false
set_option linter.unusedSimpArgs false
namespace Go.Proofs.YtjjkilopeofjjaaDoor
open Go.RowKit

set_option maxHeartbeats 8000000 in
set_option maxRecDepth 100000 in
theorem lemmaMarks_any (v : Value) (L : List (List UInt8)) (m : Int) (w : World) (h : TxsAt w v L) (hs : TxSm L) (hE : Env15 m w) : Calls Tryd.prog 4 #[v] w (Ret (.bool true) w) := by
  have HA := Lib.hid h
  have HE := Lib.hid hE
  have HF := Lib.hid (fun wx hx => fixed_any m wx hx)
  have HS := Lib.hid hs
  have HMk := Lib.hid (fun (k : Nat) (hk : k < L.length) wx he hx => (by
    have := mark_any m v L (k : Int) wx he hx hs
    rw [markI_at hk] at this
    exact this : Calls Tryd.prog 13 #[v, .int .i64 (k : Int)] wx (Ret (.string (str (Lm.mark L k))) wx)))
  have HCt := Lib.hid (fun (k : Nat) (hk : k < L.length) wx he hx => (by
    have := count_any m v L (k : Int) wx he hx hs
    rw [cnt_at hk] at this
    exact this : Calls Tryd.prog 9 #[v, .int .i64 (k : Int)] wx (Ret (cntV ((Lm.nth L k : Int), (Lm.alls L k : Int))) wx)))
  obtain ⟨⟨pa, cp, rfl, hcap⟩, hm, _⟩ := h
  have hza : L.length ≤ 9223372036854775807 := by unfold maxLen at hm; omega
  obtain ⟨n, hn⟩ : ∃ n, n = L.length := ⟨_, rfl⟩
  have Hn := Lib.hid hn
  rw [← hn] at HA hza HMk HCt ⊢
  clear hm hcap hE
  by_cases h100 : 100 < n
  · have i100 : (100 : Int) < (n : Int) := by omega
    clear hs hn h100 HCt HMk
    go_enter Tryd.func4, Tryd.ntmps4
    go_wp2_with fail
    refine (HF.out _ HE.out).mono ?_
    rintro e w1 ⟨rfl, hb⟩
    have HB1 := Lib.hid hb
    clear hb
    go_wp2_with fail
    refine (HF.out _ (HE.out.mono HB1.out)).mono ?_
    rintro e w2 ⟨rfl, hb⟩
    have HB2 := Lib.hid (below_step HB1.out hb)
    clear hb HB1
    go_wp2
    go_ret
    exact ⟨rfl, HB2.out⟩
  have i100 : (n : Int) ≤ 100 := by omega
  have n100 : n ≤ 100 := by omega
  have HR := Lib.hid (fun (hp : 0 < n) => HA.out.2.2 (by rw [← hn]; exact hp))
  have H0 : Hid (∀ x ∈ L.take 0, (94 : UInt8) ∉ x) := Lib.hid (by simp)
  clear hs hn h100
  go_enter Tryd.func4, Tryd.ntmps4
  go_wp2_with fail
  refine (HF.out _ HE.out).mono ?_
  rintro e w1 ⟨rfl, hb⟩
  have HB1 := Lib.hid hb
  clear hb
  go_wp2_with fail
  go_loopw [3] (fun iv wr => ∃ k : Nat, k ≤ n ∧ iv = .int .i64 k ∧ Hid (∀ x ∈ L.take k, (94 : UInt8) ∉ x) ∧ Hid (Below w.heap.size w wr)) (fun iv _ => n - (intOf iv).toNat)
  case atStart => exact ⟨0, Nat.zero_le _, rfl, H0, HB1⟩
  case round =>
    obtain ⟨k, hk, rfl, HT, HW⟩ := hrel
    clear H0 HB1
    by_cases hlt : k < n
    · obtain ⟨b1, o1, d1, e1, r1⟩ := HR.out (by omega)
      rw [← Hn.out] at e1
      obtain ⟨rfl, rfl⟩ : pa = some ⟨b1, o1, none⟩ ∧ cp = d1 := by injection e1 with a1 a2 a3; exact ⟨a1, a3⟩
      obtain ⟨x, hx⟩ : ∃ x, L[k]? = some x := ⟨_, List.getElem?_eq_getElem (by rw [← Hn.out]; exact hlt)⟩
      have y0 := tx_cells ((r1 k x hx).mono HW.out)
      rw [Nat.mul_one] at y0
      have kl : (k : Int) < (n : Int) := by omega
      have kk : (0 : Int) ≤ (k : Int) := by omega
      have HC := Lib.hid (fun wx => hat_any x (sm_get HS.out hx) wx)
      by_cases he : (94 : UInt8) ∈ x
      · rw [decide_eq_true he] at HC
        clear r1 e1 hx he
        go_wp2_with fail
        refine (HC.out _).mono ?_
        rintro e w2 ⟨rfl, rfl⟩
        go_wp2
        go_ret
        exact ⟨rfl, HW.out⟩
      · have HN : Hid (∀ x ∈ L.take (k + 1), (94 : UInt8) ∉ x) := Lib.hid (fun y hy => by
          rw [Lm.take_succ hx] at hy
          rcases List.mem_append.1 hy with hy | hy
          · exact HT.out y hy
          · simp at hy; subst hy; exact he)
        rw [decide_eq_false he] at HC
        clear r1 e1 hx he
        go_wp2_with fail
        refine (HC.out _).mono ?_
        rintro e w2 ⟨rfl, rfl⟩
        go_wp2
        go_roundw
        case rel => exact ⟨k + 1, by omega, by go_num, HN, HW⟩
        case measure => simp [intOf]; omega
    · have HH : Hid (∀ x ∈ L, (94 : UInt8) ∉ x) := Lib.hid (by have := HT.out; rwa [List.take_of_length_le (by rw [← Hn.out]; omega)] at this)
      have HAp := Lib.hid (fun i k (hi : i < n) (hk : k < i) => Lm.marks_apart (l := L) (by rw [← Hn.out]; exact n100) HH.out (by rw [← Hn.out]; exact hi) hk)
      have HW0 := HW
      clear HT HW HH
      go_wp2_with fail
      clear hlt
      go_loopw [4] (fun iv wr => ∃ i : Nat, i ≤ n ∧ iv = .int .i64 i ∧ Hid (Below w.heap.size w wr)) (fun iv _ => n - (intOf iv).toNat)
      case atStart => exact ⟨0, Nat.zero_le _, rfl, HW0⟩
      case round =>
        obtain ⟨i, hi, rfl, HW⟩ := hrel
        clear HW0
        by_cases hlt : i < n
        · have il : (i : Int) < (n : Int) := by omega
          have ii : (0 : Int) ≤ (i : Int) := by omega
          have HMi := Lib.hid (fun wx he hx => HMk.out i hlt wx he hx)
          have HW1 := HW
          obtain ⟨wi, hwi⟩ : ∃ wi, wi = wr := ⟨_, rfl⟩
          rw [← hwi] at HW HW1 ⊢
          clear hwi
          go_wp2_with fail
          go_loopw [5] (fun kv wx => ∃ k : Nat, k ≤ i ∧ kv = .int .i64 k ∧ Hid (Below w.heap.size w wx)) (fun kv _ => i - (intOf kv).toNat)
          case atStart => exact ⟨0, Nat.zero_le _, rfl, HW1⟩
          case round =>
            obtain ⟨k, hk, rfl, HX⟩ := hrel
            clear HW1 HW
            by_cases hki : k < i
            · have kl : (k : Int) < (i : Int) := by omega
              have HMx := Lib.hid (fun wx he hx => HMk.out k (by omega) wx he hx)
              have hne := toList_beq15 (Lm.mark L i) (Lm.mark L k)
              rw [decide_eq_false (HAp.out i k hlt hki)] at hne
              generalize Lm.mark L i = mi at *
              generalize Lm.mark L k = mk at *
              go_wp2_with fail
              refine (HMi.out _ (HE.out.mono HX.out) (HA.out.mono HX.out)).mono ?_
              rintro e w2 ⟨rfl, hb⟩
              have HX2 := Lib.hid (below_step HX.out hb)
              clear hb HX
              go_wp2_with fail
              refine (HMx.out _ (HE.out.mono HX2.out) (HA.out.mono HX2.out)).mono ?_
              rintro e w3 ⟨rfl, hb⟩
              have HX3 := Lib.hid (below_step HX2.out hb)
              clear hb HX2
              go_wp2
              go_roundw
              case rel => exact ⟨k + 1, by omega, by go_num, HX3⟩
              case measure => simp [intOf]; omega
            · obtain rfl : k = i := by omega
              have HCx := Lib.hid (fun wx he hx => HCt.out k hlt wx he hx)
              have hlL : k < L.length := by rw [← Hn.out]; exact hlt
              have hp1 := nth_pos hlL
              have hp2 := Lm.nth_le L k
              obtain ⟨b1, o1, d1, e1, r1⟩ := HR.out (by omega)
              rw [← Hn.out] at e1
              obtain ⟨rfl, rfl⟩ : pa = some ⟨b1, o1, none⟩ ∧ cp = d1 := by injection e1 with a1 a2 a3; exact ⟨a1, a3⟩
              have gx := Lm.get_of hlL
              have HY := Lib.hid (fun wx (hb : Below w.heap.size w wx) => (by
                have := tx_cells ((r1 k _ gx).mono hb)
                rw [Nat.mul_one] at this
                exact this : wx.cell? ⟨b1, o1 + k, none⟩ = some (.string (str (Lm.at_ L k)))))
              by_cases ha : Lm.alls L k = 1
              · have hmk : Lm.mark L k = Lm.plain (Lm.at_ L k) := by unfold Lm.mark; rw [if_pos ha]
                rw [hmk] at HMi
                have HP := Lib.hid (fun wx hx => plainL_any m _ (sm_get HS.out gx) wx hx)
                have hn1 : Lm.nth L k = 1 := by omega
                rw [ha, hn1] at HCx
                generalize Lm.at_ L k = xk at *
                generalize Lm.plain xk = px at *
                clear hp1 hp2 e1 r1 gx hlL ha hmk hn1 hki
                go_wp2_with fail
                refine (HCx.out _ (HE.out.mono HX.out) (HA.out.mono HX.out)).mono ?_
                rintro e w2 ⟨rfl, hb⟩
                have HX2 := Lib.hid (below_step HX.out hb)
                unfold cntV
                clear hb HX HCx
                have HD : Hid (Below w.heap.size w w2.drew) := Lib.hid (below_step HX2.out (below_drew w2 1))
                have y0 := HY.out _ HX2.out
                go_wp2_with fail
                go_region_held3 (fun w' => w'.cell? ⟨b1, o1 + k, none⟩ = some (.string (str xk))) (first | (exact HY.out _ HX6.out) | (exact HY.out _ HX5.out) | go_keep) (first | ((with_reducible refine (HMi.out _ (HE.out.mono HD.out) (HA.out.mono HD.out)).mono ?_); rintro e w5 ⟨rfl, hb5⟩; have HX5 := Lib.hid (below_step HD.out hb5); clear hb5) | ((with_reducible refine (HP.out _ (HE.out.mono HX5.out)).mono ?_); rintro e w6 ⟨rfl, hb6⟩; have HX6 := Lib.hid (below_step HX5.out hb6); clear hb6))
                clear y0
                go_wp2
                go_roundw
                case rel => exact ⟨k + 1, by omega, by go_num, HX6⟩
                case measure => simp [intOf]; omega
              · have c1 : ¬ (Lm.nth L k : Int) < 1 := by omega
                have c2 : ¬ (Lm.alls L k : Int) < (Lm.nth L k : Int) := by omega
                have c3 : ((Lm.alls L k : Int) == 1) = false := by rw [beq_eq_false_iff_ne]; omega
                generalize (Lm.nth L k : Int) = nk at *
                generalize (Lm.alls L k : Int) = ak at *
                have HC3 := Lib.hid c3
                clear hp1 hp2 e1 r1 gx hlL ha hki HY
                go_wp2_with fail
                refine (HCx.out _ (HE.out.mono HX.out) (HA.out.mono HX.out)).mono ?_
                rintro e w2 ⟨rfl, hb⟩
                have HX2 := Lib.hid (below_step HX.out hb)
                unfold cntV
                clear hb HX HCx
                go_wp2_with fail
                have g1 : decide (nk < 1) = false := decide_eq_false (by omega)
                have g2 : decide (ak < nk) = false := decide_eq_false (by omega)
                have g3 : (ak == 1) = false := HC3.out
                have g4 : decide (ak = 1) = false := decide_eq_false (fun e => by have := HC3.out; rw [e] at this; cases this)
                go_quiet (fail)
                have HX3 := Lib.hid (below_step HX2.out (below_drew w2 nq))
                go_wp2
                go_roundw
                case rel => exact ⟨k + 1, by omega, by go_num, HX3⟩
                case measure => simp [intOf]; omega
        · go_wp2
          go_ret
          exact ⟨rfl, HW.out⟩
end Go.Proofs.YtjjkilopeofjjaaDoor
