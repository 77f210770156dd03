/-
  The reference's join, Short, Head.
-/
import Derived.Test.YtjjkilopeofjjaaDoorHe15
import Derived.Test.YtjjkilopeofjjaaDoorRefCnt15
set_option linter.unusedVariables false
set_option linter.unusedSimpArgs false
namespace Go.Proofs.YtjjkilopeofjjaaDoor
open Go.RowKit

set_option maxHeartbeats 8000000 in
set_option maxRecDepth 100000 in
theorem refJoin_any (v : Value) (G : List (List UInt8)) (w : World) (h : TxsAt w v G) (hG : ∀ x ∈ G, x.length ≤ 1048600) : Calls Tryd.prog 27 #[v] w (Is (.string (str (Lm.join G))) w) := by
  have HA := Lib.hid h
  have HG := Lib.hid hG
  obtain ⟨⟨pa, cp, rfl, hcap⟩, hm, _⟩ := h
  have hza : G.length ≤ 9223372036854775807 := by unfold maxLen at hm; omega
  obtain ⟨n, hn⟩ : ∃ n, n = G.length := ⟨_, rfl⟩
  have Hn := Lib.hid hn
  rw [← hn] at HA hza ⊢
  clear hm hcap
  have e32 : str [32] = ⟨#[32]⟩ := rfl
  have e4 : str [32, 46, 46, 46] = ⟨#[32, 46, 46, 46]⟩ := rfl
  by_cases h3 : 3 < n
  · have hJ : Lm.join G = Lm.at_ G 0 ++ Lm.gap ++ Lm.at_ G (n - 1) := by unfold Lm.join; rw [if_pos (by omega), hn]
    rw [hJ]
    have g0 := Lm.get_of (l := G) (k := 0) (by omega)
    have g1 := Lm.get_of (l := G) (k := n - 1) (by omega)
    have l0 := hG _ (List.mem_of_getElem? g0)
    have l1 := hG _ (List.mem_of_getElem? g1)
    obtain ⟨b1, o1, d1, e1, r1⟩ := HA.out.2.2 (by rw [← Hn.out]; omega)
    rw [← Hn.out] at e1
    obtain ⟨rfl, rfl⟩ : pa = some ⟨b1, o1, none⟩ ∧ cp = d1 := by injection e1 with a1 a2 a3; exact ⟨a1, a3⟩
    have y0 := tx_cells (r1 0 _ g0)
    have y1 := tx_cells (r1 (n - 1) _ g1)
    rw [Nat.mul_one] at y0 y1
    rw [Nat.add_zero] at y0
    generalize Lm.at_ G 0 = x0 at *
    generalize Lm.at_ G (n - 1) = x1 at *
    have s0 := fun wx => sum_str15 [] x0 x0 (by simp; omega) (by simp) wx
    have s1 := fun wx => sum_str15 x0 [32, 46, 46, 46] (x0 ++ [32, 46, 46, 46]) (by simp; omega) rfl wx
    have s2 := fun wx => sum_str15 (x0 ++ [32, 46, 46, 46]) [32] (x0 ++ Lm.gap) (by simp; omega) (by simp [Lm.gap]) wx
    have s3 := fun wx => sum_str15 (x0 ++ Lm.gap) x1 (x0 ++ Lm.gap ++ x1) (by simp [Lm.gap]; omega) rfl wx
    have e0 : str [] = ⟨#[]⟩ := rfl
    rw [e4] at s1
    rw [e32] at s2
    rw [e0] at s0
    generalize x0 ++ Lm.gap ++ x1 = c3 at *
    generalize x0 ++ Lm.gap = c2 at *
    generalize x0 ++ [32, 46, 46, 46] = c1 at *
    have i3 : (3 : Int) < (n : Int) := by omega
    clear hn hG hJ g0 g1 l0 l1 e1 r1 e0 e32 e4
    go_enter Tryd.func27, Tryd.ntmps27
    go_wp2_with fail
    go_loopw [3, 4] (fun sv iv wr => ∃ k : Nat, k ≤ n ∧ iv = .int .i64 k ∧ (k = 0 → sv = .string ⟨#[]⟩) ∧ (0 < k → k < n → sv = .string (str x0)) ∧ (k = n → sv = .string (str c3)) ∧ wr = w) (fun _ iv _ => n - (intOf iv).toNat)
    case atStart => exact ⟨0, Nat.zero_le _, rfl, fun _ => rfl, fun h => by omega, fun h => by omega, rfl⟩
    case round =>
      obtain ⟨k, hk, rfl, k1, k2, k3, rfl⟩ := hrel
      by_cases hlt : k < n
      · have kl : (k : Int) < (n : Int) := by omega
        have kk : (0 : Int) ≤ (k : Int) := by omega
        by_cases hz : k = 0
        · subst hz
          obtain rfl := k1 rfl
          clear k1 k2 k3 y1
          go_wp2
          go_roundw
          case rel => exact ⟨1, by omega, by go_num, fun h => by omega, fun _ _ => rfl, fun h => by omega, trivial⟩
          case measure => simp [intOf]; omega
        · obtain rfl := k2 (by omega) hlt
          have kp : (0 : Int) < (k : Int) := by omega
          by_cases hlast : k = n - 1
          · have kq : ¬ (k : Int) < (n : Int) - 1 := by omega
            rw [← hlast] at y1
            have HK := Lib.hid hlast
            clear k1 k2 k3 y0 hlast
            go_wp2
            go_roundw
            case rel => exact ⟨k + 1, by omega, by go_num, fun h => by omega, fun _ h => by have := HK.out; omega, fun _ => rfl, trivial⟩
            case measure => simp [intOf]; omega
          · have kq : (k : Int) < (n : Int) - 1 := by omega
            clear k1 k2 k3 y0 y1
            go_wp2
            go_roundw
            case rel => exact ⟨k + 1, by omega, by go_num, fun h => by omega, fun _ _ => rfl, fun h => by omega, trivial⟩
            case measure => simp [intOf]; omega
      · obtain rfl : k = n := by omega
        obtain rfl := k3 rfl
        go_wp2
        go_ret
        exact ⟨rfl, rfl⟩
  · have HJ : Hid (Lm.join G = Lm.sepd G) := Lib.hid (by unfold Lm.join; rw [if_neg (by omega)])
    rw [HJ.out]
    have i3 : ¬ (3 : Int) < (n : Int) := by omega
    have hn3 : n ≤ 3 := by omega
    have HL := Lib.hid (fun k (hk : k ≤ n) => (by
      have h1 := sepd_len (G.take k) (fun x hx => hG x (List.mem_of_mem_take hx))
      have h2 : (G.take k).length ≤ 3 := by rw [List.length_take]; omega
      omega : (Lm.sepd (G.take k)).length ≤ 3145803))
    clear hn hG
    go_enter Tryd.func27, Tryd.ntmps27
    go_wp2_with fail
    go_loopw [3, 4] (fun sv iv wr => ∃ k : Nat, k ≤ n ∧ iv = .int .i64 k ∧ sv = .string (str (Lm.sepd (G.take k))) ∧ wr = w) (fun _ iv _ => n - (intOf iv).toNat)
    case atStart => exact ⟨0, Nat.zero_le _, rfl, rfl, rfl⟩
    case round =>
      obtain ⟨k, hk, rfl, rfl, rfl⟩ := hrel
      by_cases hlt : k < n
      · have kl : (k : Int) < (n : Int) := by omega
        have kk : (0 : Int) ≤ (k : Int) := by omega
        obtain ⟨x, hx⟩ : ∃ x, G[k]? = some x := ⟨_, List.getElem?_eq_getElem (by rw [← Hn.out]; exact hlt)⟩
        obtain ⟨b1, o1, d1, e1, r1⟩ := HA.out.2.2 (by rw [← Hn.out]; omega)
        rw [← Hn.out] at e1
        obtain ⟨rfl, rfl⟩ : pa = some ⟨b1, o1, none⟩ ∧ cp = d1 := by injection e1 with a1 a2 a3; exact ⟨a1, a3⟩
        have y0 := tx_cells (r1 k x hx)
        rw [Nat.mul_one] at y0
        have hxl := HG.out x (List.mem_of_getElem? hx)
        have hSl := HL.out k hk
        by_cases hz : k = 0
        · subst hz
          have HN := Lib.hid (sepd_first hx)
          have z0 : Lm.sepd (G.take 0) = [] := rfl
          rw [z0]
          rw [Nat.add_zero] at y0
          have s0 := fun wx => sum_str15 [] x x (by simp; omega) (by simp) wx
          clear hx e1 r1 z0 hSl
          go_wp2
          go_roundw
          case rel => exact ⟨1, by omega, by go_num, by rw [HN.out], trivial⟩
          case measure => simp [intOf]; omega
        · have HN := Lib.hid (sepd_next hx (by omega))
          have kp : (0 : Int) < (k : Int) := by omega
          generalize Lm.sepd (G.take k) = S at *
          have s1 := fun wx => sum_str15 S [32] (S ++ [32]) (by simp; omega) rfl wx
          have s2 := fun wx => sum_str15 (S ++ [32]) x ((S ++ [32]) ++ x) (by simp; omega) rfl wx
          rw [e32] at s1
          generalize (S ++ [32]) ++ x = c2 at *
          generalize S ++ [32] = c1 at *
          clear hx e1 r1 hz hSl
          go_wp2
          go_roundw
          case rel => exact ⟨k + 1, by omega, by go_num, by rw [HN.out], trivial⟩
          case measure => simp [intOf]; omega
      · have HF : Hid (G.take k = G) := Lib.hid (List.take_of_length_le (by rw [← Hn.out]; omega))
        rw [HF.out]
        go_wp2
        go_ret
        exact ⟨rfl, rfl⟩
theorem plain_small {L : List (List UInt8)} (hs : TxSm L) : ∀ x ∈ L.map Lm.plain, x.length ≤ 1048600 := fun x hx => by
  obtain ⟨y, hy, rfl⟩ := List.mem_map.1 hx
  have := hs y hy
  have := Lm.plain_length y
  omega
set_option maxHeartbeats 4000000 in
set_option maxRecDepth 100000 in
theorem refShort_any (v : Value) (L : List (List UInt8)) (w : World) (h : TxsAt w v L) (hs : TxSm L) (hl : L.length ≤ 1000) : Calls Tryd.prog 16 #[v] w (Ret (.string (str (Lm.short L))) w) := by
  have HA := Lib.hid h
  have HS := Lib.hid hs
  have HPs := Lib.hid (plain_small hs)
  obtain ⟨⟨pa, cp, rfl, hcap⟩, hm, _⟩ := h
  obtain ⟨n, hn⟩ : ∃ n, n = L.length := ⟨_, rfl⟩
  have Hn := Lib.hid hn
  rw [← hn] at HA hl ⊢
  have HO0 := Lib.hid (own_empty 9 txC 1 w)
  have HB0 := Lib.hid (below_alloc w (.cells #[] 9))
  have e0 : Lm.short L = Lm.join (L.map Lm.plain) := rfl
  rw [e0]
  obtain ⟨P, hP⟩ : ∃ P, P = L.map Lm.plain := ⟨_, rfl⟩
  have HP := Lib.hid hP
  have HPl : Hid (P.length = n) := Lib.hid (by rw [hP, hn]; simp)
  rw [← hP] at HPs ⊢
  clear hm hcap hn hs e0 hP
  go_enter Tryd.func16, Tryd.ntmps16
  go_wp2_with fail
  go_loopw [3, 4] (fun kv iv wr => ∃ k : Nat, k ≤ n ∧ iv = .int .i64 (k : Int) ∧ Hid (OwnTx w.heap.size kv (P.take k) wr) ∧ Hid (Below w.heap.size w wr)) (fun _ iv _ => n - (intOf iv).toNat)
  case atStart => exact ⟨0, Nat.zero_le _, rfl, HO0, HB0⟩
  case round =>
    obtain ⟨k, hk, rfl, HO, HW⟩ := hrel
    clear HO0 HB0
    by_cases hlt : k < n
    · obtain ⟨x, hx⟩ : ∃ x, L[k]? = some x := ⟨_, List.getElem?_eq_getElem (by rw [← Hn.out]; exact hlt)⟩
      obtain ⟨b1, o1, d1, e1, r1⟩ := HA.out.2.2 (by rw [← Hn.out]; omega)
      rw [← Hn.out] at e1
      obtain ⟨rfl, rfl⟩ : pa = some ⟨b1, o1, none⟩ ∧ cp = d1 := by injection e1 with a1 a2 a3; exact ⟨a1, a3⟩
      have y0 := tx_cells ((r1 k x hx).mono HW.out)
      rw [Nat.mul_one] at y0
      have kl : (k : Int) < (n : Int) := by omega
      have kk : (0 : Int) ≤ (k : Int) := by omega
      have HC := Lib.hid (fun wx => refPlain_any x (sm_get HS.out hx) wx)
      have hpx : P[k]? = some (Lm.plain x) := by rw [HP.out, List.getElem?_map, hx]; rfl
      have HTk : Hid (P.take (k + 1) = P.take k ++ [Lm.plain x]) := Lib.hid (by rw [List.take_add_one, hpx]; rfl)
      have HLi : Hid ((P.take k).length = k) := Lib.hid (by rw [List.length_take, HPl.out]; omega)
      generalize Lm.plain x = px at *
      have hb3 := below_alloc wr (.cells #[.string (str px)] 9)
      have HO3 := Lib.hid (HO.out.mono hb3)
      have HS3 := Lib.hid (slc_new txC_len wr wr.heap.size rfl [px] 9 (by simp) #[.string (str px)] rfl)
      have HW3 := Lib.hid (HW.out.trans (hb3.mono HW.out.size))
      clear hb3 r1 e1 hx hpx
      go_wp2_with fail
      refine (HC.out _).mono ?_
      rintro e w1 ⟨rfl, rfl⟩
      clear y0
      go_wp2_with (at_builtin; refine wpList_append_slc Tryd.underlying22 infoTx13 rfl (by decide) txC_len txC_cell rfl _ _ rfl w.heap.size _ _ (P.take k) [px] rfl HO3.out rfl HS3.out (by rw [HLi.out]; simp; omega) (by rw [HLi.out]; unfold maxLen; simp; omega) HW3.out.size ?_; intro v9 w9 h9 hg9; have HO9 := Lib.hid (HTk.out ▸ h9); have HW9 := Lib.hid (below_app HW3.out hg9 HO3.out HW3.out.size); clear h9 hg9)
      go_roundw
      case rel => exact ⟨k + 1, by omega, by go_num, HO9, HW9⟩
      case measure => simp [intOf]; omega
    · have HF : Hid (P.take k = P) := Lib.hid (List.take_of_length_le (by rw [HPl.out]; omega))
      rw [HF.out] at HO
      have HJ := Lib.hid (refJoin_any _ P wr (OwnR.at HO.out txC_len) HPs.out)
      go_wp2_with fail
      refine HJ.out.mono ?_
      rintro e w1 ⟨rfl, rfl⟩
      go_wp2
      go_ret
      exact ⟨rfl, HW.out⟩
set_option maxHeartbeats 4000000 in
set_option maxRecDepth 100000 in
theorem refHead_any (v : Value) (L : List (List UInt8)) (a b : Int) (w : World) (h : TxsAt w v L) (hs : TxSm L) (hl : L.length ≤ 1000) : Calls Tryd.prog 18 #[v, .int .i64 a, .int .i64 b] w (Ret (.string (str (Lm.head L a b))) w) := by
  have HA := Lib.hid h
  have HS := Lib.hid hs
  have HB0 := Lib.hid (below_alloc w (.cells #[] 9))
  have HO0 := Lib.hid (own_empty 9 txC 1 w)
  by_cases hin : 0 ≤ a ∧ a < b ∧ b ≤ L.length
  · obtain ⟨i, rfl⟩ : ∃ i : Nat, a = i := ⟨a.toNat, by omega⟩
    obtain ⟨d, rfl⟩ : ∃ d : Nat, b = (i : Int) + (d : Int) := ⟨(b - i).toNat, by omega⟩
    have hd : i + d ≤ L.length := by omega
    have HV : Hid (Lm.head L (i : Int) ((i : Int) + (d : Int)) = Lm.join (Lm.marks L i d)) := Lib.hid (by
      unfold Lm.head
      rw [if_pos hin]
      have e1 : ((i : Int)).toNat = i := by omega
      have e2 : ((i : Int) + (d : Int) - (i : Int)).toNat = d := by omega
      rw [e1, e2])
    rw [HV.out]
    have HPs := Lib.hid (marks_len15 hs (by omega) i d)
    have HPg := Lib.hid (fun k (hk : k < d) => Lm.marks_get L i d k hk)
    have HPl := Lib.hid (Lm.marks_len L i d)
    have HM := Lib.hid (fun k (hk : k < d) (wx : World) (hx : TxsAt wx v L) => by
      have := refMark_any v L ((i + k : Nat) : Int) wx hx hs
      rw [markI_at (by omega)] at this
      exact this)
    obtain ⟨⟨pa, cp, rfl, hcap⟩, hm, _⟩ := h
    generalize Lm.marks L i d = P at *
    obtain ⟨B, hB⟩ : ∃ B : Int, B = (i : Int) + (d : Int) := ⟨_, rfl⟩
    have i0 : (0 : Int) ≤ (i : Int) := by omega
    have i1 : (i : Int) < B := by omega
    have i2 : B ≤ (L.length : Int) := by omega
    rw [← hB]
    have HBd := Lib.hid hB
    have HD := Lib.hid hd
    have hd2 : d ≤ 1000 := by omega
    have hi2 : i ≤ 1000 := by omega
    generalize L.length = n at *
    clear hm hcap hs hin hd hB HV
    go_enter Tryd.func18, Tryd.ntmps18
    go_wp2_with fail
    go_loopw [7, 8] (fun kv iv wr => ∃ k j : Nat, k ≤ d ∧ Hid (j = i + k) ∧ iv = .int .i64 (j : Int) ∧ Hid (OwnTx w.heap.size kv (P.take k) wr) ∧ Hid (Below w.heap.size w wr)) (fun _ iv _ => i + d - (intOf iv).toNat)
    case atStart => exact ⟨0, i, Nat.zero_le _, Lib.hid rfl, rfl, HO0, HB0⟩
    case round =>
      obtain ⟨k, j, hk, HJj, rfl, HO, HW⟩ := hrel
      clear HO0 HB0
      have hj := HJj.out
      by_cases hlt : k < d
      · have hmk := HM.out k hlt
        have hpg := HPg.out k hlt
        rw [← hj] at hmk hpg
        have HC := Lib.hid (fun wx hx => hmk wx hx)
        have hxl := HPs.out _ (List.mem_of_getElem? hpg)
        generalize Lm.mark L j = px at *
        have HTk : Hid (P.take (k + 1) = P.take k ++ [px]) := Lib.hid (by rw [List.take_add_one, hpg]; rfl)
        have HLi : Hid ((P.take k).length = k) := Lib.hid (by rw [List.length_take, HPl.out]; omega)
        have jl : (j : Int) < B := by rw [HBd.out]; omega
        have jw : (j : Int) ≤ 2000 := by omega
        have j0 : (0 : Int) ≤ (j : Int) := by omega
        clear hmk hpg hj
        go_wp2_with fail
        refine (HC.out _ (SlcAt.mono HA.out HW.out)).mono ?_
        rintro e w1 ⟨rfl, q, rfl⟩
        have hbq := below_drew wr q
        have HOq := Lib.hid (HO.out.mono hbq)
        have HWq := Lib.hid (below_step HW.out hbq)
        obtain ⟨wq, hwq⟩ : ∃ wq, wq = wr.drewN q := ⟨_, rfl⟩
        rw [← hwq] at HOq HWq ⊢
        have hb3 := below_alloc wq (.cells #[.string (str px)] 9)
        have HO3 := Lib.hid (HOq.out.mono hb3)
        have HS3 := Lib.hid (slc_new txC_len wq wq.heap.size rfl [px] 9 (by simp) #[.string (str px)] rfl)
        have HW3 := Lib.hid (HWq.out.trans (hb3.mono HWq.out.size))
        clear hb3 hbq hwq HO HW HC
        go_wp2_with (at_builtin; refine wpList_append_slc Tryd.underlying22 infoTx13 rfl (by decide) txC_len txC_cell rfl _ _ rfl w.heap.size _ _ (P.take k) [px] rfl HO3.out rfl HS3.out (by rw [HLi.out]; simp; omega) (by rw [HLi.out]; unfold maxLen; simp; omega) HW3.out.size ?_; intro v9 w9 h9 hg9; have HO9 := Lib.hid (HTk.out ▸ h9); have HW9 := Lib.hid (below_app HW3.out hg9 HO3.out HW3.out.size); clear h9 hg9)
        go_roundw
        case rel => exact ⟨k + 1, j + 1, by omega, Lib.hid (by have := HJj.out; omega), by go_num, HO9, HW9⟩
        case measure => have := HJj.out; simp [intOf]; omega
      · have HF : Hid (P.take k = P) := Lib.hid (List.take_of_length_le (by rw [HPl.out]; omega))
        rw [HF.out] at HO
        have jl : ¬ (j : Int) < B := by rw [HBd.out]; omega
        clear hj
        have HJ := Lib.hid (refJoin_any _ P wr (OwnR.at HO.out txC_len) HPs.out)
        go_wp2_with fail
        refine HJ.out.mono ?_
        rintro e w1 ⟨rfl, rfl⟩
        go_wp2
        go_ret
        exact ⟨rfl, HW.out⟩
  · rw [head_out hin]
    have HJ := Lib.hid (fun kv wr (h : OwnTx w.heap.size kv [] wr) => refJoin_any kv [] wr (OwnR.at h txC_len) (by simp))
    have e0 : str (Lm.join []) = str [] := rfl
    rw [e0] at HJ
    obtain ⟨⟨pa, cp, rfl, hcap⟩, hm, _⟩ := h
    have hout : a < b → 0 ≤ a → (L.length : Int) < b := fun h1 h2 => by omega
    generalize L.length = n at *
    by_cases c1 : a < b
    · by_cases c2 : 0 ≤ a
      · have c3 := hout c1 c2
        clear hm hcap hs hin hout e0
        go_enter Tryd.func18, Tryd.ntmps18
        go_wp2_with fail
        go_loopw [7, 8] (fun kv iv wr => iv = .int .i64 a ∧ Hid (OwnTx w.heap.size kv [] wr) ∧ Hid (Below w.heap.size w wr)) (fun _ _ _ => 0)
        case atStart => exact ⟨rfl, HO0, HB0⟩
        case round =>
          obtain ⟨rfl, HO, HW⟩ := hrel
          go_wp2_with fail
          refine (HJ.out _ _ HO.out).mono ?_
          rintro e w1 ⟨rfl, rfl⟩
          go_wp2
          go_ret
          exact ⟨rfl, HW.out⟩
      · have c3 : a < 0 := by omega
        clear hm hcap hs hin hout e0 c2
        go_enter Tryd.func18, Tryd.ntmps18
        go_wp2_with fail
        go_loopw [7, 8] (fun kv iv wr => iv = .int .i64 a ∧ Hid (OwnTx w.heap.size kv [] wr) ∧ Hid (Below w.heap.size w wr)) (fun _ _ _ => 0)
        case atStart => exact ⟨rfl, HO0, HB0⟩
        case round =>
          obtain ⟨rfl, HO, HW⟩ := hrel
          go_wp2_with fail
          refine (HJ.out _ _ HO.out).mono ?_
          rintro e w1 ⟨rfl, rfl⟩
          go_wp2
          go_ret
          exact ⟨rfl, HW.out⟩
    · clear hm hcap hs hin hout e0
      go_enter Tryd.func18, Tryd.ntmps18
      go_wp2_with fail
      go_loopw [7, 8] (fun kv iv wr => iv = .int .i64 a ∧ Hid (OwnTx w.heap.size kv [] wr) ∧ Hid (Below w.heap.size w wr)) (fun _ _ _ => 0)
      case atStart => exact ⟨rfl, HO0, HB0⟩
      case round =>
        obtain ⟨rfl, HO, HW⟩ := hrel
        go_wp2_with fail
        refine (HJ.out _ _ HO.out).mono ?_
        rintro e w1 ⟨rfl, rfl⟩
        go_wp2
        go_ret
        exact ⟨rfl, HW.out⟩
end Go.Proofs.YtjjkilopeofjjaaDoor
