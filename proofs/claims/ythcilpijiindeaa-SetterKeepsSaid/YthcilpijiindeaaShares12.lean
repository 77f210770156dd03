/-
  The landed shares: a total cut by weights.
-/
import Derived.Test.YthcilpijiindeaaShare12
set_option linter.unusedVariables false
set_option linter.unusedSimpArgs false
namespace Go.Proofs.Ythcilpijiindeaa
open Go.RowKit

namespace It
def shF (t all : Int) : Int → List Int → List Int
  | _, [] => []
  | c, x :: r => (prt t all (c + x) - prt t all c) :: shF t all (c + x) r
theorem shF_len (t all : Int) : ∀ (ws : List Int) (c : Int), (shF t all c ws).length = ws.length
  | [], _ => rfl
  | x :: r, c => by simp only [shF, List.length_cons, shF_len t all r]
theorem shF_get (t all : Int) : ∀ (ws : List Int) (c : Int) (k : Nat) (x : Int), ws[k]? = some x → (shF t all c ws)[k]? = some (prt t all (c + sumI (ws.take k) + x) - prt t all (c + sumI (ws.take k)))
  | y :: r, c, 0, x, h => by
    simp at h
    subst h
    simp [shF, sumI]
  | y :: r, c, k + 1, x, h => by
    simp at h
    simp only [shF, List.getElem?_cons_succ, List.take_succ_cons, sumI]
    rw [shF_get t all r (c + y) k x h, show c + y + sumI (r.take k) = c + (y + sumI (r.take k)) by omega]
theorem sumI_app (a b : List Int) : sumI (a ++ b) = sumI a + sumI b := by
  induction a with
  | nil => simp [sumI]
  | cons x r ih => simp only [List.cons_append, sumI, ih]; omega
theorem sumI_nonneg : ∀ {l : List Int}, (∀ x ∈ l, 0 ≤ x) → 0 ≤ sumI l
  | [], _ => Int.le_refl _
  | x :: r, h => by
    have := h x List.mem_cons_self
    have := sumI_nonneg (l := r) (fun y hy => h y (List.mem_cons_of_mem _ hy))
    simp only [sumI]
    omega
theorem sumI_take {l : List Int} (h : ∀ x ∈ l, 0 ≤ x) (k : Nat) : 0 ≤ sumI (l.take k) ∧ sumI (l.take k) ≤ sumI l := by
  have h1 := sumI_nonneg (l := l.take k) (fun x hx => h x (List.mem_of_mem_take hx))
  have h2 := sumI_nonneg (l := l.drop k) (fun x hx => h x (List.mem_of_mem_drop hx))
  have : sumI (l.take k) + sumI (l.drop k) = sumI l := by rw [← sumI_app, List.take_append_drop]
  omega
theorem shF_zero (t : Int) : ∀ (ws : List Int) (c : Int), shF t 0 c ws = List.replicate ws.length 0
  | [], _ => rfl
  | x :: r, c => by
    simp only [shF, List.length_cons, List.replicate_succ, shF_zero t r]
    congr 1
end It
theorem RowZ.rest {b n : Nat} {w : World} : ∀ {m : Nat} {xs : List Int}, xs.length + m = n → RowZ b n xs w → RowZ b n (xs ++ List.replicate m 0) w
  | 0, xs, _, h => by rw [List.replicate_zero, List.append_nil]; exact h
  | m + 1, xs, hm, h => by
    have h1 := RowZ.zero h (by omega)
    have h2 := RowZ.rest (m := m) (by simp; omega) h1
    rw [List.replicate_succ]
    rw [List.append_assoc] at h2
    exact h2
theorem lens_cell {w : World} {v : Value} {l : List Int} (h : LensAt w v l) : ∃ a cap, v = .slice a l.length cap ∧ l.length ≤ maxLen ∧ (0 < l.length → ∃ b o, a = some ⟨b, o, none⟩ ∧ ∀ i x, l[i]? = some x → w.cell? ⟨b, o + i, none⟩ = some (.int .i64 x)) := by
  obtain ⟨⟨a, cap, rfl, hc⟩, hm, hk⟩ := h
  refine ⟨a, cap, rfl, hm, fun hp => ?_⟩
  obtain ⟨b, o, c, e, hx⟩ := hk hp
  injection e with e1
  refine ⟨b, o, e1, fun i x hi => ?_⟩
  have := hx i x hi 0 _ rfl
  simpa using this

set_option maxHeartbeats 8000000 in
set_option maxRecDepth 100000 in
theorem shares_any (t : Int) (v : Value) (ws : List Int) (w : World) (h : LensAt w v ws) (hn : ws.length ≤ 2000) (h0 : ∀ x ∈ ws, 0 ≤ x) (hs : It.sumI ws ≤ 1073741823) (ht : 0 ≤ t ∧ t ≤ 1073741823) :
    Calls Try.prog 50 #[.int .i64 t, v] w fun e w' => ∃ u, e = .returned u ∧ LensAt w' u (It.shF t (It.sumI ws) 0 ws) ∧ Below w.heap.size w w' := by
  obtain ⟨a, ca, rfl, hma, hka⟩ := lens_cell h
  have HK := Lib.hid hka
  have HT := Lib.hid (fun k => It.sumI_take h0 k)
  have HL := Lib.hid (It.shF_len t (It.sumI ws) ws 0)
  have HG := Lib.hid (It.shF_get t (It.sumI ws) ws 0)
  have HZr := Lib.hid (It.shF_zero t ws 0)
  have HT0 := Lib.hid ht
  have HS := Lib.hid hs
  obtain ⟨n, hnn⟩ : ∃ n, n = ws.length := ⟨_, rfl⟩
  have Hn := Lib.hid hnn
  rw [← hnn] at hn ⊢
  have HB0 := Lib.hid (Below.refl w.heap.size w)
  clear hka h hma hnn h0 hs ht
  go_enter Try.func50, Try.ntmps50
  go_wp2_with fail
  go_loopw [5, 16] (fun sv kv wr => ∃ k : Nat, k ≤ n ∧ kv = .int .i64 k ∧ sv = .int .i64 (It.sumI (ws.take k)) ∧ Hid (Below w.heap.size w wr)) (fun _ kv _ => n - (intOf kv).toNat)
  case atStart => exact ⟨0, Nat.zero_le _, rfl, by simp [It.sumI], HB0⟩
  case round =>
    obtain ⟨k, hk, rfl, rfl, HB⟩ := hrel
    clear HB0
    by_cases hlt : k < n
    · obtain ⟨b1, o1, rfl, hc⟩ := HK.out (by rw [← Hn.out]; omega)
      obtain ⟨x, hx⟩ : ∃ x, ws[k]? = some x := ⟨_, List.getElem?_eq_getElem (by rw [← Hn.out]; exact hlt)⟩
      have cx := cell_below HB.out (hc k x hx)
      have k0 : (0 : Int) ≤ (k : Int) := by omega
      have kl : (k : Int) < (n : Int) := by omega
      have hsum : It.sumI (ws.take (k + 1)) = It.sumI (ws.take k) + x := by rw [It.take_snoc hx, It.sumI_app]; simp [It.sumI]
      have t1 := HT.out (k + 1)
      have t0 := HT.out k
      have hw : IntKind.i64.wrap (It.sumI (ws.take k) + x) = It.sumI (ws.take k) + x := by have := HS.out; rw [← hsum]; exact It.wr_in (by omega) (by omega)
      have HSm := Lib.hid hsum
      clear hc hx hsum t1 t0
      generalize It.sumI (ws.take k) = acc at hw HSm
      go_wp2
      go_roundw
      case rel => exact ⟨k + 1, by omega, by go_num, by rw [HSm.out], HB⟩
      case measure => simp [intOf]; omega
    · obtain rfl : k = n := by omega
      have hall : It.sumI (ws.take k) = It.sumI ws := by rw [List.take_of_length_le (by rw [← Hn.out]; omega)]
      rw [hall]
      obtain ⟨i0, hi0, hz0, hz1, hz2⟩ := info_parts infoZ12
      obtain ⟨W4, hrun, hown4, hg4⟩ := run_make_full (P := Try.prog) wr w.heap.size 67 2 i0 _ 1 Try.underlying67 hi0 hz0 hz1 .i64 .i64 k (by rw [hz2]; omega) (by unfold maxLen; omega) HB.out.size
      have HR4 := Lib.hid (RowZ.made hown4)
      have HB4 : Hid (Below w.heap.size w W4) := Lib.hid (HB.out.grown (row := none) hg4 HB.out.size (fun q h => by cases h))
      have hbz : w.heap.size ≤ wr.heap.size := HB.out.size
      clear hown4 hg4 hi0 hz0 hz1 hz2 hall
      obtain ⟨b, hb⟩ : ∃ b, b = wr.heap.size := ⟨_, rfl⟩
      rw [← hb] at hrun HR4 hbz
      obtain ⟨all, hal⟩ : ∃ all, all = It.sumI ws := ⟨_, rfl⟩
      have Hal := Lib.hid hal
      have hal0 : 0 ≤ all := by have := HT.out k; rw [hal]; omega
      rw [← hal] at HL HG HS ⊢
      clear hb
      by_cases hz : all = 0
      · have HE : Hid (It.shF t all 0 ws = List.replicate k 0) := Lib.hid (by rw [hz, HZr.out, ← Hn.out])
        rw [hz]
        rw [hz] at HE
        have HF := Lib.hid (RowZ.full (RowZ.rest (m := k) (by simp) HR4.out) (by simp) (by omega))
        have e0 : It.sumI ws = 0 := by rw [← Hal.out]; exact hz
        have hf : LensAt W4 (.slice (some ⟨b, 0, none⟩) k k) (It.shF t (It.sumI ws) 0 ws) := by
          rw [e0, HE.out]
          simpa using HF.out
        have HF2 := Lib.hid hf
        clear hal hf hz e0
        go_wp2
        go_ret
        exact ⟨_, rfl, HF2.out, HB4.out⟩
      · have hzb : (all == 0) = false := by simp [hz]
        clear hal
        go_wp2_with fail
        clear hrun
        go_loopw [9, 10, 32] (fun av gv kv wr => ∃ j : Nat, j ≤ k ∧ kv = .int .i64 j ∧ av = .int .i64 (It.sumI (ws.take j)) ∧ gv = .int .i64 (It.prt t all (It.sumI (ws.take j))) ∧ Hid (RowZ b k ((It.shF t all 0 ws).take j) wr) ∧ Hid (Below w.heap.size w wr)) (fun _ _ kv _ => k - (intOf kv).toNat)
        case atStart => exact ⟨0, Nat.zero_le _, rfl, by simp [It.sumI], by simp [It.sumI, It.prt_zero], Lib.hid (by rw [List.take_zero]; exact HR4.out), HB4⟩
        case round =>
          obtain ⟨j, hj, rfl, rfl, rfl, HR, HBr⟩ := hrel
          clear HR4 HB4
          by_cases hjk : j < k
          · obtain ⟨b1, o1, rfl, hc⟩ := HK.out (by rw [← Hn.out]; omega)
            obtain ⟨x, hx⟩ : ∃ x, ws[j]? = some x := ⟨_, List.getElem?_eq_getElem (by rw [← Hn.out]; exact hjk)⟩
            have cx := cell_below HBr.out (hc j x hx)
            have k0 : (0 : Int) ≤ (j : Int) := by omega
            have kl : (j : Int) < (k : Int) := by omega
            have hsum : It.sumI (ws.take (j + 1)) = It.sumI (ws.take j) + x := by rw [It.take_snoc hx, It.sumI_app]; simp [It.sumI]
            have t1 := HT.out (j + 1)
            have t0 := HT.out j
            have hS := HS.out
            have hT := HT0.out
            rw [hsum] at t1
            have hlen : ((It.shF t all 0 ws).take j).length = j := by rw [List.length_take, HL.out, ← Hn.out]; omega
            have hcell := HR.out.cell (by rw [hlen]; exact hjk)
            rw [hlen] at hcell
            have hset := fun y => HR.out.set (by rw [hlen]; exact hjk) y
            rw [hlen] at hset
            have HSet := Lib.hid hset
            have hget := HG.out j x hx
            have hnext : (It.shF t all 0 ws).take (j + 1) = (It.shF t all 0 ws).take j ++ [It.prt t all (It.sumI (ws.take j) + x) - It.prt t all (It.sumI (ws.take j))] := by
              rw [It.take_snoc hget, Int.zero_add]
            have HNx := Lib.hid hnext
            have HSm := Lib.hid hsum
            have hle : ∀ c, 0 ≤ c → c ≤ 1073741823 → 0 ≤ t * c ∧ t * c ≤ 1152921502459363329 ∧ 0 ≤ It.prt t all c ∧ It.prt t all c ≤ 1152921502459363329 := fun c c0 c1 => by
              have m0 := Int.mul_nonneg hT.1 c0
              have m1 : t * c ≤ 1073741823 * 1073741823 := Int.mul_le_mul hT.2 c1 c0 (by omega)
              have d0 : 0 ≤ t * c / all := Int.ediv_nonneg m0 hal0
              have d1 : t * c / all ≤ t * c := Int.ediv_le_self _ m0
              unfold It.prt
              rw [if_neg hz]
              omega
            obtain ⟨p0, p1, p2, p3⟩ := hle (It.sumI (ws.take j) + x) (by omega) (by rw [Hal.out] at hS; omega)
            obtain ⟨_, _, q2, q3⟩ := hle (It.sumI (ws.take j)) (by omega) (by rw [Hal.out] at hS; omega)
            have hwa : IntKind.i64.wrap (It.sumI (ws.take j) + x) = It.sumI (ws.take j) + x := It.wr_in (by omega) (by rw [Hal.out] at hS; omega)
            have hwm : IntKind.i64.wrap (t * (It.sumI (ws.take j) + x)) = t * (It.sumI (ws.take j) + x) := It.wr_in (by omega) (by omega)
            have hpd : (t * (It.sumI (ws.take j) + x)).tdiv all = It.prt t all (It.sumI (ws.take j) + x) := by
              unfold It.prt
              rw [if_neg hz, Int.tdiv_eq_ediv_of_nonneg p0]
            have hwq : RowKit.wrap64 ((t * (It.sumI (ws.take j) + x)).tdiv all) = It.prt t all (It.sumI (ws.take j) + x) := by rw [hpd]; exact w64 (by omega) (by omega)
            have hws : IntKind.i64.wrap (It.prt t all (It.sumI (ws.take j) + x) - It.prt t all (It.sumI (ws.take j))) = It.prt t all (It.sumI (ws.take j) + x) - It.prt t all (It.sumI (ws.take j)) := It.wr_in (by omega) (by omega)
            obtain ⟨hc1, hc2⟩ := hcell
            clear hc hx hsum t1 t0 hS hT hlen hset hget hnext hle p0 p1 p2 p3 q2 q3 hpd
            generalize It.prt t all (It.sumI (ws.take j)) = P0 at *
            generalize It.sumI (ws.take j) = acc at *
            generalize hP1 : It.prt t all (acc + x) = P1 at *
            have HP1 := Lib.hid hP1
            clear hP1
            have HBn := Lib.hid (HBr.out.setCell (p := ⟨b, j, none⟩) (by simp only []; omega) (.int .i64 (P1 - P0)))
            have HRn := Lib.hid (HSet.out (P1 - P0))
            go_wp2
            go_roundw
            case rel => exact ⟨j + 1, by omega, by go_num, by rw [HSm.out], by rw [HSm.out]; rw [hwq, HP1.out], Lib.hid (by rw [HNx.out]; exact HRn.out), HBn⟩
            case measure => simp [intOf]; omega
          · obtain rfl : j = k := by omega
            have hlen : ((It.shF t all 0 ws).take j).length = j := by rw [List.length_take, HL.out, ← Hn.out]; omega
            have HF := Lib.hid (HR.out.full hlen (by omega))
            have HE : Hid ((It.shF t all 0 ws).take j = It.shF t all 0 ws) := Lib.hid (List.take_of_length_le (by rw [HL.out, ← Hn.out]; omega))
            have hf := HF.out
            rw [HE.out, Hal.out] at hf
            have HF2 := Lib.hid hf
            clear hf
            go_wp2
            go_ret
            exact ⟨_, rfl, HF2.out, HBr.out⟩
end Go.Proofs.Ythcilpijiindeaa
