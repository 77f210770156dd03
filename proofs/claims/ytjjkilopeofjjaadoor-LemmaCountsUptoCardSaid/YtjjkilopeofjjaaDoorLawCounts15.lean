/-
  LemmaCounts: the which a word is of its line is one more than how many the same stand ahead of it; a word that comes behind changes only how many there are in all.
-/
import Derived.Test.YtjjkilopeofjjaaDoorFixed15
set_option linter.unusedVariables false
set_option linter.unusedSimpArgs false
namespace Go.Proofs.YtjjkilopeofjjaaDoor
open Go.RowKit

/-- how many of the first k words are like the word -/
def ahd (L : List (List UInt8)) (q : List UInt8) (k : Nat) : Nat := Lm.eqs q (L.take k)
theorem ahd_next {L : List (List UInt8)} {q x : List UInt8} {k : Nat} (hx : L[k]? = some x) : ahd L q (k + 1) = ahd L q k + if Lm.plain x = q then 1 else 0 := all_next hx
theorem ahd_le (L : List (List UInt8)) (q : List UInt8) (k : Nat) : ahd L q k ≤ k := all_le L q k
set_option maxHeartbeats 8000000 in
set_option maxRecDepth 100000 in
theorem lemmaCounts_any (v : Value) (L : List (List UInt8)) (y : List UInt8) (a : Int) (m : Int) (w : World) (h : TxsAt w v L) (hs : TxSm L) (hy : y.length ≤ 1048576) (hE : Env15 m w) : Calls Tryd.prog 6 #[v, .string (str y), .int .i64 a] w (Ret (.bool true) w) := by
  have HA := Lib.hid h
  have HE := Lib.hid hE
  have HF := Lib.hid (fun wx hx => fixed_any m wx hx)
  have HS := Lib.hid hs
  have HCt := Lib.hid (fun wx he hx => count_any m v L a wx he hx hs)
  obtain ⟨⟨pa, cp, rfl, hcap⟩, hm, _⟩ := h
  have hza : L.length ≤ 9223372036854775807 := by unfold maxLen at hm; omega
  obtain ⟨n, hn⟩ : ∃ n, n = L.length := ⟨_, rfl⟩
  have Hn := Lib.hid hn
  rw [← hn] at HA hza HCt ⊢
  clear hm hcap hE
  by_cases h100 : 100 < n
  · have i100 : (100 : Int) < (n : Int) := by omega
    clear hs hn h100 HCt
    go_enter Tryd.func6, Tryd.ntmps6
    go_wp2_with fail
    refine (HF.out _ HE.out).mono ?_
    rintro e w1 ⟨rfl, hb⟩
    have HB1 := Lib.hid hb
    clear hb
    go_wp2_with fail
    refine (HF.out _ (HE.out.mono HB1.out)).mono ?_
    rintro e w2 ⟨rfl, hb⟩
    have HB2 := Lib.hid (below_step HB1.out hb)
    clear hb HB1
    go_wp2
    go_ret
    exact ⟨rfl, HB2.out⟩
  by_cases ha : a < 0
  · have i100 : (n : Int) ≤ 100 := by omega
    clear hs hn h100 HCt
    go_enter Tryd.func6, Tryd.ntmps6
    go_wp2_with fail
    refine (HF.out _ HE.out).mono ?_
    rintro e w1 ⟨rfl, hb⟩
    have HB1 := Lib.hid hb
    clear hb
    go_wp2_with fail
    refine (HF.out _ (HE.out.mono HB1.out)).mono ?_
    rintro e w2 ⟨rfl, hb⟩
    have HB2 := Lib.hid (below_step HB1.out hb)
    clear hb HB1
    go_wp2
    go_ret
    exact ⟨rfl, HB2.out⟩
  by_cases hb : (n : Int) ≤ a
  · have i100 : (n : Int) ≤ 100 := by omega
    have a0 : ¬ a < 0 := ha
    clear hs hn h100 HCt
    go_enter Tryd.func6, Tryd.ntmps6
    go_wp2_with fail
    refine (HF.out _ HE.out).mono ?_
    rintro e w1 ⟨rfl, hb⟩
    have HB1 := Lib.hid hb
    clear hb
    go_wp2_with fail
    refine (HF.out _ (HE.out.mono HB1.out)).mono ?_
    rintro e w2 ⟨rfl, hb⟩
    have HB2 := Lib.hid (below_step HB1.out hb)
    clear hb HB1
    go_wp2
    go_ret
    exact ⟨rfl, HB2.out⟩
  obtain ⟨j, rfl⟩ : ∃ j : Nat, a = j := ⟨a.toNat, by omega⟩
  have hj : j < n := by omega
  have ha0 : (0 : Int) ≤ (j : Int) := by omega
  have haj : (j : Int) < (n : Int) := by omega
  have i100 : (n : Int) ≤ 100 := by omega
  have n100 : n ≤ 100 := by omega
  have hjl : j < L.length := by rw [← hn]; exact hj
  obtain ⟨xj, hxj⟩ : ∃ x, L[j]? = some x := ⟨_, List.getElem?_eq_getElem hjl⟩
  have hat := Lm.at_get hxj
  obtain ⟨q, hq⟩ : ∃ q, q = Lm.plain xj := ⟨_, rfl⟩
  have hnth : Lm.nth L j = ahd L q j + 1 := by rw [Lm.nth_ahead hjl, hat, ← hq]; rfl
  have hjm : j < (L ++ [y]).length := by rw [List.length_append]; simp; omega
  have hmore : Lm.cnt (L ++ [y]) (j : Int) = ((Lm.nth L j : Int), ((Lm.alls L j + if Lm.plain y = q then 1 else 0 : Nat) : Int)) := by
    rw [cnt_at hjm, Lm.nth_more hjl, Lm.alls_more hjl, hat, ← hq]
    congr 3
    by_cases e : Lm.plain y = q
    · rw [if_pos e, if_pos (by simp [e])]
    · rw [if_neg e, if_neg (by simpa using e)]
  rw [cnt_at hjl, hnth] at HCt
  rw [hnth] at hmore
  have hsm : TxSm (L ++ [y]) := fun x hx => by
    rcases List.mem_append.1 hx with hx | hx
    · exact hs x hx
    · simp at hx; subst hx; exact hy
  have HCm := Lib.hid (fun v wx he hx => count_any m v (L ++ [y]) (j : Int) wx he hx hsm)
  rw [hmore] at HCm
  obtain ⟨b1, o1, d1, e1, r1⟩ := HA.out.2.2 (by rw [← Hn.out]; omega)
  rw [← Hn.out] at e1
  obtain ⟨rfl, rfl⟩ : pa = some ⟨b1, o1, none⟩ ∧ cp = d1 := by injection e1 with a1 a2 a3; exact ⟨a1, a3⟩
  have HR := Lib.hid (fun k (x : List UInt8) (hx : L[k]? = some x) wr (hb : Below w.heap.size w wr) => (by
    have := tx_cells ((r1 k x hx).mono hb)
    rw [Nat.mul_one] at this
    exact this : wr.cell? ⟨b1, o1 + k, none⟩ = some (.string (str x))))
  have HYj := Lib.hid (fun wr hb => HR.out j xj hxj wr hb)
  have hpj := fun wx hx => plainL_any m xj (sm_get hs hxj) wx hx
  rw [← hq] at hpj
  have HPj := Lib.hid hpj
  have HPy := Lib.hid (fun wx hx => plainL_any m y hy wx hx)
  have hal := alls_len L j
  have hah := ahd_le L q j
  have al0 : ahd L q 0 = 0 := by have := ahd_le L q 0; omega
  have HAn := Lib.hid (fun k (x : List UInt8) (hx : L[k]? = some x) => ahd_next (q := q) hx)
  have HAl := Lib.hid (fun k => ahd_le L q k)
  rw [← hn] at hal
  generalize Lm.alls L j = al at *
  have hyq := toList_beq15 (Lm.plain y) q
  obtain ⟨ex, hex⟩ : ∃ ex : Nat, ex = if Lm.plain y = q then 1 else 0 := ⟨_, rfl⟩
  rw [← hex] at HCm
  have hex1 : ex ≤ 1 := by rw [hex]; split <;> omega
  obtain ⟨tot, htot⟩ : ∃ tot : Nat, tot = al + ex := ⟨_, rfl⟩
  rw [← htot] at HCm
  obtain ⟨nn, hnn⟩ : ∃ nn : Nat, nn = ahd L q j + 1 := ⟨_, rfl⟩
  rw [← hnn] at HCt HCm
  have HTot := Lib.hid htot
  have HNN := Lib.hid hnn
  have HEx := Lib.hid hex
  have hb0 : ¬ (n : Int) ≤ (j : Int) := hb
  clear hs hn h100 hjl hxj hat hq hnth hjm hmore hsm e1 r1 hpj hex htot hnn hb ha hb0
  generalize Lm.plain y = py at *
  go_enter Tryd.func6, Tryd.ntmps6
  go_wp2_with fail
  refine (HF.out _ HE.out).mono ?_
  rintro e w1 ⟨rfl, hb⟩
  have HB1 := Lib.hid hb
  clear hb
  go_wp2_with fail
  refine (HCt.out _ (HE.out.mono HB1.out) (HA.out.mono HB1.out)).mono ?_
  rintro e w2 ⟨rfl, hb⟩
  have HB2 := Lib.hid (below_step HB1.out hb)
  unfold cntV
  clear hb HB1 HCt
  have HK0 : Hid (OwnTx w2.heap.size (.slice (some ⟨w2.heap.size, 0, none⟩) 0 0) ([] : List (List UInt8)) (w2.alloc (.cells #[] 9))) := Lib.hid (own_empty _ _ _ _)
  have hb0 := below_alloc w2 (.cells #[] 9)
  have hz0 := hb0.size
  have HA2 := Lib.hid (HA.out.mono HB2.out)
  go_wp2_with (at_builtin; first
    | (refine wpList_append_slc Tryd.underlying22 infoTx13 rfl (by decide) txC_len txC_cell rfl _ _ rfl w2.heap.size _ _ L [y] rfl HK9.out rfl HS9.out (by rw [← Hn.out]; simp; omega) (by rw [← Hn.out]; unfold maxLen; simp; omega) HZ9.out ?_; intro v8 w8 h8 hg8; have HK8 := Lib.hid h8; have HW8 := Lib.hid (below_app HW9.out hg8 HK9.out HZ9.out); clear h8 hg8)
    | (refine wpList_append_slc Tryd.underlying22 infoTx13 rfl (by decide) txC_len txC_cell rfl _ _ rfl w2.heap.size _ _ ([] : List (List UInt8)) L rfl HK0.out rfl (SlcAt.mono HA2.out hb0) (by rw [← Hn.out]; simp; omega) (by rw [← Hn.out]; unfold maxLen; simp; omega) hz0 ?_; intro v9 w9 h9 hg9; rw [List.nil_append] at h9; have hba := below_alloc w9 (.cells #[.string (str y)] 9); have HK9 := Lib.hid (h9.mono hba); have HZ9 := Lib.hid (Nat.le_trans hz0 (Nat.le_trans hg9.size hba.size)); have HW9 := Lib.hid ((below_app hb0 hg9 HK0.out hz0).trans (hba.mono (Nat.le_trans hz0 hg9.size))); have HS9 := Lib.hid (slc_new txC_len w9 w9.heap.size rfl [y] 9 (by simp) #[.string (str y)] rfl); clear h9 hg9 hba))
  have HB3 := Lib.hid (below_step HB2.out HW8.out)
  refine (HCm.out _ _ (HE.out.mono HB3.out) (HK8.out.at txC_len)).mono ?_
  rintro e w3 ⟨rfl, hb⟩
  have HB4 := Lib.hid (below_step HB3.out hb)
  unfold cntV
  clear hb HB3 HB2 HK0 hb0 hz0 HA2 HK8 HW8
  go_wp2_with fail
  go_loopw [11, 12] (fun sv iv wr => ∃ k : Nat, k ≤ j ∧ iv = .int .i64 k ∧ sv = .int .i64 (ahd L q k) ∧ Hid (Below w.heap.size w wr)) (fun _ iv _ => j - (intOf iv).toNat)
  case atStart => exact ⟨0, Nat.zero_le _, rfl, by rw [al0]; rfl, HB4⟩
  case round =>
    obtain ⟨k, hk, rfl, rfl, HW⟩ := hrel
    clear al0 HB4
    by_cases hlt : k < j
    · have kl : (k : Int) < (j : Int) := by omega
      have kn : (k : Int) < (n : Int) := by omega
      have kk : (0 : Int) ≤ (k : Int) := by omega
      obtain ⟨x, hx⟩ : ∃ x, L[k]? = some x := ⟨_, List.getElem?_eq_getElem (by rw [← Hn.out]; omega)⟩
      have HYk := Lib.hid (fun wr hb => HR.out k x hx wr hb)
      have y0 := HYk.out _ HW.out
      have y1 := HYj.out _ HW.out
      have HPx := Lib.hid (fun wx hw => plainL_any m x (sm_get HS.out hx) wx hw)
      have HN := Lib.hid (HAn.out k x hx)
      have hq := toList_beq15 (Lm.plain x) q
      have hkl := HAl.out k
      have HD : Hid (Below w.heap.size w wr.drew) := Lib.hid (below_step HW.out (below_drew wr 1))
      generalize ahd L q k = ak at *
      generalize Lm.plain x = px at *
      clear hx
      by_cases he : px = q
      · rw [decide_eq_true he] at hq
        rw [if_pos he] at HN
        clear he
        go_wp2_with fail
        go_region_held3 (fun w' => w'.cell? ⟨b1, o1 + k, none⟩ = some (.string (str x)) ∧ w'.cell? ⟨b1, o1 + j, none⟩ = some (.string (str xj))) (first | (exact ⟨HYk.out _ HX2.out, HYj.out _ HX2.out⟩) | (exact ⟨HYk.out _ HX1.out, HYj.out _ HX1.out⟩) | go_keep) (first | ((with_reducible refine (HPx.out _ (HE.out.mono HD.out)).mono ?_); rintro e w5 ⟨rfl, hb5⟩; have HX1 := Lib.hid (below_step HD.out hb5); clear hb5) | ((with_reducible refine (HPj.out _ (HE.out.mono HX1.out)).mono ?_); rintro e w6 ⟨rfl, hb6⟩; have HX2 := Lib.hid (below_step HX1.out hb6); clear hb6))
        clear y0 y1
        go_wp2
        go_roundw
        case rel => exact ⟨k + 1, by omega, by go_num, by rw [HN.out]; go_num, HX2⟩
        case measure => simp [intOf]; omega
      · rw [decide_eq_false he] at hq
        rw [if_neg he] at HN
        clear he
        go_wp2_with fail
        go_region_held3 (fun w' => w'.cell? ⟨b1, o1 + k, none⟩ = some (.string (str x)) ∧ w'.cell? ⟨b1, o1 + j, none⟩ = some (.string (str xj))) (first | (exact ⟨HYk.out _ HX2.out, HYj.out _ HX2.out⟩) | (exact ⟨HYk.out _ HX1.out, HYj.out _ HX1.out⟩) | go_keep) (first | ((with_reducible refine (HPx.out _ (HE.out.mono HD.out)).mono ?_); rintro e w5 ⟨rfl, hb5⟩; have HX1 := Lib.hid (below_step HD.out hb5); clear hb5) | ((with_reducible refine (HPj.out _ (HE.out.mono HX1.out)).mono ?_); rintro e w6 ⟨rfl, hb6⟩; have HX2 := Lib.hid (below_step HX1.out hb6); clear hb6))
        clear y0 y1
        go_wp2
        go_roundw
        case rel => exact ⟨k + 1, by omega, by go_num, by rw [HN.out]; rfl, HX2⟩
        case measure => simp [intOf]; omega
    · obtain rfl : k = j := by omega
      have y1 := HYj.out _ HW.out
      have HD : Hid (Below w.heap.size w wr.drew) := Lib.hid (below_step HW.out (below_drew wr 1))
      have hn1 := HNN.out
      have t1 := HTot.out
      by_cases he : py = q
      · rw [decide_eq_true he] at hyq
        have hx1 := HEx.out
        rw [if_pos he] at hx1
        have g1 : ((nn : Int) == (ahd L q k : Int) + 1) = true := beq_iff_eq.2 (by omega)
        have g2 : ((tot : Int) == (al : Int) + 1) = true := beq_iff_eq.2 (by omega)
        have u1 : (ahd L q k : Int) ≤ 100 := by omega
        have u2 : (al : Int) ≤ 100 := by omega
        have u3 : (0 : Int) ≤ (ahd L q k : Int) := by omega
        have u4 : (0 : Int) ≤ (al : Int) := by omega
        clear he hx1 hn1 t1 HTot HNN HEx hlt
        generalize ahd L q k = ak at *
        go_wp2_with fail
        go_region_held3 (fun w' => w'.cell? ⟨b1, o1 + k, none⟩ = some (.string (str xj))) (first | (exact HYj.out _ HX2.out) | (exact HYj.out _ HX1.out) | go_keep) (first | ((with_reducible refine (HPy.out _ (HE.out.mono HD.out)).mono ?_); rintro e w5 ⟨rfl, hb5⟩; have HX1 := Lib.hid (below_step HD.out hb5); clear hb5) | ((with_reducible refine (HPj.out _ (HE.out.mono HX1.out)).mono ?_); rintro e w6 ⟨rfl, hb6⟩; have HX2 := Lib.hid (below_step HX1.out hb6); clear hb6))
        clear y1
        go_wp2
        go_ret
        exact ⟨rfl, HX2.out⟩
      · rw [decide_eq_false he] at hyq
        have hx1 := HEx.out
        rw [if_neg he] at hx1
        have g1 : ((nn : Int) == (ahd L q k : Int) + 1) = true := beq_iff_eq.2 (by omega)
        have g2 : ((tot : Int) == (al : Int)) = true := beq_iff_eq.2 (by omega)
        have u1 : (ahd L q k : Int) ≤ 100 := by omega
        have u2 : (al : Int) ≤ 100 := by omega
        have u3 : (0 : Int) ≤ (ahd L q k : Int) := by omega
        have u4 : (0 : Int) ≤ (al : Int) := by omega
        clear he hx1 hn1 t1 HTot HNN HEx hlt
        generalize ahd L q k = ak at *
        go_wp2_with fail
        go_region_held3 (fun w' => w'.cell? ⟨b1, o1 + k, none⟩ = some (.string (str xj))) (first | (exact HYj.out _ HX2.out) | (exact HYj.out _ HX1.out) | go_keep) (first | ((with_reducible refine (HPy.out _ (HE.out.mono HD.out)).mono ?_); rintro e w5 ⟨rfl, hb5⟩; have HX1 := Lib.hid (below_step HD.out hb5); clear hb5) | ((with_reducible refine (HPj.out _ (HE.out.mono HX1.out)).mono ?_); rintro e w6 ⟨rfl, hb6⟩; have HX2 := Lib.hid (below_step HX1.out hb6); clear hb6))
        clear y1
        go_wp2
        go_ret
        exact ⟨rfl, HX2.out⟩
end Go.Proofs.YtjjkilopeofjjaaDoor
