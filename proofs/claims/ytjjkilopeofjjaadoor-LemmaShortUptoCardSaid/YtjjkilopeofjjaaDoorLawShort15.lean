/-
  LemmaShort: the short form of words begins with the first one, and ends with the last one, plain; of at most three it has all, parted by blanks.
-/
import Derived.Test.YtjjkilopeofjjaaDoorFixed15
set_option linter.unusedVariables false
set_option linter.unusedSimpArgs false
namespace Go.Proofs.YtjjkilopeofjjaaDoor
open Go.RowKit

theorem wr_last15 {n p : Nat} (h : n = p + 1) (hn : n ≤ 281474976710656) : IntKind.i64.wrap ((n : Int) - 1) = (p : Int) ∧ wrap64 ((n : Int) - 1) = (p : Int) := by
  have e : (n : Int) - 1 = (p : Int) := by omega
  rw [e]
  exact ⟨by rw [IntWalk.i64_left]; exact IntWalk.wrap64_in _ ⟨by omega, by omega⟩, w64 (by omega) (by omega)⟩
theorem plains_get {L : List (List UInt8)} {k : Nat} {x : List UInt8} (h : L[k]? = some x) : (L.map Lm.plain)[k]? = some (Lm.plain x) := by rw [List.getElem?_map, h]; rfl
set_option maxHeartbeats 8000000 in
set_option maxRecDepth 100000 in
theorem lemmaShort_any (v : Value) (L : List (List UInt8)) (m : Int) (w : World) (h : TxsAt w v L) (hs : TxSm L) (hE : Env15 m w) : Calls Tryd.prog 7 #[v] w (Ret (.bool true) w) := by
  have HA := Lib.hid h
  have HE := Lib.hid hE
  have HF := Lib.hid (fun wx hx => fixed_any m wx hx)
  have HSh := Lib.hid (shortL_any m v L w hE h hs)
  obtain ⟨⟨pa, cp, rfl, hcap⟩, hm, _⟩ := h
  have hza : L.length ≤ 9223372036854775807 := by unfold maxLen at hm; omega
  obtain ⟨n, hn⟩ : ∃ n, n = L.length := ⟨_, rfl⟩
  have Hn := Lib.hid hn
  rw [← hn] at HA hza HSh ⊢
  clear hm hcap hE
  by_cases h0 : n = 0
  · have hL : L = [] := List.eq_nil_of_length_eq_zero (by omega)
    have e0 : str (Lm.short L) = ⟨#[]⟩ := by rw [hL]; rfl
    rw [e0] at HSh
    clear e0 hL hs hn
    subst h0
    go_enter Tryd.func7, Tryd.ntmps7
    go_wp2_with fail
    refine HSh.out.mono ?_
    rintro e w1 ⟨rfl, hb⟩
    have HB1 := Lib.hid hb
    clear hb HSh
    go_wp2_with fail
    refine (HF.out _ (HE.out.mono HB1.out)).mono ?_
    rintro e w2 ⟨rfl, hb⟩
    have HB2 := Lib.hid (below_step HB1.out hb)
    clear hb HB1
    go_wp2_with fail
    refine (HF.out _ (HE.out.mono HB2.out)).mono ?_
    rintro e w3 ⟨rfl, hb⟩
    have HB3 := Lib.hid (below_step HB2.out hb)
    clear hb HB2
    go_wp2
    go_ret
    exact ⟨rfl, HB3.out⟩
  · have hpos : (0 : Int) < (n : Int) := by omega
    have hne : ((n : Int) == 0) = false := by rw [beq_eq_false_iff_ne]; omega
    by_cases h100 : 100 < n
    · have i100 : (100 : Int) < (n : Int) := by omega
      generalize str (Lm.short L) = q at *
      clear hs hn h0 h100
      go_enter Tryd.func7, Tryd.ntmps7
      go_wp2_with fail
      refine HSh.out.mono ?_
      rintro e w1 ⟨rfl, hb⟩
      have HB1 := Lib.hid hb
      clear hb HSh
      go_wp2_with fail
      refine (HF.out _ (HE.out.mono HB1.out)).mono ?_
      rintro e w2 ⟨rfl, hb⟩
      have HB2 := Lib.hid (below_step HB1.out hb)
      clear hb HB1
      go_wp2_with fail
      refine (HF.out _ (HE.out.mono HB2.out)).mono ?_
      rintro e w3 ⟨rfl, hb⟩
      have HB3 := Lib.hid (below_step HB2.out hb)
      clear hb HB2
      go_wp2
      go_ret
      exact ⟨rfl, HB3.out⟩
    · have i100 : (n : Int) ≤ 100 := by omega
      obtain ⟨p, hp⟩ : ∃ p, n = p + 1 := ⟨n - 1, by omega⟩
      have hpn : p < n := by omega
      obtain ⟨x0, hx0⟩ : ∃ x, L[0]? = some x := ⟨_, List.getElem?_eq_getElem (by omega)⟩
      obtain ⟨x1, hx1⟩ : ∃ x, L[p]? = some x := ⟨_, List.getElem?_eq_getElem (by omega)⟩
      obtain ⟨b1, o1, d1, e1, r1⟩ := HA.out.2.2 (by rw [← Hn.out]; omega)
      rw [← Hn.out] at e1
      obtain ⟨rfl, rfl⟩ : pa = some ⟨b1, o1, none⟩ ∧ cp = d1 := by injection e1 with a1 a2 a3; exact ⟨a1, a3⟩
      have HR := Lib.hid r1
      have l0 := sm_get hs hx0
      have l1 := sm_get hs hx1
      have HP0 := Lib.hid (fun wx hx => plainL_any m x0 l0 wx hx)
      have HP1 := Lib.hid (fun wx hx => plainL_any m x1 l1 wx hx)
      have HS := Lib.hid hs
      have p0 := plains_get hx0
      have p1 := plains_get hx1
      have lp0 := Lm.plain_length x0
      have lp1 := Lm.plain_length x1
      -- the short form
      have hshort : Lm.short L = if 3 < n then (Lm.plain x0 ++ Lm.gap) ++ Lm.plain x1 else Lm.sepd (L.map Lm.plain) := by
        unfold Lm.short Lm.join
        rw [List.length_map, ← hn, Lm.at_get p0, hp, show p + 1 - 1 = p from rfl, Lm.at_get p1]
      have HY := Lib.hid (fun wr (hb : Below w.heap.size w wr) => (by
        have q0 := tx_cells ((r1 0 x0 hx0).mono hb)
        have q1 := tx_cells ((r1 p x1 hx1).mono hb)
        rw [Nat.mul_one] at q0 q1
        rw [Nat.add_zero] at q0
        exact ⟨q0, q1⟩ : wr.cell? ⟨b1, o1, none⟩ = some (.string (str x0)) ∧ wr.cell? ⟨b1, o1 + p, none⟩ = some (.string (str x1))))
      by_cases h3 : 3 < n
      · rw [if_pos h3] at hshort
        rw [hshort] at HSh
        have i3 : (3 : Int) < (n : Int) := by omega
        have s1 := fun wx => sum_str15 (Lm.plain x0) Lm.gap (Lm.plain x0 ++ Lm.gap) (by simp [Lm.gap]; omega) rfl wx
        have s2 := fun wx => sum_str15 (Lm.plain x0 ++ Lm.gap) (Lm.plain x1) ((Lm.plain x0 ++ Lm.gap) ++ Lm.plain x1) (by simp [Lm.gap]; omega) rfl wx
        have e5 : str Lm.gap = ⟨#[32, 46, 46, 46, 32]⟩ := rfl
        rw [e5] at s1
        have kw := wr_last15 hp (by omega)
        obtain ⟨kw1, kw2⟩ := kw
        have pn : (p : Int) < (n : Int) := by omega
        have p00 : (0 : Int) ≤ (p : Int) := by omega
        have n0 : 0 < n := by omega
        generalize (Lm.plain x0 ++ Lm.gap) ++ Lm.plain x1 = c2 at *
        generalize Lm.plain x0 ++ Lm.gap = c1 at *
        generalize Lm.plain x0 = q0 at *
        generalize Lm.plain x1 = q1 at *
        clear hs hn h0 h100 hp hx0 hx1 e1 r1 l0 l1 p0 p1 lp0 lp1 hshort h3 e5
        go_enter Tryd.func7, Tryd.ntmps7
        go_wp2_with fail
        refine HSh.out.mono ?_
        rintro e w1 ⟨rfl, hb⟩
        have HB1 := Lib.hid hb
        clear hb HSh
        go_wp2_with fail
        refine (HF.out _ (HE.out.mono HB1.out)).mono ?_
        rintro e w2 ⟨rfl, hb⟩
        have HB2 := Lib.hid (below_step HB1.out hb)
        have hy := HY.out _ HB2.out
        obtain ⟨y0, y1⟩ := hy
        have HD : Hid (Below w.heap.size w w2.drew) := Lib.hid (below_step HB2.out (below_drew w2 1))
        clear hb HB1
        go_wp2_with fail
        go_region_held3 (fun w' => w'.cell? ⟨b1, o1, none⟩ = some (.string (str x0)) ∧ w'.cell? ⟨b1, o1 + p, none⟩ = some (.string (str x1))) (first | (exact HY.out _ HX2.out) | (exact HY.out _ HX1.out) | go_keep) (first | ((with_reducible refine (HP0.out _ (HE.out.mono HD.out)).mono ?_); rintro e w5 ⟨rfl, hb5⟩; have HX1 := Lib.hid (below_step HD.out hb5); clear hb5) | ((with_reducible refine (HP1.out _ (HE.out.mono HX1.out)).mono ?_); rintro e w6 ⟨rfl, hb6⟩; have HX2 := Lib.hid (below_step HX1.out hb6); clear hb6))
        clear y0 y1
        go_wp2
        go_ret
        exact ⟨rfl, HX2.out⟩
      · rw [if_neg h3] at hshort
        rw [hshort] at HSh
        have i3 : ¬ (3 : Int) < (n : Int) := by omega
        have hn3 : n ≤ 3 := by omega
        obtain ⟨P, hP⟩ : ∃ P, P = L.map Lm.plain := ⟨_, rfl⟩
        rw [← hP] at HSh
        have hPs : ∀ x ∈ P, x.length ≤ 1048600 := by rw [hP]; exact plain_small hs
        have HL := Lib.hid (fun k (hk : k ≤ n) => (by
          have h1 := sepd_len (P.take k) (fun x hx => hPs x (List.mem_of_mem_take hx))
          have h2 : (P.take k).length ≤ 3 := by rw [List.length_take]; omega
          omega : (Lm.sepd (P.take k)).length ≤ 3145803))
        have HPg := Lib.hid (fun k (x : List UInt8) (hx : L[k]? = some x) => (by rw [hP]; exact plains_get hx : P[k]? = some (Lm.plain x)))
        have HPl : Hid (P.length = n) := Lib.hid (by rw [hP, hn]; simp)
        have hf0 : Lm.sepd (P.take 1) = Lm.plain x0 := sepd_first (by rw [hP]; exact p0)
        have Hf0 := Lib.hid hf0
        have e32 : str [32] = ⟨#[32]⟩ := rfl
        have kw := wr_last15 hp (by omega)
        obtain ⟨kw1, kw2⟩ := kw
        have pn : (p : Int) < (n : Int) := by omega
        have p00 : (0 : Int) ≤ (p : Int) := by omega
        have n0 : 0 < n := by omega
        generalize Lm.plain x0 = q0 at *
        generalize Lm.plain x1 = q1 at *
        clear hs hn h0 h100 hp hx0 hx1 e1 r1 l0 l1 p0 p1 lp0 lp1 hshort h3 hP hPs hf0
        go_enter Tryd.func7, Tryd.ntmps7
        go_wp2_with fail
        refine HSh.out.mono ?_
        rintro e w1 ⟨rfl, hb⟩
        have HB1 := Lib.hid hb
        clear hb HSh
        go_wp2_with fail
        refine (HF.out _ (HE.out.mono HB1.out)).mono ?_
        rintro e w2 ⟨rfl, hb⟩
        have HB2 := Lib.hid (below_step HB1.out hb)
        have hy := HY.out _ HB2.out
        obtain ⟨y0, y1⟩ := hy
        have HD : Hid (Below w.heap.size w w2.drew) := Lib.hid (below_step HB2.out (below_drew w2 1))
        clear hb HB1
        go_wp2_with fail
        go_region_held3 (fun w' => w'.cell? ⟨b1, o1, none⟩ = some (.string (str x0)) ∧ w'.cell? ⟨b1, o1 + p, none⟩ = some (.string (str x1))) (first | (exact HY.out _ HX2.out) | (exact HY.out _ HX1.out) | go_keep) (first | ((with_reducible refine (HP0.out _ (HE.out.mono HD.out)).mono ?_); rintro e w5 ⟨rfl, hb5⟩; have HX1 := Lib.hid (below_step HD.out hb5); clear hb5) | ((with_reducible refine (HP1.out _ (HE.out.mono HX1.out)).mono ?_); rintro e w6 ⟨rfl, hb6⟩; have HX2 := Lib.hid (below_step HX1.out hb6); clear hb6))
        clear y0 y1 kw1 kw2
        go_wp2_with fail
        go_loopw [6, 7] (fun sv iv wr => ∃ k : Nat, 1 ≤ k ∧ k ≤ n ∧ iv = .int .i64 k ∧ sv = .string (str (Lm.sepd (P.take k))) ∧ Hid (Below w.heap.size w wr)) (fun _ iv _ => n - (intOf iv).toNat)
        case atStart => exact ⟨1, Nat.le_refl _, by omega, rfl, by rw [Hf0.out], HX2⟩
        case round =>
          obtain ⟨k, hk1, hk, rfl, rfl, HW⟩ := hrel
          by_cases hlt : k < n
          · have kl : (k : Int) < (n : Int) := by omega
            have kk : (0 : Int) ≤ (k : Int) := by omega
            obtain ⟨x, hx⟩ : ∃ x, L[k]? = some x := ⟨_, List.getElem?_eq_getElem (by rw [← Hn.out]; exact hlt)⟩
            have y0 := tx_cells ((HR.out k x hx).mono HW.out)
            rw [Nat.mul_one] at y0
            have hxl := sm_get HS.out hx
            have HC := Lib.hid (fun wx hx => plainL_any m x hxl wx hx)
            have hpl := Lm.plain_length x
            have HN := Lib.hid (sepd_next (HPg.out k x hx) (by omega))
            have hSl := HL.out k hk
            generalize Lm.plain x = q at *
            generalize Lm.sepd (P.take k) = S at *
            have s1 := fun wx => sum_str15 [32] q ([32] ++ q) (by simp; omega) rfl wx
            have s2 := fun wx => sum_str15 S ([32] ++ q) ((S ++ [32]) ++ q) (by simp; omega) (by simp) wx
            rw [e32] at s1
            generalize (S ++ [32]) ++ q = c2 at *
            generalize [32] ++ q = c1 at *
            clear hx hSl hpl hxl
            go_wp2_with fail
            refine (HC.out _ (HE.out.mono HW.out)).mono ?_
            rintro e w7 ⟨rfl, hb⟩
            have HW7 := Lib.hid (below_step HW.out hb)
            clear hb y0
            go_wp2
            go_roundw
            case rel => exact ⟨k + 1, by omega, by omega, by go_num, by rw [HN.out], HW7⟩
            case measure => simp [intOf]; omega
          · have HF2 : Hid (P.take k = P) := Lib.hid (List.take_of_length_le (by rw [HPl.out]; omega))
            rw [HF2.out]
            go_wp2
            go_ret
            exact ⟨rfl, HW.out⟩
end Go.Proofs.YtjjkilopeofjjaaDoor
