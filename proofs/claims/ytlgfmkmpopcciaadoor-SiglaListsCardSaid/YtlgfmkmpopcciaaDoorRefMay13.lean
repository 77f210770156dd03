/-
  The reference's May (tables).
-/
import Derived.Test.YtlgfmkmpopcciaaDoorRefKey13
set_option linter.unusedVariables false
set_option linter.unusedSimpArgs false
namespace Go.Proofs.YtlgfmkmpopcciaaDoor
open Go.RowKit

namespace Sg
theorem nodup_find {t : List Sig} (h : ∀ (k : Nat) (x : Sig), t[k]? = some x → find t x.k = (k : Int)) : (keys t).Nodup := by
  unfold keys
  refine List.pairwise_iff_getElem.2 fun i j hi hj hij => ?_
  rw [List.length_map] at hi hj
  simp only [List.getElem_map]
  intro e
  have h1 := h i t[i] (List.getElem?_eq_getElem hi)
  have h2 := h j t[j] (List.getElem?_eq_getElem hj)
  rw [e, h2] at h1
  omega
theorem may_no {t : List Sig} {k : Nat} {x : Sig} (hx : t[k]? = some x) (h : keyOk x.k = false ∨ nameOk x.n = false ∨ find t x.k ≠ (k : Int)) : may t = false := by
  cases e : may t with
  | false => rfl
  | true =>
    exfalso
    obtain ⟨_, h2, h3⟩ := may_yes e
    obtain ⟨g1, g2⟩ := h2 x (List.mem_of_getElem? hx)
    rcases h with h | h | h
    · rw [h] at g1; cases g1
    · rw [h] at g2; cases g2
    · exact h (find_at h3 (by unfold keys; rw [List.getElem?_map, hx]; rfl))
theorem may_all {t : List Sig} (h : ∀ (k : Nat) (x : Sig), t[k]? = some x → keyOk x.k = true ∧ nameOk x.n = true ∧ find t x.k = (k : Int)) : may t = decide (t.length ≤ 100) := by
  have hall : ∀ x ∈ t, keyOk x.k = true ∧ nameOk x.n = true := fun x hx => by
    obtain ⟨k, hk⟩ := List.getElem?_of_mem hx
    exact ⟨(h k x hk).1, (h k x hk).2.1⟩
  have hn := nodup_find (fun k x hx => (h k x hx).2.2)
  by_cases hl : t.length ≤ 100
  · rw [may_of hl hall hn, decide_eq_true hl]
  · rw [decide_eq_false hl]
    cases e : may t with
    | false => rfl
    | true => exact absurd (may_yes e).1 hl
end Sg
set_option maxHeartbeats 8000000 in
set_option maxRecDepth 100000 in
theorem refMay13_any (v : Value) (t : List Sg.Sig) (w : World) (h : SgsAt w v t) (hs : SgSmall t) : Calls Tryd.prog 16 #[v] w (Is (.bool (Sg.may t)) w) := by
  have HA := Lib.hid h
  have HF := Lib.hid (fun key => refFind_any v t key w h)
  have HKy : Hid (∀ x ∈ t, Calls Tryd.prog 31 #[.string (str x.k)] w (Is (.bool (Sg.keyOk x.k)) w)) := Lib.hid (fun x hx => by
    have := refKey_any (str x.k) (by rw [str_size13]; exact (hs x hx).1) w
    rwa [str_data] at this)
  have HNm : Hid (∀ x ∈ t, Calls Tryd.prog 32 #[.string (str x.n)] w (Is (.bool (Sg.nameOk x.n)) w)) := Lib.hid (fun x hx => by
    have := refName_any (str x.n) (by rw [str_size13]; exact (hs x hx).2) w
    rwa [str_data] at this)
  obtain ⟨⟨a, cp, rfl, hcap⟩, hm, _⟩ := h
  have hza : t.length ≤ 9223372036854775807 := by unfold maxLen at hm; omega
  obtain ⟨n, hn⟩ : ∃ n, n = t.length := ⟨_, rfl⟩
  have Hn := Lib.hid hn
  obtain ⟨q, hq⟩ : ∃ q, q = Sg.may t := ⟨_, rfl⟩
  have HQ := Lib.hid hq
  rw [← hn] at HF hza ⊢
  rw [← hq]
  clear hn hm hcap hq hs
  have H0 : Hid (∀ (k : Nat) (x : Sg.Sig), k < 0 → t[k]? = some x → Sg.keyOk x.k = true ∧ Sg.nameOk x.n = true ∧ Sg.find t x.k = (k : Int)) := Lib.hid (fun k x hk => absurd hk (by omega))
  go_enter Tryd.func16, Tryd.ntmps16
  go_wp2_with fail
  go_loopw [3] (fun iv wr => ∃ k : Nat, k ≤ n ∧ iv = .int .i64 k ∧ Hid (∀ (j : Nat) (x : Sg.Sig), j < k → t[j]? = some x → Sg.keyOk x.k = true ∧ Sg.nameOk x.n = true ∧ Sg.find t x.k = (j : Int)) ∧ wr = w) (fun iv _ => n - (intOf iv).toNat)
  case atStart => exact ⟨0, Nat.zero_le _, rfl, H0, rfl⟩
  case round =>
    obtain ⟨k, hk, rfl, HT, rfl⟩ := hrel
    clear H0
    by_cases hlt : k < n
    · obtain ⟨b1, o1, d1, e1, r1⟩ := HA.out.2.2 (by rw [← Hn.out]; omega)
      obtain ⟨rfl, rfl⟩ : a = some ⟨b1, o1, none⟩ ∧ cp = d1 := by injection e1 with a1 a2 a3; exact ⟨a1, a3⟩
      obtain ⟨x, hx⟩ : ∃ x, t[k]? = some x := ⟨_, List.getElem?_eq_getElem (by rw [← Hn.out]; exact hlt)⟩
      obtain ⟨y0, y1⟩ := sg_cells (r1 k x hx)
      have k0 : (0 : Int) ≤ (k : Int) := by omega
      have kl : (k : Int) < (n : Int) := by omega
      have HK1 := Lib.hid (HKy.out x (List.mem_of_getElem? hx))
      have HN1 := Lib.hid (HNm.out x (List.mem_of_getElem? hx))
      have HF1 := Lib.hid (HF.out x.k)
      have HX := Lib.hid hx
      clear r1 e1 hx
      cases hkk : Sg.keyOk x.k with
      | false =>
        have HE : Hid (q = false) := Lib.hid (HQ.out.trans (Sg.may_no HX.out (.inl hkk)))
        rw [hkk] at HK1
        clear hkk
        go_wp2_with fail
        refine HK1.out.mono ?_
        rintro e w1 ⟨rfl, rfl⟩
        go_wp2
        go_ret
        rw [HE.out]
        exact ⟨rfl, rfl⟩
      | true =>
        cases hnn : Sg.nameOk x.n with
        | false =>
          have HE : Hid (q = false) := Lib.hid (HQ.out.trans (Sg.may_no HX.out (.inr (.inl hnn))))
          rw [hkk] at HK1
          rw [hnn] at HN1
          clear hkk hnn
          go_wp2_with fail
          refine HK1.out.mono ?_
          rintro e w1 ⟨rfl, rfl⟩
          go_wp2_with fail
          refine HN1.out.mono ?_
          rintro e w1 ⟨rfl, rfl⟩
          go_wp2
          go_ret
          rw [HE.out]
          exact ⟨rfl, rfl⟩
        | true =>
          by_cases hff : Sg.find t x.k = (k : Int)
          · have HN : Hid (∀ (j : Nat) (y : Sg.Sig), j < k + 1 → t[j]? = some y → Sg.keyOk y.k = true ∧ Sg.nameOk y.n = true ∧ Sg.find t y.k = (j : Int)) := Lib.hid (fun j y hj hy => by
              by_cases hjk : j = k
              · subst hjk
                rw [HX.out] at hy
                obtain rfl := Option.some.inj hy
                exact ⟨hkk, hnn, hff⟩
              · exact HT.out j y (by omega) hy)
            rw [hkk] at HK1
            rw [hnn] at HN1
            rw [hff] at HF1
            clear hkk hnn hff
            go_wp2_with fail
            refine HK1.out.mono ?_
            rintro e w1 ⟨rfl, rfl⟩
            go_wp2_with fail
            refine HN1.out.mono ?_
            rintro e w1 ⟨rfl, rfl⟩
            go_wp2_with fail
            refine HF1.out.mono ?_
            rintro e w1 ⟨rfl, rfl⟩
            go_wp2
            go_roundw
            case rel => exact ⟨k + 1, by omega, by go_num, HN, trivial⟩
            case measure => simp [intOf]; omega
          · have HE : Hid (q = false) := Lib.hid (HQ.out.trans (Sg.may_no HX.out (.inr (.inr hff))))
            have hfb : (Sg.find t x.k == (k : Int)) = false := beq_eq_false_iff_ne.2 hff
            have hfn : (Sg.find t x.k != (k : Int)) = true := bne_iff_ne.2 hff
            rw [hkk] at HK1
            rw [hnn] at HN1
            clear hkk hnn hff
            go_wp2_with fail
            refine HK1.out.mono ?_
            rintro e w1 ⟨rfl, rfl⟩
            go_wp2_with fail
            refine HN1.out.mono ?_
            rintro e w1 ⟨rfl, rfl⟩
            go_wp2_with fail
            refine HF1.out.mono ?_
            rintro e w1 ⟨rfl, rfl⟩
            go_wp2
            go_ret
            rw [HE.out]
            exact ⟨rfl, rfl⟩
    · obtain rfl : k = n := by omega
      have HE : Hid (q = decide (k ≤ 100)) := Lib.hid (by
        rw [HQ.out, Hn.out]
        exact Sg.may_all (fun j x hx => HT.out j x (by rw [Hn.out]; exact (List.getElem?_eq_some_iff.1 hx).1) hx))
      by_cases h1 : k ≤ 100
      · have g1 : (k : Int) ≤ (100 : Int) := by omega
        rw [decide_eq_true h1] at HE
        go_wp2
        go_ret
        rw [HE.out]
        exact ⟨rfl, rfl⟩
      · have g1 : ¬ (k : Int) ≤ (100 : Int) := by omega
        rw [decide_eq_false h1] at HE
        go_wp2
        go_ret
        rw [HE.out]
        exact ⟨rfl, rfl⟩
end Go.Proofs.YtlgfmkmpopcciaaDoor
