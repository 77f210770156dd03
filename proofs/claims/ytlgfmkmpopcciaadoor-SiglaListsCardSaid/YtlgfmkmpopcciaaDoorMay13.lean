/-
  The landed May: is a table valid?
-/
import Derived.Test.YtlgfmkmpopcciaaDoorPlaces13
import Derived.Test.YtlgfmkmpopcciaaDoorValid13
set_option linter.unusedVariables false
set_option linter.unusedSimpArgs false
namespace Go.Proofs.YtlgfmkmpopcciaaDoor
open Go.RowKit Go.Maps

theorem may_len {t : List Sg.Sig} (h : 100 < t.length) : Sg.may t = false := by
  cases e : Sg.may t with
  | false => rfl
  | true => have := (Sg.may_yes e).1; omega
theorem may_bad {t : List Sg.Sig} {x : Sg.Sig} (hx : x ∈ t) (h : (Sg.keyOk x.k && Sg.nameOk x.n) = false) : Sg.may t = false := by
  cases e : Sg.may t with
  | false => rfl
  | true =>
    have := (Sg.may_yes e).2.1 x hx
    rw [this.1, this.2] at h
    cases h
set_option maxHeartbeats 4000000 in
set_option maxRecDepth 100000 in
theorem may_any (v : Value) (t : List Sg.Sig) (w : World) (h : SgsAt w v t) (hs : SgSmall t) : Calls Tryd.prog 15 #[v] w (Ret (.bool (Sg.may t)) w) := by
  have HA := Lib.hid h
  have HP := Lib.hid (fun wx (hx : SgsAt wx v t) (hl : t.length ≤ 100000) => places_any v t wx hx hs hl)
  have HV := Lib.hid (fun (x : Sg.Sig) (hx : x ∈ t) wx => valid_any x.k x.n (hs x hx).1 wx)
  obtain ⟨⟨a, cp, rfl, hcap⟩, hm, _⟩ := h
  have hza : t.length ≤ 9223372036854775807 := by unfold maxLen at hm; omega
  obtain ⟨n, hn⟩ : ∃ n, n = t.length := ⟨_, rfl⟩
  have Hn := Lib.hid hn
  obtain ⟨q, hq⟩ : ∃ q, q = Sg.may t := ⟨_, rfl⟩
  have HQ := Lib.hid hq
  rw [← hn] at HA HP hza ⊢
  rw [← hq]
  clear hm hcap hq hn
  by_cases hlen : n ≤ 100
  · have g1 : ¬ ((100 : Int) < (n : Int)) := by omega
    have H0 : Hid (∀ y ∈ t.take 0, (Sg.keyOk y.k && Sg.nameOk y.n) = true) := Lib.hid (by simp)
    go_enter Tryd.func15, Tryd.ntmps15
    go_wp2_with fail
    go_loopw [10] (fun iv wr => ∃ k : Nat, k ≤ n ∧ iv = .int .i64 k ∧ Hid (∀ y ∈ t.take k, (Sg.keyOk y.k && Sg.nameOk y.n) = true) ∧ Hid (Below w.heap.size w wr)) (fun iv _ => n - (intOf iv).toNat)
    case atStart => exact ⟨0, Nat.zero_le _, rfl, H0, Lib.hid (Below.refl _ _)⟩
    case round =>
      obtain ⟨k, hk, rfl, HT, HW⟩ := hrel
      clear H0
      by_cases hlt : k < n
      · obtain ⟨b1, o1, d1, e1, r1⟩ := HA.out.2.2 (by rw [← Hn.out]; omega)
        rw [← Hn.out] at e1
        obtain ⟨rfl, rfl⟩ : a = some ⟨b1, o1, none⟩ ∧ cp = d1 := by injection e1 with a1 a2 a3; exact ⟨a1, a3⟩
        obtain ⟨x, hx⟩ : ∃ x, t[k]? = some x := ⟨_, List.getElem?_eq_getElem (by rw [← Hn.out]; exact hlt)⟩
        obtain ⟨y0, y1⟩ := sg_cells ((r1 k x hx).mono HW.out)
        have k0 : (0 : Int) ≤ (k : Int) := by omega
        have kl : (k : Int) < (n : Int) := by omega
        have HVx := Lib.hid (HV.out x (List.mem_of_getElem? hx))
        have HW2 := Lib.hid (below_step HW.out (below_alloc wr (.cells #[.string (str x.k), .string (str x.n)] 45)))
        cases hv : (Sg.keyOk x.k && Sg.nameOk x.n) with
        | true =>
          have HN : Hid (∀ y ∈ t.take (k + 1), (Sg.keyOk y.k && Sg.nameOk y.n) = true) := Lib.hid (fun y hy => by
            rw [It.take_snoc hx] at hy
            rcases List.mem_append.1 hy with hy | hy
            · exact HT.out y hy
            · simp at hy; subst hy; exact hv)
          rw [hv] at HVx
          clear r1 e1 hx hv HV
          go_wp2_with fail
          refine (HVx.out _).mono ?_
          rintro e w1 ⟨rfl, hb1⟩
          have HW3 := Lib.hid (below_step HW2.out hb1)
          clear hb1 y0 y1 HVx
          go_wp2
          go_roundw
          case rel => exact ⟨k + 1, by omega, by go_num, HN, HW3⟩
          case measure => simp [intOf]; omega
        | false =>
          have HN : Hid (q = false) := Lib.hid (by rw [HQ.out]; exact may_bad (List.mem_of_getElem? hx) hv)
          rw [hv] at HVx
          clear r1 e1 hx hv HV
          go_wp2_with fail
          refine (HVx.out _).mono ?_
          rintro e w1 ⟨rfl, hb1⟩
          have HW3 := Lib.hid (below_step HW2.out hb1)
          clear hb1 y0 y1 HVx
          go_wp2
          go_ret
          rw [HN.out]
          exact ⟨rfl, HW3.out⟩
      · have HT2 : Hid (∀ y ∈ t, (Sg.keyOk y.k && Sg.nameOk y.n) = true) := Lib.hid (by have := HT.out; rwa [List.take_of_length_le (by rw [← Hn.out]; omega)] at this)
        have HE : Hid (q = decide (Sg.keys t).Nodup) := Lib.hid (by
          rw [HQ.out]
          unfold Sg.may
          rw [decide_eq_true (by rw [← Hn.out]; exact hlen), List.all_eq_true.2 HT2.out]
          rfl)
        go_wp2_with fail
        refine (HP.out _ (SlcAt.mono HA.out HW.out) (by omega)).mono ?_
        rintro e w1 ⟨b, rfl, hbb, ⟨D, m, ho, hi, hmm⟩, hb1⟩
        have HW3 := Lib.hid (below_step HW.out hb1)
        have HI := Lib.hid hi
        have hkn : (Sg.keys t).length = n := by unfold Sg.keys; rw [List.length_map]; exact Hn.out.symm
        have hall := hi.all
        have hfew := hi.few
        rw [hkn] at hall hfew
        obtain ⟨z, hz⟩ : ∃ z, z = Maps.size D := ⟨_, rfl⟩
        rw [← hz] at hall hfew
        by_cases hd : (Sg.keys t).Nodup
        · rw [decide_eq_true hd] at HE
          have hzn := hall.2 hd
          go_wp2_with (first | (at_len; refine wpList_len_own _ rfl _ 66 rfl 9 3 Tryd.underlying66 _ b m D rfl ho ?_) | go_in)
          rw [← hz, hzn]
          clear ho hi hall hfew hz hzn hb1
          go_wp2
          go_ret
          rw [HE.out]
          exact ⟨ret_bool (a := ((n : Int) == (n : Int))) (by simp), HW3.out⟩
        · rw [decide_eq_false hd] at HE
          have hzn : z ≠ n := fun e => hd (hall.1 e)
          have hzi : ((z : Int) == (n : Int)) = false := by rw [beq_eq_false_iff_ne]; omega
          go_wp2_with (first | (at_len; refine wpList_len_own _ rfl _ 66 rfl 9 3 Tryd.underlying66 _ b m D rfl ho ?_) | go_in)
          rw [← hz]
          clear ho hi hall hfew hz hb1
          go_wp2
          go_ret
          rw [HE.out]
          exact ⟨ret_bool (a := ((z : Int) == (n : Int))) hzi, HW3.out⟩
  · have g1 : ((100 : Int) < (n : Int)) := by omega
    have HE : Hid (q = false) := Lib.hid (by rw [HQ.out]; exact may_len (by rw [← Hn.out]; omega))
    go_enter Tryd.func15, Tryd.ntmps15
    go_wp2
    go_ret
    rw [HE.out]
    exact ⟨rfl, Below.refl _ _⟩
end Go.Proofs.YtlgfmkmpopcciaaDoor
