/-
  The landed Print: a table's text.
-/
import Derived.Test.YtlgfmkmpopcciaaDoorBld13
import Derived.Test.YtlgfmkmpopcciaaDoorMay13
import Derived.Test.YtlgfmkmpopcciaaDoorRefPrint13
set_option linter.unusedVariables false
set_option linter.unusedSimpArgs false
namespace Go.Proofs.YtlgfmkmpopcciaaDoor
open Go.RowKit

set_option maxHeartbeats 8000000 in
set_option maxRecDepth 100000 in
theorem print_any (v : Value) (t : List Sg.Sig) (w : World) (h : SgsAt w v t) (hs : SgSmall t) : Calls Tryd.prog 13 #[v] w (Ret (.string (str (Sg.print t))) w) := by
  have HA := Lib.hid h
  have HM := Lib.hid (may_any v t w h hs)
  obtain ⟨⟨a, cp, rfl, hcap⟩, hm, _⟩ := h
  have hza : t.length ≤ 9223372036854775807 := by unfold maxLen at hm; omega
  obtain ⟨n, hn⟩ : ∃ n, n = t.length := ⟨_, rfl⟩
  have Hn := Lib.hid hn
  rw [← hn] at HA HM hza ⊢
  clear hn hm hcap
  cases hmay : Sg.may t with
  | false =>
    have HE : Hid (str (Sg.print t) = ⟨#[]⟩) := Lib.hid (by unfold Sg.print; rw [if_neg (by rw [hmay]; decide)]; rfl)
    rw [hmay] at HM
    clear hmay
    go_enter Tryd.func13, Tryd.ntmps13
    go_wp2_with fail
    refine HM.out.mono ?_
    rintro e w1 ⟨rfl, hb1⟩
    have HB1 := Lib.hid hb1
    clear hb1
    go_wp2
    go_ret
    rw [HE.out]
    exact ⟨rfl, HB1.out⟩
  | true =>
    have HE : Hid (Sg.print t = Sg.text t) := Lib.hid (by unfold Sg.print; rw [if_pos hmay])
    rw [hmay] at HM
    obtain ⟨hm1, hm2, _⟩ := Sg.may_yes hmay
    have HSm := Lib.hid hm2
    have HTl : Hid (∀ k, (Sg.text (t.take k)).length ≤ 21000) := Lib.hid (fun k => by
      have := text_len (t.take k) (fun x hx => hm2 x (List.mem_of_mem_take hx))
      rw [List.length_take] at this
      omega)
    clear hmay hm1 hm2
    go_enter Tryd.func13, Tryd.ntmps13
    go_wp2_with fail
    refine HM.out.mono ?_
    rintro e w1 ⟨rfl, hb1⟩
    have HB1 := Lib.hid hb1
    have HBl := Lib.hid (bld_fresh w1)
    have HB2 := Lib.hid (below_alloc w1 (.cells #[.pointer none, .slice none 0 0] 59))
    clear hb1
    go_wp2_with fail
    go_loopw [11] (fun iv wr => ∃ k : Nat, k ≤ n ∧ iv = .int .i64 k ∧ Hid (Bld w1.heap.size w1.heap.size (Sg.text (t.take k)) wr) ∧ Hid (Below w1.heap.size w1 wr)) (fun iv _ => n - (intOf iv).toNat)
    case atStart => exact ⟨0, Nat.zero_le _, rfl, HBl, HB2⟩
    case round =>
      obtain ⟨k, hk, rfl, HD, HW⟩ := hrel
      clear HBl HB2
      by_cases hlt : k < n
      · obtain ⟨b1, o1, d1, e1, r1⟩ := HA.out.2.2 (by rw [← Hn.out]; omega)
        rw [← Hn.out] at e1
        obtain ⟨rfl, rfl⟩ : a = some ⟨b1, o1, none⟩ ∧ cp = d1 := by injection e1 with a1 a2 a3; exact ⟨a1, a3⟩
        obtain ⟨x, hx⟩ : ∃ x, t[k]? = some x := ⟨_, List.getElem?_eq_getElem (by rw [← Hn.out]; exact hlt)⟩
        obtain ⟨y0, y1⟩ := sg_cells ((r1 k x hx).mono (below_step HB1.out HW.out))
        have k0 : (0 : Int) ≤ (k : Int) := by omega
        have kl : (k : Int) < (n : Int) := by omega
        have HT := Lib.hid (text_next hx)
        have hSl := HTl.out k
        obtain ⟨hko, hno⟩ := HSm.out x (List.mem_of_getElem? hx)
        have hkl := (Sg.keyOk_yes hko).2.2
        have hnl := (Sg.nameOk_yes hno).2.2
        have hb3 := below_alloc wr (.cells #[.string (str x.k), .string (str x.n)] 45)
        have HD3 := Lib.hid (bld_kept HD.out hb3)
        have HW3 := Lib.hid (below_step HW.out hb3)
        generalize Sg.text (t.take k) = S at HT hSl HD HD3
        obtain ⟨c1, hc1⟩ : ∃ c, c = x.k ++ [32] := ⟨_, rfl⟩
        obtain ⟨c2, hc2⟩ : ∃ c, c = c1 ++ x.n := ⟨_, rfl⟩
        obtain ⟨c3, hc3⟩ : ∃ c, c = c2 ++ [10] := ⟨_, rfl⟩
        have l1 : c1.length = x.k.length + 1 := by rw [hc1]; simp
        have l2 : c2.length = c1.length + x.n.length := by rw [hc2]; simp
        have l3 : c3.length = c2.length + 1 := by rw [hc3]; simp
        have a1 := fun wx => sum_str13 x.k [32] c1 (by simp; omega) hc1 wx
        have a2 := fun wx => sum_str13 c1 x.n c2 (by omega) hc2 wx
        have a3 := fun wx => sum_str13 c2 [10] c3 (by simp; omega) hc3 wx
        have HC : Hid (c3 = Sg.line x ++ [10]) := Lib.hid (by rw [hc3, hc2, hc1]; simp [Sg.line])
        have HWr := Lib.hid (text_bld_k w1.heap.size w1.heap.size S (str c3) _ HD3.out (by rw [str_size13]; omega) HW3.out.size)
        have e32 : str [32] = ⟨#[32]⟩ := rfl
        have e10 : str [10] = ⟨#[10]⟩ := rfl
        rw [e32] at a1
        rw [e10] at a3
        clear r1 e1 hx hko hno hkl hnl hSl e32 e10 hc1 hc2 hc3 l1 l2 l3 hb3
        go_wp2_with fail
        refine HWr.out.mono ?_
        rintro e w4 ⟨rfl, hd4, hb4, hk4⟩
        rw [str_data] at hd4
        have HD4 := Lib.hid hd4
        have HW4 := Lib.hid (HW3.out.trans hb4)
        clear hd4 hb4 hk4 HWr HD3 HW3 HD HW
        go_wp2
        go_roundw
        case rel => exact ⟨k + 1, by omega, by go_num, by rw [HT.out, ← HC.out]; exact HD4, HW4⟩
        case measure => simp [intOf]; omega
      · have HF : Hid (t.take k = t) := Lib.hid (List.take_of_length_le (by rw [← Hn.out]; omega))
        rw [HF.out] at HD
        go_wp2_with fail
        refine (string_bld w1.heap.size w1.heap.size _ _ HD.out HW.out.size).mono ?_
        rintro e w3 ⟨rfl, hb3⟩
        have HB3 := Lib.hid (HW.out.trans hb3)
        clear hb3
        go_wp2
        go_ret
        rw [HE.out]
        exact ⟨rfl, below_step HB1.out HB3.out⟩
end Go.Proofs.YtlgfmkmpopcciaaDoor
