/-
  The reference's Print (tables).
-/
import Derived.Test.YtlgfmkmpopcciaaDoorRefMay13
import Derived.Deep.RegionHeld3
set_option linter.unusedVariables false
set_option linter.unusedSimpArgs false
namespace Go.Proofs.YtlgfmkmpopcciaaDoor
open Go.RowKit

theorem sum_str13 (a b c : List UInt8) (hl : a.length + b.length ≤ 9223372036854775807) (hc : c = a ++ b) (wx : World) : (Op.stringOp .add (str a) (str b)).run Tryd.prog wx = .ok (.string (str c)) wx := by
  rw [run_string_add_sum wx (str a) (str b) (by rw [str_size13, str_size13]; exact hl), hc]
  congr 2
theorem text_len : ∀ t : List Sg.Sig, (∀ x ∈ t, Sg.keyOk x.k = true ∧ Sg.nameOk x.n = true) → (Sg.text t).length ≤ 210 * t.length
  | [], _ => by simp [Sg.text]
  | x :: r, h => by
    have ih := text_len r (fun y hy => h y (List.mem_cons_of_mem _ hy))
    obtain ⟨h1, h2⟩ := h x List.mem_cons_self
    have := (Sg.keyOk_yes h1).2.2
    have := (Sg.nameOk_yes h2).2.2
    have hL : (Sg.line x ++ [10]).length = x.k.length + x.n.length + 2 := by simp [Sg.line]; omega
    unfold Sg.text at ih ⊢
    rw [List.flatMap_cons, List.length_append, hL, List.length_cons]
    omega
theorem str_app13 (a b : List UInt8) : str a ++ str b = str (a ++ b) := by
  apply ByteArray.ext
  simp [str]
theorem text_next {t : List Sg.Sig} {k : Nat} {x : Sg.Sig} (h : t[k]? = some x) : Sg.text (t.take (k + 1)) = Sg.text (t.take k) ++ (Sg.line x ++ [10]) := by
  rw [It.take_snoc h, Sg.text_app]
  simp [Sg.text]
theorem line_str (S : List UInt8) (x : Sg.Sig) : str S ++ (str x.k ++ ⟨#[32]⟩ ++ str x.n ++ ⟨#[10]⟩) = str (S ++ (Sg.line x ++ [10])) := by
  have h1 : (⟨#[32]⟩ : ByteArray) = str [32] := rfl
  have h2 : (⟨#[10]⟩ : ByteArray) = str [10] := rfl
  rw [h1, h2, str_app13, str_app13, str_app13, str_app13]
  unfold Sg.line
  simp
set_option maxHeartbeats 8000000 in
set_option maxRecDepth 100000 in
theorem refPrint13_any (v : Value) (t : List Sg.Sig) (w : World) (h : SgsAt w v t) (hs : SgSmall t) : Calls Tryd.prog 14 #[v] w (Ret (.string (str (Sg.print t))) w) := by
  have HA := Lib.hid h
  have HM := Lib.hid (fun wx (hx : SgsAt wx v t) => refMay13_any v t wx hx hs)
  obtain ⟨⟨a, cp, rfl, hcap⟩, hm, _⟩ := h
  have hza : t.length ≤ 9223372036854775807 := by unfold maxLen at hm; omega
  obtain ⟨n, hn⟩ : ∃ n, n = t.length := ⟨_, rfl⟩
  have Hn := Lib.hid hn
  rw [← hn] at HA HM hza ⊢
  have HB0 := Lib.hid (Below.refl w.heap.size w)
  clear hn hm hcap
  cases hmay : Sg.may t with
  | false =>
    have HE : Hid (str (Sg.print t) = ByteArray.empty) := Lib.hid (by unfold Sg.print; rw [if_neg (by rw [hmay]; decide)]; rfl)
    rw [hmay] at HM
    clear hmay
    by_cases h0 : 0 < n
    · have h0' : (0 : Int) < (n : Int) := by omega
      go_enter Tryd.func14, Tryd.ntmps14
      go_wp2_with fail
      go_loopw [3, 4] (fun sv iv wr => iv = .int .i64 0 ∧ sv = .string ByteArray.empty ∧ wr = w) (fun _ _ _ => 0)
      case atStart => exact ⟨rfl, rfl, rfl⟩
      case round =>
        obtain ⟨rfl, rfl, rfl⟩ := hrel
        go_wp2_with fail
        refine (HM.out _ HA.out).mono ?_
        rintro e w1 ⟨rfl, rfl⟩
        go_wp2
        go_ret
        rw [HE.out]
        exact ⟨rfl, Below.refl _ _⟩
    · have h0' : ¬ (0 : Int) < (n : Int) := by omega
      go_enter Tryd.func14, Tryd.ntmps14
      go_wp2_with fail
      go_loopw [3, 4] (fun sv iv wr => iv = .int .i64 0 ∧ sv = .string ByteArray.empty ∧ wr = w) (fun _ _ _ => 0)
      case atStart => exact ⟨rfl, rfl, rfl⟩
      case round =>
        obtain ⟨rfl, rfl, rfl⟩ := hrel
        go_wp2
        go_ret
        rw [HE.out]
        exact ⟨rfl, Below.refl _ _⟩
  | true =>
    have HE : Hid (Sg.print t = Sg.text t) := Lib.hid (by unfold Sg.print; rw [if_pos hmay])
    rw [hmay] at HM
    obtain ⟨hm1, hm2, _⟩ := Sg.may_yes hmay
    have HSm := Lib.hid hm2
    have HTl : Hid (∀ k, (Sg.text (t.take k)).length ≤ 21000) := Lib.hid (fun k => by
      have := text_len (t.take k) (fun x hx => hm2 x (List.mem_of_mem_take hx))
      rw [List.length_take] at this
      omega)
    clear hmay hm1 hm2
    go_enter Tryd.func14, Tryd.ntmps14
    go_wp2_with fail
    go_loopw [3, 4] (fun sv iv wr => ∃ k : Nat, k ≤ n ∧ iv = .int .i64 k ∧ sv = .string (str (Sg.text (t.take k))) ∧ Hid (Below w.heap.size w wr)) (fun _ iv _ => n - (intOf iv).toNat)
    case atStart => exact ⟨0, Nat.zero_le _, rfl, rfl, HB0⟩
    case round =>
      obtain ⟨k, hk, rfl, rfl, HB⟩ := hrel
      clear HB0
      by_cases hlt : k < n
      · obtain ⟨b1, o1, d1, e1, r1⟩ := HA.out.2.2 (by rw [← Hn.out]; omega)
        rw [← Hn.out] at e1
        obtain ⟨rfl, rfl⟩ : a = some ⟨b1, o1, none⟩ ∧ cp = d1 := by injection e1 with a1 a2 a3; exact ⟨a1, a3⟩
        obtain ⟨x, hx⟩ : ∃ x, t[k]? = some x := ⟨_, List.getElem?_eq_getElem (by rw [← Hn.out]; exact hlt)⟩
        obtain ⟨y0, y1⟩ := sg_cells ((r1 k x hx).mono HB.out)
        have k0 : (0 : Int) ≤ (k : Int) := by omega
        have kl : (k : Int) < (n : Int) := by omega
        have HT := Lib.hid (text_next hx)
        have hSl := HTl.out k
        obtain ⟨hko, hno⟩ := HSm.out x (List.mem_of_getElem? hx)
        have hkl := (Sg.keyOk_yes hko).2.2
        have hnl := (Sg.nameOk_yes hno).2.2
        generalize Sg.text (t.take k) = S at HT hSl ⊢
        obtain ⟨c1, hc1⟩ : ∃ c, c = x.k ++ [32] := ⟨_, rfl⟩
        obtain ⟨c2, hc2⟩ : ∃ c, c = c1 ++ x.n := ⟨_, rfl⟩
        obtain ⟨c3, hc3⟩ : ∃ c, c = c2 ++ [10] := ⟨_, rfl⟩
        obtain ⟨c4, hc4⟩ : ∃ c, c = S ++ c3 := ⟨_, rfl⟩
        have l1 : c1.length = x.k.length + 1 := by rw [hc1]; simp
        have l2 : c2.length = c1.length + x.n.length := by rw [hc2]; simp
        have l3 : c3.length = c2.length + 1 := by rw [hc3]; simp
        have a1 := fun wx => sum_str13 x.k [32] c1 (by simp; omega) hc1 wx
        have a2 := fun wx => sum_str13 c1 x.n c2 (by omega) hc2 wx
        have a3 := fun wx => sum_str13 c2 [10] c3 (by simp; omega) hc3 wx
        have a4 := fun wx => sum_str13 S c3 c4 (by omega) hc4 wx
        have HC : Hid (c4 = S ++ (Sg.line x ++ [10])) := Lib.hid (by rw [hc4, hc3, hc2, hc1]; simp [Sg.line])
        have e32 : str [32] = ⟨#[32]⟩ := rfl
        have e10 : str [10] = ⟨#[10]⟩ := rfl
        rw [e32] at a1
        rw [e10] at a3
        clear r1 e1 hx hko hno hkl hnl hSl e32 e10 hc1 hc2 hc3 hc4 l1 l2 l3
        go_wp2_with fail
        refine (HM.out _ (SlcAt.mono HA.out HB.out)).mono ?_
        rintro e w1 ⟨rfl, rfl⟩
        have hSd : wr.drew.cell? ⟨b1, o1 + k * 2, none⟩ = some (.string (str x.k)) ∧ wr.drew.cell? ⟨b1, o1 + k * 2 + 1, none⟩ = some (.string (str x.n)) := ⟨y0, y1⟩
        have HD := Lib.hid (below_drew9 wr)
        go_wp2_with fail
        go_region_held3 (fun w' => w'.cell? ⟨b1, o1 + k * 2, none⟩ = some (.string (str x.k)) ∧ w'.cell? ⟨b1, o1 + k * 2 + 1, none⟩ = some (.string (str x.n))) (first | (with_reducible exact hSd) | go_keep) (fail)
        go_wp2
        go_roundw
        case rel => exact ⟨k + 1, by omega, by go_num, by rw [HT.out, ← HC.out], Lib.hid (below_step HB.out HD.out)⟩
        case measure => simp [intOf]; omega
      · have HF : Hid (t.take k = t) := Lib.hid (List.take_of_length_le (by rw [← Hn.out]; omega))
        go_wp2
        go_ret
        rw [HE.out, HF.out]
        exact ⟨rfl, HB.out⟩
end Go.Proofs.YtlgfmkmpopcciaaDoor
