/-
  The landed writeRun: adjacent sigla, as they are written.
-/
import Derived.Test.YtlgfmkmpopcciaaDoorBld13
import Derived.Test.YtlgfmkmpopcciaaDoorRefPrint13
import Derived.Test.YtlgfmkmpopcciaaDoorValid13
import Derived.Deep.RegionHeld3
set_option linter.unusedVariables false
set_option linter.unusedSimpArgs false
namespace Go.Proofs.YtlgfmkmpopcciaaDoor
open Go.RowKit

/-- words, a blank ahead of each -/
def spaced (ws : List (List UInt8)) : List UInt8 := ws.flatMap fun w => 32 :: w
theorem spaced_app (a b : List (List UInt8)) : spaced (a ++ b) = spaced a ++ spaced b := List.flatMap_append
theorem spaced_len : ∀ ws : List (List UInt8), (∀ w ∈ ws, w.length ≤ 20) → (spaced ws).length ≤ 21 * ws.length
  | [], _ => by simp [spaced]
  | w :: r, h => by
    have ih := spaced_len r (fun x hx => h x (List.mem_cons_of_mem _ hx))
    have := h w List.mem_cons_self
    unfold spaced at ih ⊢
    rw [List.flatMap_cons, List.length_append, List.length_cons, List.length_cons]
    omega
theorem spaced_next {r : List Sg.Sig} {k : Nat} {x : Sg.Sig} (h : r[k]? = some x) : spaced (Sg.keys (r.take (k + 1))) = spaced (Sg.keys (r.take k)) ++ (32 :: x.k) := by
  rw [It.take_snoc h, Sg.keys_app, spaced_app]
  simp [spaced, Sg.keys]
/-- what writeRun leaves -/
def RunPost (B b0 : Nat) (S : List UInt8) (w : World) (e : Ending) (w' : World) : Prop := e = .returned (.tuple #[]) ∧ Bld B b0 S w' ∧ Below B w w'
set_option maxHeartbeats 8000000 in
set_option maxRecDepth 100000 in
theorem writeRun_any (B b0 : Nat) (S : List UInt8) (v : Value) (r : List Sg.Sig) (w : World) (hb : Bld B b0 S w) (hBw : B ≤ w.heap.size) (hr : ∀ W, Below B w W → SgsAt W v r) (hn : r.length ≤ 100) (hk : ∀ x ∈ r, x.k.length ≤ 8) (hS : S.length ≤ 1000000) :
    Calls Tryd.prog 51 #[.pointer (some ⟨b0, 0, none⟩), v] w (RunPost B b0 (S ++ spaced (Sg.emit (Sg.keys r))) w) := by
  have HR := Lib.hid hr
  have HK := Lib.hid hk
  have HB := Lib.hid hb
  obtain ⟨⟨a, cp, rfl, hcap⟩, hm, _⟩ := hr w (Below.refl _ _)
  obtain ⟨n, hnn⟩ : ∃ n, n = r.length := ⟨_, rfl⟩
  have Hn := Lib.hid hnn
  have hkl : (Sg.keys r).length = n := by unfold Sg.keys; rw [List.length_map]; exact hnn.symm
  rw [← hnn] at HR hn hcap ⊢
  by_cases h3 : 3 ≤ n
  · obtain ⟨b1, o1, d1, e1, r1⟩ := (HR.out w (Below.refl _ _)).2.2 (by rw [← Hn.out]; omega)
    rw [← Hn.out] at e1
    obtain ⟨rfl, rfl⟩ : a = some ⟨b1, o1, none⟩ ∧ cp = d1 := by injection e1 with a1 a2 a3; exact ⟨a1, a3⟩
    obtain ⟨j, hj⟩ : ∃ j, j + 1 = n := ⟨n - 1, by omega⟩
    obtain ⟨x, hx⟩ : ∃ x, r[0]? = some x := ⟨_, List.getElem?_eq_getElem (by rw [← Hn.out]; omega)⟩
    obtain ⟨y, hy⟩ : ∃ y, r[j]? = some y := ⟨_, List.getElem?_eq_getElem (by rw [← Hn.out]; omega)⟩
    have hE : Sg.emit (Sg.keys r) = [x.k ++ (Sg.dd ++ y.k)] := by
      unfold Sg.emit
      rw [if_pos (by rw [hkl]; exact h3)]
      have h0 : (Sg.keys r).headD [] = x.k := by
        rw [List.headD_eq_head?_getD, List.head?_eq_getElem?]
        unfold Sg.keys
        rw [List.getElem?_map, hx]
        rfl
      have h1 : (Sg.keys r).getLastD [] = y.k := by
        have e : (Sg.keys r)[j]? = some y.k := by
          unfold Sg.keys
          rw [List.getElem?_map, hy]
          rfl
        have := Sg.getLastD_at (l := Sg.keys r) (i := 0) (n := j) (by rw [hkl]; omega)
        rw [e] at this
        exact (Option.some.inj this).symm
      rw [h0, h1]
    have HE : Hid (S ++ spaced (Sg.emit (Sg.keys r)) = S ++ (32 :: (x.k ++ (Sg.dd ++ y.k)))) := Lib.hid (by rw [hE]; simp [spaced])
    have hxl := HK.out x (List.mem_of_getElem? hx)
    have hyl := HK.out y (List.mem_of_getElem? hy)
    have HC := Lib.hid (fun (W : World) (hW : Below B w W) => (show W.cell? ⟨b1, o1, none⟩ = some (.string (str x.k)) ∧ W.cell? ⟨b1, o1 + j * 2, none⟩ = some (.string (str y.k)) by
      obtain ⟨b2, o2, d2, e2, r2⟩ := (HR.out W hW).2.2 (by rw [← Hn.out]; omega)
      rw [← Hn.out] at e2
      injection e2 with a1 a2 a3
      injection a1 with a1
      injection a1 with a1 a4 a5
      subst a1 a4
      have h0 := (sg_cells (r2 0 x hx)).1
      rw [Nat.zero_mul, Nat.add_zero] at h0
      exact ⟨h0, (sg_cells (r2 j y hy)).1⟩))
    obtain ⟨c1, hc1⟩ : ∃ c, c = [32] ++ x.k := ⟨_, rfl⟩
    obtain ⟨c2, hc2⟩ : ∃ c, c = c1 ++ [46, 46] := ⟨_, rfl⟩
    obtain ⟨c3, hc3⟩ : ∃ c, c = c2 ++ y.k := ⟨_, rfl⟩
    have l1 : c1.length = x.k.length + 1 := by rw [hc1]; simp
    have l2 : c2.length = c1.length + 2 := by rw [hc2]; simp
    have l3 : c3.length = c2.length + y.k.length := by rw [hc3]; simp
    have a1 := fun wx => sum_str13 [32] x.k c1 (by simp; omega) hc1 wx
    have a2 := fun wx => sum_str13 c1 [46, 46] c2 (by simp; omega) hc2 wx
    have a3 := fun wx => sum_str13 c2 y.k c3 (by omega) hc3 wx
    have e32 : str [32] = ⟨#[32]⟩ := rfl
    have e46 : str [46, 46] = ⟨#[46, 46]⟩ := rfl
    rw [e32] at a1
    rw [e46] at a2
    have HT : Hid (S ++ c3 = S ++ spaced (Sg.emit (Sg.keys r))) := Lib.hid (by rw [HE.out, hc3, hc2, hc1]; simp [Sg.dd])
    have hbd : Below B w w.drew := (below_drew9 w).mono hBw
    have HD := Lib.hid hbd
    have HWr := Lib.hid (text_bld_k B b0 S (str c3) w.drew (bld_kept HB.out (below_drew9 w)) (by rw [str_size13]; omega) (Nat.le_trans hBw hbd.size))
    have hS0 := HC.out w.drew hbd
    have nl : IntKind.i64.wrap ((n : Int) - 1) = (j : Int) := by rw [show (n : Int) - 1 = (j : Int) by omega]; exact IntWalk.i64_in _ (by omega)
    have nl2 : wrap64 ((n : Int) - 1) = (j : Int) := by rw [show (n : Int) - 1 = (j : Int) by omega]; exact w64 (by omega) (by omega)
    have g3 : (3 : Int) ≤ (n : Int) := by omega
    have j0 : (0 : Int) ≤ (j : Int) := by omega
    have jl : (j : Int) < (n : Int) := by omega
    have n0 : (0 : Int) < (n : Int) := by omega
    have n0' : 0 < n := by omega
    have n0'' : n ≠ 0 := by omega
    clear e1 r1 hx hy hE hxl hyl hc1 hc2 hc3 l1 l2 l3 e32 e46 hbd hkl hnn hcap hm hr hk hb
    go_enter Tryd.func51, Tryd.ntmps51
    go_wp2_with fail
    go_region_held3 (fun w' => w'.cell? ⟨b1, o1, none⟩ = some (.string (str x.k)) ∧ w'.cell? ⟨b1, o1 + j * 2, none⟩ = some (.string (str y.k))) (first | (with_reducible exact hS0) | (exact HC.out _ HX.out) | go_keep) (((with_reducible refine HWr.out.mono ?_); rintro e w4 ⟨rfl, hd4, hb4, hk4⟩; have HX := Lib.hid (HD.out.trans hb4); have HD4 := Lib.hid hd4; clear hd4 hb4 hk4))
    all_goals
      have HD5 := HD4.out
      rw [str_data, HT.out] at HD5
      go_wp2
      refine bodyPost_ret (results_none rfl _ _ _) rfl ?_
      exact ⟨rfl, HD5, HX.out⟩
  · have hE : Sg.emit (Sg.keys r) = Sg.keys r := by
      unfold Sg.emit
      rw [if_neg (by rw [hkl]; exact h3)]
    rw [hE]
    have g3 : ¬ ((3 : Int) ≤ (n : Int)) := by omega
    have H0 : Hid (Bld B b0 (S ++ spaced (Sg.keys (r.take 0))) w) := Lib.hid (by simpa [spaced, Sg.keys] using hb)
    clear hE hkl hnn hcap hm hr hk hb
    go_enter Tryd.func51, Tryd.ntmps51
    go_wp2_with fail
    go_loopw [27] (fun iv wr => ∃ k : Nat, k ≤ n ∧ iv = .int .i64 k ∧ Hid (Bld B b0 (S ++ spaced (Sg.keys (r.take k))) wr) ∧ Hid (Below B w wr)) (fun iv _ => n - (intOf iv).toNat)
    case atStart => exact ⟨0, Nat.zero_le _, rfl, H0, Lib.hid (Below.refl _ _)⟩
    case round =>
      obtain ⟨k, hk, rfl, HD, HW⟩ := hrel
      clear H0
      by_cases hlt : k < n
      · obtain ⟨b1, o1, d1, e1, r1⟩ := (HR.out wr HW.out).2.2 (by rw [← Hn.out]; omega)
        rw [← Hn.out] at e1
        obtain ⟨rfl, rfl⟩ : a = some ⟨b1, o1, none⟩ ∧ cp = d1 := by injection e1 with a1 a2 a3; exact ⟨a1, a3⟩
        obtain ⟨x, hx⟩ : ∃ x, r[k]? = some x := ⟨_, List.getElem?_eq_getElem (by rw [← Hn.out]; exact hlt)⟩
        obtain ⟨y0, y1⟩ := sg_cells (r1 k x hx)
        have k0 : (0 : Int) ≤ (k : Int) := by omega
        have kl : (k : Int) < (n : Int) := by omega
        have HT := Lib.hid (spaced_next hx)
        have hxl := HK.out x (List.mem_of_getElem? hx)
        have hSl := spaced_len (Sg.keys (r.take k)) (fun u hu => by
          unfold Sg.keys at hu
          obtain ⟨z, hz, rfl⟩ := List.mem_map.1 hu
          have := HK.out z (List.mem_of_mem_take hz)
          omega)
        have hSk : (Sg.keys (r.take k)).length ≤ 100 := by unfold Sg.keys; rw [List.length_map, List.length_take]; omega
        have hb3 := below_alloc wr (.cells #[.string (str x.k), .string (str x.n)] 45)
        have HD3 := Lib.hid (bld_kept HD.out hb3)
        have HW3 := Lib.hid (HW.out.trans (hb3.mono (Nat.le_trans hBw HW.out.size)))
        have hz3 := Nat.le_trans (Nat.le_trans hBw HW.out.size) hb3.size
        obtain ⟨c1, hc1⟩ : ∃ c, c = [32] ++ x.k := ⟨_, rfl⟩
        have l1 : c1.length = x.k.length + 1 := by rw [hc1]; simp
        have a1 := fun wx => sum_str13 [32] x.k c1 (by simp; omega) hc1 wx
        have e32 : str [32] = ⟨#[32]⟩ := rfl
        rw [e32] at a1
        have hSS : (S ++ spaced (Sg.keys (r.take k))).length ≤ 2000000 := by rw [List.length_append]; omega
        have HN : Hid (S ++ spaced (Sg.keys (r.take k)) ++ c1 = S ++ spaced (Sg.keys (r.take (k + 1)))) := Lib.hid (by rw [HT.out, hc1, List.append_assoc]; rfl)
        generalize S ++ spaced (Sg.keys (r.take k)) = T at HD HD3 hSS HN
        have HWr := Lib.hid (text_bld_k B b0 T (str c1) _ HD3.out (by rw [str_size13]; omega) hz3)
        clear e1 r1 hx hxl hSl hSk hb3 hz3 hc1 l1 e32 hSS HT
        go_wp2_with fail
        refine HWr.out.mono ?_
        rintro e w4 ⟨rfl, hd4, hb4, hk4⟩
        rw [str_data, HN.out] at hd4
        have HD4 := Lib.hid hd4
        have HW4 := Lib.hid (HW3.out.trans hb4)
        clear hd4 hb4 hk4 HWr HD3 HW3 HD HW
        go_wp2
        go_roundw
        case rel => exact ⟨k + 1, by omega, by go_num, HD4, HW4⟩
        case measure => simp [intOf]; omega
      · have HF : Hid (r.take k = r) := Lib.hid (List.take_of_length_le (by rw [← Hn.out]; omega))
        rw [HF.out] at HD
        go_wp2
        go_end0
        exact ⟨rfl, HD.out, HW.out⟩
end Go.Proofs.YtlgfmkmpopcciaaDoor
