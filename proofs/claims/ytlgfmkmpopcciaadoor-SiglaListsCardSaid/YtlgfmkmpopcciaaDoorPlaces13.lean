/-
  The landed places: a map of a table's keys.
-/
import Derived.Test.YtlgfmkmpopcciaaDoorMap13
import Derived.Deep.RegionHeld3
set_option linter.unusedVariables false
set_option linter.unusedSimpArgs false
namespace Go.Proofs.YtlgfmkmpopcciaaDoor
open Go.RowKit Go.Maps

def PlacesPost (t : List Sg.Sig) (w : World) (e : Ending) (w' : World) : Prop := ∃ b, e = .returned (.map (some b)) ∧ w.heap.size ≤ b ∧ MapAt w' b (Sg.keys t) ∧ Below w.heap.size w w'
theorem keys_take {t : List Sg.Sig} {k : Nat} {x : Sg.Sig} (h : t[k]? = some x) : Sg.keys (t.take (k + 1)) = Sg.keys (t.take k) ++ [x.k] := by
  rw [It.take_snoc h, Sg.keys_app]
  rfl
set_option maxHeartbeats 4000000 in
set_option maxRecDepth 100000 in
theorem places_any (v : Value) (t : List Sg.Sig) (w : World) (h : SgsAt w v t) (hs : SgSmall t) (ht : t.length ≤ 100000) : Calls Tryd.prog 36 #[v] w (PlacesPost t w) := by
  have HA := Lib.hid h
  obtain ⟨⟨a, cp, rfl, hcap⟩, hm, _⟩ := h
  obtain ⟨n, hn⟩ : ∃ n, n = t.length := ⟨_, rfl⟩
  have Hn := Lib.hid hn
  have HS := Lib.hid hs
  rw [← hn] at HA ht ⊢
  have hmm := @run_makeMap Tryd.prog
  obtain ⟨B, hB⟩ : ∃ B, B = w.heap.size := ⟨_, rfl⟩
  have HBe := Lib.hid hB
  have h0 : Hid ((w.alloc (.map #[] 0)).ownsMap Tryd.prog 9 (plainElem (H := Unit) Tryd.prog 3) B 0 (.map [])) := Lib.hid (by rw [hB]; exact World.ownsMap_made _ _ _ _)
  have h1 := Lib.hid (below_alloc w (.map #[] 0))
  have h2 : Hid (MapIs (Sg.keys (t.take 0)) (.map [])) := Lib.hid mapIs_nil
  clear hm hcap hn hs
  go_enter Tryd.func36, Tryd.ntmps36
  go_wp2_with fail
  rw [← hB]
  clear hB
  go_loopw [9] (fun iv wr => ∃ (k : Nat) (D : DataW Unit), k ≤ n ∧ iv = .int .i64 k ∧ Hid (wr.ownsMap Tryd.prog 9 (plainElem (H := Unit) Tryd.prog 3) B k D) ∧ Hid (MapIs (Sg.keys (t.take k)) D) ∧ Hid (Below w.heap.size w wr)) (fun iv _ => n - (intOf iv).toNat)
  case atStart => exact ⟨0, .map [], Nat.zero_le _, rfl, h0, h2, h1⟩
  case round =>
    obtain ⟨k, D, hk, rfl, HO, HI, HW⟩ := hrel
    clear h0 h1 h2
    by_cases hlt : k < n
    · obtain ⟨b1, o1, d1, e1, r1⟩ := HA.out.2.2 (by rw [← Hn.out]; omega)
      rw [← Hn.out] at e1
      obtain ⟨rfl, rfl⟩ : a = some ⟨b1, o1, none⟩ ∧ cp = d1 := by injection e1 with a1 a2 a3; exact ⟨a1, a3⟩
      obtain ⟨x, hx⟩ : ∃ x, t[k]? = some x := ⟨_, List.getElem?_eq_getElem (by rw [← Hn.out]; exact hlt)⟩
      obtain ⟨y0, y1⟩ := sg_cells ((r1 k x hx).mono HW.out)
      have k0 : (0 : Int) ≤ (k : Int) := by omega
      have kl : (k : Int) < (n : Int) := by omega
      have hkey := keyStr13 x.k (HS.out x (List.mem_of_getElem? hx)).1
      have HI2 := Lib.hid (keys_take hx ▸ HI.out.put x.k)
      have hkl : (Sg.keys (t.take k)).length = k := by unfold Sg.keys; rw [List.length_map, List.length_take, ← Hn.out]; omega
      rw [hkl] at HI2
      have hown := HO.out.alloc (.cells #[.string (str x.k), .string (str x.n)] 45)
      have HW2 := Lib.hid (below_step HW.out (below_alloc wr (.cells #[.string (str x.k), .string (str x.n)] 45)))
      have hBl : B < wr.heap.size := HO.out.lt
      clear r1 e1 hx hkl
      go_wp2_with (first
        | (at_mapUpdate; refine wpList_mapUpdate_own _ rfl _ _ _ 66 rfl 9 3 keyLaw13 Tryd.underlying66 _ B k _ rfl hown (by unfold maxLen; omega) _ _ _ rfl rfl hkey _ [] (plainElem_int Tryd.underlying3 (WalkArith.wf_i64 (by omega))) ?_)
        | go_in)
      intro w1 hown1 hgrow1
      have HO1 := Lib.hid hown1
      have HW1 := Lib.hid (HW2.out.grown hgrow1 HW2.out.size (fun j hj => by cases hj; rw [HBe.out]; exact Nat.le_refl _))
      clear hown1 hgrow1 hown HO y0 y1
      go_wp2
      go_roundw
      case rel => exact ⟨k + 1, _, by omega, by go_num, HO1, HI2, HW1⟩
      case measure => simp [intOf]; omega
    · have HT : Hid (t.take k = t) := Lib.hid (List.take_of_length_le (by rw [← Hn.out]; omega))
      go_wp2
      go_ret
      refine ⟨B, rfl, by rw [HBe.out]; exact Nat.le_refl _, ⟨D, k, HO.out, ?_, by omega⟩, HW.out⟩
      have := HI.out
      rwa [HT.out] at this
end Go.Proofs.YtlgfmkmpopcciaaDoor
