/-
  What the program's Escape answers: it cuts soft hyphens and bytes off the text's head, and writes what they are printed as.
-/
import Derived.Test.YtjlnffdklhmonaaDoorWord5
import Derived.Test.YtjlnffdklhmonaaDoorRefEscape
set_option linter.unusedVariables false
set_option linter.unusedSimpArgs false
namespace Go.Proofs.YtjlnffdklhmonaaDoor
open Go.RowKit

theorem prefix_soft (l : List UInt8) : Lib.hasPrefix l [194, 173] = match l with | c :: d :: _ => Lx.soft c d | _ => false := by
  match l with
  | [] => rfl
  | [c] => simp [Lib.hasPrefix, List.isPrefixOf]
  | c :: d :: r =>
    simp only [Lib.hasPrefix, List.isPrefixOf, Bool.and_true]
    unfold Lx.soft
    rw [Bool.eq_iff_iff, Bool.and_eq_true, decide_eq_true_iff, beq_iff_eq, beq_iff_eq]
    constructor
    · rintro ⟨rfl, rfl⟩; exact ⟨rfl, rfl⟩
    · rintro ⟨h1, h2⟩; exact ⟨(Lx.u8_of (n := 194) h1).symm, (Lx.u8_of (n := 173) h2).symm⟩
theorem escape_soft {l : List UInt8} (h : Lib.hasPrefix l [194, 173] = true) : Lx.escape l = [92, 45] ++ Lx.escape (Lib.trimPrefix l [194, 173]) ∧ (Lib.trimPrefix l [194, 173]).length < l.length := by
  match l, h with
  | [], h => rw [prefix_soft] at h; cases h
  | [c], h => rw [prefix_soft] at h; cases h
  | c :: d :: r, h =>
    have h1 := h
    rw [prefix_soft] at h1
    unfold Lib.trimPrefix
    rw [if_pos h, Lx.escape_two, if_pos h1]
    exact ⟨rfl, by simp; omega⟩
theorem escape_hard {c : UInt8} {r : List UInt8} (h : Lib.hasPrefix (c :: r) [194, 173] = false) : Lx.escape (c :: r) = (if Lx.special c then [92, c] else [c]) ++ Lx.escape r := by
  rw [prefix_soft] at h
  exact escape_next _ _ (fun d q e => by subst e; exact h)
theorem extract_tail (s : ByteArray) : (s.extract 1 s.size).data.toList = s.data.toList.drop 1 := drop_text s 1

set_option maxHeartbeats 4000000 in
set_option maxRecDepth 100000 in
theorem escape_any (s : ByteArray) (hs : s.size ≤ 17592186044416) (w : World) (hT : Tabs w) : Calls Tryd.prog 18 #[.string s] w (Ret (.string (str (Lx.escape s.data.toList))) w) := by
  have HLe : Hid ((Lx.escape s.data.toList).length ≤ 2 * s.size) := Lib.hid (by have h := escape_len s.data.toList.length s.data.toList (Nat.le_refl _); rw [← Lib.size_eq] at h; exact h)
  have HS := Lib.hid hs
  have HB0 := Lib.hid (below_alloc w (.cells #[.pointer none, .slice none 0 0] 54))
  have HBL0 := Lib.hid (bld_fresh w)
  clear hT
  go_enter Tryd.func18, Tryd.ntmps18
  go_wp2_with fail
  go_loopw [4] (fun rv wr => ∃ (r : ByteArray) (u : List UInt8), rv = .string r ∧ r.size ≤ s.size ∧ Hid (Eread s.data.toList u r.data.toList) ∧ Hid (Bld w.heap.size w.heap.size u wr) ∧ Hid (Below w.heap.size w wr)) (fun rv _ => match rv with | .string r => r.size | _ => 0)
  case atStart => exact ⟨s, [], rfl, Nat.le_refl _, Lib.hid (by show _ = _; simp), HBL0, HB0⟩
  case round =>
    obtain ⟨r, u, rfl, hrs, HW, HU, HB⟩ := hrel
    clear HBL0 HB0
    have HUl : Hid (u.length ≤ 2 * s.size) := Lib.hid (by
      have h1 := HLe.out
      have h2 := HW.out
      unfold Eread at h2
      rw [h2, List.length_append] at h1
      omega)
    have cB := Lib.hid (fun U c W (h : Bld w.heap.size w.heap.size U W) (hl : U.length ≤ 2 * s.size + 1) (hB : w.heap.size ≤ W.heap.size) => byte_bld w.heap.size w.heap.size U c W h (by have := HS.out; omega) hB)
    have cP := Lib.hid (fun w => Tryd.strings_CutPrefix r ⟨#[194, 173]⟩ w)
    by_cases h0 : r.size = 0
    · have he : r.toList.isEmpty = true := by rw [Lib.toList_data, List.isEmpty_iff]; exact List.eq_nil_of_length_eq_zero (by rw [← Lib.size_eq]; exact h0)
      have HEnd : Hid (r.data.toList = []) := Lib.hid (List.eq_nil_of_length_eq_zero (by rw [← Lib.size_eq]; exact h0))
      clear h0
      go_wp2_with fail
      refine (string_bld w.heap.size w.heap.size _ _ HU.out HB.out.size).mono ?_
      rintro e w2 ⟨rfl, hb2⟩
      have HB2 := Lib.hid (HB.out.trans hb2)
      clear hb2
      go_wp2_with fail
      go_ret
      have h := HW.out
      unfold Eread at h
      rw [HEnd.out] at h
      exact ⟨ret_str (by rw [str_data, h]; show u = u ++ []; rw [List.append_nil]), HB2.out⟩
    · have he : r.toList.isEmpty = false := by rw [Lib.toList_data, List.isEmpty_eq_false_iff]; exact List.ne_nil_of_length_pos (by rw [← Lib.size_eq]; omega)
      have hd := drop_head r 0 (by omega)
      rw [List.drop_zero] at hd
      have k1 : (0 : Int) < (r.size : Int) := by omega
      have k2 : (1 : Int) ≤ (r.size : Int) := by omega
      have k3 : (r.size : Int) ≤ 9223372036854775807 := by have := HS.out; omega
      cases hp : Lib.hasPrefix r.data.toList [194, 173] with
      | true =>
        have HE := Lib.hid (escape_soft hp)
        obtain ⟨X, hX⟩ : ∃ X : ByteArray, X = ⟨(Lib.trimPrefix r.data.toList [194, 173]).toArray⟩ := ⟨_, rfl⟩
        have HX : Hid (X.data.toList = Lib.trimPrefix r.data.toList [194, 173]) := Lib.hid (by rw [hX])
        have HXl : Hid (X.size < r.size) := Lib.hid (by rw [Lib.size_eq, HX.out, Lib.size_eq r]; exact HE.out.2)
        have cQ : Hid (∀ w, Calls Tryd.prog 38 #[.string r, .string ⟨#[194, 173]⟩] w (fun e w' => e = .returned (.tuple #[.string X, .bool true]) ∧ w' = w)) := Lib.hid (fun w => by
          have h := cP.out w
          have e : (⟨#[194, 173]⟩ : ByteArray).data.toList = [194, 173] := rfl
          rw [e, hp, ← hX] at h
          exact h)
        clear hp hX cP hd
        go_wp2_with fail
        refine (cQ.out _).mono ?_
        rintro e w1 ⟨rfl, rfl⟩
        go_wp2_with fail
        refine (cB.out _ 92 _ HU.out (by have := HUl.out; omega) HB.out.size).mono ?_
        rintro e w1 ⟨rfl, hu1, hb1⟩
        have HU1 := Lib.hid hu1
        have HB1 := Lib.hid (HB.out.trans hb1)
        clear hu1 hb1
        go_wp2_with fail
        refine (cB.out _ 45 _ HU1.out (by have := HUl.out; rw [List.length_append, List.length_singleton]; omega) HB1.out.size).mono ?_
        rintro e w2 ⟨rfl, hu2, hb2⟩
        have HU2 := Lib.hid hu2
        have HB2 := Lib.hid (HB1.out.trans hb2)
        clear hu2 hb2
        go_wp2_with fail
        go_roundw
        case rel => exact ⟨X, u ++ [(92 : UInt8)] ++ [45], rfl, by have := HXl.out; omega, Lib.hid (by rw [HX.out]; exact HW.out.next HE.out.1 (by rw [List.append_assoc]; rfl)), HU2, HB2⟩
        case measure => exact HXl.out
      | false =>
        have cQ : Hid (∀ w, Calls Tryd.prog 38 #[.string r, .string ⟨#[194, 173]⟩] w (fun e w' => e = .returned (.tuple #[.string r, .bool false]) ∧ w' = w)) := Lib.hid (fun w => by
          have h := cP.out w
          have e : (⟨#[194, 173]⟩ : ByteArray).data.toList = [194, 173] := rfl
          have e2 : (⟨(Lib.trimPrefix r.data.toList [194, 173]).toArray⟩ : ByteArray) = r := by
            apply ByteArray.ext
            unfold Lib.trimPrefix
            rw [hp]
            simp
          rw [e, e2, hp] at h
          exact h)
        have HE : Hid (Lx.escape r.data.toList = ((if Lx.special (r[0]'(by omega)) then [92, r[0]'(by omega)] else [r[0]'(by omega)]) : List UInt8) ++ Lx.escape (r.data.toList.drop 1)) := Lib.hid (by rw [hd] at hp ⊢; exact escape_hard hp)
        have HTl := Lib.hid (extract_tail r)
        have HTs : Hid ((r.extract 1 r.size).size < r.size) := Lib.hid (by rw [Lib.size_eq, extract_tail, List.length_drop, Lib.size_eq r] at *; omega)
        have cS := Lib.hid (fun w => special_any (r[0]'(by omega)) w)
        clear hp cP hd
        cases hsp : Lx.special (r[0]'(by omega)) with
        | true =>
          have HE2 : Hid (Lx.escape r.data.toList = ([92, r[0]'(by omega)] : List UInt8) ++ Lx.escape (r.data.toList.drop 1)) := Lib.hid (by rw [HE.out, hsp]; rfl)
          rw [hsp] at cS
          clear hsp h0
          go_wp2_with fail
          refine (cQ.out _).mono ?_
          rintro e w1 ⟨rfl, rfl⟩
          go_wp2_with fail
          refine (cS.out _).mono ?_
          rintro e w1 ⟨rfl, rfl⟩
          go_wp2_with fail
          refine (cB.out _ 92 _ HU.out (by have := HUl.out; omega) HB.out.size).mono ?_
          rintro e w1 ⟨rfl, hu1, hb1⟩
          have HU1 := Lib.hid hu1
          have HB1 := Lib.hid (HB.out.trans hb1)
          clear hu1 hb1
          go_wp2_with fail
          refine (cB.out _ _ _ HU1.out (by have := HUl.out; rw [List.length_append, List.length_singleton]; omega) HB1.out.size).mono ?_
          rintro e w2 ⟨rfl, hu2, hb2⟩
          have HU2 := Lib.hid hu2
          have HB2 := Lib.hid (HB1.out.trans hb2)
          clear hu2 hb2
          go_wp2_with fail
          go_roundw
          case rel => exact ⟨_, u ++ [(92 : UInt8)] ++ [r[0]'(by omega)], rfl, by have := HTs.out; omega, Lib.hid (by rw [HTl.out]; exact HW.out.next HE2.out (by rw [List.append_assoc]; rfl)), HU2, HB2⟩
          case measure => exact HTs.out
        | false =>
          have HE2 : Hid (Lx.escape r.data.toList = [r[0]'(by omega)] ++ Lx.escape (r.data.toList.drop 1)) := Lib.hid (by rw [HE.out, hsp]; rfl)
          rw [hsp] at cS
          clear hsp h0
          go_wp2_with fail
          refine (cQ.out _).mono ?_
          rintro e w1 ⟨rfl, rfl⟩
          go_wp2_with fail
          refine (cS.out _).mono ?_
          rintro e w1 ⟨rfl, rfl⟩
          go_wp2_with fail
          refine (cB.out _ _ _ HU.out (by have := HUl.out; omega) HB.out.size).mono ?_
          rintro e w2 ⟨rfl, hu2, hb2⟩
          have HU2 := Lib.hid hu2
          have HB2 := Lib.hid (HB.out.trans hb2)
          clear hu2 hb2
          go_wp2_with fail
          go_roundw
          case rel => exact ⟨_, u ++ [r[0]'(by omega)], rfl, by have := HTs.out; omega, Lib.hid (by rw [HTl.out]; exact HW.out.next HE2.out rfl), HU2, HB2⟩
          case measure => exact HTs.out
end Go.Proofs.YtjlnffdklhmonaaDoor
