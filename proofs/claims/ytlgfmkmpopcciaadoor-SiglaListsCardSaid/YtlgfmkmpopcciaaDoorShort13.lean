/-
  The landed short: the sigla that are used, as they are written.
-/
import Derived.Test.YtlgfmkmpopcciaaDoorComp13
set_option linter.unusedVariables false
set_option linter.unusedSimpArgs false
namespace Go.Proofs.YtlgfmkmpopcciaaDoor
open Go.RowKit

def blC (b : Bool) : List Value := [.bool b]
abbrev BlsAt (w : World) (v : Value) (l : List Bool) : Prop := SlcAt blC 1 w v l
theorem blC_len (x : Bool) : (blC x).length = 1 := rfl
/-- a part of records -/
theorem slc_cut {α : Type} {f : α → List Value} {k : Nat} (hf : ∀ x, (f x).length = k) {w : World} {b o n cp : Nat} {t : List α} (h : SlcAt f k w (.slice (some ⟨b, o, none⟩) n cp) t) {i e : Nat} (hie : i ≤ e) (he : e ≤ t.length) (hn : 0 < t.length) : SlcAt f k w (.slice (some ⟨b, o + i * k, none⟩) (e - i) (cp - i)) ((t.take e).drop i) := by
  obtain ⟨⟨a, c, e1, hc⟩, hm, hk⟩ := h
  injection e1 with e1 e2 e3
  subst e1 e2 e3
  have hl : ((t.take e).drop i).length = e - i := by rw [List.length_drop, List.length_take]; omega
  refine ⟨⟨_, _, by rw [hl], by rw [hl]; omega⟩, by rw [hl]; omega, fun _ => ⟨b, o + i * k, _, by rw [hl], fun j x hx => ?_⟩⟩
  obtain ⟨b2, o2, c2, e2, r⟩ := hk hn
  injection e2 with a1 a2 a3
  injection a1 with a1
  injection a1 with a1 a4 a5
  subst a1 a4
  rw [List.getElem?_drop] at hx
  have hlt : i + j < e := by
    rcases Nat.lt_or_ge (i + j) e with h | h
    · exact h
    · rw [List.getElem?_eq_none (by rw [List.length_take]; omega)] at hx; cases hx
  rw [List.getElem?_take, if_pos hlt] at hx
  have := r (i + j) x hx
  rwa [Nat.add_mul, ← Nat.add_assoc] at this
theorem take_drop_next {α : Type} {l : List α} {i e : Nat} {x : α} (hie : i ≤ e) (h : l[e]? = some x) : (l.take (e + 1)).drop i = (l.take e).drop i ++ [x] := by
  obtain ⟨hl, _⟩ := List.getElem?_eq_some_iff.1 h
  rw [It.take_snoc h, List.drop_append_of_le_length (by rw [List.length_take]; omega)]
theorem drop_parts {α : Type} {l : List α} {i e : Nat} {x : α} (hie : i ≤ e) (h : l[e]? = some x) : l.drop i = (l.take e).drop i ++ x :: l.drop (e + 1) := by
  obtain ⟨hl, hx⟩ := List.getElem?_eq_some_iff.1 h
  have e1 : l = l.take e ++ l.drop e := (List.take_append_drop e l).symm
  have e2 : l.drop e = x :: l.drop (e + 1) := by rw [List.drop_eq_getElem_cons hl, hx]
  rw [e2] at e1
  have e3 : l.drop i = (l.take e ++ x :: l.drop (e + 1)).drop i := congrArg (List.drop i) e1
  rw [e3, List.drop_append_of_le_length (by rw [List.length_take]; omega)]
set_option maxHeartbeats 8000000 in
set_option maxRecDepth 100000 in
theorem short_any (P : List UInt8 → Bool) (v u : Value) (t : List Sg.Sig) (w : World) (h : SgsAt w v t) (hu : BlsAt w u ((Sg.keys t).map P)) (hn : t.length ≤ 100) (hk : ∀ x ∈ t, x.k.length ≤ 8) :
    Calls Tryd.prog 41 #[v, u] w (Ret (.string (str (Mt.join 32 (Sg.comp P [] (Sg.keys t))))) w) := by
  have HA := Lib.hid h
  have HU := Lib.hid hu
  have HK := Lib.hid hk
  have HTr := Lib.hid (fun (s p : ByteArray) wx => Tryd.strings_TrimPrefix s p wx)
  obtain ⟨⟨a, cp, rfl, hcap⟩, hm, _⟩ := h
  obtain ⟨⟨ua, ucp, rfl, hucap⟩, hum, _⟩ := hu
  obtain ⟨n, hnn⟩ : ∃ n, n = t.length := ⟨_, rfl⟩
  have Hn := Lib.hid hnn
  have hkl : (Sg.keys t).length = n := by unfold Sg.keys; rw [List.length_map]; exact hnn.symm
  have hul : ((Sg.keys t).map P).length = n := by rw [List.length_map]; exact hkl
  rw [hul] at HU hucap ⊢
  rw [← hnn] at HA hn hcap ⊢
  have HKl := Lib.hid hkl
  have HKs : Hid (∀ k ∈ Sg.keys t, k.length ≤ 8) := Lib.hid (fun k hk' => by
    unfold Sg.keys at hk'
    obtain ⟨x, hx, rfl⟩ := List.mem_map.1 hk'
    exact hk x hx)
  obtain ⟨K, hK⟩ : ∃ K, K = Sg.keys t := ⟨_, rfl⟩
  have HKe := Lib.hid hK
  rw [← hK] at HU HKl HKs ⊢
  obtain ⟨C, hC⟩ : ∃ C, C = Sg.comp P [] K := ⟨_, rfl⟩
  have HC := Lib.hid hC
  have HCw : Hid (C.length ≤ 100 ∧ ∀ x ∈ C, x.length ≤ 20) := Lib.hid (by
    have := comp_words P K [] (by simp) HKs.out
    rw [← hC, HKl.out] at this
    refine ⟨by simpa using Nat.le_trans this.1 (by simpa using hn), this.2⟩)
  rw [← hC]
  have HB0 := Lib.hid (bld_fresh w)
  have HW0 := Lib.hid (below_alloc w (.cells #[.pointer none, .slice none 0 0] 59))
  have HX0 : Hid ([] ++ Sg.comp P [] (K.drop 0) = C) := Lib.hid (by rw [HC.out]; rfl)
  clear hm hum hnn hkl hul hK hC hk
  go_enter Tryd.func41, Tryd.ntmps41
  go_wp2_with fail
  go_loopw [6] (fun fv wr => ∃ (f : Nat) (done : List (List UInt8)), f ≤ n + 1 ∧ fv = .int .i64 f ∧ Hid (Bld w.heap.size w.heap.size (spaced done) wr) ∧ Hid (Below w.heap.size w wr) ∧ Hid (done ++ Sg.comp P [] (K.drop f) = C)) (fun fv _ => n + 1 - (intOf fv).toNat)
  case atStart => exact ⟨0, [], Nat.zero_le _, rfl, HB0, HW0, HX0⟩
  case round =>
    obtain ⟨f, done, hf, rfl, HD, HW, HX⟩ := hrel
    clear HB0 HW0 HX0
    by_cases hlt : f < n
    · obtain ⟨b1, o1, d1, e1, r1⟩ := HA.out.2.2 (by rw [← Hn.out]; omega)
      rw [← Hn.out] at e1
      obtain ⟨rfl, rfl⟩ : a = some ⟨b1, o1, none⟩ ∧ cp = d1 := by injection e1 with a1 a2 a3; exact ⟨a1, a3⟩
      obtain ⟨b2, o2, d2, e2, r2⟩ := HU.out.2.2 (by rw [List.length_map, HKl.out]; omega)
      rw [List.length_map, HKl.out] at e2
      obtain ⟨rfl, rfl⟩ : ua = some ⟨b2, o2, none⟩ ∧ ucp = d2 := by injection e2 with a1 a2 a3; exact ⟨a1, a3⟩
      have HDl : Hid ((spaced done).length ≤ 2100) := Lib.hid (by
        have h1 : ∀ x ∈ done, x ∈ C := fun x hx => by rw [← HX.out]; exact List.mem_append_left _ hx
        have h2 : done.length ≤ 100 := by
          have := HCw.out.1
          rw [← HX.out, List.length_append] at this
          omega
        have := spaced_len done (fun x hx => HCw.out.2 x (h1 x hx))
        omega)
      have HUs := Lib.hid r2
      have f0 : (0 : Int) ≤ (f : Int) := by omega
      have fl : (f : Int) < (n : Int) := by omega
      have hcap' : n ≤ cp := hcap
      obtain ⟨wo, hwo⟩ : ∃ wo, wo = wr := ⟨_, rfl⟩
      rw [← hwo] at HD HW ⊢
      have HI0 : Hid (∀ k ∈ (K.take f).drop f, P k = true) := Lib.hid (fun k hk => by rw [List.drop_eq_nil_of_le (by rw [List.length_take]; omega)] at hk; cases hk)
      clear e1 r1 e2 r2 hwo
      go_wp2_with fail
      go_loopw [7] (fun ev wi => ∃ e : Nat, f ≤ e ∧ e ≤ n ∧ ev = .int .i64 e ∧ Hid (∀ k ∈ (K.take e).drop f, P k = true) ∧ Hid (wi = wo)) (fun ev _ => n - (intOf ev).toNat)
      case atStart => exact ⟨f, Nat.le_refl _, by omega, rfl, HI0, Lib.hid rfl⟩
      case round =>
        obtain ⟨e, hfe, hen, rfl, HI, HWI⟩ := hrel
        rw [← HWI.out] at HD HW
        clear HI0
        obtain ⟨wi, hwi⟩ : ∃ wi, wi = wr := ⟨_, rfl⟩
        rw [← hwi] at HD HW HWI ⊢
        clear hwi
        have HQ : Hid (Sg.keys ((t.take e).drop f) = (K.take e).drop f) := Lib.hid (by rw [HKe.out]; unfold Sg.keys; rw [List.map_drop, List.map_take])
        have e0 : (0 : Int) ≤ (e : Int) := by omega
        by_cases hel : e < n
        · obtain ⟨k, hk⟩ : ∃ k, K[e]? = some k := ⟨_, List.getElem?_eq_getElem (by rw [HKl.out]; exact hel)⟩
          have y0 : wi.cell? ⟨b2, o2 + e, none⟩ = some (.bool (P k)) := by
            have := (HUs.out e (P k) (by rw [List.getElem?_map, hk]; rfl)).mono HW.out 0 _ rfl
            rwa [Nat.mul_one, Nat.add_zero] at this
          have el : (e : Int) < (n : Int) := by omega
          cases hp : P k with
          | true =>
            have HN : Hid (∀ m ∈ (K.take (e + 1)).drop f, P m = true) := Lib.hid (fun m hm => by
              rw [take_drop_next hfe hk] at hm
              rcases List.mem_append.1 hm with hm | hm
              · exact HI.out m hm
              · rw [List.mem_singleton] at hm; subst hm; exact hp)
            rw [hp] at y0
            clear hk hp HQ
            go_wp2
            go_roundw
            case rel => exact ⟨e + 1, by omega, by omega, by go_num, HN, HWI⟩
            case measure => simp [intOf]; omega
          | false =>
          have HX : Hid (done ++ Sg.emit ((K.take e).drop f) ++ Sg.comp P [] (K.drop (e + 1)) = C) := Lib.hid (by
            rw [← HX.out, drop_parts hfe hk, (comp_step P _ HI.out).2 k _ hp, List.append_assoc])
          rw [hp] at y0
          clear hk hp
          have hse : f ≤ e := hfe
          have c1 : (0 : Int) ≤ (f : Int) := by omega
          have c2 : (f : Int) ≤ (e : Int) := by omega
          have c3 : (e : Int) ≤ (cp : Int) := by omega
          have c4 : (f : Int) < (cp : Int) := by omega
          have kw : IntKind.i64.wrap ((e : Int) + 1) = (e : Int) + 1 := IntWalk.i64_in _ (by omega)
          have kw2 : wrap64 ((e : Int) + 1) = (e : Int) + 1 := w64 (by omega) (by omega)
          have HRn : Hid (∀ W, Below w.heap.size wi W → SgsAt W (.slice (some ⟨b1, o1 + f * 2, none⟩) (e - f) (cp - f)) ((t.take e).drop f)) := Lib.hid (fun W hW => by
            have := slc_cut sgC_len (HA.out.mono (HW.out.trans hW)) hfe (by rw [← Hn.out]; exact hen) (by rw [← Hn.out]; omega)
            exact this)
          have hrl : ((t.take e).drop f).length ≤ 100 := by rw [List.length_drop, List.length_take]; omega
          have hrk : ∀ x ∈ (t.take e).drop f, x.k.length ≤ 8 := fun x hx => HK.out x (List.mem_of_mem_take (List.mem_of_mem_drop hx))
          have hdl := HDl.out
          have HWr := Lib.hid (writeRun_any w.heap.size w.heap.size (spaced done) _ _ wi HD.out HW.out.size HRn.out hrl hrk (by omega))
          rw [HQ.out] at HWr
          have HE2 : Hid (spaced done ++ spaced (Sg.emit ((K.take e).drop f)) = spaced (done ++ Sg.emit ((K.take e).drop f))) := Lib.hid (spaced_app _ _).symm
          rw [HE2.out] at HWr
          clear HRn hrl hrk hdl HE2
          go_wp2_with fail
          refine HWr.out.mono ?_
          rintro e3 w3 ⟨rfl, hd3, hb3⟩
          have HD3 := Lib.hid hd3
          have HW3 := Lib.hid (HW.out.trans hb3)
          clear hd3 hb3 HWr HD HW
          go_wp2
          go_roundw
          case rel => exact ⟨e + 1, done ++ Sg.emit ((K.take e).drop f), by omega, by go_num, HD3, HW3, HX⟩
          case measure => simp [intOf]; omega

        · obtain rfl : e = n := by omega
          have el : ¬ (e : Int) < (e : Int) := by omega
          have HX : Hid (done ++ Sg.emit ((K.take e).drop f) ++ Sg.comp P [] (K.drop (e + 1)) = C) := Lib.hid (by
            have h1 : (K.take e).drop f = K.drop f := by rw [List.take_of_length_le (by rw [HKl.out]; exact Nat.le_refl _)]
            have h2 : K.drop (e + 1) = [] := List.drop_eq_nil_of_le (by rw [HKl.out]; omega)
            have h3 := (comp_step P _ HI.out).1
            rw [h1] at h3 ⊢
            rw [h2, ← HX.out, h3]
            simp [Sg.comp, Sg.emit])
          have hse : f ≤ e := hfe
          have c1 : (0 : Int) ≤ (f : Int) := by omega
          have c2 : (f : Int) ≤ (e : Int) := by omega
          have c3 : (e : Int) ≤ (cp : Int) := by omega
          have c4 : (f : Int) < (cp : Int) := by omega
          have kw : IntKind.i64.wrap ((e : Int) + 1) = (e : Int) + 1 := IntWalk.i64_in _ (by omega)
          have kw2 : wrap64 ((e : Int) + 1) = (e : Int) + 1 := w64 (by omega) (by omega)
          have HRn : Hid (∀ W, Below w.heap.size wi W → SgsAt W (.slice (some ⟨b1, o1 + f * 2, none⟩) (e - f) (cp - f)) ((t.take e).drop f)) := Lib.hid (fun W hW => by
            have := slc_cut sgC_len (HA.out.mono (HW.out.trans hW)) hfe (by rw [← Hn.out]; exact hen) (by rw [← Hn.out]; omega)
            exact this)
          have hrl : ((t.take e).drop f).length ≤ 100 := by rw [List.length_drop, List.length_take]; omega
          have hrk : ∀ x ∈ (t.take e).drop f, x.k.length ≤ 8 := fun x hx => HK.out x (List.mem_of_mem_take (List.mem_of_mem_drop hx))
          have hdl := HDl.out
          have HWr := Lib.hid (writeRun_any w.heap.size w.heap.size (spaced done) _ _ wi HD.out HW.out.size HRn.out hrl hrk (by omega))
          rw [HQ.out] at HWr
          have HE2 : Hid (spaced done ++ spaced (Sg.emit ((K.take e).drop f)) = spaced (done ++ Sg.emit ((K.take e).drop f))) := Lib.hid (spaced_app _ _).symm
          rw [HE2.out] at HWr
          clear HRn hrl hrk hdl HE2
          go_wp2_with fail
          refine HWr.out.mono ?_
          rintro e3 w3 ⟨rfl, hd3, hb3⟩
          have HD3 := Lib.hid hd3
          have HW3 := Lib.hid (HW.out.trans hb3)
          clear hd3 hb3 HWr HD HW
          go_wp2
          go_roundw
          case rel => exact ⟨e + 1, done ++ Sg.emit ((K.take e).drop f), by omega, by go_num, HD3, HW3, HX⟩
          case measure => simp [intOf]; omega

    · have HE : Hid (done = C) := Lib.hid (by
        rw [← HX.out, List.drop_eq_nil_of_le (by rw [HKl.out]; omega)]
        simp [Sg.comp, Sg.emit])
      rw [HE.out] at HD
      have HTt := Lib.hid (fun wx => HTr.out (str (spaced C)) ⟨#[32]⟩ wx)
      have hsp : Lib.trimPrefix (str (spaced C)).data.toList (⟨#[32]⟩ : ByteArray).data.toList = Mt.join 32 C := by rw [str_data]; exact trim_spaced C
      rw [hsp] at HTt
      clear hsp
      go_wp2_with fail
      refine (string_bld w.heap.size w.heap.size _ _ HD.out HW.out.size).mono ?_
      rintro e3 w3 ⟨rfl, hb3⟩
      have HB3 := Lib.hid (HW.out.trans hb3)
      clear hb3
      go_wp2_with fail
      refine (HTt.out _).mono ?_
      rintro e4 w4 ⟨rfl, rfl⟩
      go_wp2
      go_ret
      exact ⟨rfl, HB3.out⟩
end Go.Proofs.YtlgfmkmpopcciaaDoor
