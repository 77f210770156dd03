/-
  The landed sayWord, sayKey: a word of a note, a witness's key.
-/
import Derived.Test.YtfjplhgajoehfaaGreatDoorQSay14
set_option linter.unusedVariables false
set_option linter.unusedSimpArgs false
namespace Go.Proofs.YtfjplhgajoehfaaGreatDoor
open Go.RowKit

theorem key_no {t : List Sg.Sig} {x : List UInt8} (h : x ∉ Sg.keys t) : Sg.find t x = -1 := Sg.find_no h
theorem key_yes {t : List Sg.Sig} {x : List UInt8} (h : x ∈ Sg.keys t) : ¬ Sg.find t x < 0 := fun h2 => Sg.find_neg.1 h2 h
theorem szN_text (c : Bool) (x : List UInt8) (args : List (List El.Nd)) (a : Int) : x.length ≤ El.sizeN (.mk c x args a) := by unfold El.sizeN; omega
set_option maxHeartbeats 1000000 in
set_option maxRecDepth 100000 in
theorem sayWord_any (E : Env14) (lev : Nat) : OpA E lev 4 62 (fun v => #[E.m, v]) (fun _ => True) El.sayOp := by
  intro S w1 hst n va s w hva har hsz hmk
  obtain ⟨c, x, args, a⟩ := n
  obtain ⟨⟨pa, ca, rfl, _⟩, _, _⟩ := hva
  have hx : x.length ≤ lim14 := Nat.le_trans (szN_text c x args a) (by omega)
  have hb := below_alloc w (.cells #[.bool c, .string (str x), .slice pa args.length ca, .int .i64 a] 89)
  have HC := Lib.hid (say_any E S w1 lev 0 x c pa args.length ca a s _ hx (by omega) (hmk.mono hb))
  show Calls _ _ #[E.m, .agg #[.bool c, .string (str x), .slice pa args.length ca, .int .i64 a]] _ (Out14 E S w1 lev 4 (.ok { s with said := s.said ++ [⟨0, x, a⟩] }))
  unfold Env14.m at HC ⊢
  clear hb hst hmk hsz hx
  go_enter Tryz.func62, Tryz.ntmps62
  go_wp2_with fail
  refine HC.out.mono ?_
  rintro e w2 ⟨rfl, hm2⟩
  have HM := Lib.hid hm2
  clear hm2 HC
  go_wp2
  go_ret
  exact ⟨rfl, HM.out⟩
set_option maxHeartbeats 1000000 in
set_option maxRecDepth 100000 in
theorem sayKey_any (E : Env14) (lev : Nat) : OpA E lev 4 65 (fun v => #[E.m, v]) (fun _ => True) (El.keyOp (Sg.keys E.t)) := by
  intro S w1 hst n va s w hva har hsz hmk
  obtain ⟨c, x, args, a⟩ := n
  obtain ⟨⟨pa, ca, rfl, _⟩, _, _⟩ := hva
  have hx : x.length ≤ lim14 := Nat.le_trans (szN_text c x args a) (by omega)
  obtain ⟨wb, hwb⟩ : ∃ wb, wb = w.alloc (.cells #[.bool c, .string (str x), .slice pa args.length ca, .int .i64 a] 89) := ⟨_, rfl⟩
  have hb : Below w.heap.size w wb := by rw [hwb]; exact below_alloc _ _
  have hbox : wb.heap[w.heap.size]? = some (.cells #[.bool c, .string (str x), .slice pa args.length ca, .int .i64 a] 89 (0, 0)) := by rw [hwb]; exact obj_new _ _ rfl _ _
  have hmb := hmk.mono hb
  have HMK := Lib.hid hmb
  obtain ⟨K, y, hP⟩ := hmb
  have hbd : Below wb.heap.size wb wb.drew := below_drew9 wb
  have hmd := HMK.out.mono hbd
  have HC := Lib.hid (find_any E.tv E.t x wb.drew (hst.tab.mono hmd.below))
  obtain ⟨⟨tp, tc, htv, _⟩, _, _⟩ := hst.tab
  have hob := (hP.mono hbd).obj
  have m27 : wb.drew.cell? ⟨E.p, 27, none⟩ = some (.slice tp E.t.length tc) := by rw [← htv]; exact mcell hob 27 rfl
  have b0 := mcell hbox 0 rfl
  have b1 := mcell hbox 1 rfl
  have b2 := mcell hbox 2 rfl
  have b3 := mcell hbox 3 rfl
  have HMD := Lib.hid hmd
  have HSAY := Lib.hid (fun w7 (hb7 : Below wb.drew.heap.size wb.drew w7) => say_any E S w1 lev 1 x c pa args.length ca a s w7 hx (by omega) (hmd.mono hb7))
  have HX := Lib.hid (fun c a w7 (hb7 : Below wb.drew.heap.size wb.drew w7) => fail_out (d := 4) (hmd.mono hb7) (fail_any c a w7))
  rw [htv] at HC
  clear hbox hb hst hmk hsz hx hbd hmd hob hP
  by_cases hk : x ∈ Sg.keys E.t
  · show Calls _ _ #[E.m, .agg #[.bool c, .string (str x), .slice pa args.length ca, .int .i64 a]] _ (Out14 E S w1 lev 4 (if x ∈ Sg.keys E.t then .ok { s with said := s.said ++ [⟨1, x, a⟩] } else .bad 148 a))
    rw [if_pos hk]
    have hq := key_yes hk
    generalize Sg.find E.t x = fx at *
    unfold Env14.m at HSAY ⊢
    clear htv hk
    go_enter Tryz.func65, Tryz.ntmps65
    go_wp2_with fail
    rw [← hwb]
    clear hwb
    go_region_law (first
      | (go_simp; go_at_call 88; refine HC.out.mono ?_; rintro e w7 ⟨rfl, hb7⟩; have HB7 := Lib.hid hb7))
    all_goals (
      have d0 := cell_below HB7.out b0
      have d1 := cell_below HB7.out b1
      have d2 := cell_below HB7.out b2
      have d3 := cell_below HB7.out b3
      clear hb7
      go_wp2_with fail
      refine (HSAY.out _ HB7.out).mono ?_
      rintro e w2 ⟨rfl, hm2⟩
      have HM := Lib.hid hm2
      clear hm2 HC d0 d1 d2 d3 b0 b1 b2 b3 m27
      go_wp2
      go_ret
      exact ⟨rfl, HM.out⟩)
  · show Calls _ _ #[E.m, .agg #[.bool c, .string (str x), .slice pa args.length ca, .int .i64 a]] _ (Out14 E S w1 lev 4 (if x ∈ Sg.keys E.t then .ok { s with said := s.said ++ [⟨1, x, a⟩] } else .bad 148 a))
    rw [if_neg hk]
    rw [key_no hk] at HC
    have HXX := Lib.hid (fun w7 (hb7 : Below wb.drew.heap.size wb.drew w7) => HX.out 148 a w7 hb7)
    unfold Env14.m
    clear htv hk HX
    go_enter Tryz.func65, Tryz.ntmps65
    go_wp2_with fail
    rw [← hwb]
    clear hwb
    go_region_law (first
      | (go_simp; go_at_call 88; refine HC.out.mono ?_; rintro e w7 ⟨rfl, hb7⟩; have HB7 := Lib.hid hb7))
    all_goals (
      have d3 := cell_below HB7.out b3
      clear hb7
      go_wp2_with fail
      refine (HXX.out _ HB7.out).mono ?_
      rintro e w2 ⟨ns, v, s2, rfl, he, hm2⟩
      have HE := Lib.hid he
      have HM := Lib.hid hm2
      clear hm2 he HC d3 b0 b1 b2 b3 m27
      go_wp2
      go_ret
      exact ⟨ns, v, s2, rfl, HE.out, HM.out⟩)
end Go.Proofs.YtfjplhgajoehfaaGreatDoor
