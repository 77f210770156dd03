/-
  ElabWords: the words of all sides, joined, are the words that stand in the nodes' texts.
-/
import Derived.BigQuiet
import Derived.Test.YtfjplhgajoehfaaGreatDoorQBad14
import Derived.Test.YtfjplhgajoehfaaGreatDoorQTxt14
set_option linter.unusedVariables false
set_option linter.unusedSimpArgs false
namespace Go.Proofs.YtfjplhgajoehfaaGreatDoor
open Go.RowKit
attribute [local irreducible] El.made El.visit El.finish

def WordsIn14 (l : List El.Nd) (w : World) (e : Ending) (w' : World) : Prop := Below w.heap.size w w' ∧ ((∃ (vs vl : Value) (s : El.St), e = .returned (.tuple #[.agg #[vs, vl], .agg #[.int .i64 0, .int .i64 0]]) ∧ SidesAt w' vs s.sides ∧ SlcAt laC 3 w' vl s.labels ∧ (El.plainL l = true → El.fitL 64 l = true → El.allW s.sides = El.txtL 64 l)) ∨ ∃ c a, e = .returned (.tuple #[.agg #[.slice none 0 0, .slice none 0 0], .agg #[.int .i64 c, .int .i64 a]]) ∧ c ≠ 0)
theorem doc_words {keys : List (List UInt8)} {l : List El.Nd} {w w' : World} {e : Ending} (h : MakePost keys l w e w') : WordsIn14 l w e w' := by
  have h := h.res
  obtain ⟨R, hR⟩ : ∃ R, R = El.made keys El.deepest l := ⟨_, rfl⟩
  rw [← hR] at h
  obtain ⟨hb, h⟩ := h
  refine ⟨hb, ?_⟩
  cases R with
  | ok s =>
    obtain ⟨vs, vl, K, rfl, hS, hL, _⟩ := h
    exact .inl ⟨vs, vl, s, rfl, ⟨K, hS⟩, hL.at, fun hp hf => El.words_made hR.symm hp hf⟩
  | bad c a => exact .inr ⟨c, a, h, El.made_coded hR.symm⟩
theorem side_words {w : World} {v : Value} {ss : List El.Side} (h : SidesAt w v ss) {i : Nat} {d : El.Side} (hi : ss[i]? = some d) : ∃ b o cap, v = .slice (some ⟨b, o, none⟩) ss.length cap ∧ ∃ pw cw, w.cell? ⟨b, o + i * 3 + 1, none⟩ = some (.slice pw d.words.length cw) ∧ TxsAt w (.slice pw d.words.length cw) d.words := by
  obtain ⟨K, rs, r1, r2⟩ := h
  have hlt := (List.getElem?_eq_some_iff.1 hi).1
  obtain ⟨_, _, r13⟩ := r1
  obtain ⟨b, o, cap, e, _, hc⟩ := r13 (by rw [r2.1]; omega)
  obtain ⟨r, hr, q1, q2, q3⟩ := r2.get hi
  have hcell := hc i r hr
  rw [r2.1] at e
  refine ⟨b, o, cap, e, r.w.a, r.w.cap, ?_⟩
  have e1 : w.cell? ⟨b, o + i * 3 + 1, none⟩ = some r.w.v := hcell 1 _ rfl
  have l1 := slcK_len q2
  have v1 : r.w.v = .slice r.w.a d.words.length r.w.cap := by unfold Hd.v; rw [l1]
  rw [v1] at e1 q2
  exact ⟨e1, q2.at⟩
set_option maxHeartbeats 8000000 in
set_option maxRecDepth 100000 in
theorem elabWords_any (l : List El.Nd) (v tv : Value) (t : List Sg.Sig) (w : World) (hl : NodesAt w (fun _ => True) v l) (hsz : El.sizeL l ≤ lim14) (ht : SgsAt w tv t) (hE : Envs14 w) : Calls Tryz.prog 5 #[v, tv] w (Ret (.bool true) w) := by
  have HE := Lib.hid hE
  have HLn := Lib.hid hl
  have HSz := Lib.hid hsz
  have HMk := Lib.hid (landedMake_any l v tv t w hl hsz ht hE.lib hE.ser hE.err)
  obtain ⟨⟨pv, cv, rfl, _⟩, _, _⟩ := hl
  obtain ⟨⟨ptv, ctv, rfl, _⟩, _, _⟩ := ht
  clear hsz hE
  go_enter Tryz.func5, Tryz.ntmps5
  go_wp2_with fail
  refine HMk.out.mono ?_
  intro e w1 hm
  obtain ⟨hb, hres⟩ := doc_words hm
  clear hm HMk
  rcases hres with ⟨vs, vl, s, rfl, hS, hL, hOk⟩ | ⟨c, a, rfl, hc⟩
  case inr =>
    have b2 := below_step (below_alloc w1 (.cells #[.slice none 0 0, .slice none 0 0] 29)) (below_alloc _ (.cells #[.int .i64 c, .int .i64 a] 32))
    have p1 := obj_kept (below_alloc (w1.alloc (.cells #[.slice none 0 0, .slice none 0 0] 29)) (.cells #[.int .i64 c, .int .i64 a] 32)) (obj_new w1 _ rfl #[.slice none 0 0, .slice none 0 0] 29)
    have p2 := obj_new (w1.alloc (.cells #[.slice none 0 0, .slice none 0 0] 29)) (w1.heap.size + 1) (by simp) #[.int .i64 c, .int .i64 a] 32
    obtain ⟨W, hW⟩ : ∃ W, W = (w1.alloc (.cells #[.slice none 0 0, .slice none 0 0] 29)).alloc (.cells #[.int .i64 c, .int .i64 a] 32) := ⟨_, rfl⟩
    rw [← hW] at b2 p1 p2
    have HBW := Lib.hid (below_step hb b2)
    have HP1 := Lib.hid p1
    have HP2 := Lib.hid p2
    have HFx := Lib.hid (fun wx (h : Below W.heap.size W wx) => fixed_any wx (HE.out.mono (below_step HBW.out h)))
    have hcq : (c == 0) = false := beq_eq_false_iff_ne.2 hc
    have hcn : (c != 0) = true := bne_iff_ne.2 hc
    have hci : ¬ c = 0 := hc
    clear hb b2 p1 p2 hc
    go_upto_region 2 with fail
    rw [← hW]
    clear hW
    go_wp2_with fail
    refine (HFx.out _ (Below.refl _ _)).mono ?_
    rintro e w2 ⟨rfl, hb⟩
    have HB2 := Lib.hid hb
    have q2 := mcell (obj_kept hb HP2.out) 0 rfl
    clear hb
    go_wp2_with fail
    refine (HFx.out _ HB2.out).mono ?_
    rintro e w3 ⟨rfl, hb⟩
    have HB3 := Lib.hid (below_step HB2.out hb)
    have r0 := mcell (obj_kept HB3.out HP1.out) 0 rfl
    have r1 := mcell (obj_kept HB3.out HP1.out) 1 rfl
    clear hb q2
    go_wp2
    go_ret
    exact ⟨rfl, below_step HBW.out HB3.out⟩
  obtain ⟨ps, cs, rfl, hsm⟩ := sides_head hS
  obtain ⟨⟨pl, cl, rfl, hlc⟩, hlm, _⟩ := hL
  obtain ⟨ns, hns⟩ : ∃ ns, ns = s.sides.length := ⟨_, rfl⟩
  have Hns := Lib.hid hns
  generalize s.labels.length = nl at *
  rw [← hns] at hS hsm ⊢
  have HOk := Lib.hid hOk
  have hzs : ns ≤ 9223372036854775807 := by unfold maxLen at hsm; omega
  have b2 := below_step (below_alloc w1 (.cells #[.slice ps ns cs, .slice pl nl cl] 29)) (below_alloc _ (.cells #[.int .i64 0, .int .i64 0] 32))
  have p1 := obj_kept (below_alloc (w1.alloc (.cells #[.slice ps ns cs, .slice pl nl cl] 29)) (.cells #[.int .i64 0, .int .i64 0] 32)) (obj_new w1 _ rfl #[.slice ps ns cs, .slice pl nl cl] 29)
  have p2 := obj_new (w1.alloc (.cells #[.slice ps ns cs, .slice pl nl cl] 29)) (w1.heap.size + 1) (by simp) #[.int .i64 0, .int .i64 0] 32
  obtain ⟨W, hW⟩ : ∃ W, W = (w1.alloc (.cells #[.slice ps ns cs, .slice pl nl cl] 29)).alloc (.cells #[.int .i64 0, .int .i64 0] 32) := ⟨_, rfl⟩
  rw [← hW] at b2 p1 p2
  have HBW := Lib.hid (below_step hb b2)
  have HSW := Lib.hid (hS.mono b2)
  have HP1 := Lib.hid p1
  have HP2 := Lib.hid p2
  have HFx := Lib.hid (fun wx (h : Below W.heap.size W wx) => fixed_any wx (HE.out.mono (below_step HBW.out h)))
  clear hb b2 p1 p2 hS hOk hsm hlm hns hlc
  go_upto_region 2 with fail
  rw [← hW]
  clear hW
  go_wp2_with fail
  refine (HFx.out _ (Below.refl _ _)).mono ?_
  rintro e w2 ⟨rfl, hb⟩
  have HB2 := Lib.hid hb
  have q2 := mcell (obj_kept hb HP2.out) 0 rfl
  have HL2 := Lib.hid (HLn.out.mono (below_step HBW.out hb))
  have HMay := Lib.hid (may_nodes HL2.out)
  clear hb
  go_wp2_with fail
  refine HMay.out.mono ?_
  rintro e w3 ⟨bm, ⟨rfl, rfl⟩, hpf⟩
  cases bm with
  | false =>
    clear hpf q2
    go_wp2_with fail
    refine (HFx.out _ HB2.out).mono ?_
    rintro e w4 ⟨rfl, hb⟩
    have HB3 := Lib.hid (below_step HB2.out hb)
    clear hb
    go_wp2
    go_ret
    exact ⟨rfl, below_step HBW.out HB3.out⟩
  | true =>
    obtain ⟨hp1, hp2⟩ := hpf rfl
    have hall := HOk.out hp1 hp2
    have HTl : Hid ((El.allW s.sides).length ≤ 4194304) := Lib.hid (by rw [hall]; exact Nat.le_trans (El.txtL_len 64 l) HSz.out)
    have HText := Lib.hid (fun (wx : World) (h : Below w2.heap.size w2 wx) => text_any 64 _ _ l wx (by omega) hp1 HSz.out (HL2.out.mono h))
    rw [← hall] at HText
    have hO := own_empty 9 txC 1 w2
    have hB := below_alloc w2 (.cells #[] 9)
    obtain ⟨B, hBe⟩ : ∃ B, B = w2.heap.size := ⟨_, rfl⟩
    obtain ⟨X, hX⟩ : ∃ X, X = w2.alloc (.cells #[] 9) := ⟨_, rfl⟩
    rw [← hX, ← hBe] at hO
    rw [← hX] at hB
    have HO0 : Hid (OwnTx B (.slice (some ⟨B, 0, none⟩) 0 0) (El.allW (s.sides.take 0)) X) := Lib.hid hO
    have HB0 := Lib.hid hB
    have HBe := Lib.hid hBe
    have HX := Lib.hid hX
    clear hpf hp1 hp2 hall hO hB hBe hX q2
    go_upto_region 5 with fail
    rw [← HX.out, ← HBe.out]
    go_wp2_with fail
    go_loopw [7, 8] (fun av iv wr => ∃ i : Nat, i ≤ ns ∧ iv = .int .i64 i ∧ Hid (OwnTx B av (El.allW (s.sides.take i)) wr) ∧ Hid (Below w2.heap.size w2 wr)) (fun _ iv _ => ns - (intOf iv).toNat)
    case atStart => exact ⟨0, Nat.zero_le _, rfl, HO0, HB0⟩
    case round =>
      obtain ⟨i, hi, rfl, HO, HBi⟩ := hrel
      clear HO0 HB0
      have d0 := mcell (obj_kept (below_step HB2.out HBi.out) HP1.out) 0 rfl
      by_cases hil : i < ns
      · obtain ⟨d, hd⟩ : ∃ d, s.sides[i]? = some d := ⟨_, List.getElem?_eq_getElem (by rw [← Hns.out]; exact hil)⟩
        obtain ⟨bs, os, cps, es, pw, cw, x1, hw⟩ := side_words HSW.out hd
        rw [← Hns.out] at es
        obtain ⟨rfl, rfl⟩ : ps = some ⟨bs, os, none⟩ ∧ cs = cps := by injection es with a1 a2 a3; exact ⟨a1, a3⟩
        have x1 := cell_below (below_step HB2.out HBi.out) x1
        have HS3 := Lib.hid (SlcAt.mono hw (below_step HB2.out HBi.out))
        have HTk : Hid (El.allW (s.sides.take (i + 1)) = El.allW (s.sides.take i) ++ d.words) := Lib.hid (by rw [List.take_add_one, hd]; simp [El.allW])
        have HLw : Hid ((El.allW (s.sides.take i)).length + d.words.length ≤ 4194304) := Lib.hid (by
          have h1 := HTl.out
          have h2 : El.allW s.sides = El.allW (s.sides.take (i + 1)) ++ El.allW (s.sides.drop (i + 1)) := by
            conv => lhs; rw [← List.take_append_drop (i + 1) s.sides]
            simp only [El.allW, List.flatMap_append]
          rw [h2, HTk.out, List.length_append, List.length_append] at h1
          omega)
        have i0 : (0 : Int) ≤ (i : Int) := by omega
        have il : (i : Int) < (ns : Int) := by omega
        clear es hd hw
        go_wp2_with (at_builtin; refine wpList_append_slc Tryz.underlying38 infoTx13 rfl (by decide) txC_len txC_cell rfl _ _ rfl B _ _ (El.allW (s.sides.take i)) d.words rfl HO.out rfl HS3.out (by have := HLw.out; omega) (by have := HLw.out; unfold maxLen; omega) (by have := HBi.out.size; rw [HBe.out]; exact this) ?_; intro v9 w9 h9 hg9; have HO9 := Lib.hid (HTk.out ▸ h9); have HB9 := Lib.hid (below_app HBi.out hg9 (by have := HO.out; rw [HBe.out] at this; exact this) HBi.out.size); clear h9 hg9)
        go_roundw
        case rel => exact ⟨i + 1, by omega, by go_num, HO9, HB9⟩
        case measure => simp [intOf]; omega
      · have HOe : Hid (OwnTx B _ (El.allW s.sides) wr) := Lib.hid (by
          have h1 := HO.out
          rw [List.take_of_length_le (by rw [← Hns.out]; omega)] at h1
          exact h1)
        have HTx := Lib.hid (HText.out _ HBi.out)
        clear HText
        go_wp2_with fail
        refine HTx.out.mono ?_
        rintro e w5 ⟨v5, rfl, ho5, hb5⟩
        have HTT := Lib.hid (texts_self _ _ _ _ (OwnR.at (HOe.out.mono hb5) txC_len) (OwnR.at ho5 txC_len))
        have HB5 := Lib.hid (below_step HBi.out hb5)
        clear ho5 hb5
        go_wp2_with fail
        refine HTT.out.mono ?_
        rintro e w6 ⟨rfl, nd, hu6⟩
        have HB6 : Hid (Below w2.heap.size w2 w6) := Lib.hid (by rw [hu6]; exact below_step HB5.out (below_drew _ _))
        clear hu6
        go_wp2
        go_ret
        exact ⟨rfl, below_step HBW.out (below_step HB2.out HB6.out)⟩
end Go.Proofs.YtfjplhgajoehfaaGreatDoor
