/-
  The walk of the law LexerGaps: it returns true.
-/
import Derived.Test.YtjlnffdklhmonaaDoorLawParts5
import Derived.Deep.RegionHeld3
import Derived.Deep.DrawnRows
set_option linter.unusedVariables false
set_option linter.unusedSimpArgs false
namespace Go.Proofs.YtjlnffdklhmonaaDoor
open Go.RowKit
attribute [local go_sem ↓] Go.wp_at_zero Go.wp_at_succ

def pct (c : UInt8) : Bool := decide (c.toNat = 37)
theorem any_next {l : List UInt8} {i : Nat} {c : UInt8} (h : l[i]? = some c) (hc : pct c = false) (ha : (l.take i).any pct = false) : (l.take (i + 1)).any pct = false := by
  rw [List.take_add_one, h, List.any_append, ha]
  simp [hc]
theorem any_yes {l : List UInt8} {i : Nat} {c : UInt8} (h : l[i]? = some c) (hc : pct c = true) : l.any pct = true := by
  rw [List.any_eq_true]
  exact ⟨c, List.mem_of_getElem? h, hc⟩

set_option maxHeartbeats 1000000 in
set_option maxRecDepth 100000 in
theorem open_any (s : ByteArray) (hs : s.size ≤ 140737488355328) (w : World) : Calls Tryd.prog 21 #[.string s] w (Is (.bool (s.data.toList.any pct)) w) := by
  go_enter Tryd.func21, Tryd.ntmps21
  go_wp2_with fail
  go_loopw [3] (fun iv wr => ∃ k : Nat, k ≤ s.size ∧ iv = .int .i64 k ∧ Hid ((s.data.toList.take k).any pct = false) ∧ wr = w) (fun iv _ => s.size - (intOf iv).toNat)
  case atStart => exact ⟨0, Nat.zero_le _, rfl, Lib.hid rfl, rfl⟩
  case round =>
    obtain ⟨k, hk, rfl, HA, rfl⟩ := hrel
    by_cases hlt : k < s.size
    · have k0 : (0 : Int) ≤ (k : Int) := by omega
      have k1 : (k : Int) < (s.size : Int) := by omega
      have hg := byte_at s k hlt
      by_cases h37 : s[k].toNat = 37
      · have h37i : (s[k].toNat : Int) = 37 := by omega
        have HO := Lib.hid (any_yes hg (decide_eq_true h37))
        clear h37 hg
        go_wp2_with fail
        go_ret
        exact ⟨ret_bool HO.out.symm, rfl⟩
      · have h37i : ((s[k].toNat : Int) == 37) = false := bne0 (by omega)
        have HO := Lib.hid (any_next hg (decide_eq_false h37) HA.out)
        clear h37 hg
        go_wp2_with fail
        go_roundw
        case rel => exact ⟨k + 1, by omega, by go_num, HO, by trivial⟩
        case measure => simp [intOf]; omega
    · have hT : (s.data.toList.take k) = s.data.toList := List.take_of_length_le (by rw [← Lib.size_eq]; omega)
      have HA2 := HA.out
      rw [hT] at HA2
      have HO := Lib.hid HA2
      clear HA2 hT
      go_wp2_with fail
      go_ret
      exact ⟨ret_bool HO.out.symm, rfl⟩

/-! ### the four gaps -/
def gapB (j : Nat) : ByteArray := match j with
  | 0 => ⟨#[32]⟩
  | 1 => ⟨#[10, 9]⟩
  | 2 => ⟨#[37, 32, 97, 32, 123, 114, 101, 109, 97, 114, 107, 10]⟩
  | _ => ⟨#[13, 10, 37, 32, 92, 49, 10, 32]⟩
theorem gap_has (j : Nat) : ∃ gs, Lx.Gap gs ∧ Lx.flat gs = (gapB j).data.toList ∧ (gapB j).size ≤ 12 := by
  match j with
  | 0 => exact ⟨Lx.gap0, Lx.gap0_is, rfl, by decide⟩
  | 1 => exact ⟨Lx.gap1, Lx.gap1_is, rfl, by decide⟩
  | 2 => exact ⟨Lx.gap2, Lx.gap2_is, rfl, by decide⟩
  | j + 3 => exact ⟨Lx.gap3, Lx.gap3_is, rfl, by show (8 : Nat) ≤ 12; omega⟩
theorem gap_cell (w : World) (j : Nat) (hj : j < 4) : (w.alloc (.cells #[.string ⟨#[32]⟩, .string ⟨#[10, 9]⟩, .string ⟨#[37, 32, 97, 32, 123, 114, 101, 109, 97, 114, 107, 10]⟩, .string ⟨#[13, 10, 37, 32, 92, 49, 10, 32]⟩] 9)).cell? ⟨w.heap.size, j, none⟩ = some (.string (gapB j)) := by
  rcases (show j = 0 ∨ j = 1 ∨ j = 2 ∨ j = 3 by omega) with rfl | rfl | rfl | rfl <;> simp [gapB]
theorem which_gap (x : Int) : ∃ j : Nat, j < 4 ∧ (x.tmod 4 + 4).tmod 4 = (j : Int) ∧ -4 < x.tmod 4 ∧ x.tmod 4 < 4 := by
  have key : ∀ y : Int, 0 ≤ y → 0 ≤ y.tmod 4 ∧ y.tmod 4 < 4 := fun y hy => by rw [Int.tmod_eq_emod_of_nonneg hy]; omega
  have h1 : -4 < x.tmod 4 ∧ x.tmod 4 < 4 := by
    by_cases hx : 0 ≤ x
    · have := key x hx; omega
    · have := key (-x) (by omega)
      rw [Int.neg_tmod] at this
      omega
  have h2 := key (x.tmod 4 + 4) (by omega)
  exact ⟨((x.tmod 4 + 4).tmod 4).toNat, by omega, by omega, h1.1, h1.2⟩
theorem cut_text (s g : ByteArray) (n : Nat) (hn : n ≤ s.size) : (s.extract 0 n ++ g ++ s.extract n s.size).data.toList = s.data.toList.take n ++ (g.data.toList ++ s.data.toList.drop n) := by
  rw [cat_text, cat_text, List.append_assoc, drop_text]
  congr 1
  rw [ByteArray.data_extract, Array.toList_extract]
  simp

set_option maxHeartbeats 2000000 in
set_option maxRecDepth 100000 in
theorem gaps_bad (s : ByteArray) (i x : Int) (hs : s.size ≤ 549755813888) (hok : Lx.lexOk s.data.toList = false) (w : World) (hT : Tabs w) : Calls Tryd.prog 6 #[.string s, .int .i64 i, .int .i64 x] w (Ret (.bool true) w) := by
  have HT := Lib.hid hT
  obtain ⟨c, hcd⟩ : ∃ c, c = Lx.lexC s.data.toList := ⟨_, rfl⟩
  obtain ⟨a, had⟩ : ∃ a, a = Lx.lexA s.data.toList := ⟨_, rfl⟩
  have HD := Lib.hid (fun w hT => lex_is s (by omega) _ c a rfl hcd.symm had.symm w hT)
  obtain ⟨k1, k2⟩ := Lx.lex_no hok
  have hc0 : (c == 0) = false := by rw [hcd]; exact beq_eq_false_iff_ne.2 k2
  have hc1 : (c != 0) = true := by simp only [bne, hc0]; rfl
  clear hcd had k1 k2 hok hs hT
  go_enter Tryd.func6, Tryd.ntmps6
  go_wp2_with fail
  refine (HD.out _ HT.out).mono ?_
  rintro e w1 ⟨v1, rfl, h1, hb1⟩
  have HB1 := Lib.hid (below_step hb1 (below_alloc w1 (.cells #[.int .i64 c, .int .i64 a] 25)))
  have HF1 := Lib.hid (flt_new w1 c a)
  clear h1 hb1
  go_wp2_with fail
  refine (fixed_any _ (HT.out.mono HB1.out)).mono ?_
  rintro e w2 ⟨rfl, hb2⟩
  have HB2 := Lib.hid (below_step HB1.out hb2)
  have HF2 := Lib.hid (HF1.out.mono hb2)
  clear hb2
  have x0 := HF2.out.c0
  go_wp2_with fail
  refine (fixed_any _ (HT.out.mono HB2.out)).mono ?_
  rintro e w3 ⟨rfl, hb3⟩
  have HB3 := Lib.hid (below_step HB2.out hb3)
  clear hb3 x0
  go_wp2_with fail
  go_ret
  exact ⟨rfl, HB3.out⟩

set_option maxHeartbeats 2000000 in
set_option maxRecDepth 100000 in
theorem gaps_out (s : ByteArray) (i x : Int) (hs : s.size ≤ 549755813888) (hok : Lx.lexOk s.data.toList = true) (hi : i < 0 ∨ ((Lx.lexL s.data.toList).length : Int) < i) (w : World) (hT : Tabs w) : Calls Tryd.prog 6 #[.string s, .int .i64 i, .int .i64 x] w (Ret (.bool true) w) := by
  have HT := Lib.hid hT
  have k3 := (Lx.lex_yes hok).2.2.2
  obtain ⟨L, hL⟩ : ∃ L, L = Lx.lexL s.data.toList := ⟨_, rfl⟩
  have HD := Lib.hid (fun w hT => lex_is s (by omega) L 0 0 hL.symm k3.1 k3.2 w hT)
  rw [← hL] at hi
  clear k3 hok hs hT hL
  by_cases hi0 : i < 0
  · clear hi
    go_enter Tryd.func6, Tryd.ntmps6
    go_wp2_with fail
    refine (HD.out _ HT.out).mono ?_
    rintro e w1 ⟨v1, rfl, h1, hb1⟩
    have HB1 := Lib.hid (below_step hb1 (below_alloc w1 (.cells #[.int .i64 0, .int .i64 0] 25)))
    have HF1 := Lib.hid (flt_new w1 0 0)
    clear h1 hb1
    go_wp2_with fail
    refine (fixed_any _ (HT.out.mono HB1.out)).mono ?_
    rintro e w2 ⟨rfl, hb2⟩
    have HB2 := Lib.hid (below_step HB1.out hb2)
    have HF2 := Lib.hid (HF1.out.mono hb2)
    clear hb2
    have x0 := HF2.out.c0
    go_wp2_with fail
    refine (fixed_any _ (HT.out.mono HB2.out)).mono ?_
    rintro e w3 ⟨rfl, hb3⟩
    have HB3 := Lib.hid (below_step HB2.out hb3)
    clear hb3 x0
    go_wp2_with fail
    go_ret
    exact ⟨rfl, HB3.out⟩
  · have hi1 : (L.length : Int) < i := by omega
    have hi2 : ¬ i < 0 := hi0
    clear hi hi0
    go_enter Tryd.func6, Tryd.ntmps6
    go_wp2_with fail
    refine (HD.out _ HT.out).mono ?_
    rintro e w1 ⟨v1, rfl, h1, hb1⟩
    have HB1 := Lib.hid (below_step hb1 (below_alloc w1 (.cells #[.int .i64 0, .int .i64 0] 25)))
    have HF1 := Lib.hid (flt_new w1 0 0)
    obtain ⟨p1, c1, e1, _⟩ := h1.at.1
    subst e1
    clear h1 hb1
    go_wp2_with fail
    refine (fixed_any _ (HT.out.mono HB1.out)).mono ?_
    rintro e w2 ⟨rfl, hb2⟩
    have HB2 := Lib.hid (below_step HB1.out hb2)
    have HF2 := Lib.hid (HF1.out.mono hb2)
    clear hb2
    have x0 := HF2.out.c0
    go_wp2_with fail
    refine (fixed_any _ (HT.out.mono HB2.out)).mono ?_
    rintro e w3 ⟨rfl, hb3⟩
    have HB3 := Lib.hid (below_step HB2.out hb3)
    clear hb3 x0
    go_wp2_with fail
    go_ret
    exact ⟨rfl, HB3.out⟩

set_option maxHeartbeats 4000000 in
set_option maxRecDepth 100000 in
theorem gaps_tok (s : ByteArray) (i : Nat) (x : Int) (hs : s.size ≤ 549755813888) (hok : Lx.lexOk s.data.toList = true) (hi : i < (Lx.lexL s.data.toList).length) (w : World) (hT : Tabs w) : Calls Tryd.prog 6 #[.string s, .int .i64 (i : Int), .int .i64 x] w (Ret (.bool true) w) := by
  have HT := Lib.hid hT
  have k3 := (Lx.lex_yes hok).2.2.2
  obtain ⟨j, hj4, hj, hx1, hx2⟩ := which_gap x
  obtain ⟨gs, hg, hgf, hgs⟩ := gap_has j
  obtain ⟨n, t, ht, htn, hn, hgap⟩ := Lx.gap_tok hok hi
  obtain ⟨g1, g2⟩ := hgap gs hg
  rw [hgf, ← cut_text s (gapB j) n (by rw [Lib.size_eq]; exact hn)] at g1 g2
  obtain ⟨X, hX⟩ : ∃ X, X = s.extract 0 n ++ gapB j ++ s.extract n s.size := ⟨_, rfl⟩
  have hn' : n ≤ s.size := by rw [Lib.size_eq]; exact hn
  have hXs : X.size ≤ s.size + 12 := by
    rw [hX, ByteArray.size_append, ByteArray.size_append, ByteArray.size_extract, ByteArray.size_extract]
    omega
  rw [← hX] at g1 g2
  have k4 := (Lx.lex_yes g1).2.2.2
  obtain ⟨L, hL⟩ : ∃ L, L = Lx.lexL s.data.toList := ⟨_, rfl⟩
  obtain ⟨M, hM⟩ : ∃ M, M = Lx.lexL X.data.toList := ⟨_, rfl⟩
  have hLr := lexL_room s.data.toList
  have hMr := lexL_room X.data.toList
  rw [← Lib.size_eq] at hLr hMr
  have HD := Lib.hid (fun w hT => lex_is s (by omega) L 0 0 hL.symm k3.1 k3.2 w hT)
  have HGX := Lib.hid (fun w hT => lex_is X (by omega) M 0 0 hM.symm k4.1 k4.2 w hT)
  rw [← hL] at hi ht g2 hLr
  rw [← hM] at g2 hMr
  have hLl := room_len L
  have hMl := room_len M
  have HL := Lib.hid (show L.length * 32 ≤ 140737488355328 ∧ M.length * 32 ≤ 140737488355328 from ⟨by omega, by omega⟩)
  have HG2 := Lib.hid g2
  have HTt := Lib.hid ht
  have HG : Hid (∀ w, Tabs w → Calls Tryd.prog 10 #[.string (s.extract 0 n ++ gapB j ++ s.extract n s.size)] w (LexIs M 0 0 w)) := Lib.hid (fun w hT => by rw [← hX]; exact HGX.out w hT)
  obtain ⟨R, hR⟩ : ∃ R, x.tmod 4 = R := ⟨_, rfl⟩
  rw [hR] at hj hx1 hx2
  obtain ⟨Q, hQ⟩ : ∃ Q, R + 4 = Q := ⟨_, rfl⟩
  rw [hQ] at hj
  have w1 : IntKind.i64.wrap Q = Q := IntWalk.i64_in _ (by omega)
  have w2 : wrap64 Q = Q := w64 (by omega) (by omega)
  have n0 : (0 : Int) ≤ (n : Int) := by omega
  have n1 : (n : Int) ≤ (s.size : Int) := by omega
  have i0 : (0 : Int) ≤ (i : Int) := by omega
  have i1 : (i : Int) < (L.length : Int) := by omega
  have i2 : ¬ (L.length : Int) < (i : Int) := by omega
  have j0 : (0 : Int) ≤ (j : Int) := by omega
  have j1 : (j : Int) < 4 := by omega
  have z1 : (s.extract 0 n).size + (gapB j).size ≤ 9223372036854775807 := by rw [ByteArray.size_extract]; omega
  have z2 : (s.extract 0 n ++ gapB j).size + (s.extract n s.size).size ≤ 9223372036854775807 := by rw [ByteArray.size_append, ByteArray.size_extract, ByteArray.size_extract]; omega
  have e1 : ∀ wx, (Op.stringOp .add (s.extract 0 n) (gapB j)).run Tryd.prog wx = .ok (.string (s.extract 0 n ++ gapB j)) wx := fun wx => by apply run_string_add_sum; exact z1
  have e2 : ∀ wx, (Op.stringOp .add (s.extract 0 n ++ gapB j) (s.extract n s.size)).run Tryd.prog wx = .ok (.string (s.extract 0 n ++ gapB j ++ s.extract n s.size)) wx := fun wx => by apply run_string_add_sum; exact z2
  clear z1 z2
  have HJ4 := Lib.hid hj4
  clear k3 k4 hok hs hT hL hM hLr hMr hLl hMl hgap hg hgf hgs hX hXs g1 g2 ht hn hn' hi HGX
  go_enter Tryd.func6, Tryd.ntmps6
  go_wp2_with fail
  refine (HD.out _ HT.out).mono ?_
  rintro e w1 ⟨v1, rfl, h1, hb1⟩
  have HB1 := Lib.hid (below_step hb1 (below_alloc w1 (.cells #[.int .i64 0, .int .i64 0] 25)))
  have HF1 := Lib.hid (flt_new w1 0 0)
  have HV1 := Lib.hid (h1.mono (below_alloc w1 (.cells #[.int .i64 0, .int .i64 0] 25)))
  clear h1 hb1
  obtain ⟨p1, c1, ev1, _⟩ := HV1.out.at.1
  subst ev1
  go_wp2_with fail
  refine (fixed_any _ (HT.out.mono HB1.out)).mono ?_
  rintro e w3 ⟨rfl, hb3⟩
  have hb3' := below_step hb3 (below_alloc w3 (.cells #[.string ⟨#[32]⟩, .string ⟨#[10, 9]⟩, .string ⟨#[37, 32, 97, 32, 123, 114, 101, 109, 97, 114, 107, 10]⟩, .string ⟨#[13, 10, 37, 32, 92, 49, 10, 32]⟩] 9))
  obtain ⟨G, hG⟩ : ∃ G, G = w3.alloc (.cells #[.string ⟨#[32]⟩, .string ⟨#[10, 9]⟩, .string ⟨#[37, 32, 97, 32, 123, 114, 101, 109, 97, 114, 107, 10]⟩, .string ⟨#[13, 10, 37, 32, 92, 49, 10, 32]⟩] 9) := ⟨_, rfl⟩
  have HB3 := Lib.hid (below_step HB1.out hb3')
  have HF3 := Lib.hid (HF1.out.mono hb3)
  have HV3 := Lib.hid (HV1.out.mono hb3')
  have HC3 := Lib.hid (gap_cell w3 j HJ4.out)
  rw [← hG] at HB3 HV3 HC3
  clear hb3 hb3'
  have x0 := HF3.out.c0
  obtain ⟨_, _, hcell⟩ := HV3.out.at
  obtain ⟨b6, o6, c6', e6, hc6⟩ := hcell (by omega)
  obtain ⟨rfl, rfl⟩ : p1 = some ⟨b6, o6, none⟩ ∧ c1 = c6' := by injection e6 with a1 a2 a3; exact ⟨a1, a3⟩
  have d1 := (hc6 i t HTt.out).a
  rw [htn] at d1
  rw [hG] at d1
  have HGe := Lib.hid hG
  clear e6 hc6 hcell htn hG
  go_wp2_with fail
  rw [← HGe.out]
  clear x0 d1
  have cjA : ((G.alloc (.cells #[.int .i64 0, .int .i64 0] 25)).drew).cell? ⟨w3.heap.size, j, none⟩ = some (.string (gapB j)) := by
    have h := cell_below (below_alloc G (.cells #[.int .i64 0, .int .i64 0] 25)) HC3.out
    simpa using h
  have cjB : (G.drew).cell? ⟨w3.heap.size, j, none⟩ = some (.string (gapB j)) := by
    have h := HC3.out
    simpa using h
  have HcA := Lib.hid cjA
  have HcB := Lib.hid cjB
  have HKA : Hid (Below G.heap.size G ((G.alloc (.cells #[.int .i64 0, .int .i64 0] 25)).drew)) := Lib.hid (below_alloc G (.cells #[.int .i64 0, .int .i64 0] 25)).drew
  have HKB : Hid (Below G.heap.size G (G.drew)) := Lib.hid (Below.refl _ G).drew
  have HTA := Lib.hid (HT.out.mono (below_step HB3.out HKA.out))
  have HTB := Lib.hid (HT.out.mono (below_step HB3.out HKB.out))
  have HFA : Hid (FltAt ((G.alloc (.cells #[.int .i64 0, .int .i64 0] 25)).drew) G.heap.size 0 0) := Lib.hid (by
    have h := flt_new G 0 0
    exact ⟨by simp, by simp, by simp, by simp⟩)
  clear cjA cjB
  have cjG := HC3.out
  have hne := World.new_ne G _ cjG
  go_region_held3 (fun w' => w'.cell? ⟨w3.heap.size, j, none⟩ = some (.string (gapB j))) (go_keep) (first | ((go_at_call 10; refine (HG.out _ HTA.out).mono ?_; rintro e w7 ⟨v7, rfl, h7, hb7⟩; have cj7 := cell_below hb7 HcA.out; have HF7 := HFA.out.mono hb7; have q0 := HF7.c0; have q1 := HF7.c1; have q2 := HF7.f0; have q3 := HF7.f1)) | ((go_at_call 10; refine (HG.out _ HTB.out).mono ?_; rintro e w7 ⟨v7, rfl, h7, hb7⟩; have cj7 := cell_below hb7 HcB.out)))
  · have HK : Hid (Below G.heap.size G (w7.alloc (.cells #[.int .i64 0, .int .i64 0] 25))) := Lib.hid (below_step HKB.out (below_step hb7 (below_alloc w7 (.cells #[.int .i64 0, .int .i64 0] 25))))
    have HU := Lib.hid (h7.mono (below_alloc w7 (.cells #[.int .i64 0, .int .i64 0] 25)))
    have HFz := Lib.hid (flt_new w7 0 0)
    clear h7 hb7 cj7
    have y0 := HFz.out.c0
    go_wp2_with fail
    refine (plain_of v7 M _ HG2.out HL.out.2 _ HU.out.at).mono ?_
    rintro e w8 ⟨v8, rfl, h8, hb8⟩
    have HK8 := Lib.hid (below_step HK.out hb8)
    have HX8 := Lib.hid h8
    clear h8 hb8
    go_wp2_with fail
    refine (plain_of _ L _ rfl HL.out.1 _ (HV3.out.at.mono HK8.out)).mono ?_
    rintro e w9 ⟨v9, rfl, h9, hb9⟩
    have HK9 := Lib.hid (below_step HK8.out hb9)
    have HX9 := Lib.hid (HX8.out.mono hb9)
    have HY9 := Lib.hid h9
    clear h9 hb9
    go_wp2_with fail
    refine (same_same v8 v9 _ _ HX9.out.at HY9.out.at).mono ?_
    rintro e w10 ⟨rfl, hb10⟩
    have HK10 := Lib.hid (below_step HK9.out hb10)
    clear hb10
    go_wp2_with fail
    go_ret
    exact ⟨rfl, below_step HB3.out HK10.out⟩
  · have HK := Lib.hid (((below_step HKA.out hb7).setCell (p := ⟨G.heap.size, 0, none⟩) (Nat.le_refl _) (.int .i64 0)).setCell (p := ⟨G.heap.size, 1, none⟩) (Nat.le_refl _) (.int .i64 0))
    have HU := Lib.hid (ownT_two (p := G.heap.size) (x := .int .i64 0) (y := .int .i64 0) h7 (by simp))
    clear h7 hb7 cj7
    go_wp2_with fail
    refine (plain_of v7 M _ HG2.out HL.out.2 _ HU.out.at).mono ?_
    rintro e w8 ⟨v8, rfl, h8, hb8⟩
    have HK8 := Lib.hid (below_step HK.out hb8)
    have HX8 := Lib.hid h8
    clear h8 hb8
    go_wp2_with fail
    refine (plain_of _ L _ rfl HL.out.1 _ (HV3.out.at.mono HK8.out)).mono ?_
    rintro e w9 ⟨v9, rfl, h9, hb9⟩
    have HK9 := Lib.hid (below_step HK8.out hb9)
    have HX9 := Lib.hid (HX8.out.mono hb9)
    have HY9 := Lib.hid h9
    clear h9 hb9
    go_wp2_with fail
    refine (same_same v8 v9 _ _ HX9.out.at HY9.out.at).mono ?_
    rintro e w10 ⟨rfl, hb10⟩
    have HK10 := Lib.hid (below_step HK9.out hb10)
    clear hb10
    go_wp2_with fail
    go_ret
    exact ⟨rfl, below_step HB3.out HK10.out⟩


set_option maxHeartbeats 4000000 in
set_option maxRecDepth 100000 in
theorem gaps_open (s : ByteArray) (i x : Int) (hs : s.size ≤ 549755813888) (hok : Lx.lexOk s.data.toList = true) (hi : i = ((Lx.lexL s.data.toList).length : Int)) (hp : s.data.toList.any pct = true) (w : World) (hT : Tabs w) : Calls Tryd.prog 6 #[.string s, .int .i64 i, .int .i64 x] w (Ret (.bool true) w) := by
  have HT := Lib.hid hT
  have k3 := (Lx.lex_yes hok).2.2.2
  obtain ⟨L, hL⟩ : ∃ L, L = Lx.lexL s.data.toList := ⟨_, rfl⟩
  have HD := Lib.hid (fun w hT => lex_is s (by omega) L 0 0 hL.symm k3.1 k3.2 w hT)
  have HO : Hid (∀ w, Calls Tryd.prog 21 #[.string s] w (Is (.bool true) w)) := Lib.hid (fun w => by have h := open_any s (by omega) w; rw [hp] at h; exact h)
  rw [← hL] at hi
  clear k3 hok hs hT hL hp
  subst hi
  go_enter Tryd.func6, Tryd.ntmps6
  go_wp2_with fail
  refine (HD.out _ HT.out).mono ?_
  rintro e w1 ⟨v1, rfl, h1, hb1⟩
  have HB1 := Lib.hid (below_step hb1 (below_alloc w1 (.cells #[.int .i64 0, .int .i64 0] 25)))
  have HF1 := Lib.hid (flt_new w1 0 0)
  obtain ⟨p1, c1, ev1, _⟩ := h1.at.1
  subst ev1
  clear h1 hb1
  go_wp2_with fail
  refine (fixed_any _ (HT.out.mono HB1.out)).mono ?_
  rintro e w3 ⟨rfl, hb3⟩
  have hb3' := below_step hb3 (below_alloc w3 (.cells #[.string ⟨#[32]⟩, .string ⟨#[10, 9]⟩, .string ⟨#[37, 32, 97, 32, 123, 114, 101, 109, 97, 114, 107, 10]⟩, .string ⟨#[13, 10, 37, 32, 92, 49, 10, 32]⟩] 9))
  have HB3 := Lib.hid (below_step HB1.out hb3')
  have HF3 := Lib.hid (HF1.out.mono hb3)
  clear hb3 hb3'
  have x0 := HF3.out.c0
  go_wp2_with fail
  refine (HO.out _).mono ?_
  rintro e w4 ⟨rfl, rfl⟩
  go_wp2_with fail
  go_ret
  exact ⟨rfl, HB3.out⟩

set_option maxHeartbeats 4000000 in
set_option maxRecDepth 100000 in
theorem gaps_end (s : ByteArray) (i x : Int) (hs : s.size ≤ 549755813888) (hok : Lx.lexOk s.data.toList = true) (hi : i = ((Lx.lexL s.data.toList).length : Int)) (hp : s.data.toList.any pct = false) (w : World) (hT : Tabs w) : Calls Tryd.prog 6 #[.string s, .int .i64 i, .int .i64 x] w (Ret (.bool true) w) := by
  have HT := Lib.hid hT
  have k3 := (Lx.lex_yes hok).2.2.2
  obtain ⟨j, hj4, hj, hx1, hx2⟩ := which_gap x
  obtain ⟨gs, hg, hgf, hgs⟩ := gap_has j
  obtain ⟨g1, g2⟩ := Lx.gap_end hok (fun c hc h37 => by
    have : s.data.toList.any pct = true := List.any_eq_true.2 ⟨c, hc, decide_eq_true h37⟩
    rw [hp] at this
    cases this) gs hg
  have hcut : s.data.toList ++ Lx.flat gs = (s ++ gapB j).data.toList := by
    rw [ByteArray.data_append, Array.toList_append, hgf]
  rw [hcut] at g1 g2
  obtain ⟨n, hn⟩ : ∃ n, n = s.size := ⟨_, rfl⟩
  have HNe := Lib.hid hn
  obtain ⟨X, hX⟩ : ∃ X, X = s ++ gapB j := ⟨_, rfl⟩
  have hXs : X.size ≤ s.size + 12 := by
    rw [hX, ByteArray.size_append]
    omega
  rw [← hX] at g1 g2
  have k4 := (Lx.lex_yes g1).2.2.2
  obtain ⟨L, hL⟩ : ∃ L, L = Lx.lexL s.data.toList := ⟨_, rfl⟩
  obtain ⟨M, hM⟩ : ∃ M, M = Lx.lexL X.data.toList := ⟨_, rfl⟩
  have hLr := lexL_room s.data.toList
  have hMr := lexL_room X.data.toList
  rw [← Lib.size_eq] at hLr hMr
  have HD := Lib.hid (fun w hT => lex_is s (by omega) L 0 0 hL.symm k3.1 k3.2 w hT)
  have HGX := Lib.hid (fun w hT => lex_is X (by omega) M 0 0 hM.symm k4.1 k4.2 w hT)
  rw [← hL] at hi g2 hLr
  rw [← hM] at g2 hMr
  have hLl := room_len L
  have hMl := room_len M
  have HL := Lib.hid (show L.length * 32 ≤ 140737488355328 ∧ M.length * 32 ≤ 140737488355328 from ⟨by omega, by omega⟩)
  have HG2 := Lib.hid g2
  have HO : Hid (∀ w, Calls Tryd.prog 21 #[.string s] w (Is (.bool false) w)) := Lib.hid (fun w => by have h := open_any s (by omega) w; rw [hp] at h; exact h)
  have HG : Hid (∀ w, Tabs w → Calls Tryd.prog 10 #[.string (s ++ gapB j)] w (LexIs M 0 0 w)) := Lib.hid (fun w hT => by rw [← hX]; exact HGX.out w hT)
  obtain ⟨R, hR⟩ : ∃ R, x.tmod 4 = R := ⟨_, rfl⟩
  rw [hR] at hj hx1 hx2
  obtain ⟨Q, hQ⟩ : ∃ Q, R + 4 = Q := ⟨_, rfl⟩
  rw [hQ] at hj
  have w1 : IntKind.i64.wrap Q = Q := IntWalk.i64_in _ (by omega)
  have w2 : wrap64 Q = Q := w64 (by omega) (by omega)
  have n0 : (0 : Int) ≤ (s.size : Int) := by omega
  have i0 : (0 : Int) ≤ (L.length : Int) := by omega
  have j0 : (0 : Int) ≤ (j : Int) := by omega
  have j1 : (j : Int) < 4 := by omega
  have z1 : s.size + (gapB j).size ≤ 9223372036854775807 := by omega
  have z2 : (s ++ gapB j).size + ByteArray.empty.size ≤ 9223372036854775807 := by rw [ByteArray.size_append, ByteArray.size_empty]; omega
  have e1 : ∀ wx, (Op.stringOp .add s (gapB j)).run Tryd.prog wx = .ok (.string (s ++ gapB j)) wx := fun wx => by apply run_string_add_sum; exact z1
  have e2 : ∀ wx, (Op.stringOp .add (s ++ gapB j) ByteArray.empty).run Tryd.prog wx = .ok (.string (s ++ gapB j)) wx := fun wx => by
    have h : (Op.stringOp .add (s ++ gapB j) ByteArray.empty).run Tryd.prog wx = .ok (.string (s ++ gapB j ++ ByteArray.empty)) wx := by apply run_string_add_sum; exact z2
    rwa [ByteArray.append_empty] at h
  clear z1 z2
  have HJ4 := Lib.hid hj4
  clear k3 k4 hok hs hT hL hM hLr hMr hLl hMl hg hgf hgs hX hXs g1 g2 HGX hcut hp hn
  subst hi
  go_enter Tryd.func6, Tryd.ntmps6
  go_wp2_with fail
  refine (HD.out _ HT.out).mono ?_
  rintro e w1 ⟨v1, rfl, h1, hb1⟩
  have HB1 := Lib.hid (below_step hb1 (below_alloc w1 (.cells #[.int .i64 0, .int .i64 0] 25)))
  have HF1 := Lib.hid (flt_new w1 0 0)
  have HV1 := Lib.hid (h1.mono (below_alloc w1 (.cells #[.int .i64 0, .int .i64 0] 25)))
  clear h1 hb1
  obtain ⟨p1, c1, ev1, _⟩ := HV1.out.at.1
  subst ev1
  go_wp2_with fail
  refine (fixed_any _ (HT.out.mono HB1.out)).mono ?_
  rintro e w3 ⟨rfl, hb3⟩
  have hb3' := below_step hb3 (below_alloc w3 (.cells #[.string ⟨#[32]⟩, .string ⟨#[10, 9]⟩, .string ⟨#[37, 32, 97, 32, 123, 114, 101, 109, 97, 114, 107, 10]⟩, .string ⟨#[13, 10, 37, 32, 92, 49, 10, 32]⟩] 9))
  obtain ⟨G, hG⟩ : ∃ G, G = w3.alloc (.cells #[.string ⟨#[32]⟩, .string ⟨#[10, 9]⟩, .string ⟨#[37, 32, 97, 32, 123, 114, 101, 109, 97, 114, 107, 10]⟩, .string ⟨#[13, 10, 37, 32, 92, 49, 10, 32]⟩] 9) := ⟨_, rfl⟩
  have HB3 := Lib.hid (below_step HB1.out hb3')
  have HF3 := Lib.hid (HF1.out.mono hb3)
  have HV3 := Lib.hid (HV1.out.mono hb3')
  have HC3 := Lib.hid (gap_cell w3 j HJ4.out)
  rw [← hG] at HB3 HV3 HC3
  clear hb3 hb3'
  have x0 := HF3.out.c0
  have HGe := Lib.hid hG
  clear hG
  go_wp2_with fail
  refine (HO.out _).mono ?_
  rintro e w4 ⟨rfl, rfl⟩
  go_wp2_with fail
  rw [← HGe.out]
  clear x0
  have cjA : ((G.alloc (.cells #[.int .i64 0, .int .i64 0] 25)).drew).cell? ⟨w3.heap.size, j, none⟩ = some (.string (gapB j)) := by
    have h := cell_below (below_alloc G (.cells #[.int .i64 0, .int .i64 0] 25)) HC3.out
    simpa using h
  have cjB : (G.drew).cell? ⟨w3.heap.size, j, none⟩ = some (.string (gapB j)) := by
    have h := HC3.out
    simpa using h
  have HcA := Lib.hid cjA
  have HcB := Lib.hid cjB
  have HKA : Hid (Below G.heap.size G ((G.alloc (.cells #[.int .i64 0, .int .i64 0] 25)).drew)) := Lib.hid (below_alloc G (.cells #[.int .i64 0, .int .i64 0] 25)).drew
  have HKB : Hid (Below G.heap.size G (G.drew)) := Lib.hid (Below.refl _ G).drew
  have HTA := Lib.hid (HT.out.mono (below_step HB3.out HKA.out))
  have HTB := Lib.hid (HT.out.mono (below_step HB3.out HKB.out))
  have HFA : Hid (FltAt ((G.alloc (.cells #[.int .i64 0, .int .i64 0] 25)).drew) G.heap.size 0 0) := Lib.hid (by
    have h := flt_new G 0 0
    exact ⟨by simp, by simp, by simp, by simp⟩)
  clear cjA cjB
  have cjG := HC3.out
  have hne := World.new_ne G _ cjG
  go_region_held3 (fun w' => w'.cell? ⟨w3.heap.size, j, none⟩ = some (.string (gapB j))) (go_keep) (first | ((go_at_call 10; refine (HG.out _ HTA.out).mono ?_; rintro e w7 ⟨v7, rfl, h7, hb7⟩; have cj7 := cell_below hb7 HcA.out; have HF7 := HFA.out.mono hb7; have q0 := HF7.c0; have q1 := HF7.c1; have q2 := HF7.f0; have q3 := HF7.f1)) | ((go_at_call 10; refine (HG.out _ HTB.out).mono ?_; rintro e w7 ⟨v7, rfl, h7, hb7⟩; have cj7 := cell_below hb7 HcB.out)))
  · have HK : Hid (Below G.heap.size G (w7.alloc (.cells #[.int .i64 0, .int .i64 0] 25))) := Lib.hid (below_step HKB.out (below_step hb7 (below_alloc w7 (.cells #[.int .i64 0, .int .i64 0] 25))))
    have HU := Lib.hid (h7.mono (below_alloc w7 (.cells #[.int .i64 0, .int .i64 0] 25)))
    have HFz := Lib.hid (flt_new w7 0 0)
    clear h7 hb7 cj7
    have y0 := HFz.out.c0
    go_wp2_with fail
    refine (plain_of v7 M _ HG2.out HL.out.2 _ HU.out.at).mono ?_
    rintro e w8 ⟨v8, rfl, h8, hb8⟩
    have HK8 := Lib.hid (below_step HK.out hb8)
    have HX8 := Lib.hid h8
    clear h8 hb8
    go_wp2_with fail
    refine (plain_of _ L _ rfl HL.out.1 _ (HV3.out.at.mono HK8.out)).mono ?_
    rintro e w9 ⟨v9, rfl, h9, hb9⟩
    have HK9 := Lib.hid (below_step HK8.out hb9)
    have HX9 := Lib.hid (HX8.out.mono hb9)
    have HY9 := Lib.hid h9
    clear h9 hb9
    go_wp2_with fail
    refine (same_same v8 v9 _ _ HX9.out.at HY9.out.at).mono ?_
    rintro e w10 ⟨rfl, hb10⟩
    have HK10 := Lib.hid (below_step HK9.out hb10)
    clear hb10
    go_wp2_with fail
    go_ret
    exact ⟨rfl, below_step HB3.out HK10.out⟩
  · have HK := Lib.hid (((below_step HKA.out hb7).setCell (p := ⟨G.heap.size, 0, none⟩) (Nat.le_refl _) (.int .i64 0)).setCell (p := ⟨G.heap.size, 1, none⟩) (Nat.le_refl _) (.int .i64 0))
    have HU := Lib.hid (ownT_two (p := G.heap.size) (x := .int .i64 0) (y := .int .i64 0) h7 (by simp))
    clear h7 hb7 cj7
    go_wp2_with fail
    refine (plain_of v7 M _ HG2.out HL.out.2 _ HU.out.at).mono ?_
    rintro e w8 ⟨v8, rfl, h8, hb8⟩
    have HK8 := Lib.hid (below_step HK.out hb8)
    have HX8 := Lib.hid h8
    clear h8 hb8
    go_wp2_with fail
    refine (plain_of _ L _ rfl HL.out.1 _ (HV3.out.at.mono HK8.out)).mono ?_
    rintro e w9 ⟨v9, rfl, h9, hb9⟩
    have HK9 := Lib.hid (below_step HK8.out hb9)
    have HX9 := Lib.hid (HX8.out.mono hb9)
    have HY9 := Lib.hid h9
    clear h9 hb9
    go_wp2_with fail
    refine (same_same v8 v9 _ _ HX9.out.at HY9.out.at).mono ?_
    rintro e w10 ⟨rfl, hb10⟩
    have HK10 := Lib.hid (below_step HK9.out hb10)
    clear hb10
    go_wp2_with fail
    go_ret
    exact ⟨rfl, below_step HB3.out HK10.out⟩

/-- THE LAW, AT EVERY TEXT OF SUCH A LENGTH. -/
theorem lawGaps_any (s : ByteArray) (i x : Int) (hs : s.size ≤ 549755813888) (w : World) (hT : Tabs w) : Calls Tryd.prog 6 #[.string s, .int .i64 i, .int .i64 x] w (Ret (.bool true) w) := by
  cases hok : Lx.lexOk s.data.toList with
  | false => exact gaps_bad s i x hs hok w hT
  | true =>
    by_cases ho : i < 0 ∨ ((Lx.lexL s.data.toList).length : Int) < i
    · exact gaps_out s i x hs hok ho w hT
    · by_cases he : i = ((Lx.lexL s.data.toList).length : Int)
      · cases hp : s.data.toList.any pct with
        | true => exact gaps_open s i x hs hok he hp w hT
        | false => exact gaps_end s i x hs hok he hp w hT
      · obtain ⟨k, rfl⟩ : ∃ k : Nat, i = (k : Int) := ⟨i.toNat, by omega⟩
        exact gaps_tok s k x hs hok (by omega) w hT
end Go.Proofs.YtjlnffdklhmonaaDoor
