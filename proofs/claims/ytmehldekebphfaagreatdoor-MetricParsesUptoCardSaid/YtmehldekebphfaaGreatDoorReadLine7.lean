/-
  The landed readLine: a line by itself.
-/
import Derived.Test.YtmehldekebphfaaGreatDoorSplitN7
import Derived.Deep.RegionLaw
import Derived.Deep.RegionHeld3
import Derived.Deep.DeepCutAuto
set_option linter.unusedVariables false
set_option linter.unusedSimpArgs false
namespace Go.Proofs.YtmehldekebphfaaGreatDoor
open Go.RowKit

theorem idx0 (w : World) : (Instr.index 130 (.agg #[.string ⟨#[115, 112, 97, 99, 101]⟩, .int .i64 0, .int .i64 3, .string ⟨#[104, 121, 112, 104, 101, 110]⟩, .int .i64 1, .int .i64 0, .string ⟨#[99, 104, 97, 114]⟩, .int .i64 1, .int .i64 3, .string ⟨#[107, 101, 114, 110]⟩, .int .i64 2, .int .i64 1, .string ⟨#[108, 105, 103]⟩, .int .i64 3, .int .i64 0]) (.int .i64 0)).run Tryz.prog w = .ok (.agg #[.string ⟨#[115, 112, 97, 99, 101]⟩, .int .i64 0, .int .i64 3]) w := by kernel_rfl
theorem idx1 (w : World) : (Instr.index 130 (.agg #[.string ⟨#[115, 112, 97, 99, 101]⟩, .int .i64 0, .int .i64 3, .string ⟨#[104, 121, 112, 104, 101, 110]⟩, .int .i64 1, .int .i64 0, .string ⟨#[99, 104, 97, 114]⟩, .int .i64 1, .int .i64 3, .string ⟨#[107, 101, 114, 110]⟩, .int .i64 2, .int .i64 1, .string ⟨#[108, 105, 103]⟩, .int .i64 3, .int .i64 0]) (.int .i64 1)).run Tryz.prog w = .ok (.agg #[.string ⟨#[104, 121, 112, 104, 101, 110]⟩, .int .i64 1, .int .i64 0]) w := by kernel_rfl
theorem idx2 (w : World) : (Instr.index 130 (.agg #[.string ⟨#[115, 112, 97, 99, 101]⟩, .int .i64 0, .int .i64 3, .string ⟨#[104, 121, 112, 104, 101, 110]⟩, .int .i64 1, .int .i64 0, .string ⟨#[99, 104, 97, 114]⟩, .int .i64 1, .int .i64 3, .string ⟨#[107, 101, 114, 110]⟩, .int .i64 2, .int .i64 1, .string ⟨#[108, 105, 103]⟩, .int .i64 3, .int .i64 0]) (.int .i64 2)).run Tryz.prog w = .ok (.agg #[.string ⟨#[99, 104, 97, 114]⟩, .int .i64 1, .int .i64 3]) w := by kernel_rfl
theorem idx3 (w : World) : (Instr.index 130 (.agg #[.string ⟨#[115, 112, 97, 99, 101]⟩, .int .i64 0, .int .i64 3, .string ⟨#[104, 121, 112, 104, 101, 110]⟩, .int .i64 1, .int .i64 0, .string ⟨#[99, 104, 97, 114]⟩, .int .i64 1, .int .i64 3, .string ⟨#[107, 101, 114, 110]⟩, .int .i64 2, .int .i64 1, .string ⟨#[108, 105, 103]⟩, .int .i64 3, .int .i64 0]) (.int .i64 3)).run Tryz.prog w = .ok (.agg #[.string ⟨#[107, 101, 114, 110]⟩, .int .i64 2, .int .i64 1]) w := by kernel_rfl
theorem idx4 (w : World) : (Instr.index 130 (.agg #[.string ⟨#[115, 112, 97, 99, 101]⟩, .int .i64 0, .int .i64 3, .string ⟨#[104, 121, 112, 104, 101, 110]⟩, .int .i64 1, .int .i64 0, .string ⟨#[99, 104, 97, 114]⟩, .int .i64 1, .int .i64 3, .string ⟨#[107, 101, 114, 110]⟩, .int .i64 2, .int .i64 1, .string ⟨#[108, 105, 103]⟩, .int .i64 3, .int .i64 0]) (.int .i64 4)).run Tryz.prog w = .ok (.agg #[.string ⟨#[108, 105, 103]⟩, .int .i64 3, .int .i64 0]) w := by kernel_rfl
theorem idx_pat (k : Nat) (hk : k < 5) (w : World) : (Instr.index 130 (.agg #[.string ⟨#[115, 112, 97, 99, 101]⟩, .int .i64 0, .int .i64 3, .string ⟨#[104, 121, 112, 104, 101, 110]⟩, .int .i64 1, .int .i64 0, .string ⟨#[99, 104, 97, 114]⟩, .int .i64 1, .int .i64 3, .string ⟨#[107, 101, 114, 110]⟩, .int .i64 2, .int .i64 1, .string ⟨#[108, 105, 103]⟩, .int .i64 3, .int .i64 0]) (.int .i64 (k : Int))).run Tryz.prog w = .ok (.agg #[.string (str (nameOf k)), .int .i64 (nC k : Int), .int .i64 (nL k : Int)]) w := by
  match k, hk with
  | 0, _ => exact idx0 w
  | 1, _ => exact idx1 w
  | 2, _ => exact idx2 w
  | 3, _ => exact idx3 w
  | 4, _ => exact idx4 w
theorem splitK_short (sep : List UInt8) : ∀ (K : Nat) (l : List UInt8), ∀ x ∈ Lib.splitK sep 0 K l, x.length ≤ l.length
  | 0, l, x, h => by
    have : x = l := by simpa [Lib.splitK] using h
    rw [this]; exact Nat.le_refl _
  | K + 1, l, x, h => by
    unfold Lib.splitK at h
    split at h
    · have : x = l := by simpa using h
      rw [this]; exact Nat.le_refl _
    · rcases List.mem_cons.1 h with rfl | h
      · exact List.length_take_le' _ _
      · have := splitK_short sep K _ x h
        rw [List.length_drop] at this
        omega
theorem n_le (k : Nat) : nC k ≤ 3 ∧ nL k ≤ 3 := by
  unfold nC nL
  constructor <;> split <;> omega
theorem unfit_next {ws : List (List UInt8)} {k : Nat} (h : ∀ j, j < k → ¬ Fit j ws) (hk : ¬ Fit k ws) : ∀ j, j < k + 1 → ¬ Fit j ws := by
  intro j hj hf
  rcases Nat.lt_or_ge j k with h1 | h1
  · exact h j h1 hf
  · obtain rfl : j = k := by omega
    exact hk hf
theorem join_long (c : UInt8) : ∀ (x : List UInt8) (r : List (List UInt8)), x.length + r.length ≤ (Mt.join c (x :: r)).length
  | x, [] => by simp [Mt.join]
  | x, y :: r => by
    have := join_long c y r
    rw [Mt.join, List.length_append, List.length_cons, List.length_cons]
    omega
theorem name_long (k : Nat) : 5 ≤ (nameOf k).length + (nC k + nL k) := by
  unfold nameOf nC nL
  split <;> simp [Mt.spaceW, Mt.hyphenW, Mt.charW, Mt.kernW, Mt.ligW]
theorem cap_fit {k : Nat} {ws : List (List UInt8)} {s : ByteArray} {cap : Nat} (h : ws = Mt.split 32 s.data.toList ∨ ws.length = 6 ∧ 6 < (Mt.split 32 s.data.toList).length) (hk : k < 5) (hf : Fit k ws) (hc : cap = 6 ∨ cap = s.size + 1 ∧ s.size < 5) : cap = 6 := by
  rcases hc with hc | ⟨_, hs⟩
  · exact hc
  · exfalso
    obtain ⟨h0, hl⟩ := hf
    rcases h with h | ⟨h, _⟩
    · have hj := Mt.join_split 32 s.data.toList
      rw [← h] at hj
      have hn := name_long k
      match ws, h0, hl, hj with
      | x :: r, h0, hl, hj =>
        simp at h0
        subst h0
        have h1 := join_long 32 (nameOf k) r
        rw [hj, ← size7] at h1
        rw [List.length_cons] at hl
        omega
    · rw [hl] at h
      match k, hk with
      | 0, _ => simp [nC, nL] at h
      | 1, _ => simp [nC, nL] at h
      | 2, _ => simp [nC, nL] at h
      | 3, _ => simp [nC, nL] at h
      | 4, _ => simp [nC, nL] at h
theorem below_drew1' (w : World) : Below w.heap.size w w.drew := ⟨rfl, rfl, rfl, Nat.le_refl _, fun _ _ => rfl⟩
theorem set3_far {w : World} {R b i : Nat} {x y z : Value} (h : b ≠ R) : (((w.setCell ⟨R, 0, none⟩ x).setCell ⟨R, 1, none⟩ y).setCell ⟨R, 2, none⟩ z).cell? ⟨b, i, none⟩ = w.cell? ⟨b, i, none⟩ := by
  have hne : ∀ j, (⟨b, i, none⟩ : Addr) ≠ ⟨R, j, none⟩ := fun j e => h (by injection e)
  rw [World.cell?_setCell_other _ _ _ _ (hne 2).symm, World.cell?_setCell_other _ _ _ _ (hne 1).symm, World.cell?_setCell_other _ _ _ _ (hne 0).symm]
theorem drew_cell1 (w : World) (p : Addr) : w.drew.cell? p = w.cell? p := rfl
theorem elemStrs : Tryz.prog.elem 48 = 9 := by kernel_rfl
theorem sizeStr (wx : World) : (sizeOf 9).run Tryz.prog wx = .ok 1 wx := by kernel_rfl
theorem run_from (b n c cap : Nat) (h : 1 + c ≤ n) (hc : 1 + c < cap) (wx : World) : (Instr.slice 48 (.slice (some ⟨b, 0, none⟩) n cap) (some (.int .i64 (1 + (c : Int)))) none none).run Tryz.prog wx = .ok (.slice (some ⟨b, 1 + c, none⟩) (n - (1 + c)) (cap - (1 + c))) wx := by
  rw [run_slice_l (ht := by rw [elemStrs]; exact Tryz.underlying48) (h0 := by omega) (h1 := by omega), elemStrs, sizeStr]
  have e : (1 + (c : Int)).toNat = 1 + c := by omega
  simp [Result.andThen, sliced, Addr.add, e]
  omega
theorem run_mid (b n c cap : Nat) (h : 1 + c ≤ n) (hc : 1 + c < cap) (wx : World) : (Instr.slice 48 (.slice (some ⟨b, 0, none⟩) n cap) (some (.int .i64 1)) (some (.int .i64 (1 + (c : Int)))) none).run Tryz.prog wx = .ok (.slice (some ⟨b, 1, none⟩) c (cap - 1)) wx := by
  rw [run_slice_lh (ht := by rw [elemStrs]; exact Tryz.underlying48) (h0 := by omega) (h1 := by omega) (h2 := by omega), elemStrs, sizeStr]
  have e : (1 + (c : Int)).toNat - 1 = c := by omega
  have e2 : ¬ cap = 1 := by omega
  simp [Result.andThen, sliced, Addr.add, e, e2]
theorem strs_sub {w : World} {b : Nat} {ws : List (List UInt8)} (hc : ∀ i x, ws[i]? = some x → w.cell? ⟨b, i, none⟩ = some (.string (str x))) (j m cp : Nat) (hm : j + m ≤ ws.length) (hcp : m ≤ cp) (h6 : m ≤ 6) : StrsAt w (.slice (some ⟨b, j, none⟩) m cp) ((ws.drop j).take m) := by
  have hl : ((ws.drop j).take m).length = m := by rw [List.length_take, List.length_drop]; omega
  refine ⟨⟨_, cp, by rw [hl], by rw [hl]; exact hcp⟩, by rw [hl]; unfold maxLen; omega, fun _ => ⟨b, j, cp, by rw [hl], fun i x hx => ?_⟩⟩
  refine hc (j + i) x ?_
  have hi := (List.getElem?_eq_some_iff.1 hx).1
  rw [hl] at hi
  rw [List.getElem?_take_of_lt hi, List.getElem?_drop] at hx
  exact hx
theorem fit_small (k : Nat) : nC k + nL k ≤ 4 := by
  unfold nC nL
  split <;> omega
def LinePost (aL : Addr) (o : Option Mt.Ln) (w : World) (e : Ending) (w' : World) : Prop := Below w.heap.size w w' ∧ match o with
  | some ln => ∃ cv lv, e = .returned (.tuple #[.agg #[.int .i64 (Mt.kind ln : Int), cv, lv], .nilIface]) ∧ OwnI .i32 21 w.heap.size cv (lnCodes ln) w' ∧ OwnI .i64 2 w.heap.size lv (lnLens ln) w'
  | none => e = .returned (.tuple #[.agg #[.int .i64 0, .slice none 0 0, .slice none 0 0], .iface 207 (.pointer (some aL))])
/-- the words that the library's split gives, in memory -/
theorem split_words (s : ByteArray) (hs : s.size < 4294967281) (m : Int) (w : World) (hm : w.cell? ⟨3, 0, none⟩ = some (.int .i64 m)) :
    Calls Tryz.prog 81 #[.string s, .string ⟨#[32]⟩, .int .i64 6] w (fun e w' => ∃ (ws : List (List UInt8)) (cap : Nat), e = .returned (.slice (some ⟨w.heap.size, 0, none⟩) ws.length cap) ∧ Below w.heap.size w w' ∧ (∀ i x, ws[i]? = some x → w'.cell? ⟨w.heap.size, i, none⟩ = some (.string (str x))) ∧
      (ws = Mt.split 32 s.data.toList ∨ ws.length = 6 ∧ 6 < (Mt.split 32 s.data.toList).length) ∧ 1 ≤ ws.length ∧ ws.length ≤ cap ∧ cap ≤ 6 ∧ (cap = 6 ∨ cap = s.size + 1 ∧ s.size < 5) ∧ (∀ x ∈ ws, x.length ≤ s.size)) := by
  refine (Tryz.strings_SplitN s ⟨#[32]⟩ 6 m w hs hm (by decide) (by decide) (by decide)).mono ?_
  rintro e w' ⟨rfl, rfl⟩
  have hd := Lib.splitB_data ⟨#[32]⟩ 0 (min 6 (s.size + 1) - 1) s
  obtain ⟨bs, hbs⟩ : ∃ bs, bs = Lib.splitB ⟨#[32]⟩ 0 (min 6 (s.size + 1) - 1) s := ⟨_, rfl⟩
  rw [← hbs] at hd ⊢
  have hln := Lib.splitB_length_le ⟨#[32]⟩ 0 (min 6 (s.size + 1) - 1) s
  rw [← hbs] at hln
  have hk := splitK_is 32 (min 6 (s.size + 1) - 1) s.data.toList
  have hsl := split_len 32 s.data.toList
  rw [← size7] at hsl
  have hcase : bs.map (·.data.toList) = Mt.split 32 s.data.toList ∨ (bs.map (·.data.toList)).length = 6 ∧ 6 < (Mt.split 32 s.data.toList).length := by
    rw [hd]
    by_cases h : (Mt.split 32 s.data.toList).length ≤ min 6 (s.size + 1) - 1 + 1
    · exact .inl (hk.1 h)
    · have h2 := hk.2 (by omega)
      refine .inr ⟨?_, ?_⟩
      · show (Lib.splitK [32] 0 _ _).length = 6
        rw [h2]; omega
      · omega
  have hpos : 1 ≤ bs.length := by
    rcases hcase with h | h
    · have hne := Mt.split_ne 32 s.data.toList
      rw [← h] at hne
      rcases bs with _ | ⟨x, t⟩
      · exact absurd rfl hne
      · simp
    · rw [List.length_map] at h; omega
  have hwl : ∀ x ∈ bs.map (·.data.toList), x.length ≤ s.size := by
    intro x hx
    rw [hd] at hx
    have := splitK_short _ _ _ x hx
    rw [size7]
    exact this
  refine ⟨bs.map (·.data.toList), min 6 (s.size + 1), by rw [List.length_map], below_alloc _ _, fun i x hx => ?_, hcase, by rw [List.length_map]; exact hpos, by rw [List.length_map]; omega, by omega, by omega, hwl⟩
  rw [List.getElem?_map] at hx
  obtain ⟨b, hb, rfl⟩ := Option.map_eq_some_iff.1 hx
  refine cell_lay w _ _ i _ ?_
  have hi := (List.getElem?_eq_some_iff.1 hb).1
  simp only [Lib.cellsOf]
  rw [List.getElem?_toArray, List.getElem?_append_left (by simpa using hi), List.getElem?_map, hb]
  rw [str_of]
  rfl

set_option maxHeartbeats 8000000 in
set_option maxRecDepth 100000 in
theorem readLine_any {aL aT : Addr} (s : ByteArray) (hs : s.size ≤ 1073741824) (w : World) (hE : MEnv aL aT w) : Calls Tryz.prog 47 #[.string s] w (LinePost aL (Mt.row s.data.toList) w) := by
  have HEE := Lib.hid (fun w' (h : Below w.heap.size w w') => hE.mono h)
  obtain ⟨mx, hmx⟩ := hE.cut
  have hb0 := below_alloc w (.cells #[.int .i64 0, .slice none 0 0, .slice none 0 0] 89)
  have HS := Lib.hid (split_words s (by omega) mx _ (cell_below hb0 hmx))
  have HB0 := Lib.hid hb0
  have HRo := Lib.hid (obj_new w _ rfl #[.int .i64 0, .slice none 0 0, .slice none 0 0] 89)
  clear hmx hb0 hE
  go_enter Tryz.func47, Tryz.ntmps47
  go_wp2_with fail
  refine HS.out.mono ?_
  rintro e w1 ⟨ws, cap, rfl, hb1, hcell, hcase, hp1, hcap, hcap6, hcaps, hwl⟩
  have HB1 := Lib.hid (below_step HB0.out hb1)
  have HR1 := Lib.hid (obj_kept hb1 HRo.out)
  have HCell := Lib.hid hcell
  have HCase := Lib.hid hcase
  have HWl := Lib.hid hwl
  obtain ⟨n, hn⟩ : ∃ n, n = ws.length := ⟨_, rfl⟩
  have Hn := Lib.hid hn
  rw [← hn] at hp1 hcap ⊢
  have hP := (HEE.out _ HB1.out).pats
  have p0 : w1.cell? ⟨2, 0, none⟩ = some (.string ⟨#[115, 112, 97, 99, 101]⟩) := hP.at_ 0 _ rfl
  have p1 : w1.cell? ⟨2, 1, none⟩ = some (.int .i64 0) := hP.at_ 1 _ rfl
  have p2 : w1.cell? ⟨2, 2, none⟩ = some (.int .i64 3) := hP.at_ 2 _ rfl
  have p3 : w1.cell? ⟨2, 3, none⟩ = some (.string ⟨#[104, 121, 112, 104, 101, 110]⟩) := hP.at_ 3 _ rfl
  have p4 : w1.cell? ⟨2, 4, none⟩ = some (.int .i64 1) := hP.at_ 4 _ rfl
  have p5 : w1.cell? ⟨2, 5, none⟩ = some (.int .i64 0) := hP.at_ 5 _ rfl
  have p6 : w1.cell? ⟨2, 6, none⟩ = some (.string ⟨#[99, 104, 97, 114]⟩) := hP.at_ 6 _ rfl
  have p7 : w1.cell? ⟨2, 7, none⟩ = some (.int .i64 1) := hP.at_ 7 _ rfl
  have p8 : w1.cell? ⟨2, 8, none⟩ = some (.int .i64 3) := hP.at_ 8 _ rfl
  have p9 : w1.cell? ⟨2, 9, none⟩ = some (.string ⟨#[107, 101, 114, 110]⟩) := hP.at_ 9 _ rfl
  have p10 : w1.cell? ⟨2, 10, none⟩ = some (.int .i64 2) := hP.at_ 10 _ rfl
  have p11 : w1.cell? ⟨2, 11, none⟩ = some (.int .i64 1) := hP.at_ 11 _ rfl
  have p12 : w1.cell? ⟨2, 12, none⟩ = some (.string ⟨#[108, 105, 103]⟩) := hP.at_ 12 _ rfl
  have p13 : w1.cell? ⟨2, 13, none⟩ = some (.int .i64 3) := hP.at_ 13 _ rfl
  have p14 : w1.cell? ⟨2, 14, none⟩ = some (.int .i64 0) := hP.at_ 14 _ rfl
  clear hb1 hcell hcase hwl hn hP HS HRo HB0
  go_wp2_with fail
  clear p0 p1 p2 p3 p4 p5 p6 p7 p8 p9 p10 p11 p12 p13 p14
  obtain ⟨WB, hWB⟩ : ∃ WB, WB = (w.alloc (.cells #[.int .i64 0, .slice none 0 0, .slice none 0 0] 89)).heap.size := ⟨_, rfl⟩
  rw [← hWB] at HCell
  have hWB2 : w.heap.size + 1 = WB := by rw [hWB, World.size_alloc]
  rw [hWB2]
  clear hWB
  go_loopw [10] (fun iv wr => ∃ k : Nat, k ≤ 5 ∧ iv = .int .i64 k ∧ Hid (∀ j, j < k → ¬ Fit j ws) ∧ Hid (Below w1.heap.size w1 wr)) (fun iv _ => 5 - (intOf iv).toNat)
  case atStart => exact ⟨0, Nat.zero_le _, rfl, Lib.hid (fun j h => absurd h (Nat.not_lt_zero _)), Lib.hid (Below.refl _ _)⟩
  case round =>
    obtain ⟨k, hk, rfl, HN, HB⟩ := hrel
    by_cases hlt : k < 5
    · have hix := idx_pat k hlt
      have k0 : (0 : Int) ≤ (k : Int) := by omega
      have kl : (k : Int) < 5 := by omega
      obtain ⟨x0, hx0⟩ : ∃ x, ws[0]? = some x := ⟨_, List.getElem?_eq_getElem (by rw [← Hn.out]; omega)⟩
      have hw0 : wr.cell? ⟨WB, 0, none⟩ = some (.string (str x0)) := cell_below HB.out (HCell.out 0 x0 hx0)
      have hw1 := cell_below (below_alloc wr (.cells #[.string (str (nameOf k)), .int .i64 (nC k : Int), .int .i64 (nL k : Int)] 129)) hw0
      obtain ⟨hc3, hl3⟩ := n_le k
      have hfs := fit_small k
      have HRow : Hid (x0 = nameOf k ∧ n = 1 + nC k + nL k → Mt.row s.data.toList = both k (collect Mt.codeB ((ws.drop 1).take (nC k))) (collect Mt.lenB (ws.drop (1 + nC k)))) := Lib.hid (fun hh => by
        have hws : ws = Mt.split 32 s.data.toList := by
          rcases HCase.out with h | ⟨h, _⟩
          · exact h
          · rw [← Hn.out, hh.2] at h; omega
        unfold Mt.row
        rw [← hws]
        exact row_fit hlt (by unfold Fit; rw [hx0, ← Hn.out, hh.1]; exact ⟨rfl, hh.2⟩))
      have HKc : Hid (x0 = nameOf k ∧ n = 1 + nC k + nL k → ∀ cs ls, cs.length = nC k → ls.length = nL k → Mt.kind (mkLn k cs ls) = k ∧ lnCodes (mkLn k cs ls) = cs ∧ lnLens (mkLn k cs ls) = ls) := Lib.hid (fun _ cs ls h1 h2 => mkLn_is hlt h1 h2)
      have HFit : Hid (Fit k ws ↔ (x0 = nameOf k ∧ n = 1 + nC k + nL k)) := Lib.hid (by unfold Fit; rw [hx0, Hn.out]; simp)
      have HCap : Hid (x0 = nameOf k ∧ n = 1 + nC k + nL k → cap = 6) := Lib.hid (fun hh => cap_fit HCase.out hlt (HFit.out.2 hh) hcaps)
      have hlw : wr.heap.size ≠ WB := fun e => by have := block_lt_of_cell hw0; simp at this; omega
      generalize nC k = c at hix hc3 hfs HFit hw1 HCap HRow HKc
      generalize nL k = l at hix hl3 hfs HFit hw1 HCap HRow HKc
      generalize nameOf k = nm at hix HFit hw1 HCap HRow HKc
      have n0 : (0 : Int) ≤ 0 := by omega
      have nl : (0 : Int) < (n : Int) := by omega
      have e1 : IntKind.i64.wrap (1 + (c : Int)) = 1 + (c : Int) := IntWalk.i64_in _ (by omega)
      have e2 : IntKind.i64.wrap (1 + (c : Int) + (l : Int)) = 1 + (c : Int) + (l : Int) := IntWalk.i64_in _ (by omega)
      by_cases hx : x0 = nm
      · subst hx
        have q1 : ((str x0).toList == (str x0).toList) = true := by simp
        by_cases hlen : n = 1 + c + l
        · have q2 : ((n : Int) == 1 + (c : Int) + (l : Int)) = true := beq_iff_eq.2 (by omega)
          have HLen := Lib.hid hlen
          clear hlen
          go_wp2_with fail
          go_quiet (fail)
          have b1 : (0 : Int) ≤ 1 := by omega
          have b2 : (1 : Int) ≤ 1 + (c : Int) := by omega
          have b3 : 1 + (c : Int) ≤ (n : Int) := by have := HLen.out; omega
          have b4 : 1 + (c : Int) ≤ (cap : Int) := by have := HLen.out; omega
          have b5 : (n : Int) ≤ (cap : Int) := by omega
          have hfit : True ∧ n = 1 + c + l := ⟨trivial, HLen.out⟩
          have b7 : 1 + c < cap := by have := HCap.out hfit; omega
          have b8 : 1 + (c : Int) < (cap : Int) := by omega
          have b9 : 1 < cap := by omega
          have b10 : ¬ (cap = 1 + c) := by omega
          have hrow := HRow.out hfit
          have HKc2 := Lib.hid (HKc.out hfit)
          obtain ⟨W6, hW6⟩ : ∃ W6, W6 = (wr.alloc (.cells #[.string (str x0), .int .i64 (c : Int), .int .i64 (l : Int)] 129)).drewN nq := ⟨_, rfl⟩
          have HB6 := Lib.hid (show Below wr.heap.size wr W6 by rw [hW6]; exact below_step (below_alloc _ _) (below_drew _ _))
          have yc : W6.cell? ⟨wr.heap.size, 1, none⟩ = some (.int .i64 (c : Int)) := by rw [hW6]; exact cell_lay wr _ _ 1 _ rfl
          have HNe : Hid (wr.heap.size ≠ w.heap.size) := Lib.hid (by have := lt_of_obj HR1.out; have := HB.out.size; omega)
          have HR6 := Lib.hid (obj_kept HB6.out (obj_kept HB.out HR1.out))
          have HBw6 := Lib.hid (below_step (below_step HB1.out HB.out) HB6.out)
          have hcl6 : ∀ i x, ws[i]? = some x → W6.cell? ⟨WB, i, none⟩ = some (.string (str x)) := fun i x hx => cell_below HB6.out (cell_below HB.out (HCell.out i x hx))
          have hlen := HLen.out
          have hnn := Hn.out
          have hcw : ((ws.drop 1).take c).length = c := by rw [List.length_take, List.length_drop]; omega
          have hlw2 : (ws.drop (1 + c)).length = l := by rw [List.length_drop]; omega
          have htk : (ws.drop (1 + c)).take (n - (1 + c)) = ws.drop (1 + c) := List.take_of_length_le (by omega)
          have HNum := Lib.hid (fun W (hb : Below W6.heap.size W6 W) => readNumbers_any k (.slice (some ⟨WB, 1, none⟩) c (cap - 1)) (.slice (some ⟨WB, 1 + c, none⟩) (n - (1 + c)) (cap - (1 + c))) ((ws.drop 1).take c) (ws.drop (1 + c)) W ((HEE.out _ HBw6.out).mono hb) ((strs_sub hcl6 1 c (cap - 1) (by omega) (by omega) (by omega)).mono hb) (by have := (strs_sub hcl6 (1 + c) (n - (1 + c)) (cap - (1 + c)) (by omega) (by omega) (by omega)).mono hb; rw [htk] at this; exact this) (by omega) (by omega) (fun x hx => by have := HWl.out x (List.mem_of_mem_drop (List.mem_of_mem_take hx)); omega) (fun x hx => by have := HWl.out x (List.mem_of_mem_drop hx); omega))
          have hq1 : ∀ cs, collect Mt.codeB ((ws.drop 1).take c) = some cs → cs.length = c := fun cs h => by rw [collect_len h, hcw]
          have hq2 : ∀ ls, collect Mt.lenB (ws.drop (1 + c)) = some ls → ls.length = l := fun ls h => by rw [collect_len h, hlw2]
          generalize collect Mt.codeB ((ws.drop 1).take c) = o1 at HNum hrow hq1
          generalize collect Mt.lenB (ws.drop (1 + c)) = o2 at HNum hrow hq2
          have HRw := Lib.hid hrow
          have HQ1 := Lib.hid hq1
          have HQ2 := Lib.hid hq2
          have hs1 : ∀ wx, (Instr.slice 48 (.slice (some ⟨WB, 0, none⟩) n cap) (some (.int .i64 (1 + (c : Int)))) none none).run Tryz.prog wx = .ok (.slice (some ⟨WB, 1 + c, none⟩) (n - (1 + c)) (cap - (1 + c))) wx := fun wx => run_from WB n c cap (by omega) b7 wx
          have hs2 : ∀ wx, (Instr.sliceAt 48 (.slice (some ⟨WB, 0, none⟩) n cap) (some (.int .i64 (1 + (c : Int)))) none none).run Tryz.prog wx = .ok (.slice (some ⟨WB, 1 + c, none⟩) (n - (1 + c)) (cap - (1 + c))) wx := fun wx => by rw [run_sliceAt_slice (h := by rw [elemStrs]; exact Tryz.underlying48)]; exact hs1 wx
          have hs3 : ∀ wx, (Instr.slice 48 (.slice (some ⟨WB, 0, none⟩) n cap) (some (.int .i64 1)) (some (.int .i64 (1 + (c : Int)))) none).run Tryz.prog wx = .ok (.slice (some ⟨WB, 1, none⟩) c (cap - 1)) wx := fun wx => run_mid WB n c cap (by omega) b7 wx
          have hs4 : ∀ wx, (Instr.sliceAt 48 (.slice (some ⟨WB, 0, none⟩) n cap) (some (.int .i64 1)) (some (.int .i64 (1 + (c : Int)))) none).run Tryz.prog wx = .ok (.slice (some ⟨WB, 1, none⟩) c (cap - 1)) wx := fun wx => by rw [run_sliceAt_slice (h := by rw [elemStrs]; exact Tryz.underlying48)]; exact hs3 wx
          clear q1 q2 hw0 hw1 hix hfit hrow hcl6 hcw hlw2 htk hq1 hq2 HRow HKc HCap hlen hnn HFit
          rw [← hW6]
          clear hW6
          cases o1 with
          | none =>
            go_wp2_with fail
            go_region_held3 (fun w' => w'.cell? ⟨wr.heap.size, 1, none⟩ = some (.int .i64 (c : Int))) (first | go_keep | exact cell_below HX.out yc | exact (set3_far HNe.out).trans (cell_below HX.out yc)) ((go_at_call 82; (with_reducible refine (HNum.out _ (below_drew1' W6)).mono ?_); rintro e w7 ⟨hb7, rfl⟩; have HX := Lib.hid (below_step (below_drew1' W6) hb7); have hr7 := obj_kept hb7 (obj_kept (below_drew1' W6) HR6.out); have NH := Lib.hid hr7; have n0' := (three_of hr7).1; have n1' := (three_of hr7).2.1; have n2' := (three_of hr7).2.2; have f0 := Lib.frozen_of_heap hr7 0; have f1 := Lib.frozen_of_heap hr7 1; have f2 := Lib.frozen_of_heap hr7 2; have HB7 := Lib.hid (below_step HBw6.out (below_step (below_drew1' W6) hb7)); clear hb7 hr7))
            obtain ⟨s0, s1, s2⟩ := set_three (a := .int .i64 0) (b := .slice none 0 0) (c := .slice none 0 0) NH.out
            go_wp2
            exact bodyPost_ret (v := .tuple #[.agg #[.int .i64 0, .slice none 0 0, .slice none 0 0], .iface 207 (.pointer (some aL))]) (by simp [results, Tryz.results47, go_sem, s0, s1, s2]) rfl ⟨below_set3 HB7.out, by rw [HRw.out]; rfl⟩
          | some cs =>
            cases o2 with
            | none =>
              go_wp2_with fail
              go_region_held3 (fun w' => w'.cell? ⟨wr.heap.size, 1, none⟩ = some (.int .i64 (c : Int))) (first | go_keep | exact cell_below HX.out yc | exact (set3_far HNe.out).trans (cell_below HX.out yc)) ((go_at_call 82; (with_reducible refine (HNum.out _ (below_drew1' W6)).mono ?_); rintro e w7 ⟨hb7, rfl⟩; have HX := Lib.hid (below_step (below_drew1' W6) hb7); have hr7 := obj_kept hb7 (obj_kept (below_drew1' W6) HR6.out); have NH := Lib.hid hr7; have n0' := (three_of hr7).1; have n1' := (three_of hr7).2.1; have n2' := (three_of hr7).2.2; have f0 := Lib.frozen_of_heap hr7 0; have f1 := Lib.frozen_of_heap hr7 1; have f2 := Lib.frozen_of_heap hr7 2; have HB7 := Lib.hid (below_step HBw6.out (below_step (below_drew1' W6) hb7)); clear hb7 hr7))
              obtain ⟨s0, s1, s2⟩ := set_three (a := .int .i64 0) (b := .slice none 0 0) (c := .slice none 0 0) NH.out
              go_wp2
              exact bodyPost_ret (v := .tuple #[.agg #[.int .i64 0, .slice none 0 0, .slice none 0 0], .iface 207 (.pointer (some aL))]) (by simp [results, Tryz.results47, go_sem, s0, s1, s2]) rfl ⟨below_set3 HB7.out, by rw [HRw.out]; rfl⟩
            | some ls =>
              obtain ⟨hk1, hk2, hk3⟩ := HKc2.out cs ls (HQ1.out _ rfl) (HQ2.out _ rfl)
              have HK1 := Lib.hid hk1
              have HK2 := Lib.hid hk2
              have HK3 := Lib.hid hk3
              clear hk1 hk2 hk3
              go_wp2_with fail
              go_region_held3 (fun w' => w'.cell? ⟨wr.heap.size, 1, none⟩ = some (.int .i64 (c : Int))) (first | go_keep | exact cell_below HX.out yc | exact (set3_far HNe.out).trans (cell_below HX.out yc)) ((go_at_call 82; (with_reducible refine (HNum.out _ (below_drew1' W6)).mono ?_); rintro e w7 ⟨hb7, cv7, lv7, rfl, hcv7, hlv7⟩; have HCv7 := Lib.hid hcv7; have HLv7 := Lib.hid hlv7; obtain ⟨⟨pc7, cc7, ec7, _⟩, _, _⟩ := hcv7.at; obtain ⟨⟨pl7, cl7, el7, _⟩, _, _⟩ := hlv7.at; clear hcv7 hlv7; subst ec7; subst el7; have HX := Lib.hid (below_step (below_drew1' W6) hb7); have hr7 := obj_kept hb7 (obj_kept (below_drew1' W6) HR6.out); have NH := Lib.hid hr7; have n0' := (three_of hr7).1; have n1' := (three_of hr7).2.1; have n2' := (three_of hr7).2.2; have f0 := Lib.frozen_of_heap hr7 0; have f1 := Lib.frozen_of_heap hr7 1; have f2 := Lib.frozen_of_heap hr7 2; have HB7 := Lib.hid (below_step HBw6.out (below_step (below_drew1' W6) hb7)); clear hb7 hr7))
              obtain ⟨s0, s1, s2⟩ := set_three (a := .int .i64 (k : Int)) (b := .slice pc7 cs.length cc7) (c := .slice pl7 ls.length cl7) NH.out
              go_wp2
              exact bodyPost_ret (v := .tuple #[.agg #[.int .i64 (k : Int), .slice pc7 cs.length cc7, .slice pl7 ls.length cl7], .nilIface]) (by simp [results, Tryz.results47, go_sem, s0, s1, s2]) rfl ⟨below_set3 HB7.out, by rw [HRw.out]; exact ⟨_, _, by rw [HK1.out], by rw [HK2.out]; exact ints_set3 HCv7.out (lt_of_obj HR6.out) HBw6.out.size, by rw [HK3.out]; exact ints_set3 HLv7.out (lt_of_obj HR6.out) HBw6.out.size⟩⟩
        · have q2 : ((n : Int) == 1 + (c : Int) + (l : Int)) = false := beq_eq_false_iff_ne.2 (by omega)
          have HLen := Lib.hid hlen
          clear hlen
          go_wp2_with fail
          go_quiet (fail)
          go_wp2
          go_roundw
          case rel => exact ⟨k + 1, by omega, by go_num, Lib.hid (unfit_next HN.out (fun hf => HLen.out (HFit.out.1 hf).2)), Lib.hid (below_step HB.out (below_step (below_alloc _ _) (below_drew _ _)))⟩
          case measure => simp [intOf]; omega
      · have q1 : ((str x0).toList == (str nm).toList) = false := by
          rw [Lib.toList_data, Lib.toList_data, str_data, str_data]
          exact beq_eq_false_iff_ne.2 hx
        have HX := Lib.hid hx
        clear hx
        go_wp2_with fail
        go_quiet (fail)
        go_wp2
        go_roundw
        case rel => exact ⟨k + 1, by omega, by go_num, Lib.hid (unfit_next HN.out (fun hf => HX.out (HFit.out.1 hf).1)), Lib.hid (below_step HB.out (below_step (below_alloc _ _) (below_drew _ _)))⟩
        case measure => simp [intOf]; omega
    · have hkk : k = 5 := by omega
      subst hkk
      have hrow : Mt.row s.data.toList = none := by
        unfold Mt.row
        rcases HCase.out with h | ⟨_, h⟩
        · rw [← h]; exact row_unfit HN.out
        · refine row_unfit (fun k hk hf => ?_)
          have := hf.2
          have := fit_small k
          omega
      have HRw := Lib.hid hrow
      have hr7 := obj_kept HB.out HR1.out
      have NH := Lib.hid hr7
      obtain ⟨n0', n1', n2'⟩ := three_of hr7
      have f0 := Lib.frozen_of_heap hr7 0
      have f1 := Lib.frozen_of_heap hr7 1
      have f2 := Lib.frozen_of_heap hr7 2
      have HB7 := Lib.hid (below_step HB1.out HB.out)
      have hln := (HEE.out _ HB7.out).line
      have HNe : Hid (0 ≠ w.heap.size) := Lib.hid (by have := block_lt_of_cell ((HEE.out w (Below.refl _ _)).line); simp at this; omega)
      obtain ⟨s0, s1, s2⟩ := set_three (a := .int .i64 0) (b := .slice none 0 0) (c := .slice none 0 0) NH.out
      clear hr7 hrow
      go_wp2_with fail
      go_region_held3 (fun w' => w'.cell? ⟨0, 0, none⟩ = some (.iface 207 (.pointer (some aL)))) (first | exact hln | exact (set3_far HNe.out).trans hln | exact (drew_cell1 _ _).trans ((set3_far HNe.out).trans hln) | go_keep) ((fail))
      go_wp2
      exact bodyPost_ret (v := .tuple #[.agg #[.int .i64 0, .slice none 0 0, .slice none 0 0], .iface 207 (.pointer (some aL))]) (by simp [results, Tryz.results47, go_sem, s0, s1, s2]) rfl ⟨below_step (below_set3 HB7.out) (below_drew1' _), by rw [HRw.out]⟩
end Go.Proofs.YtmehldekebphfaaGreatDoor
