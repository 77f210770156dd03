/-
  The landed line's text: its words, with blanks between.
-/
import Derived.Test.YtmehldekebphfaaGreatDoorEnv7
import Derived.Test.YtmehldekebphfaaGreatDoorLen7
import Derived.Test.YtmehldekebphfaaGreatDoorRefSplit7
import Derived.Test.YtmehldekebphfaaGreatDoorShelf
set_option linter.unusedVariables false
set_option linter.unusedSimpArgs false
namespace Go.Proofs.YtmehldekebphfaaGreatDoor
open Go.RowKit

theorem join_is (c : UInt8) : ∀ ls : List (List UInt8), Lib.join ls [c] = Mt.join c ls
  | [] => rfl
  | [l] => by simp [Lib.join, Mt.join]
  | l :: m :: r => by
    have ih := join_is c (m :: r)
    unfold Lib.join at ih ⊢
    rw [Mt.join, ← ih]
    simp [List.intercalate]
def nameOf (k : Nat) : List UInt8 := match k with
  | 0 => Mt.spaceW
  | 1 => Mt.hyphenW
  | 2 => Mt.charW
  | 3 => Mt.kernW
  | _ => Mt.ligW
def lineWords (k : Nat) (cs ls : List Int) : List (List UInt8) := nameOf k :: (cs.map Lib.itoa ++ ls.map Sc.print)
theorem join_len (c : UInt8) (b : Nat) : ∀ ls : List (List UInt8), (∀ l ∈ ls, l.length ≤ b) → (Mt.join c ls).length ≤ ls.length * (b + 1)
  | [], _ => by simp [Mt.join]
  | [l], h => by have := h l (List.mem_cons_self ..); simp [Mt.join]; omega
  | l :: m :: r, h => by
    have h1 := h l (List.mem_cons_self ..)
    have h2 := join_len c b (m :: r) (fun x hx => h x (List.mem_cons_of_mem _ hx))
    rw [Mt.join, List.length_append, List.length_cons]
    simp only [List.length_cons] at h2 ⊢
    rw [Nat.add_mul] at h2 ⊢
    rw [Nat.add_mul]
    omega
theorem itoa_len7 (n : Int) (h : In32 n) : (Lib.itoa n).length ≤ 26 := by
  unfold In32 at h
  have := Lib.itoa_length_le n (by omega) (by omega)
  omega
theorem lineWords_len (k : Nat) (cs ls : List Int) (h : ∀ c ∈ cs, In32 c) : ∀ l ∈ lineWords k cs ls, l.length ≤ 26 := by
  intro l hl
  unfold lineWords at hl
  rcases List.mem_cons.1 hl with rfl | hl
  · unfold nameOf
    split <;> decide
  · rcases List.mem_append.1 hl with hl | hl
    · obtain ⟨c, hc, rfl⟩ := List.mem_map.1 hl
      exact itoa_len7 c (h c hc)
    · obtain ⟨c, _, rfl⟩ := List.mem_map.1 hl
      exact Sc.print_len c
theorem strs_len (ws : List (List UInt8)) : (ws.map fun l => (str l : ByteArray)).map (·.data.toList) = ws := by
  rw [List.map_map]
  conv => rhs; rw [← List.map_id ws]
  exact List.map_congr_left fun l _ => str_data l
theorem pat_at {w : World} (h : Laid w 2 patCells) (k : Nat) (hk : k < 5) : w.cell? ⟨2, k * 3, none⟩ = some (.string (str (nameOf k))) := by
  match k, hk with
  | 0, _ => exact h.at_ 0 _ rfl
  | 1, _ => exact h.at_ 3 _ rfl
  | 2, _ => exact h.at_ 6 _ rfl
  | 3, _ => exact h.at_ 9 _ rfl
  | 4, _ => exact h.at_ 12 _ rfl
theorem itoa7_any {aL aT : Addr} (n : Int) (h : In32 n) (w : World) (hE : MEnv aL aT w) : Calls Tryz.prog 74 #[.int .i64 n] w (Ret (.string (str (Lib.itoa n))) w) := by
  unfold In32 at h
  refine (Tryz.strconv_Itoa n (by omega) (by omega) w hE.tab).mono ?_
  rintro e w' ⟨he, k, os, rfl⟩
  exact ⟨he, below_growN _ _ _⟩
theorem print7_any {aL aT : Addr} (n : Int) (w : World) (hE : MEnv aL aT w) : Calls Tryz.prog 75 #[.int .i64 n] w (Ret (.string (str (Sc.print n))) w) := print_any n w hE.tab
theorem ownS_one (w : World) (B p : Nat) (hp : w.heap.size = p) (hB : B ≤ p) (s : List UInt8) : OwnS B (.slice (some ⟨p, 0, none⟩) 1 1) [s] (w.alloc (.cells #[.string (str s)] 9)) := by
  subst hp
  exact ⟨by simp, .inr ⟨w.heap.size, 1, #[.string (str s)], rfl, hB, heap_alloc_new w _, Nat.le_refl _, by unfold maxLen; omega, rfl, rfl⟩⟩
theorem OwnS.mono7 {B : Nat} {v : Value} {ns : List (List UInt8)} {w w' : World} (h : OwnS B v ns w) (hb : Below w.heap.size w w') : OwnS B v ns w' :=
  World.ownsRow.kept h (row := none) ⟨hb.os, hb.tape, hb.output, hb.size, fun i hi _ => hb.block i hi⟩ (by cases v.ownBlock <;> simp)
theorem OwnS.base7 {B B' : Nat} {v : Value} {ns : List (List UInt8)} {w : World} (h : OwnS B v ns w) (hB : B' ≤ B) : OwnS B' v ns w := by
  refine ⟨h.1, ?_⟩
  rcases h.2 with h2 | ⟨g, cap, cur, e, hg, rest⟩
  · exact .inl h2
  · exact .inr ⟨g, cap, cur, e, Nat.le_trans hB hg, rest⟩
theorem laid_far {w w' : World} {row : Option Nat} {b : Nat} {cs : Array Value} (h : Laid w b cs) (hg : w.grownBy w' row) (hlt : b < w.heap.size) (hne : some b ≠ row) : Laid w' b cs := ⟨fun j u hj => (hg.cell_far ⟨b, j, none⟩ hlt hne).trans (h.at_ j u hj)⟩
theorem take_map_on {α : Type} (f : α → List UInt8) {l : List α} {i : Nat} {x : α} (h : l[i]? = some x) : (l.take (i + 1)).map f = (l.take i).map f ++ [f x] := by
  rw [List.take_add_one, h]
  simp

set_option maxHeartbeats 8000000 in
set_option maxRecDepth 100000 in
theorem text_any {aL aT : Addr} (k : Nat) (hk : k < 5) (cs ls : List Int) (cv lv : Value) (w : World) (hE : MEnv aL aT w) (hc : IntsAt .i32 w cv cs) (hl : IntsAt .i64 w lv ls) (hcs : cs.length ≤ 3) (hls : ls.length ≤ 3) (hin : ∀ c ∈ cs, In32 c) :
    Calls Tryz.prog 40 #[.agg #[.int .i64 k, cv, lv]] w (Ret (.string (str (Mt.join 32 (lineWords k cs ls)))) w) := by
  obtain ⟨i0, hi, hz0, hz1, hz2⟩ := info_parts infoStr7
  have HEE := Lib.hid (fun w' (h : Below w.heap.size w w') => hE.mono h)
  have HC := Lib.hid hc
  have HL := Lib.hid hl
  have HIn := Lib.hid hin
  have HNm : Hid (∀ w', Below w.heap.size w w' → w'.cell? ⟨2, k * 3, none⟩ = some (.string (str (nameOf k)))) := Lib.hid (fun w' h => pat_at (hE.mono h).pats k hk)
  have HJ : Hid ((Mt.join 32 (lineWords k cs ls)).length ≤ 1000 ∧ (lineWords k cs ls).length ≤ 7) := Lib.hid (by
    have h1 := join_len 32 26 _ (lineWords_len k cs ls hin)
    have h2 : (lineWords k cs ls).length ≤ 7 := by simp [lineWords]; omega
    exact ⟨by omega, h2⟩)
  obtain ⟨⟨pc, cc, rfl, _⟩, _, _⟩ := hc
  obtain ⟨⟨pl, cl, rfl, _⟩, _, _⟩ := hl
  obtain ⟨n, hn⟩ : ∃ n, n = cs.length := ⟨_, rfl⟩
  obtain ⟨m, hm⟩ : ∃ m, m = ls.length := ⟨_, rfl⟩
  have Hn := Lib.hid hn
  have Hm := Lib.hid hm
  rw [← hn] at hcs ⊢
  rw [← hm] at hls ⊢
  have HWs : Hid (lineWords k cs ls = nameOf k :: (cs.map Lib.itoa ++ ls.map Sc.print)) := Lib.hid rfl
  generalize lineWords k cs ls = LW at HWs HJ ⊢
  obtain ⟨NM, hNM⟩ : ∃ s, s = nameOf k := ⟨_, rfl⟩
  rw [← hNM] at HNm HWs
  have HB1 := Lib.hid (below_alloc w (.cells #[.int .i64 k, .slice pc n cc, .slice pl m cl] 89))
  have HLd := Lib.hid (laid_one w #[.int .i64 k, .slice pc n cc, .slice pl m cl] 89)
  have nm := HNm.out _ HB1.out
  have k0 : (0 : Int) ≤ (k : Int) := by omega
  have kl : (k : Int) < 5 := by omega
  have HO0 := Lib.hid (ownS_one (w.alloc (.cells #[.int .i64 k, .slice pc n cc, .slice pl m cl] 89)) (w.heap.size + 1) (w.heap.size + 1) (World.size_alloc _ _) (Nat.le_refl _) NM)
  have HB2 := Lib.hid (below_step HB1.out (below_alloc _ (.cells #[.string (str NM)] 9)))
  have HLd2 := Lib.hid (HLd.out.mono (below_alloc _ (.cells #[.string (str NM)] 9)))
  clear hE hin hn hm hNM HB1 HLd
  go_enter Tryz.func40, Tryz.ntmps40
  go_wp2_with fail
  go_loopw [3, 17] (fun wv iv wr => ∃ i : Nat, i ≤ n ∧ iv = .int .i64 i ∧ w.heap.size + 2 ≤ wr.heap.size ∧ Hid (OwnS (w.heap.size + 1) wv (NM :: (cs.take i).map Lib.itoa) wr) ∧ Hid (Below w.heap.size w wr) ∧ Hid (Laid wr w.heap.size #[.int .i64 k, .slice pc n cc, .slice pl m cl])) (fun _ iv _ => n - (intOf iv).toNat)
  case atStart => exact ⟨0, Nat.zero_le _, rfl, by simp, HO0, HB2, HLd2⟩
  case round =>
    obtain ⟨i, hi', rfl, hs2, HO, HB, HLr⟩ := hrel
    clear HO0 HB2 HLd2
    by_cases hlt : i < n
    · obtain ⟨b1, o1, d1, e1, r1⟩ := HC.out.2.2 (by rw [← Hn.out]; omega)
      obtain ⟨rfl, rfl⟩ : pc = some ⟨b1, o1, none⟩ ∧ cc = d1 := by injection e1 with a1 a2 a3; exact ⟨a1, a3⟩
      obtain ⟨x, hx⟩ : ∃ x, cs[i]? = some x := ⟨_, List.getElem?_eq_getElem (by rw [← Hn.out]; exact hlt)⟩
      have z0 := cell_below HB.out (r1 i x hx)
      have i0' : (0 : Int) ≤ (i : Int) := by omega
      have il : (i : Int) < (n : Int) := by omega
      have hx32 := HIn.out x (List.mem_of_getElem? hx)
      have hxa : -2147483648 ≤ x := hx32.1
      have hxb : x ≤ 2147483647 := hx32.2
      have HI := Lib.hid (itoa7_any x hx32 wr (HEE.out _ HB.out))
      have HT := Lib.hid (take_map_on Lib.itoa hx)
      obtain ⟨LS, hLS⟩ : ∃ LS, LS = NM :: (cs.take i).map Lib.itoa := ⟨_, rfl⟩
      have hlen : LS.length ≤ 1 + i := by have hcl := Hn.out; rw [hLS]; simp; omega
      rw [← hLS] at HO
      have HLS := Lib.hid hLS
      clear r1 e1 hx hLS
      generalize Lib.itoa x = y at HI HT
      go_wp2_with fail
      refine HI.out.mono ?_
      rintro e w1 ⟨rfl, hb1⟩
      have hbw := below_step HB.out hb1
      have hsz := hbw.size
      have hs3 := hb1.size
      have HBw := Lib.hid hbw
      have HL1 := Lib.hid (HLr.out.mono hb1)
      have hown : World.ownsRow (w1.alloc (.cells #[.string (str y)] 9)) (w.heap.size + 1) 9 1 _ LS.length (LS.map fun s => Value.string (str s)) := World.ownsRow.alloc (HO.out.mono7 hb1) (.cells #[.string (str y)] 9)
      have hnews := one_string w1 (str y)
      have hval := World.ownsRow.lt (HO.out.mono7 hb1)
      clear hb1 hbw
      go_wp2_with (at_builtin; refine wpList_append_lies _ rfl _ _ 48 rfl (w.heap.size + 1) 9 i0 _ 1 16 Tryz.underlying48 hi hz0 hz1 hz2 rfl (by decide) _ _ _ rfl hown ⟨w1.heap.size, 0, none⟩ 1 1 [.string (str y)] rfl rfl hnews (fun z hz => by simp at hz; subst hz; rfl) (by omega) (by unfold maxLen; omega) (by omega) (by rw [World.size_alloc]; omega) _ rfl ?_; intro g9 cap9 w9 hown9 hgrow9 hat9 hlt9)
      have HB9 := Lib.hid ((HBw.out.alloc hsz (.cells #[.string (str y)] 9)).grown hgrow9 (by rw [World.size_alloc]; omega) (fun q hq => by have := (hval q hq).1; omega))
      have HL9 := Lib.hid (laid_far (HL1.out.mono (below_alloc w1 (.cells #[.string (str y)] 9))) hgrow9 (by rw [World.size_alloc]; omega) (fun hq => by have := (hval _ hq.symm).1; omega))
      have hs9 : w.heap.size + 2 ≤ w9.heap.size := by have := hgrow9.size; rw [World.size_alloc] at this; omega
      have HO9 := Lib.hid (OwnS.snoc hown9)
      clear hown hnews hval hown9 hgrow9 hat9 hlt9
      go_roundw
      case rel => exact ⟨i + 1, by omega, by go_num, hs9, Lib.hid (by rw [HT.out, ← List.cons_append, ← HLS.out]; exact HO9.out), HB9, HL9⟩
      case measure => simp [intOf]; omega
    · have z1 := HLr.out.at_ 2 _ rfl
      obtain ⟨wo, hwo⟩ : ∃ wo : World, wo = wr := ⟨_, rfl⟩
      subst hwo
      go_wp2_with fail
      go_loopw [3, 31] (fun wv iv wr => ∃ i : Nat, i ≤ m ∧ iv = .int .i64 i ∧ w.heap.size + 2 ≤ wr.heap.size ∧ Hid (OwnS (w.heap.size + 1) wv ((NM :: cs.map Lib.itoa) ++ (ls.take i).map Sc.print) wr) ∧ Hid (Below w.heap.size w wr) ∧ Hid (Laid wr w.heap.size #[.int .i64 k, .slice pc n cc, .slice pl m cl])) (fun _ iv _ => m - (intOf iv).toNat)
      case atStart => exact ⟨0, Nat.zero_le _, rfl, hs2, Lib.hid (by rw [List.take_of_length_le (show cs.length ≤ i by rw [← Hn.out]; omega)] at HO; simpa using HO.out), HB, HLr⟩
      case round =>
        clear HO HB HLr hs2
        obtain ⟨i, hi', rfl, hs2, HO, HB, HLr⟩ := hrel
        by_cases hlt : i < m
        · obtain ⟨b1, o1, d1, e1, r1⟩ := HL.out.2.2 (by rw [← Hm.out]; omega)
          obtain ⟨rfl, rfl⟩ : pl = some ⟨b1, o1, none⟩ ∧ cl = d1 := by injection e1 with a1 a2 a3; exact ⟨a1, a3⟩
          obtain ⟨x, hx⟩ : ∃ x, ls[i]? = some x := ⟨_, List.getElem?_eq_getElem (by rw [← Hm.out]; exact hlt)⟩
          have z0 := cell_below HB.out (r1 i x hx)
          have i0' : (0 : Int) ≤ (i : Int) := by omega
          have il : (i : Int) < (m : Int) := by omega
          have HI := Lib.hid (print7_any x wr (HEE.out _ HB.out))
          have HT := Lib.hid (take_map_on Sc.print hx)
          obtain ⟨LS, hLS⟩ : ∃ LS, LS = (NM :: cs.map Lib.itoa) ++ (ls.take i).map Sc.print := ⟨_, rfl⟩
          have hlen : LS.length ≤ 4 + i := by have hcl := Hn.out; rw [hLS]; simp; omega
          rw [← hLS] at HO
          have HLS := Lib.hid hLS
          clear r1 e1 hx hLS
          generalize Sc.print x = y at HI HT
          go_wp2_with fail
          refine HI.out.mono ?_
          rintro e w1 ⟨rfl, hb1⟩
          have hbw := below_step HB.out hb1
          have hsz := hbw.size
          have hs3 := hb1.size
          have HBw := Lib.hid hbw
          have HL1 := Lib.hid (HLr.out.mono hb1)
          have hown : World.ownsRow (w1.alloc (.cells #[.string (str y)] 9)) (w.heap.size + 1) 9 1 _ LS.length (LS.map fun s => Value.string (str s)) := World.ownsRow.alloc (HO.out.mono7 hb1) (.cells #[.string (str y)] 9)
          have hnews := one_string w1 (str y)
          have hval := World.ownsRow.lt (HO.out.mono7 hb1)
          clear hb1 hbw
          go_wp2_with (at_builtin; refine wpList_append_lies _ rfl _ _ 48 rfl (w.heap.size + 1) 9 i0 _ 1 16 Tryz.underlying48 hi hz0 hz1 hz2 rfl (by decide) _ _ _ rfl hown ⟨w1.heap.size, 0, none⟩ 1 1 [.string (str y)] rfl rfl hnews (fun z hz => by simp at hz; subst hz; rfl) (by omega) (by unfold maxLen; omega) (by omega) (by rw [World.size_alloc]; omega) _ rfl ?_; intro g9 cap9 w9 hown9 hgrow9 hat9 hlt9)
          have HB9 := Lib.hid ((HBw.out.alloc hsz (.cells #[.string (str y)] 9)).grown hgrow9 (by rw [World.size_alloc]; omega) (fun q hq => by have := (hval q hq).1; omega))
          have HL9 := Lib.hid (laid_far (HL1.out.mono (below_alloc w1 (.cells #[.string (str y)] 9))) hgrow9 (by rw [World.size_alloc]; omega) (fun hq => by have := (hval _ hq.symm).1; omega))
          have hs9 : w.heap.size + 2 ≤ w9.heap.size := by have := hgrow9.size; rw [World.size_alloc] at this; omega
          have HO9 := Lib.hid (OwnS.snoc hown9)
          clear hown hnews hval hown9 hgrow9 hat9 hlt9
          go_roundw
          case rel => exact ⟨i + 1, by omega, by go_num, hs9, Lib.hid (by rw [HT.out, ← List.append_assoc, ← HLS.out]; exact HO9.out), HB9, HL9⟩
          case measure => simp [intOf]; omega
        · have HE : Hid ((NM :: cs.map Lib.itoa) ++ (ls.take i).map Sc.print = LW) := Lib.hid (by rw [HWs.out, List.take_of_length_le (by rw [← Hm.out]; omega)]; rfl)
          have HOe := Lib.hid HO.out.at
          rw [HE.out] at HOe
          obtain ⟨b1, o1, d1, e1, r1⟩ := HOe.out.2.2 (by rw [HWs.out]; simp)
          have hsz := HOe.out.1
          clear HO
          subst e1
          have hjl := HJ.out
          obtain ⟨_, cp9, e9, hcp9⟩ := hsz
          have hcap : LW.length ≤ d1 := by injection e9 with _ _ e9; omega
          have HJn := Lib.hid (Tryz.strings_Join b1 o1 d1 (LW.map fun l => (str l : ByteArray)) ⟨#[32]⟩ wr (fun j x hx => by
            rw [List.getElem?_map] at hx
            obtain ⟨l, hl, rfl⟩ := Option.map_eq_some_iff.1 hx
            exact r1 j l hl) (block_lt_of_cell (r1 0 _ (List.getElem?_eq_getElem (by rw [HWs.out]; simp)))) (by rw [List.length_map]; omega) (by rw [List.length_map]; exact hcap) (by rw [strs_len]; show (Lib.join LW [32]).length ≤ _; rw [join_is]; omega))
          rw [List.length_map, strs_len] at HJn
          have hjn : Lib.join LW (⟨#[32]⟩ : ByteArray).data.toList = Mt.join 32 LW := join_is 32 LW
          rw [hjn] at HJn
          clear r1 hjl hcap e9 hcp9 hjn
          go_wp2_with fail
          refine HJn.out.mono ?_
          rintro e w1 ⟨rfl, hb1⟩
          have HB1 := Lib.hid (below_step HB.out hb1)
          clear hb1
          go_wp2
          go_ret
          exact ⟨rfl, HB1.out⟩
end Go.Proofs.YtmehldekebphfaaGreatDoor
