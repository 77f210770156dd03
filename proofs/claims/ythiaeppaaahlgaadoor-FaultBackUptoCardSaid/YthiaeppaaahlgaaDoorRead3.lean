/-
  Reading a chain: what Read of the reference returns: the same as the program's.
-/
import Derived.Test.YthiaeppaaahlgaaDoorRead2
import Derived.Test.YthiaeppaaahlgaaDoorRefText
set_option linter.unusedVariables false
set_option linter.unusedSimpArgs false
namespace Go.Proofs.YthiaeppaaahlgaaDoor
open Go.RowKit Go.Extern.Stop Go.Stop Go.Extern

theorem number_yes (l : List UInt8) (v : Int) (h : Fm.num l = some v) (hs : l.length ≤ 9223372036854775807) (w : World) :
    Calls Tryd.prog 19 #[.string ⟨l.toArray⟩] w fun e w' => e = .returned (.tuple #[.int .i64 v, .bool true]) ∧ w' = w := by
  have := number_any ⟨l.toArray⟩ (by rw [arr_size]; exact hs) w
  rw [arr_toList] at this
  refine this.mono ?_
  rintro e w' ⟨k, he, hk, hw⟩
  rw [h] at he
  rw [hk v h] at he
  exact ⟨he, hw⟩
def NoNum (w : World) (e : Ending) (w' : World) : Prop := ∃ k : Int, e = .returned (.tuple #[.int .i64 k, .bool false]) ∧ w' = w
theorem number_no (l : List UInt8) (h : Fm.num l = none) (hs : l.length ≤ 9223372036854775807) (w : World) :
    Calls Tryd.prog 19 #[.string ⟨l.toArray⟩] w (NoNum w) := by
  have := number_any ⟨l.toArray⟩ (by rw [arr_size]; exact hs) w
  rw [arr_toList] at this
  refine this.mono ?_
  rintro e w' ⟨k, he, hk, hw⟩
  rw [h] at he
  exact ⟨k, he, hw⟩
theorem refCut_at (s sep : ByteArray) (x y : List UInt8) (b : Bool) (h : Lib.cut s.data.toList sep.data.toList = (x, y, b)) (hs : s.size + sep.size + 1 ≤ 9223372036854775807) (hp : sep.data.toList ≠ []) (w : World) :
    Calls Tryd.prog 18 #[.string s, .string sep] w (ValPost (.tuple #[.string ⟨x.toArray⟩, .string ⟨y.toArray⟩, .bool b]) w) := by
  refine (refCut_any s sep hs hp w).mono ?_
  rintro e w' ⟨he, n, rfl⟩
  unfold cutVal at he
  rw [h] at he
  exact ⟨he, below_drewN (Below.refl _ _) n⟩
theorem refName_at (x : List UInt8) (b : Bool) (h : Fm.okName x = b) (hs : x.length ≤ 9223372036854775807) (w : World) :
    Calls Tryd.prog 12 #[.string ⟨x.toArray⟩] w fun e w' => e = .returned (.bool b) ∧ w' = w := by
  have := name_any ⟨x.toArray⟩ (by rw [arr_size]; exact hs) w
  rw [arr_toList, h] at this
  exact this

/-- the reference looks for the first blank: the word ahead of it is 'fault' just where the text begins with the word and a blank -/
theorem word_yes {l : List UInt8} (h : Lib.hasPrefix l Fm.faultB = true) : Lib.cut l Fm.blank = (Fm.faultW, Lib.trimPrefix l Fm.faultB, true) := by
  unfold Lib.trimPrefix
  rw [if_pos h]
  obtain ⟨t, rfl⟩ := List.isPrefixOf_iff_prefix.1 h
  rw [List.drop_left]
  exact Fm.cut_here (l := Fm.faultW) (sep := Fm.blank) (r := t) (x := 32) rfl (by decide)
theorem word_no {l x y : List UInt8} {b : Bool} (h : Lib.hasPrefix l Fm.faultB = false) (hc : Lib.cut l Fm.blank = (x, y, b)) : b = false ∨ (b = true ∧ x ≠ Fm.faultW) := by
  cases b with
  | false => exact .inl rfl
  | true =>
    refine .inr ⟨rfl, fun hx => ?_⟩
    have := Fm.cut_found hc
    rw [hx] at this
    have hp : Lib.hasPrefix l Fm.faultB = true := List.isPrefixOf_iff_prefix.2 ⟨y, by rw [this]; rfl⟩
    rw [h] at hp
    cases hp

theorem two_top {w w1 : World} {o o' : Obj} (h : Below (w.heap.size + 2) ((w.alloc o).alloc o') w1) : w.heap.size + 2 ≤ w1.heap.size := by have := h.size; simpa using this
theorem two_cells {w w1 : World} {x y x' y' : Value} {T T' : TypeId} (h : Below (w.heap.size + 2) ((w.alloc (.cells #[x, y] T)).alloc (.cells #[x', y'] T')) w1) :
    (w1.cell? ⟨w.heap.size, 0, none⟩ = some x ∧ w1.cell? ⟨w.heap.size, 1, none⟩ = some y ∧ w1.frozen? ⟨w.heap.size, 0, none⟩ = false ∧ w1.frozen? ⟨w.heap.size, 1, none⟩ = false) ∧
    w1.cell? ⟨w.heap.size + 1, 0, none⟩ = some x' ∧ w1.cell? ⟨w.heap.size + 1, 1, none⟩ = some y' := by
  have a1 : Below (w.heap.size + 1) (w.alloc (.cells #[x, y] T)) w1 := by
    have h2 := (Below.refl (w.heap.size + 1) (w.alloc (.cells #[x, y] T))).alloc (by simp) (.cells #[x', y'] T')
    exact h2.trans (h.mono (by omega))
  refine ⟨res_cells0 a1, ?_⟩
  have a2 := res_cells0 (w := w.alloc (.cells #[x, y] T)) (x := x') (y := y') (T := T') (w1 := w1) (by simpa using h)
  simp only [World.size_alloc] at a2
  exact ⟨a2.1, a2.2.1⟩
theorem two_below {w w1 : World} {x y u v : Value} {T : TypeId} {o : Obj} (h : Below (w.heap.size + 2) ((w.alloc (.cells #[x, y] T)).alloc o) w1) :
    Below w.heap.size w ((w1.setCell ⟨w.heap.size, 0, none⟩ u).setCell ⟨w.heap.size, 1, none⟩ v) := by
  have a1 : Below (w.heap.size + 1) (w.alloc (.cells #[x, y] T)) w1 := by
    have h2 := (Below.refl (w.heap.size + 1) (w.alloc (.cells #[x, y] T))).alloc (by simp) o
    exact h2.trans (h.mono (by omega))
  exact res_below0 a1
theorem own_made (w : World) (o o' : Obj) : Own (w.heap.size + 2) (.slice (some ⟨w.heap.size + 1 + 1, 0, none⟩) 0 0) [] (((w.alloc o).alloc o').alloc (.cells #[] 9)) := by
  have h := World.ownsRow_made (base := w.heap.size + 2) (e := 9) (size := 1) ((w.alloc o).alloc o') #[] 0 (by simp) (by unfold maxLen; omega) (by simp)
  simp only [World.size_alloc] at h
  exact h
theorem Own.last2 {w w1 : World} {v : Value} {ns : List ByteArray} (h : Own (w.heap.size + 2) v ns w1) (x y : Value) :
    Own (w.heap.size + 2) v ns ((w1.setCell ⟨w.heap.size, 0, none⟩ x).setCell ⟨w.heap.size, 1, none⟩ y) :=
  ownsRow_setCell_below (ownsRow_setCell_below h (by show w.heap.size < w.heap.size + 2; omega) _) (by show w.heap.size < w.heap.size + 2; omega) _

set_option maxHeartbeats 8000000 in
set_option maxRecDepth 100000 in
theorem refRead_any (s : ByteArray) (hs : s.size < 4294967281) (w : World) :
    Calls Tryd.prog 7 #[.string s] w (ReadPost (Fm.readText s.data.toList) w) := by
  obtain ⟨i0, hi, hz0, hz1, hz2⟩ := info_parts infoStr
  go_enter Tryd.func7, Tryd.ntmps7
  go_wp2
  go_loopg [6, 7] s.size (fun k v p wr => ∃ (u : ByteArray) (dn : List ByteArray), u.size = k ∧ p = .string u ∧ Own (w.heap.size + 2) v dn wr ∧ Below (w.heap.size + 2) ((w.alloc (.cells #[.int .i64 0, .int .i64 0] 24)).alloc (.cells #[.int .i64 0, .int .i64 0] 24)) wr ∧
    dn.length + u.size ≤ s.size ∧ Fm.readText s.data.toList = Fm.readChain (u.size + 1) (lns dn) u.data.toList)
  case atStart => exact ⟨s, [], rfl, rfl, own_made _ _ _, (Below.refl _ _).alloc (by simp) _, by simp, by rw [Lib.size_eq]; rfl⟩
  case round =>
    obtain ⟨u, dn, hk, rfl, hown, hb, hlen, htx⟩ := hrel
    obtain ⟨x, y, b, hc⟩ : ∃ x y b, Lib.cut u.data.toList Fm.colon = (x, y, b) := ⟨_, _, _, rfl⟩
    have hxy : x.length ≤ u.size ∧ y.length ≤ u.size := by have := cut_len hc; rw [Lib.size_eq]; exact this
    obtain ⟨ao, cap, rfl⟩ := hown.strs.1
    have hus := Lib.size_eq u
    have HK := Lib.hid hk
    have HB := Lib.hid hb
    have HO := Lib.hid hown
    have HT := Lib.hid htx
    have HC : Hid (Lib.cut u.data.toList (⟨#[58, 32]⟩ : ByteArray).data.toList = (x, y, b)) := hc
    have HC2 := Lib.hid hc
    have hsz := two_top hb
    have HUS := Lib.hid hus
    clear hk hb hown htx hc hus
    cases b with
    | true =>
      cases hv : Fm.okName x with
      | false =>
        have HN : Hid (Fm.readText s.data.toList = none) := by show _ = _; rw [HT.out]; exact chain_bad HC2.out hv
        have HV := Lib.hid hv
        clear hv
        go_wp2_with fail
        refine (refCut_at _ _ x y true HC.out (by show _ + 2 + 1 ≤ 9223372036854775807; omega) (by decide) _).mono ?_
        rintro e w1 ⟨rfl, hb1⟩
        have HB1 := Lib.hid (HB.out.trans (hb1.mono hsz))
        have HO1 := Lib.hid (HO.out.kept hb1)
        have hsz1 := two_top HB1.out
        clear hb1
        go_wp2_with fail
        refine (refName_at x false HV.out (by omega) _).mono ?_
        rintro e w2 ⟨rfl, rfl⟩
        obtain ⟨⟨q0, q1, q2, q3⟩, q4, q5⟩ := two_cells HB1.out
        go_wp2
        exact bodyPost_ret (v := .tuple #[.agg #[.int .i64 0, .int .i64 0], .slice none 0 0, .bool false]) (by simp [results, Tryd.results7, go_sem, q0, q1, q2, q3, q4, q5]) rfl ⟨.slice none 0 0, [], by rw [HN.out]; rfl, (fun c a ms h => by rw [HN.out] at h; cases h), two_below HB1.out⟩
      | true =>
        have HN := Lib.hid (chain_next (dn := dn) HUS.out HC2.out hv)
        have HV := Lib.hid hv
        have hsh : y.length < u.size := by have := Fm.cut_shorter (by decide) HC2.out; rw [Lib.size_eq]; exact this
        clear hv
        go_wp2_with fail
        refine (refCut_at _ _ x y true HC.out (by show _ + 2 + 1 ≤ 9223372036854775807; omega) (by decide) _).mono ?_
        rintro e w1 ⟨rfl, hb1⟩
        have HB1 := Lib.hid (HB.out.trans (hb1.mono hsz))
        have HO1 := Lib.hid (HO.out.kept hb1)
        have hsz1 := two_top HB1.out
        clear hb1
        go_wp2_with fail
        refine (refName_at x true HV.out (by omega) _).mono ?_
        rintro e w2 ⟨rfl, rfl⟩
        have hown := World.ownsRow.alloc HO1.out (.cells #[.string ⟨x.toArray⟩] 9)
        go_wp2_with (at_builtin; refine wpList_append_own _ rfl _ _ 25 rfl (w.heap.size + 2) 9 i0 (.string ByteArray.empty) 1 16 Tryd.underlying25 hi hz0 hz1 hz2 rfl (by decide) _ _ _ rfl hown ⟨w2.heap.size, 0, none⟩ 1 1 [.string ⟨x.toArray⟩] rfl rfl (cell_one_new _ _ _) (fun z hz => by simp at hz; subst hz; rfl) (by unfold maxLen; omega) (by omega) (by simp; omega) ?_; intro v' w3 hown' hgrow3 hnil3)
        have HB3 := Lib.hid ((HB1.out.alloc hsz1 (.cells #[.string ⟨x.toArray⟩] 9)).grown hgrow3 (by simp; omega) (fun q hq => (hown.lt q hq).1))
        have HO3 : Hid (Own (w.heap.size + 2) v' (dn ++ [⟨x.toArray⟩]) w3) := by
          show World.ownsRow _ _ _ _ _ _ _
          rw [List.length_append, List.map_append]
          exact hown'
        clear hown hown' hgrow3 hnil3
        go_wp2
        go_roundg y.length
        case measure => have := HK.out; omega
        case rel =>
          exact ⟨⟨y.toArray⟩, dn ++ [⟨x.toArray⟩], arr_size y, rfl, HO3.out, HB3.out, by rw [List.length_append, arr_size]; simp; omega, by rw [HT.out, HN.out, arr_size, arr_toList]⟩
    | false =>
      cases hp : Lib.hasPrefix u.data.toList Fm.faultB with
      | false =>
        have HN : Hid (Fm.readText s.data.toList = none) := by show _ = _; rw [HT.out]; exact chain_no HC2.out (by unfold Fm.readFault; rw [hp]; rfl)
        obtain ⟨x2, y2, b2, hc2⟩ : ∃ x2 y2 b2, Lib.cut u.data.toList Fm.blank = (x2, y2, b2) := ⟨_, _, _, rfl⟩
        have hw := word_no hp hc2
        have HC3 : Hid (Lib.cut u.data.toList (⟨#[32]⟩ : ByteArray).data.toList = (x2, y2, b2)) := hc2
        clear hp hc2
        rcases hw with rfl | ⟨rfl, hne⟩
        · go_wp2_with fail
          refine (refCut_at _ _ x y false HC.out (by show _ + 2 + 1 ≤ 9223372036854775807; omega) (by decide) _).mono ?_
          rintro e w1 ⟨rfl, hb1⟩
          have HB1 := Lib.hid (HB.out.trans (hb1.mono hsz))
          have HO1 := Lib.hid (HO.out.kept hb1)
          have hsz1 := two_top HB1.out
          clear hb1
          go_wp2_with fail
          refine (refCut_at _ _ x2 y2 false HC3.out (by show _ + 1 + 1 ≤ 9223372036854775807; omega) (by decide) _).mono ?_
          rintro e w2 ⟨rfl, hb2⟩
          have HB2 := Lib.hid (HB1.out.trans (hb2.mono hsz1))
          have HO2 := Lib.hid (HO1.out.kept hb2)
          have hsz2 := two_top HB2.out
          clear hb2
          obtain ⟨⟨q0, q1, q2, q3⟩, q4, q5⟩ := two_cells HB2.out
          go_wp2
          exact bodyPost_ret (v := .tuple #[.agg #[.int .i64 0, .int .i64 0], .slice none 0 0, .bool false]) (by simp [results, Tryd.results7, go_sem, q0, q1, q2, q3, q4, q5]) rfl ⟨.slice none 0 0, [], by rw [HN.out]; rfl, (fun c a ms h => by rw [HN.out] at h; cases h), two_below HB2.out⟩
        · have hne1 : (x2 == [102, 97, 117, 108, 116]) = false := beq_eq_false_iff_ne.2 hne
          have hne2 : (x2 != [102, 97, 117, 108, 116]) = true := bne_iff_ne.2 hne
          clear hne
          go_wp2_with fail
          refine (refCut_at _ _ x y false HC.out (by show _ + 2 + 1 ≤ 9223372036854775807; omega) (by decide) _).mono ?_
          rintro e w1 ⟨rfl, hb1⟩
          have HB1 := Lib.hid (HB.out.trans (hb1.mono hsz))
          have HO1 := Lib.hid (HO.out.kept hb1)
          have hsz1 := two_top HB1.out
          clear hb1
          go_wp2_with fail
          refine (refCut_at _ _ x2 y2 true HC3.out (by show _ + 1 + 1 ≤ 9223372036854775807; omega) (by decide) _).mono ?_
          rintro e w2 ⟨rfl, hb2⟩
          have HB2 := Lib.hid (HB1.out.trans (hb2.mono hsz1))
          have HO2 := Lib.hid (HO1.out.kept hb2)
          have hsz2 := two_top HB2.out
          clear hb2
          obtain ⟨⟨q0, q1, q2, q3⟩, q4, q5⟩ := two_cells HB2.out
          go_wp2
          exact bodyPost_ret (v := .tuple #[.agg #[.int .i64 0, .int .i64 0], .slice none 0 0, .bool false]) (by simp [results, Tryd.results7, go_sem, q0, q1, q2, q3, q4, q5]) rfl ⟨.slice none 0 0, [], by rw [HN.out]; rfl, (fun c a ms h => by rw [HN.out] at h; cases h), two_below HB2.out⟩
      | true =>
        have hp0 := word_yes hp
        obtain ⟨X, hX⟩ : ∃ X, Lib.trimPrefix u.data.toList Fm.faultB = X := ⟨_, rfl⟩
        have hXl : X.length ≤ u.size := by rw [← hX, Lib.size_eq]; exact trim_len _ _
        rw [hX] at hp0
        have HW : Hid (Lib.cut u.data.toList (⟨#[32]⟩ : ByteArray).data.toList = ([102, 97, 117, 108, 116], X, true)) := hp0
        obtain ⟨x3, y3, b3, hc3⟩ : ∃ x3 y3 b3, Lib.cut X Fm.atB = (x3, y3, b3) := ⟨_, _, _, rfl⟩
        have hxy3 := cut_len hc3
        have HF : Hid (Fm.readFault u.data.toList = Fm.readNums X) := by show _ = _; unfold Fm.readFault; rw [if_pos hp, hX]
        have HC3 : Hid (Lib.cut (⟨X.toArray⟩ : ByteArray).data.toList (⟨#[32, 97, 116, 32]⟩ : ByteArray).data.toList = (x3, y3, b3)) := by show _ = _; rw [arr_toList]; exact hc3
        have HC4 := Lib.hid hc3
        clear hp hX hp0 hc3
        cases hx : Fm.num x3 with
        | none =>
          have HN : Hid (Fm.readText s.data.toList = none) := by
            show _ = _; rw [HT.out]; exact chain_no HC2.out (by rw [HF.out]; unfold Fm.readNums; rw [HC4.out]; cases b3 <;> simp only [hx])
          have HNx3 := Lib.hid hx
          clear hx
          cases b3 with
          | false =>
            go_wp2_with fail
            refine (refCut_at _ _ x y false HC.out (by show _ + 2 + 1 ≤ 9223372036854775807; omega) (by decide) _).mono ?_
            rintro e w1 ⟨rfl, hb1⟩
            have HB1 := Lib.hid (HB.out.trans (hb1.mono hsz))
            have HO1 := Lib.hid (HO.out.kept hb1)
            have hsz1 := two_top HB1.out
            clear hb1
            go_wp2_with fail
            refine (refCut_at _ _ [102, 97, 117, 108, 116] X true HW.out (by show _ + 1 + 1 ≤ 9223372036854775807; omega) (by decide) _).mono ?_
            rintro e w2 ⟨rfl, hb2⟩
            have HB2 := Lib.hid (HB1.out.trans (hb2.mono hsz1))
            have HO2 := Lib.hid (HO1.out.kept hb2)
            have hsz2 := two_top HB2.out
            clear hb2
            go_wp2_with fail
            refine (refCut_at _ _ x3 y3 false HC3.out (by rw [arr_size]; show _ + 4 + 1 ≤ 9223372036854775807; omega) (by decide) _).mono ?_
            rintro e w3 ⟨rfl, hb3⟩
            have HB3 := Lib.hid (HB2.out.trans (hb3.mono hsz2))
            have HO3 := Lib.hid (HO2.out.kept hb3)
            have hsz3 := two_top HB3.out
            clear hb3
            go_wp2_with fail
            refine (number_no x3 HNx3.out (by omega) _).mono ?_
            rintro e w4 ⟨k1, rfl, rfl⟩
            have HB5 := Lib.hid (HB3.out.alloc hsz3 (.cells #[.int .i64 k1, .int .i64 (-1)] 24))
            obtain ⟨⟨q0, q1, q2, q3⟩, q4, q5⟩ := two_cells HB5.out
            go_wp2
            exact bodyPost_ret (v := .tuple #[.agg #[.int .i64 0, .int .i64 0], .slice none 0 0, .bool false]) (by simp [results, Tryd.results7, go_sem, q0, q1, q2, q3, q4, q5]) rfl ⟨.slice none 0 0, [], by rw [HN.out]; rfl, (fun c a ms h => by rw [HN.out] at h; cases h), two_below HB5.out⟩
          | true =>
            cases hy : Fm.num y3 with
            | none =>
              have HNy3 := Lib.hid hy
              clear hy
              go_wp2_with fail
              refine (refCut_at _ _ x y false HC.out (by show _ + 2 + 1 ≤ 9223372036854775807; omega) (by decide) _).mono ?_
              rintro e w1 ⟨rfl, hb1⟩
              have HB1 := Lib.hid (HB.out.trans (hb1.mono hsz))
              have HO1 := Lib.hid (HO.out.kept hb1)
              have hsz1 := two_top HB1.out
              clear hb1
              go_wp2_with fail
              refine (refCut_at _ _ [102, 97, 117, 108, 116] X true HW.out (by show _ + 1 + 1 ≤ 9223372036854775807; omega) (by decide) _).mono ?_
              rintro e w2 ⟨rfl, hb2⟩
              have HB2 := Lib.hid (HB1.out.trans (hb2.mono hsz1))
              have HO2 := Lib.hid (HO1.out.kept hb2)
              have hsz2 := two_top HB2.out
              clear hb2
              go_wp2_with fail
              refine (refCut_at _ _ x3 y3 true HC3.out (by rw [arr_size]; show _ + 4 + 1 ≤ 9223372036854775807; omega) (by decide) _).mono ?_
              rintro e w3 ⟨rfl, hb3⟩
              have HB3 := Lib.hid (HB2.out.trans (hb3.mono hsz2))
              have HO3 := Lib.hid (HO2.out.kept hb3)
              have hsz3 := two_top HB3.out
              clear hb3
              go_wp2_with fail
              refine (number_no x3 HNx3.out (by omega) _).mono ?_
              rintro e w4 ⟨k1, rfl, rfl⟩
              go_wp2_with fail
              refine (number_no y3 HNy3.out (by omega) _).mono ?_
              rintro e w4 ⟨k2, rfl, rfl⟩
              have HB5 := Lib.hid (HB3.out.alloc hsz3 (.cells #[.int .i64 k1, .int .i64 k2] 24))
              obtain ⟨⟨q0, q1, q2, q3⟩, q4, q5⟩ := two_cells HB5.out
              go_wp2
              exact bodyPost_ret (v := .tuple #[.agg #[.int .i64 0, .int .i64 0], .slice none 0 0, .bool false]) (by simp [results, Tryd.results7, go_sem, q0, q1, q2, q3, q4, q5]) rfl ⟨.slice none 0 0, [], by rw [HN.out]; rfl, (fun c a ms h => by rw [HN.out] at h; cases h), two_below HB5.out⟩
            | some a =>
              have HNy3 := Lib.hid hy
              clear hy
              go_wp2_with fail
              refine (refCut_at _ _ x y false HC.out (by show _ + 2 + 1 ≤ 9223372036854775807; omega) (by decide) _).mono ?_
              rintro e w1 ⟨rfl, hb1⟩
              have HB1 := Lib.hid (HB.out.trans (hb1.mono hsz))
              have HO1 := Lib.hid (HO.out.kept hb1)
              have hsz1 := two_top HB1.out
              clear hb1
              go_wp2_with fail
              refine (refCut_at _ _ [102, 97, 117, 108, 116] X true HW.out (by show _ + 1 + 1 ≤ 9223372036854775807; omega) (by decide) _).mono ?_
              rintro e w2 ⟨rfl, hb2⟩
              have HB2 := Lib.hid (HB1.out.trans (hb2.mono hsz1))
              have HO2 := Lib.hid (HO1.out.kept hb2)
              have hsz2 := two_top HB2.out
              clear hb2
              go_wp2_with fail
              refine (refCut_at _ _ x3 y3 true HC3.out (by rw [arr_size]; show _ + 4 + 1 ≤ 9223372036854775807; omega) (by decide) _).mono ?_
              rintro e w3 ⟨rfl, hb3⟩
              have HB3 := Lib.hid (HB2.out.trans (hb3.mono hsz2))
              have HO3 := Lib.hid (HO2.out.kept hb3)
              have hsz3 := two_top HB3.out
              clear hb3
              go_wp2_with fail
              refine (number_no x3 HNx3.out (by omega) _).mono ?_
              rintro e w4 ⟨k1, rfl, rfl⟩
              go_wp2_with fail
              refine (number_yes y3 a HNy3.out (by omega) _).mono ?_
              rintro e w4 ⟨rfl, rfl⟩
              have HB5 := Lib.hid (HB3.out.alloc hsz3 (.cells #[.int .i64 k1, .int .i64 a] 24))
              obtain ⟨⟨q0, q1, q2, q3⟩, q4, q5⟩ := two_cells HB5.out
              go_wp2
              exact bodyPost_ret (v := .tuple #[.agg #[.int .i64 0, .int .i64 0], .slice none 0 0, .bool false]) (by simp [results, Tryd.results7, go_sem, q0, q1, q2, q3, q4, q5]) rfl ⟨.slice none 0 0, [], by rw [HN.out]; rfl, (fun c a ms h => by rw [HN.out] at h; cases h), two_below HB5.out⟩
        | some c =>
          have HNx3 := Lib.hid hx
          cases b3 with
          | false =>
            have HN : Hid (Fm.readText s.data.toList = some (c, -1, lns dn)) := by
              show _ = _; rw [HT.out]; exact chain_yes HC2.out (by rw [HF.out]; unfold Fm.readNums; rw [HC4.out]; simp only [hx])
            clear hx
            go_wp2_with fail
            refine (refCut_at _ _ x y false HC.out (by show _ + 2 + 1 ≤ 9223372036854775807; omega) (by decide) _).mono ?_
            rintro e w1 ⟨rfl, hb1⟩
            have HB1 := Lib.hid (HB.out.trans (hb1.mono hsz))
            have HO1 := Lib.hid (HO.out.kept hb1)
            have hsz1 := two_top HB1.out
            clear hb1
            go_wp2_with fail
            refine (refCut_at _ _ [102, 97, 117, 108, 116] X true HW.out (by show _ + 1 + 1 ≤ 9223372036854775807; omega) (by decide) _).mono ?_
            rintro e w2 ⟨rfl, hb2⟩
            have HB2 := Lib.hid (HB1.out.trans (hb2.mono hsz1))
            have HO2 := Lib.hid (HO1.out.kept hb2)
            have hsz2 := two_top HB2.out
            clear hb2
            go_wp2_with fail
            refine (refCut_at _ _ x3 y3 false HC3.out (by rw [arr_size]; show _ + 4 + 1 ≤ 9223372036854775807; omega) (by decide) _).mono ?_
            rintro e w3 ⟨rfl, hb3⟩
            have HB3 := Lib.hid (HB2.out.trans (hb3.mono hsz2))
            have HO3 := Lib.hid (HO2.out.kept hb3)
            have hsz3 := two_top HB3.out
            clear hb3
            go_wp2_with fail
            refine (number_yes x3 c HNx3.out (by omega) _).mono ?_
            rintro e w4 ⟨rfl, rfl⟩
            have HB5 := Lib.hid (HB3.out.alloc hsz3 (.cells #[.int .i64 c, .int .i64 (-1)] 24))
            obtain ⟨⟨q0, q1, q2, q3⟩, q4, q5⟩ := two_cells HB5.out
            go_wp2
            exact bodyPost_ret (v := .tuple #[.agg #[.int .i64 c, .int .i64 (-1)], .slice ao dn.length cap, .bool true]) (by simp [results, Tryd.results7, go_sem, q0, q1, q2, q3, q4, q5]) rfl ⟨.slice ao dn.length cap, dn, by rw [HN.out]; rfl, (fun c' a' ms h => by
              rw [HN.out] at h
              simp only [Option.some.injEq, Prod.mk.injEq] at h
              exact ⟨(Own.last2 (World.ownsRow.alloc HO3.out _) _ _).strs, h.2.2⟩), two_below HB5.out⟩
          | true =>
            cases hy : Fm.num y3 with
            | none =>
              have HN : Hid (Fm.readText s.data.toList = none) := by
                show _ = _; rw [HT.out]; exact chain_no HC2.out (by rw [HF.out]; unfold Fm.readNums; rw [HC4.out]; simp only [hx, hy])
              have HNy3 := Lib.hid hy
              clear hx hy
              go_wp2_with fail
              refine (refCut_at _ _ x y false HC.out (by show _ + 2 + 1 ≤ 9223372036854775807; omega) (by decide) _).mono ?_
              rintro e w1 ⟨rfl, hb1⟩
              have HB1 := Lib.hid (HB.out.trans (hb1.mono hsz))
              have HO1 := Lib.hid (HO.out.kept hb1)
              have hsz1 := two_top HB1.out
              clear hb1
              go_wp2_with fail
              refine (refCut_at _ _ [102, 97, 117, 108, 116] X true HW.out (by show _ + 1 + 1 ≤ 9223372036854775807; omega) (by decide) _).mono ?_
              rintro e w2 ⟨rfl, hb2⟩
              have HB2 := Lib.hid (HB1.out.trans (hb2.mono hsz1))
              have HO2 := Lib.hid (HO1.out.kept hb2)
              have hsz2 := two_top HB2.out
              clear hb2
              go_wp2_with fail
              refine (refCut_at _ _ x3 y3 true HC3.out (by rw [arr_size]; show _ + 4 + 1 ≤ 9223372036854775807; omega) (by decide) _).mono ?_
              rintro e w3 ⟨rfl, hb3⟩
              have HB3 := Lib.hid (HB2.out.trans (hb3.mono hsz2))
              have HO3 := Lib.hid (HO2.out.kept hb3)
              have hsz3 := two_top HB3.out
              clear hb3
              go_wp2_with fail
              refine (number_yes x3 c HNx3.out (by omega) _).mono ?_
              rintro e w4 ⟨rfl, rfl⟩
              go_wp2_with fail
              refine (number_no y3 HNy3.out (by omega) _).mono ?_
              rintro e w4 ⟨k2, rfl, rfl⟩
              have HB5 := Lib.hid (HB3.out.alloc hsz3 (.cells #[.int .i64 c, .int .i64 k2] 24))
              obtain ⟨⟨q0, q1, q2, q3⟩, q4, q5⟩ := two_cells HB5.out
              go_wp2
              exact bodyPost_ret (v := .tuple #[.agg #[.int .i64 0, .int .i64 0], .slice none 0 0, .bool false]) (by simp [results, Tryd.results7, go_sem, q0, q1, q2, q3, q4, q5]) rfl ⟨.slice none 0 0, [], by rw [HN.out]; rfl, (fun c a ms h => by rw [HN.out] at h; cases h), two_below HB5.out⟩
            | some a =>
              have HNy3 := Lib.hid hy
              by_cases hneg : a < 0
              · have HN : Hid (Fm.readText s.data.toList = none) := by
                  show _ = _; rw [HT.out]; exact chain_no HC2.out (by rw [HF.out]; unfold Fm.readNums; rw [HC4.out]; simp only [hx, hy]; rw [if_pos hneg])
                clear hx hy
                have hd : decide (0 ≤ a) = false := decide_eq_false (by omega)
                go_wp2_with fail
                refine (refCut_at _ _ x y false HC.out (by show _ + 2 + 1 ≤ 9223372036854775807; omega) (by decide) _).mono ?_
                rintro e w1 ⟨rfl, hb1⟩
                have HB1 := Lib.hid (HB.out.trans (hb1.mono hsz))
                have HO1 := Lib.hid (HO.out.kept hb1)
                have hsz1 := two_top HB1.out
                clear hb1
                go_wp2_with fail
                refine (refCut_at _ _ [102, 97, 117, 108, 116] X true HW.out (by show _ + 1 + 1 ≤ 9223372036854775807; omega) (by decide) _).mono ?_
                rintro e w2 ⟨rfl, hb2⟩
                have HB2 := Lib.hid (HB1.out.trans (hb2.mono hsz1))
                have HO2 := Lib.hid (HO1.out.kept hb2)
                have hsz2 := two_top HB2.out
                clear hb2
                go_wp2_with fail
                refine (refCut_at _ _ x3 y3 true HC3.out (by rw [arr_size]; show _ + 4 + 1 ≤ 9223372036854775807; omega) (by decide) _).mono ?_
                rintro e w3 ⟨rfl, hb3⟩
                have HB3 := Lib.hid (HB2.out.trans (hb3.mono hsz2))
                have HO3 := Lib.hid (HO2.out.kept hb3)
                have hsz3 := two_top HB3.out
                clear hb3
                go_wp2_with fail
                refine (number_yes x3 c HNx3.out (by omega) _).mono ?_
                rintro e w4 ⟨rfl, rfl⟩
                go_wp2_with fail
                refine (number_yes y3 a HNy3.out (by omega) _).mono ?_
                rintro e w4 ⟨rfl, rfl⟩
                have HB5 := Lib.hid (HB3.out.alloc hsz3 (.cells #[.int .i64 c, .int .i64 a] 24))
                obtain ⟨⟨q0, q1, q2, q3⟩, q4, q5⟩ := two_cells HB5.out
                go_wp2
                exact bodyPost_ret (v := .tuple #[.agg #[.int .i64 0, .int .i64 0], .slice none 0 0, .bool false]) (by simp [results, Tryd.results7, go_sem, q0, q1, q2, q3, q4, q5]) rfl ⟨.slice none 0 0, [], by rw [HN.out]; rfl, (fun c a ms h => by rw [HN.out] at h; cases h), two_below HB5.out⟩
              · have HN : Hid (Fm.readText s.data.toList = some (c, a, lns dn)) := by
                  show _ = _; rw [HT.out]; exact chain_yes HC2.out (by rw [HF.out]; unfold Fm.readNums; rw [HC4.out]; simp only [hx, hy]; rw [if_neg hneg])
                clear hx hy
                have hd : decide (0 ≤ a) = true := decide_eq_true (by omega)
                go_wp2_with fail
                refine (refCut_at _ _ x y false HC.out (by show _ + 2 + 1 ≤ 9223372036854775807; omega) (by decide) _).mono ?_
                rintro e w1 ⟨rfl, hb1⟩
                have HB1 := Lib.hid (HB.out.trans (hb1.mono hsz))
                have HO1 := Lib.hid (HO.out.kept hb1)
                have hsz1 := two_top HB1.out
                clear hb1
                go_wp2_with fail
                refine (refCut_at _ _ [102, 97, 117, 108, 116] X true HW.out (by show _ + 1 + 1 ≤ 9223372036854775807; omega) (by decide) _).mono ?_
                rintro e w2 ⟨rfl, hb2⟩
                have HB2 := Lib.hid (HB1.out.trans (hb2.mono hsz1))
                have HO2 := Lib.hid (HO1.out.kept hb2)
                have hsz2 := two_top HB2.out
                clear hb2
                go_wp2_with fail
                refine (refCut_at _ _ x3 y3 true HC3.out (by rw [arr_size]; show _ + 4 + 1 ≤ 9223372036854775807; omega) (by decide) _).mono ?_
                rintro e w3 ⟨rfl, hb3⟩
                have HB3 := Lib.hid (HB2.out.trans (hb3.mono hsz2))
                have HO3 := Lib.hid (HO2.out.kept hb3)
                have hsz3 := two_top HB3.out
                clear hb3
                go_wp2_with fail
                refine (number_yes x3 c HNx3.out (by omega) _).mono ?_
                rintro e w4 ⟨rfl, rfl⟩
                go_wp2_with fail
                refine (number_yes y3 a HNy3.out (by omega) _).mono ?_
                rintro e w4 ⟨rfl, rfl⟩
                have HB5 := Lib.hid (HB3.out.alloc hsz3 (.cells #[.int .i64 c, .int .i64 a] 24))
                obtain ⟨⟨q0, q1, q2, q3⟩, q4, q5⟩ := two_cells HB5.out
                go_wp2
                exact bodyPost_ret (v := .tuple #[.agg #[.int .i64 c, .int .i64 a], .slice ao dn.length cap, .bool true]) (by simp [results, Tryd.results7, go_sem, q0, q1, q2, q3, q4, q5]) rfl ⟨.slice ao dn.length cap, dn, by rw [HN.out]; rfl, (fun c' a' ms h => by
                  rw [HN.out] at h
                  simp only [Option.some.injEq, Prod.mk.injEq] at h
                  exact ⟨(Own.last2 (World.ownsRow.alloc HO3.out _) _ _).strs, h.2.2⟩), two_below HB5.out⟩
end Go.Proofs.YthiaeppaaahlgaaDoor
