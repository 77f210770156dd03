/-
  The landed readNumbers: a line's codes, then its lengths, word by word.
-/
import Derived.Test.YtmehldekebphfaaGreatDoorRead7
import Derived.Test.YtmehldekebphfaaGreatDoorFirst7
import Derived.Deep.AppendLies
set_option linter.unusedVariables false
set_option linter.unusedSimpArgs false
namespace Go.Proofs.YtmehldekebphfaaGreatDoor
open Go.RowKit

/-- the numbers of all words, or none -/
def collect (f : List UInt8 → Option Int) : List (List UInt8) → Option (List Int)
  | [] => some []
  | x :: r => match f x with
    | none => none
    | some n => (collect f r).map (n :: ·)
theorem collect_on {f : List UInt8 → Option Int} {l : List (List UInt8)} {i : Nat} {x : List UInt8} {n : Int} (hx : l[i]? = some x) (hf : f x = some n) {D : List Int} {r : Option (List Int)} (h : r = (collect f (l.drop i)).map (D ++ ·)) : r = (collect f (l.drop (i + 1))).map ((D ++ [n]) ++ ·) := by
  obtain ⟨hk, e⟩ := List.getElem?_eq_some_iff.1 hx
  rw [h, List.drop_eq_getElem_cons hk, e]
  simp only [collect, hf]
  cases collect f (l.drop (i + 1)) <;> simp
theorem collect_no {f : List UInt8 → Option Int} {l : List (List UInt8)} {i : Nat} {x : List UInt8} (hx : l[i]? = some x) (hf : f x = none) {D : List Int} {r : Option (List Int)} (h : r = (collect f (l.drop i)).map (D ++ ·)) : r = none := by
  obtain ⟨hk, e⟩ := List.getElem?_eq_some_iff.1 hx
  rw [h, List.drop_eq_getElem_cons hk, e]
  simp only [collect, hf]
  rfl
theorem collect_end {f : List UInt8 → Option Int} {l : List (List UInt8)} {i : Nat} (hl : l.length ≤ i) {D : List Int} {r : Option (List Int)} (h : r = (collect f (l.drop i)).map (D ++ ·)) : r = some D := by
  rw [h, List.drop_of_length_le hl]
  simp [collect]
def NumPost (aL : Addr) (k : Nat) (o1 o2 : Option (List Int)) (w : World) (e : Ending) (w' : World) : Prop := Below w.heap.size w w' ∧ match o1, o2 with
  | some cs, some ls => ∃ cv lv, e = .returned (.tuple #[.agg #[.int .i64 k, cv, lv], .nilIface]) ∧ OwnI .i32 21 w.heap.size cv cs w' ∧ OwnI .i64 2 w.heap.size lv ls w'
  | _, _ => e = .returned (.tuple #[.agg #[.int .i64 0, .slice none 0 0, .slice none 0 0], .iface 207 (.pointer (some aL))])
theorem info64b : (Tryz.prog.info? 2).map (fun i => (i.zero, i.size, i.bytes)) = some (some (.int .i64 0), 1, 8) := by kernel_rfl
theorem one_int (k : IntKind) (w : World) (x : Int) (T : TypeId) : ∀ j u, ([.int k x] : List Value)[j]? = some u → (w.alloc (.cells #[.int k x] T)).cell? ((⟨w.heap.size, 0, none⟩ : Addr).add j) = some u := by
  intro j u hj
  rw [add_none, Nat.zero_add]
  exact cell_lay w _ _ j u (by simpa using hj)
theorem OwnI.mono7 {k : IntKind} {E : TypeId} {B : Nat} {v : Value} {xs : List Int} {w w' : World} (h : OwnI k E B v xs w) (hb : Below w.heap.size w w') : OwnI k E B v xs w' := h.kept hb
theorem OwnI.grown7 {k : IntKind} {E F : TypeId} {B B' size n : Nat} {v u : Value} {xs : List Int} {ys : List Value} {w w' : World} (h : OwnI k E B v xs w) (ho : w.ownsRow B' F size u n ys) (hg : w.grownBy w' u.ownBlock) (hE : E ≠ F) : OwnI k E B v xs w' :=
  World.ownsRow.kept h hg (own_apart h ho hE)
theorem obj_far {w w' : World} {row : Option Nat} {b : Nat} {o : Obj} (h : w.heap[b]? = some o) (hg : w.grownBy w' row) (hne : some b ≠ row) : w'.heap[b]? = some o := by rw [hg.block b (lt_of_obj h) hne]; exact h
theorem obj_set {w : World} {b p i : Nat} {v : Value} {o : Obj} (h : w.heap[b]? = some o) (hne : b ≠ p) : (w.setCell ⟨p, i, none⟩ v).heap[b]? = some o := by rw [Below.heap_setCell w ⟨p, i, none⟩ v b hne]; exact h
theorem below_set3r {w w7 : World} {a b c : Value} (hb : Below w.heap.size w w7) : Below w.heap.size w (((w7.setCell ⟨w.heap.size, 0, none⟩ a).setCell ⟨w.heap.size, 1, none⟩ b).setCell ⟨w.heap.size, 2, none⟩ c) := below_set3 hb
theorem ints_set3 {k : IntKind} {E : TypeId} {B R B' : Nat} {v x y z : Value} {xs : List Int} {w : World} (h : OwnI k E B v xs w) (hR : R < B) (hB : B' ≤ B) : OwnI k E B' v xs (((w.setCell ⟨R, 0, none⟩ x).setCell ⟨R, 1, none⟩ y).setCell ⟨R, 2, none⟩ z) := (((h.set hR).set hR).set hR).base hB

set_option maxHeartbeats 8000000 in
set_option maxRecDepth 100000 in
theorem readNumbers_any {aL aT : Addr} (k : Nat) (cv lv : Value) (cw lw : List (List UInt8)) (w : World) (hE : MEnv aL aT w) (hc : StrsAt w cv cw) (hl : StrsAt w lv lw) (hcw : cw.length ≤ 3) (hlw : lw.length ≤ 3) (hbc : ∀ x ∈ cw, x.length ≤ 1073741824) (hbl : ∀ x ∈ lw, x.length ≤ 1073741824) :
    Calls Tryz.prog 82 #[.int .i64 k, cv, lv] w (NumPost aL k (collect Mt.codeB cw) (collect Mt.lenB lw) w) := by
  obtain ⟨i0, hi, hz0, hz1, hz2⟩ := info_parts info32
  obtain ⟨j0, hj, hy0, hy1, hy2⟩ := info_parts info64b
  have HEE := Lib.hid (fun w' (h : Below w.heap.size w w') => hE.mono h)
  have HC := Lib.hid hc
  have HL := Lib.hid hl
  have HBC := Lib.hid hbc
  have HBL := Lib.hid hbl
  obtain ⟨⟨pc, cc, rfl, _⟩, _, _⟩ := hc
  obtain ⟨⟨pl, cl, rfl, _⟩, _, _⟩ := hl
  obtain ⟨n, hn⟩ : ∃ n, n = cw.length := ⟨_, rfl⟩
  obtain ⟨m, hm⟩ : ∃ m, m = lw.length := ⟨_, rfl⟩
  have Hn := Lib.hid hn
  have Hm := Lib.hid hm
  rw [← hn] at hcw ⊢
  rw [← hm] at hlw ⊢
  obtain ⟨q1, hq1⟩ : ∃ q, q = collect Mt.codeB cw := ⟨_, rfl⟩
  obtain ⟨q2, hq2⟩ : ∃ q, q = collect Mt.lenB lw := ⟨_, rfl⟩
  have HQ1 : Hid (q1 = (collect Mt.codeB (cw.drop 0)).map (([] : List Int) ++ ·)) := Lib.hid (by rw [hq1]; simp)
  have HQ2 : Hid (q2 = (collect Mt.lenB (lw.drop 0)).map (([] : List Int) ++ ·)) := Lib.hid (by rw [hq2]; simp)
  rw [← hq1, ← hq2]
  have HRo := Lib.hid (obj_kept (below_alloc (w.alloc (.cells #[.int .i64 0, .slice none 0 0, .slice none 0 0] 89)) (.cells #[.int .i64 k, .slice none 0 0, .slice none 0 0] 89)) (obj_new w _ rfl #[.int .i64 0, .slice none 0 0, .slice none 0 0] 89))
  have HLo := Lib.hid (obj_new (w.alloc (.cells #[.int .i64 0, .slice none 0 0, .slice none 0 0] 89)) _ (World.size_alloc _ _) #[.int .i64 k, .slice none 0 0, .slice none 0 0] 89)
  have HB0 := Lib.hid (below_step (below_alloc w (.cells #[.int .i64 0, .slice none 0 0, .slice none 0 0] 89)) (below_alloc _ (.cells #[.int .i64 k, .slice none 0 0, .slice none 0 0] 89)))
  clear hE hbc hbl hn hm hq1 hq2
  go_enter Tryz.func82, Tryz.ntmps82
  go_wp2_with fail
  go_loopw [21] (fun iv wr => ∃ (i : Nat) (v : Value) (D : List Int), i ≤ n ∧ iv = .int .i64 i ∧ D.length = i ∧ w.heap.size + 2 ≤ wr.heap.size ∧ Hid (q1 = (collect Mt.codeB (cw.drop i)).map (D ++ ·)) ∧ Hid (OwnI .i32 21 (w.heap.size + 2) v D wr) ∧ Hid (wr.heap[w.heap.size]? = some (.cells #[.int .i64 0, .slice none 0 0, .slice none 0 0] 89 (0, 0))) ∧ Hid (wr.heap[w.heap.size + 1]? = some (.cells #[.int .i64 k, v, .slice none 0 0] 89 (0, 0))) ∧ Hid (Below w.heap.size w wr)) (fun iv _ => n - (intOf iv).toNat)
  case atStart => exact ⟨0, .slice none 0 0, [], Nat.zero_le _, rfl, rfl, by simp, HQ1, Lib.hid (ownI_nil _ _ _ _), HRo, HLo, HB0⟩
  case round =>
    clear HQ1 HRo HLo HB0
    obtain ⟨i, v, D, hi', rfl, hD, hs2, HQ, HO, HRr, HLr, HB⟩ := hrel
    have HD := Lib.hid hD
    have hD3 : D.length ≤ 3 := by omega
    clear hD
    by_cases hlt : i < n
    · obtain ⟨b1, o1, d1, e1, r1⟩ := HC.out.2.2 (by rw [← Hn.out]; omega)
      obtain ⟨rfl, rfl⟩ : pc = some ⟨b1, o1, none⟩ ∧ cc = d1 := by injection e1 with a1 a2 a3; exact ⟨a1, a3⟩
      obtain ⟨x, hx⟩ : ∃ x, cw[i]? = some x := ⟨_, List.getElem?_eq_getElem (by rw [← Hn.out]; exact hlt)⟩
      have z0 := cell_below HB.out (r1 i x hx)
      have i0' : (0 : Int) ≤ (i : Int) := by omega
      have il : (i : Int) < (n : Int) := by omega
      have hxl := HBC.out x (List.mem_of_getElem? hx)
      have HR := Lib.hid (readCode_any (str x) (by rw [str_size]; omega) wr (HEE.out _ HB.out))
      rw [str_data] at HR
      cases hf : Mt.codeB x with
      | none =>
        have HE := Lib.hid (collect_no hx hf HQ.out)
        rw [hf] at HR
        simp only [codeR] at HR
        clear r1 e1 hx hxl hf
        go_wp2_with fail
        refine HR.out.mono ?_
        rintro e w1 ⟨rfl, hb1⟩
        have hr := obj_kept hb1 HRr.out
        have NH := Lib.hid hr
        obtain ⟨n0, n1, n2⟩ := three_of hr
        have f0 := Lib.frozen_of_heap hr 0
        have f1 := Lib.frozen_of_heap hr 1
        have f2 := Lib.frozen_of_heap hr 2
        have HB1 := Lib.hid (below_step HB.out hb1)
        clear hb1 hr z0
        obtain ⟨s0, s1, s2⟩ := set_three (a := .int .i64 0) (b := .slice none 0 0) (c := .slice none 0 0) NH.out
        go_wp2
        exact bodyPost_ret (v := .tuple #[.agg #[.int .i64 0, .slice none 0 0, .slice none 0 0], .iface 207 (.pointer (some aL))]) (by simp [results, Tryz.results82, go_sem, s0, s1, s2]) rfl ⟨below_set3 HB1.out, by rw [HE.out]⟩
      | some y =>
        have HE := Lib.hid (collect_on hx hf HQ.out)
        rw [hf] at HR
        simp only [codeR] at HR
        clear r1 e1 hx hxl hf
        go_wp2_with fail
        refine HR.out.mono ?_
        rintro e w1 ⟨rfl, hb1⟩
        have HR1 := Lib.hid (obj_kept hb1 HRr.out)
        have HL1 := Lib.hid (obj_kept hb1 HLr.out)
        have HO1 := Lib.hid (HO.out.mono7 hb1)
        have HB1 := Lib.hid (below_step HB.out hb1)
        have hs3 := hb1.size
        obtain ⟨n0, n1, n2⟩ := three_of HL1.out
        have hown : World.ownsRow (w1.alloc (.cells #[.int .i32 y] 21)) (w.heap.size + 2) 21 1 v D.length (D.map (Value.int .i32)) := World.ownsRow.alloc HO1.out (.cells #[.int .i32 y] 21)
        have hnews := one_int .i32 w1 y 21
        have hval := World.ownsRow.lt HO1.out
        have hlt1 := lt_of_obj HL1.out
        clear hb1 z0
        go_wp2_with (at_builtin; refine wpList_append_lies _ rfl _ _ 75 rfl (w.heap.size + 2) 21 i0 _ 1 4 Tryz.underlying75 hi hz0 hz1 hz2 rfl (by decide) _ _ _ rfl hown ⟨w1.heap.size, 0, none⟩ 1 1 [.int .i32 y] rfl rfl hnews (fun z hz => by simp at hz; subst hz; rfl) (by omega) (by unfold maxLen; omega) (by omega) (by rw [World.size_alloc]; omega) _ rfl ?_; intro g9 cap9 w9 hown9 hgrow9 hat9 hlt9; have HR9 := Lib.hid (obj_far (obj_kept (below_alloc w1 _) HR1.out) hgrow9 (fun hq => by have := (hval _ hq.symm).1; omega)); have hl9 := obj_far (obj_kept (below_alloc w1 _) HL1.out) hgrow9 (fun hq => by have := (hval _ hq.symm).1; omega); have HL9 := Lib.hid hl9; have f1 := Lib.frozen_of_heap hl9 1; have c9 := (three_of hl9).2.1; have HB9 := Lib.hid ((HB1.out.alloc (by omega) (.cells #[.int .i32 y] 21)).grown hgrow9 (by rw [World.size_alloc]; omega) (fun q hq => by have := (hval q hq).1; omega)); have hs9 : w.heap.size + 2 ≤ w9.heap.size := (by have := hgrow9.size; rw [World.size_alloc] at this; omega); have HO9 := Lib.hid (ownI_snoc hown9).out; clear hown hnews hval hown9 hgrow9 hat9 hlt9 n0 n1 n2 hl9 hlt1)
        go_roundw
        case rel => exact ⟨i + 1, _, D ++ [y], by omega, by go_num, by rw [List.length_append, HD.out]; rfl, by simpa using hs9, HE, Lib.hid (HO9.out.set (by omega)), Lib.hid (obj_set HR9.out (by omega)), Lib.hid (heap_setCell_same _ _ 1 _ _ _ HL9.out), Lib.hid (HB9.out.setCell (p := ⟨w.heap.size + 1, 1, none⟩) (Nat.le_succ _) _)⟩
        case measure => simp [intOf]; omega
    · have HQd := Lib.hid (collect_end (by rw [← Hn.out]; omega) HQ.out)
      obtain ⟨vc, hvc⟩ : ∃ vc, vc = v := ⟨_, rfl⟩
      obtain ⟨D1, hD1⟩ : ∃ D1, D1 = D := ⟨_, rfl⟩
      rw [← hD1] at HO HQd
      rw [← hvc] at HO HLr
      obtain ⟨wo, hwo⟩ : ∃ wo : World, wo = wr := ⟨_, rfl⟩
      subst hwo
      have hsp := hs2
      have HR1 := HRr
      have HLs1 := HLr
      have HB1 := HB
      have HV1 := HO
      clear hvc hD1 HQ HO HRr HLr HB hs2 HD hD3
      go_wp2_with fail
      go_loopw [43] (fun iv wr => ∃ (i : Nat) (v : Value) (D : List Int), i ≤ m ∧ iv = .int .i64 i ∧ D.length = i ∧ w.heap.size + 2 ≤ wr.heap.size ∧ Hid (q2 = (collect Mt.lenB (lw.drop i)).map (D ++ ·)) ∧ Hid (OwnI .i64 2 (w.heap.size + 2) v D wr) ∧ Hid (wr.heap[w.heap.size]? = some (.cells #[.int .i64 0, .slice none 0 0, .slice none 0 0] 89 (0, 0))) ∧ Hid (wr.heap[w.heap.size + 1]? = some (.cells #[.int .i64 k, vc, v] 89 (0, 0))) ∧ Hid (Below w.heap.size w wr) ∧ Hid (OwnI .i32 21 (w.heap.size + 2) vc D1 wr)) (fun iv _ => m - (intOf iv).toNat)
      case atStart => exact ⟨0, .slice none 0 0, [], Nat.zero_le _, rfl, rfl, hsp, HQ2, Lib.hid (ownI_nil _ _ _ _), HR1, HLs1, HB1, HV1⟩
      case round =>
        clear HQ2 HR1 HLs1 HB1 HV1 hsp
        obtain ⟨i, v, D, hi', rfl, hD, hs2, HQ, HO, HRr, HLr, HB, HVr⟩ := hrel
        have HD := Lib.hid hD
        have hD3 : D.length ≤ 3 := by omega
        clear hD
        by_cases hlt : i < m
        · obtain ⟨b1, o1, d1, e1, r1⟩ := HL.out.2.2 (by rw [← Hm.out]; omega)
          obtain ⟨rfl, rfl⟩ : pl = some ⟨b1, o1, none⟩ ∧ cl = d1 := by injection e1 with a1 a2 a3; exact ⟨a1, a3⟩
          obtain ⟨x, hx⟩ : ∃ x, lw[i]? = some x := ⟨_, List.getElem?_eq_getElem (by rw [← Hm.out]; exact hlt)⟩
          have z0 := cell_below HB.out (r1 i x hx)
          have i0' : (0 : Int) ≤ (i : Int) := by omega
          have il : (i : Int) < (m : Int) := by omega
          have hxl := HBL.out x (List.mem_of_getElem? hx)
          have HR := Lib.hid (readLength_any (str x) (by rw [str_size]; omega) wr (HEE.out _ HB.out))
          rw [str_data] at HR
          cases hf : Mt.lenB x with
          | none =>
            have HE := Lib.hid (collect_no hx hf HQ.out)
            rw [hf] at HR
            simp only [lenR] at HR
            clear r1 e1 hx hxl hf
            go_wp2_with fail
            refine HR.out.mono ?_
            rintro e w1 ⟨rfl, hb1⟩
            have hr := obj_kept hb1 HRr.out
            have NH := Lib.hid hr
            obtain ⟨n0, n1, n2⟩ := three_of hr
            have f0 := Lib.frozen_of_heap hr 0
            have f1 := Lib.frozen_of_heap hr 1
            have f2 := Lib.frozen_of_heap hr 2
            have HB1 := Lib.hid (below_step HB.out hb1)
            clear hb1 hr z0
            obtain ⟨s0, s1, s2⟩ := set_three (a := .int .i64 0) (b := .slice none 0 0) (c := .slice none 0 0) NH.out
            go_wp2
            exact bodyPost_ret (v := .tuple #[.agg #[.int .i64 0, .slice none 0 0, .slice none 0 0], .iface 207 (.pointer (some aL))]) (by simp [results, Tryz.results82, go_sem, s0, s1, s2]) rfl ⟨below_set3 HB1.out, by rw [HE.out, HQd.out]⟩
          | some y =>
            have HE := Lib.hid (collect_on hx hf HQ.out)
            rw [hf] at HR
            simp only [lenR] at HR
            clear r1 e1 hx hxl hf
            go_wp2_with fail
            refine HR.out.mono ?_
            rintro e w1 ⟨rfl, hb1⟩
            have HR1 := Lib.hid (obj_kept hb1 HRr.out)
            have HL1 := Lib.hid (obj_kept hb1 HLr.out)
            have HO1 := Lib.hid (HO.out.mono7 hb1)
            have HV1 := Lib.hid (HVr.out.mono7 hb1)
            have HB1 := Lib.hid (below_step HB.out hb1)
            have hs3 := hb1.size
            obtain ⟨n0, n1, n2⟩ := three_of HL1.out
            have hown : World.ownsRow (w1.alloc (.cells #[.int .i64 y] 2)) (w.heap.size + 2) 2 1 v D.length (D.map (Value.int .i64)) := World.ownsRow.alloc HO1.out (.cells #[.int .i64 y] 2)
            have hnews := one_int .i64 w1 y 2
            have hval := World.ownsRow.lt HO1.out
            have hlt1 := lt_of_obj HL1.out
            clear hb1 z0
            go_wp2_with (at_builtin; refine wpList_append_lies _ rfl _ _ 87 rfl (w.heap.size + 2) 2 j0 _ 1 8 Tryz.underlying87 hj hy0 hy1 hy2 rfl (by decide) _ _ _ rfl hown ⟨w1.heap.size, 0, none⟩ 1 1 [.int .i64 y] rfl rfl hnews (fun z hz => by simp at hz; subst hz; rfl) (by omega) (by unfold maxLen; omega) (by omega) (by rw [World.size_alloc]; omega) _ rfl ?_; intro g9 cap9 w9 hown9 hgrow9 hat9 hlt9; have HR9 := Lib.hid (obj_far (obj_kept (below_alloc w1 _) HR1.out) hgrow9 (fun hq => by have := (hval _ hq.symm).1; omega)); have hl9 := obj_far (obj_kept (below_alloc w1 _) HL1.out) hgrow9 (fun hq => by have := (hval _ hq.symm).1; omega); have HL9 := Lib.hid hl9; have f1 := Lib.frozen_of_heap hl9 2; have c9 := (three_of hl9).2.2; have HB9 := Lib.hid ((HB1.out.alloc (by omega) (.cells #[.int .i64 y] 2)).grown hgrow9 (by rw [World.size_alloc]; omega) (fun q hq => by have := (hval q hq).1; omega)); have hs9 : w.heap.size + 2 ≤ w9.heap.size := (by have := hgrow9.size; rw [World.size_alloc] at this; omega); have HO9 := Lib.hid (ownI_snoc hown9).out; have HV9 := Lib.hid ((HV1.out.mono7 (below_alloc w1 (.cells #[.int .i64 y] 2))).grown7 hown hgrow9 (by decide)); clear hown hnews hval hown9 hgrow9 hat9 hlt9 n0 n1 n2 hl9 hlt1)
            go_roundw
            case rel => exact ⟨i + 1, _, D ++ [y], by omega, by go_num, by rw [List.length_append, HD.out]; rfl, by simpa using hs9, HE, Lib.hid (HO9.out.set (by omega)), Lib.hid (obj_set HR9.out (by omega)), Lib.hid (heap_setCell_same _ _ 2 _ _ _ HL9.out), Lib.hid (HB9.out.setCell (p := ⟨w.heap.size + 1, 2, none⟩) (Nat.le_succ _) _), Lib.hid (HV9.out.set (by omega))⟩
            case measure => simp [intOf]; omega
        · have HE := Lib.hid (collect_end (by rw [← Hm.out]; omega) HQ.out)
          have NH := Lib.hid HRr.out
          obtain ⟨n0, n1, n2⟩ := three_of HRr.out
          have f0 := Lib.frozen_of_heap HRr.out 0
          have f1 := Lib.frozen_of_heap HRr.out 1
          have f2 := Lib.frozen_of_heap HRr.out 2
          obtain ⟨m0, m1, m2⟩ := three_of HLr.out
          obtain ⟨⟨va, vcap, ev, _⟩, _, _⟩ := HO.out.at
          subst ev
          obtain ⟨⟨ca, ccap, ecv, _⟩, _, _⟩ := HVr.out.at
          subst ecv
          obtain ⟨s0, s1, s2⟩ := set_three (a := .int .i64 k) (b := .slice ca D1.length ccap) (c := .slice va D.length vcap) NH.out
          go_wp2
          exact bodyPost_ret (v := .tuple #[.agg #[.int .i64 k, .slice ca D1.length ccap, .slice va D.length vcap], .nilIface]) (by simp [results, Tryz.results82, go_sem, s0, s1, s2]) rfl ⟨below_set3 HB.out, by rw [HE.out, HQd.out]; exact ⟨_, _, rfl, ints_set3 HVr.out (by omega) (by omega), ints_set3 HO.out (by omega) (by omega)⟩⟩
end Go.Proofs.YtmehldekebphfaaGreatDoor
