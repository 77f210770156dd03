/-
  The reference's Fault (layer 6): what is wrong with tokens first.
-/
import Derived.Test.YtimpadooknclkaaRefTok6
import Derived.Test.YtimpadooknclkaaDefs
set_option linter.unusedVariables false
set_option linter.unusedSimpArgs false
namespace Go.Proofs.Ytimpadooknclkaa
open Go.RowKit

def fC (l : List Tok) : Int := match Tr.flt [] false l with | none => 0 | some x => x.1
def fA (l : List Tok) : Int := match Tr.flt [] false l with | none => 0 | some x => x.2
theorem fCA_some {l : List Tok} {c a : Int} (h : Tr.flt [] false l = some (c, a)) : fC l = c ∧ fA l = a := by unfold fC fA; rw [h]; exact ⟨rfl, rfl⟩
theorem fCA_none {l : List Tok} (h : Tr.flt [] false l = none) : fC l = 0 ∧ fA l = 0 := by unfold fC fA; rw [h]; exact ⟨rfl, rfl⟩
theorem drop_tok {ts : List Tok} {k : Nat} {t : Tok} (h : ts[k]? = some t) : ts.drop k = t :: ts.drop (k + 1) := by
  obtain ⟨hj, e⟩ := List.getElem?_eq_some_iff.1 h
  rw [← e]; exact List.drop_eq_getElem_cons hj
theorem flt_below6 {p b : Nat} {w w' : World} {c a : Int} (h : FltAt w b c a) (hb : Below p w w') (hl : b < p) : FltAt w' b c a :=
  ⟨by rw [hb.cell (p := ⟨b, 0, none⟩) hl]; exact h.c0, by rw [hb.cell (p := ⟨b, 1, none⟩) hl]; exact h.c1, by rw [hb.frozen (p := ⟨b, 0, none⟩) hl]; exact h.f0, by rw [hb.frozen (p := ⟨b, 1, none⟩) hl]; exact h.f1⟩
theorem infoI : (Try.prog.info? 3).map (fun i => (i.zero, i.size, i.bytes)) = some (some (.int .i64 0), 1, 8) := by kernel_rfl
theorem ownI_made (k : IntKind) (E : TypeId) (w : World) : OwnI k E w.heap.size (.slice (some ⟨w.heap.size, 0, none⟩) 0 0) [] (w.alloc (.cells #[] E)) := World.ownsRow_made w #[] 0 (Nat.le_refl _) (by unfold maxLen; omega) rfl
theorem ownI_pop {k : IntKind} {E : TypeId} {B g cap : Nat} {xs : List Int} {x : Int} {w : World} (h : OwnI k E B (.slice (some ⟨g, 0, none⟩) (xs.length + 1) cap) (xs ++ [x]) w) : OwnI k E B (.slice (some ⟨g, 0, none⟩) xs.length cap) xs w := by
  unfold OwnI at h ⊢
  rw [List.length_append, List.length_singleton, List.map_append] at h
  exact ownsRow_pop (by simp) h
theorem cell_int_new (w : World) (x : Int) (T : TypeId) : ∀ j u, [Value.int .i64 x][j]? = some u → (w.alloc (.cells #[.int .i64 x] T)).cell? ((⟨w.heap.size, 0, none⟩ : Addr).add j) = some u := by
  intro j u hj
  rw [add_none]
  match j, hj with
  | 0, hj => simp at hj; subst hj; simp
  | j + 1, hj => simp at hj

set_option maxHeartbeats 1000000 in
set_option maxRecDepth 100000 in
theorem fault_nil (p : Option Addr) (cap : Nat) (w : World) : Calls Try.prog 23 #[.slice p 0 cap] w (Ret (flt 0 0) w) := by
  have HF0 := Lib.hid (flt_new w 0 0)
  have HB0 := Lib.hid (below_alloc w (.cells #[.int .i64 0, .int .i64 0] 26))
  have HB1 := Lib.hid (below_alloc (w.alloc (.cells #[.int .i64 0, .int .i64 0] 26)) (.cells #[] 3))
  have HF1 := Lib.hid (HF0.out.mono HB1.out)
  have HB2 := Lib.hid (below_step HB0.out HB1.out)
  have y0 := HF1.out.c0
  have y1 := HF1.out.c1
  have z0 := HF1.out.f0
  have z1 := HF1.out.f1
  go_enter Try.func23, Try.ntmps23
  go_wp2
  refine wp_loop_rounds 1 ?_
  rw [rounds_succ]
  go_wp2
  exact bodyPost_ret (v := .agg #[.int .i64 0, .int .i64 0]) (by simp [results, Try.results23, go_sem, y0, y1]) rfl ⟨rfl, by first | exact HB2.out | exact (HB2.out.setCell (Nat.le_refl _) _).setCell (Nat.le_refl _) _⟩

set_option maxHeartbeats 8000000 in
set_option maxRecDepth 100000 in
theorem fault_some (b o cap : Nat) (ts : List Tok) (hn1 : ts.length ≤ 4611686018427387904) (w : World) (hc : ∀ i t, ts[i]? = some t → TokAt w b (o + i * 3) t) :
    Calls Try.prog 23 #[.slice (some ⟨b, o, none⟩) ts.length cap] w (Ret (flt (fC ts) (fA ts)) w) := by
  obtain ⟨i0, hi, hz0, hz1, hz2⟩ := info_parts infoI
  have HC := Lib.hid hc
  have HF0 := Lib.hid (flt_new w 0 0)
  have HB0 := Lib.hid (below_alloc w (.cells #[.int .i64 0, .int .i64 0] 26))
  obtain ⟨W0, hW0⟩ : ∃ W0, W0 = w.alloc (.cells #[.int .i64 0, .int .i64 0] 26) := ⟨_, rfl⟩
  rw [← hW0] at HF0 HB0
  have HpW : Hid (W0.heap.size = w.heap.size + 1) := Lib.hid (by rw [hW0, World.size_alloc])
  have HO0 : Hid (OwnI .i64 3 W0.heap.size (.slice (some ⟨w.heap.size + 1, 0, none⟩) 0 0) [] (W0.alloc (.cells #[] 3))) := Lib.hid (by
    have h := ownI_made .i64 3 W0
    rw [HpW.out] at h ⊢
    exact h)
  have HBW := Lib.hid (below_alloc W0 (.cells #[] 3))
  clear hc
  go_enter Try.func23, Try.ntmps23
  go_wp2
  rw [← hW0]
  clear hW0
  go_loopw [3, 4, 5] (fun ov bv iv wr => ∃ (k : Nat) (os : List Int) (beh : Bool), k ≤ ts.length ∧ iv = .int .i64 k ∧ bv = .bool beh ∧ Hid (OwnI .i64 3 W0.heap.size ov os.reverse wr) ∧ os.length ≤ 64 ∧ Hid (Tr.flt [] false ts = Tr.flt os beh (ts.drop k)) ∧ Hid (Below W0.heap.size W0 wr)) (fun _ _ iv _ => ts.length - (intOf iv).toNat)
  case atStart => exact ⟨0, [], false, Nat.zero_le _, rfl, rfl, HO0, by simp, Lib.hid rfl, HBW⟩
  case round =>
    obtain ⟨k, os, beh, hk, rfl, rfl, HO, hos, HR, HB⟩ := hrel
    clear HO0 HBW
    obtain ⟨⟨pa, pcap, eov, _⟩, _, _⟩ := HO.out.at
    rw [List.length_reverse] at eov
    subst eov
    have HNw : Hid ((Value.slice pa os.length pcap).ownBlock ≠ some wr.heap.size) := Lib.hid (fun e => by have := (World.ownsRow.lt HO.out _ e).2; omega)
    have HG := Lib.hid (flt_below6 HF0.out HB.out (by have := HpW.out; omega))
    have HB2 := Lib.hid (HB0.out.trans (HB.out.mono HB0.out.size))
    by_cases hlt : k < ts.length
    · obtain ⟨⟨K, S, A⟩, ht⟩ : ∃ t, ts[k]? = some t := ⟨_, List.getElem?_eq_getElem hlt⟩
      have DT := HC.out k _ ht
      have d1 := cell_below HB2.out DT.k
      have d2 := cell_below HB2.out DT.s
      have d3 := cell_below HB2.out DT.a
      simp only [] at d1 d2 d3
      have k0 : (0 : Int) ≤ (k : Int) := by omega
      have k1 : (k : Int) < (ts.length : Int) := by omega
      have hd := drop_tok ht
      have HBt := Lib.hid (below_alloc wr (.cells #[.int .i64 K, .string (str S), .int .i64 A] 36))
      have HGt := Lib.hid (HG.out.mono HBt.out)
      have y0 := HGt.out.c0
      have y1 := HGt.out.c1
      have z0 := HGt.out.f0
      have z1 := HGt.out.f1
      have HB3 := Lib.hid (below_step HB2.out HBt.out)
      have HBW3 := Lib.hid (HB.out.alloc HB.out.size (.cells #[.int .i64 K, .string (str S), .int .i64 A] 36))
      have HO3 := Lib.hid (HO.out.mono HBt.out)
      have HRd := Lib.hid (show Tr.flt [] false ts = Tr.flt os beh (⟨K, S, A⟩ :: ts.drop (k + 1)) by rw [← hd]; exact HR.out)
      clear DT ht hd
      by_cases c2 : K = 2
      · subst c2
        cases beh with
        | false =>
          have HX := Lib.hid (fCA_some (l := ts) (c := 60) (a := A) (by rw [HRd.out, Tr.flt_open rfl, if_pos rfl]))
          go_wp2_with fail
          exact bodyPost_ret (v := .agg #[.int .i64 60, .int .i64 A]) (by simp [results, Try.results23, go_sem, y0, y1]) rfl ⟨by rw [HX.out.1, HX.out.2]; rfl, (HB3.out.setCell (Nat.le_refl _) _).setCell (Nat.le_refl _) _⟩
        | true =>
          by_cases h64 : os.length = 64
          · have HX := Lib.hid (fCA_some (l := ts) (c := 63) (a := A) (by rw [HRd.out, Tr.flt_open rfl, if_neg (by simp), if_pos h64]))
            have e64 : ((os.length : Int) == 64) = true := by rw [h64]; rfl
            clear h64
            go_wp2_with fail
            exact bodyPost_ret (v := .agg #[.int .i64 63, .int .i64 A]) (by simp [results, Try.results23, go_sem, y0, y1]) rfl ⟨by rw [HX.out.1, HX.out.2]; rfl, (HB3.out.setCell (Nat.le_refl _) _).setCell (Nat.le_refl _) _⟩
          · have HX := Lib.hid (show Tr.flt [] false ts = Tr.flt (A :: os) false (ts.drop (k + 1)) by rw [HRd.out, Tr.flt_open rfl, if_neg (by simp), if_neg h64])
            have e64 : ((os.length : Int) == 64) = false := tk_bne0 (by omega)
            have hown := World.ownsRow.alloc HO3.out (.cells #[.int .i64 A] 3)
            have hos2 : os.length + 1 ≤ 64 := by omega
            have hrl : os.reverse.length = os.length := List.length_reverse
            clear h64
            go_wp2_with (at_builtin; refine wpList_append_own _ rfl _ _ 76 rfl W0.heap.size 3 i0 _ 1 8 Try.underlying76 hi hz0 hz1 hz2 rfl (by decide) _ _ _ rfl hown ⟨wr.heap.size + 1, 0, none⟩ 1 1 [.int .i64 A] rfl rfl (by have h := cell_int_new (wr.alloc (.cells #[.int .i64 2, .string (str S), .int .i64 A] 36)) A 3; rw [World.size_alloc] at h; exact h) (fun z hz => by simp at hz; subst hz; rfl) (by unfold maxLen; omega) (by omega) (by have := HBW3.out.size; simp at this ⊢; omega) ?_; intro v9 w9 hown9 hgrow9 hnil9; have HB9 := Lib.hid ((HBW3.out.alloc HBW3.out.size (.cells #[.int .i64 A] 3)).grown hgrow9 (by have := HBW3.out.size; simp at this ⊢; omega) (fun q hq => (World.ownsRow.lt hown q hq).1)); have t0 : w9.cell? ⟨wr.heap.size, 0, none⟩ = some (.int .i64 2) := hgrow9.cell (by simp) (fun e => HNw.out e.symm); have HO9 := Lib.hid hown9; clear hown hown9 hgrow9 hnil9)
            go_roundw
            case rel => exact ⟨k + 1, A :: os, false, by omega, by go_num, rfl, Lib.hid (by have h := (ownI_snoc HO9.out).out; rw [List.reverse_cons]; exact h), by simp; omega, HX, HB9⟩
            case measure => simp [intOf]; omega
      · have e2 : (K == 2) = false := tk_bne0 c2
        by_cases c3 : K = 3
        · subst c3
          cases os with
          | nil =>
            have HX := Lib.hid (fCA_some (l := ts) (c := 61) (a := A) (by rw [HRd.out, Tr.flt_close_none rfl]))
            go_wp2_with fail
            exact bodyPost_ret (v := .agg #[.int .i64 61, .int .i64 A]) (by simp [results, Try.results23, go_sem, y0, y1]) rfl ⟨by rw [HX.out.1, HX.out.2]; rfl, (HB3.out.setCell (Nat.le_refl _) _).setCell (Nat.le_refl _) _⟩
          | cons o1 os1 =>
            have HX := Lib.hid (show Tr.flt [] false ts = Tr.flt os1 true (ts.drop (k + 1)) by rw [HRd.out, Tr.flt_close rfl])
            obtain ⟨g, gc, ev, _, _⟩ := World.ownsRow.form HO.out (by simp)
            have ev1 : pa = some ⟨g, 0, none⟩ := by injection ev with a1 a2 a3
            subst ev1
            obtain ⟨n1, hn1'⟩ : ∃ n1, n1 = os1.length := ⟨_, rfl⟩
            have hl1 : (o1 :: os1).length = n1 + 1 := by rw [hn1']; rfl
            have HP : Hid (OwnI .i64 3 W0.heap.size (.slice (some ⟨g, 0, none⟩) n1 pcap) os1.reverse (wr.alloc (.cells #[.int .i64 3, .string (str S), .int .i64 A] 36))) := Lib.hid (by
              have h := HO3.out
              rw [List.reverse_cons] at h
              have h2 : (o1 :: os1).length = os1.reverse.length + 1 := by simp
              rw [h2] at h
              have h3 := ownI_pop h
              rw [List.length_reverse, ← hn1'] at h3
              exact h3)
            have hcapn : n1 + 1 ≤ pcap := by rename_i hcap _ _; rw [← hl1, ← List.length_reverse]; assumption
            have hw1 : (n1 : Int) + 1 ≤ 64 := by rw [hl1] at hos; omega
            have en0 : ((n1 : Int) + 1 == 0) = false := tk_bne0 (by omega)
            have HL1 := Lib.hid hn1'
            rw [hl1] at *
            clear hn1' hl1
            go_wp2_with fail
            go_roundw
            case rel => exact ⟨k + 1, os1, true, by omega, by go_num, rfl, HP, by have := HL1.out; omega, HX, HBW3⟩
            case measure => simp [intOf]; omega
        · have e3 : (K == 3) = false := tk_bne0 c3
          by_cases c1 : K = 1
          · subst c1
            have HX := Lib.hid (show Tr.flt [] false ts = Tr.flt os true (ts.drop (k + 1)) by rw [HRd.out, Tr.flt_plain (by simp) (by simp)]; rfl)
            clear c2 c3
            go_wp2_with fail
            go_roundw
            case rel => exact ⟨k + 1, os, true, by omega, by go_num, rfl, HO3, hos, HX, HBW3⟩
            case measure => simp [intOf]; omega
          · have e1 : (K == 1) = false := tk_bne0 c1
            have HX := Lib.hid (show Tr.flt [] false ts = Tr.flt os false (ts.drop (k + 1)) by rw [HRd.out, Tr.flt_plain c2 c3]; show Tr.flt os (decide (K = 1)) _ = _; rw [decide_eq_false c1])
            clear c2 c3 c1
            go_wp2_with fail
            go_roundw
            case rel => exact ⟨k + 1, os, false, by omega, by go_num, rfl, HO3, hos, HX, HBW3⟩
            case measure => simp [intOf]; omega
    · have hd : ts.drop k = [] := List.drop_eq_nil_of_le (by omega)
      have y0 := HG.out.c0
      have y1 := HG.out.c1
      have z0 := HG.out.f0
      have z1 := HG.out.f1
      cases os with
      | nil =>
        have HX := Lib.hid (fCA_none (l := ts) (by rw [HR.out, hd]; rfl))
        clear hd
        go_wp2_with fail
        exact bodyPost_ret (v := .agg #[.int .i64 0, .int .i64 0]) (by simp [results, Try.results23, go_sem, y0, y1]) rfl ⟨by rw [HX.out.1, HX.out.2]; rfl, by first | exact HB2.out | exact (HB2.out.setCell (Nat.le_refl _) _).setCell (Nat.le_refl _) _⟩
      | cons o1 os1 =>
        have HX := Lib.hid (fCA_some (l := ts) (c := 62) (a := o1) (by rw [HR.out, hd]; rfl))
        obtain ⟨g, gc, ev, _, _⟩ := World.ownsRow.form HO.out (by simp)
        have ev1 : pa = some ⟨g, 0, none⟩ := by injection ev with a1 a2 a3
        subst ev1
        obtain ⟨n1, hn1'⟩ : ∃ n1, n1 = os1.length := ⟨_, rfl⟩
        have hl1 : (o1 :: os1).length = n1 + 1 := by rw [hn1']; rfl
        have q0 : wr.cell? ⟨g, n1, none⟩ = some (.int .i64 o1) := by
          have h := World.ownsRow.cells HO.out (g := g) rfl n1 (.int .i64 o1) (by rw [hn1']; simp)
          rw [add_none, Nat.zero_add] at h
          exact h
        have hw1 : (n1 : Int) + 1 ≤ 64 := by rw [hl1] at hos; omega
        have hpos : (0 : Int) < (n1 : Int) + 1 := by omega
        rw [hl1] at *
        clear hn1' hl1 hd
        go_wp2_with fail
        exact bodyPost_ret (v := .agg #[.int .i64 62, .int .i64 o1]) (by simp [results, Try.results23, go_sem, y0, y1]) rfl ⟨by rw [HX.out.1, HX.out.2]; rfl, (HB2.out.setCell (Nat.le_refl _) _).setCell (Nat.le_refl _) _⟩
end Go.Proofs.Ytimpadooknclkaa
