/-
  The landed refusal and Parse: a table's text.
-/
import Derived.Test.YtlgfmkmpopcciaaDoorLine13
set_option linter.unusedVariables false
set_option linter.unusedSimpArgs false
namespace Go.Proofs.YtlgfmkmpopcciaaDoor
open Go.RowKit

theorem OwnR.base13 {α : Type} {T : TypeId} {f : α → List Value} {k B B' : Nat} {v : Value} {l : List α} {w : World} (h : OwnR T f k B v l w) (hB : B' ≤ B) : OwnR T f k B' v l w := by
  rcases h with ⟨h0, h | ⟨g, cap, cur, rfl, hg, rest⟩⟩
  · exact ⟨h0, .inl h⟩
  · exact ⟨h0, .inr ⟨g, cap, cur, rfl, by omega, rest⟩⟩
/-- why a line cannot follow a table -/
def refC (t : List Sg.Sig) (k : List UInt8) (b : Bool) : Int := if b = false then 130 else if k ∈ Sg.keys t then 131 else if t.length = 100 then 132 else 0
set_option maxHeartbeats 4000000 in
set_option maxRecDepth 100000 in
theorem refusal_any (v : Value) (t : List Sg.Sig) (k n : List UInt8) (b : Bool) (w : World) (h : SgsAt w v t) : Calls Tryd.prog 28 #[v, .agg #[.string (str k), .string (str n)], .bool b] w (Ret (.int .i64 (refC t k b)) w) := by
  have hb1 := below_alloc w (.cells #[.string (str k), .string (str n)] 45)
  have HF := Lib.hid (find_any v t k _ (h.mono hb1))
  obtain ⟨y0, y1⟩ := rec_two w w.heap.size rfl (.string (str k)) (.string (str n)) 45
  have HB := Lib.hid hb1
  obtain ⟨⟨a, cp, rfl, hcap⟩, hm, _⟩ := h
  have HQ : Hid (∀ q, q = refC t k b → q = if b = false then 130 else if k ∈ Sg.keys t then 131 else if t.length = 100 then 132 else 0) := Lib.hid (fun q h => h)
  obtain ⟨q, hq⟩ : ∃ q, q = refC t k b := ⟨_, rfl⟩
  have HE := Lib.hid (HQ.out q hq)
  rw [← hq]
  obtain ⟨m, hm⟩ : ∃ m, m = t.length := ⟨_, rfl⟩
  rw [← hm] at HE HF ⊢
  have hneg := @Sg.find_neg t k
  obtain ⟨z, hz⟩ : ∃ z, z = Sg.find t k := ⟨_, rfl⟩
  rw [← hz] at HF hneg
  clear hq HQ hm hz hb1 hcap
  cases b with
  | false =>
    have HE2 : Hid (q = 130) := Lib.hid (by rw [HE.out]; rfl)
    go_enter Tryd.func28, Tryd.ntmps28
    go_wp2
    go_ret
    rw [HE2.out]
    exact ⟨rfl, HB.out⟩
  | true =>
    by_cases hk : k ∈ Sg.keys t
    · have HE2 : Hid (q = 131) := Lib.hid (by rw [HE.out, if_neg (by decide), if_pos hk])
      have hz0 : 0 ≤ z := by
        rcases Int.lt_or_le z 0 with h | h
        · exact absurd hk (hneg.1 h)
        · exact h
      clear hneg hk HE
      go_enter Tryd.func28, Tryd.ntmps28
      go_wp2_with fail
      refine HF.out.mono ?_
      rintro e w1 ⟨rfl, hb1⟩
      have HB1 := Lib.hid (below_step HB.out hb1)
      clear hb1 HF HB
      go_wp2
      go_ret
      rw [HE2.out]
      exact ⟨rfl, HB1.out⟩
    · have hz0 : ¬ 0 ≤ z := by
        have := hneg.2 hk
        omega
      by_cases hl : m = 100
      · have HE2 : Hid (q = 132) := Lib.hid (by rw [HE.out, if_neg (by decide), if_neg hk, if_pos hl])
        have g1 : ((m : Int) == 100) = true := by rw [hl]; rfl
        clear hneg hk HE hl
        go_enter Tryd.func28, Tryd.ntmps28
        go_wp2_with fail
        refine HF.out.mono ?_
        rintro e w1 ⟨rfl, hb1⟩
        have HB1 := Lib.hid (below_step HB.out hb1)
        clear hb1 HF HB
        go_wp2
        go_ret
        rw [HE2.out]
        exact ⟨rfl, HB1.out⟩
      · have HE2 : Hid (q = 0) := Lib.hid (by rw [HE.out, if_neg (by decide), if_neg hk, if_neg hl])
        have g1 : ((m : Int) == 100) = false := by rw [beq_eq_false_iff_ne]; omega
        clear hneg hk HE hl
        go_enter Tryd.func28, Tryd.ntmps28
        go_wp2_with fail
        refine HF.out.mono ?_
        rintro e w1 ⟨rfl, hb1⟩
        have HB1 := Lib.hid (below_step HB.out hb1)
        clear hb1 HF HB
        go_wp2
        go_ret
        rw [HE2.out]
        exact ⟨rfl, HB1.out⟩
theorem refC_true (t : List Sg.Sig) (k : List UInt8) : refC t k true = if k ∈ Sg.keys t then 131 else if t.length = 100 then 132 else 0 := rfl
/-- one line of the text, and what follows -/
theorem parse_step {acc : List Sg.Sig} {L : List UInt8} (hL : L ≠ []) (hacc : acc.length ≤ 100) : ∃ (ln rs : List UInt8) (en : Bool) (k n : List UInt8) (ok : Bool), Lib.cut L [10] = (ln, rs, en) ∧ lineV (Sg.lineOk ln) = .tuple #[.agg #[.string (str k), .string (str n)], .bool ok] ∧ ln.length ≤ L.length ∧ k.length ≤ L.length ∧ n.length ≤ L.length ∧
    (ok = false → refC acc k ok = 130 ∧ Sg.parseL acc acc.length (Mt.split 10 L) = ([], 130, (acc.length : Int))) ∧
    (ok = true → refC acc k en ≠ 0 → Sg.parseL acc acc.length (Mt.split 10 L) = ([], refC acc k en, (acc.length : Int))) ∧
    (ok = true → refC acc k en = 0 → Sg.parseL acc acc.length (Mt.split 10 L) = Sg.parseL (acc ++ [(⟨k, n⟩ : Sg.Sig)]) (acc ++ [(⟨k, n⟩ : Sg.Sig)]).length (Mt.split 10 rs) ∧ rs.length < L.length ∧ acc.length + 1 ≤ 100) := by
  have hkn : ∀ {ln : List UInt8} {x : Sg.Sig}, Sg.lineOk ln = some x → x.k.length ≤ ln.length ∧ x.n.length ≤ ln.length := fun {ln x} h => by
    have := (Sg.lineOk_some h).1
    rw [this]
    unfold Sg.line
    rw [List.length_append, List.length_cons]
    omega
  rcases cut_cases 10 L with ⟨h, e⟩ | ⟨a, b, h, h1, e⟩
  · have hp : Sg.parseL acc acc.length (Mt.split 10 L) = ([], 130, (acc.length : Int)) := by
      rw [Mt.split_plain h]
      simp only [Sg.parseL]
      rw [if_neg hL]
    cases hl : Sg.lineOk L with
    | none =>
      refine ⟨L, [], false, [], [], false, e, by rw [hl]; rfl, Nat.le_refl _, by simp, by simp, fun _ => ⟨rfl, hp⟩, fun h => absurd h (by decide), fun h => absurd h (by decide)⟩
    | some x =>
      refine ⟨L, [], false, x.k, x.n, true, e, by rw [hl]; rfl, Nat.le_refl _, (hkn hl).1, (hkn hl).2, fun h => absurd h (by decide), fun _ _ => hp, fun _ h => ?_⟩
      unfold refC at h
      rw [if_pos rfl] at h
      cases h
  · have hal : a.length ≤ L.length := by rw [h]; simp
    obtain ⟨m, r, hmr⟩ : ∃ m r, Mt.split 10 b = m :: r := by
      cases e : Mt.split 10 b with
      | nil => exact absurd e (Mt.split_ne 10 b)
      | cons m r => exact ⟨m, r, rfl⟩
    have hs : Mt.split 10 L = a :: m :: r := by rw [h, Mt.split_more b h1, hmr]
    cases hl : Sg.lineOk a with
    | none =>
      refine ⟨a, b, true, [], [], false, e, by rw [hl]; rfl, hal, by simp, by simp, fun _ => ⟨rfl, ?_⟩, fun h => absurd h (by decide), fun h => absurd h (by decide)⟩
      rw [hs]
      simp only [Sg.parseL]
      rw [hl]
    | some x =>
      have hx := hkn hl
      have hpl : Sg.parseL acc acc.length (Mt.split 10 L) = if x.k ∈ Sg.keys acc then ([], 131, (acc.length : Int)) else if acc.length = 100 then ([], 132, (acc.length : Int)) else Sg.parseL (acc ++ [x]) (acc.length + 1) (m :: r) := by
        rw [hs]
        simp only [Sg.parseL]
        rw [hl]
      refine ⟨a, b, true, x.k, x.n, true, e, by rw [hl]; rfl, hal, by omega, by omega, fun h => absurd h (by decide), fun _ hc => ?_, fun _ hc => ?_⟩
      · rw [hpl]
        rw [refC_true] at hc ⊢
        by_cases h1 : x.k ∈ Sg.keys acc
        · rw [if_pos h1, if_pos h1]
        · rw [if_neg h1] at hc
          by_cases h2 : acc.length = 100
          · rw [if_neg h1, if_pos h2, if_neg h1, if_pos h2]
          · rw [if_neg h2] at hc; exact absurd rfl hc
      · rw [refC_true] at hc
        by_cases h1 : x.k ∈ Sg.keys acc
        · rw [if_pos h1] at hc; cases hc
        · rw [if_neg h1] at hc
          by_cases h2 : acc.length = 100
          · rw [if_pos h2] at hc; cases hc
          · refine ⟨?_, by rw [h]; simp; omega, by omega⟩
            rw [hpl, if_neg h1, if_neg h2, hmr, List.length_append]
            rfl
/-- what Parse answers -/
def ParsePost (r : List Sg.Sig × Int × Int) (w : World) (e : Ending) (w' : World) : Prop := ∃ v, e = .returned (.tuple #[v, flt r.2.1 r.2.2]) ∧ OwnSg w.heap.size v r.1 w' ∧ Below w.heap.size w w'
theorem sg_slice {B : Nat} {v : Value} {l : List Sg.Sig} {w : World} (h : OwnSg B v l w) : ∃ a cap, v = .slice a l.length cap := by
  obtain ⟨⟨a, cap, e, _⟩, _⟩ := h.at sgC_len
  exact ⟨a, cap, e⟩
set_option maxHeartbeats 4000000 in
set_option maxRecDepth 100000 in
theorem parse_any (s : List UInt8) (hs : s.length ≤ 281474976710656) (w : World) : Calls Tryd.prog 10 #[.string (str s)] w (ParsePost (Sg.parse s) w) := by
  obtain ⟨R, hR⟩ : ∃ R, R = Sg.parse s := ⟨_, rfl⟩
  have H0 : Hid (R = Sg.parseL [] ([] : List Sg.Sig).length (Mt.split 10 s)) := Lib.hid (by rw [hR]; rfl)
  rw [← hR]
  clear hR
  have HCut := Lib.hid (fun (l : List UInt8) (hl : l.length ≤ 281474976710656) w => cut_one (str l) (by rw [str_size13]; omega) 10 w)
  have HLine := Lib.hid (fun (l : List UInt8) (hl : l.length ≤ 281474976710656) w => readLine_any l hl w)
  have HRef := Lib.hid (fun v t k n b w h => refusal_any v t k n b w h)
  have HO0 := Lib.hid (new_two13 w w.heap.size rfl (.int .i64 0) (.int .i64 0) 26)
  have HB0 := Lib.hid (below_alloc w (.cells #[.int .i64 0, .int .i64 0] 26))
  have HN0 : Hid (OwnSg (w.heap.size + 1) (.slice none 0 0) [] (w.alloc (.cells #[.int .i64 0, .int .i64 0] 26))) := Lib.hid (ownR_nil _ _ _ _ _)
  have HZ0 : Hid (w.heap.size + 1 ≤ (w.alloc (.cells #[.int .i64 0, .int .i64 0] 26)).heap.size) := Lib.hid (by rw [World.size_alloc]; exact Nat.le_refl _)
  have HS0 := Lib.hid hs
  clear hs
  go_enter Tryd.func10, Tryd.ntmps10
  go_wp2_with fail
  go_loopw [0, 4] (fun sv tv wr => ∃ (L : List UInt8) (acc : List Sg.Sig) (a : Option Addr) (cap : Nat), sv = .string (str L) ∧ tv = .slice a acc.length cap ∧ acc.length ≤ 100 ∧ Hid (L.length ≤ 281474976710656) ∧ Hid (R = Sg.parseL acc acc.length (Mt.split 10 L)) ∧ Hid (OwnSg (w.heap.size + 1) (.slice a acc.length cap) acc wr) ∧ Hid (wr.heap[w.heap.size]? = some (.cells #[.int .i64 0, .int .i64 0] 26 (0, 0))) ∧ Hid (w.heap.size + 1 ≤ wr.heap.size) ∧ Hid (Below w.heap.size w wr)) (fun sv _ _ => match sv with | .string x => x.size | _ => 0)
  case atStart => exact ⟨s, [], none, 0, rfl, rfl, by simp, HS0, H0, HN0, HO0, HZ0, HB0⟩
  case round =>
    obtain ⟨L, acc, a, cap, rfl, rfl, hacc, HS, HR, HN, HO, HZ, HW⟩ := hrel
    clear H0 HO0 HB0 HN0 HZ0 HS0
    by_cases hL : L = []
    · subst hL
      have he : (str ([] : List UInt8)).toList.isEmpty = true := by rw [Lib.toList_data]; rfl
      have HE : Hid (R = (acc, 0, 0)) := Lib.hid (by rw [HR.out]; rfl)
      have ho := HO.out
      obtain ⟨n0, n1⟩ := two_of13 ho
      have f0 := Lib.frozen_of_heap ho 0
      have f1 := Lib.frozen_of_heap ho 1
      obtain ⟨s0, s1⟩ := two_of13 (set_two13 (a := .int .i64 0) (b := .int .i64 0) ho)
      have hlt := lt_of_obj ho
      clear ho
      go_wp2
      refine bodyPost_ret (v := .tuple #[.slice a acc.length cap, flt 0 0]) (by simp [results, Tryd.results10, go_sem, s0, s1, flt]) rfl ⟨_, by rw [HE.out], ?_, below_two13 (Nat.le_refl _) HW.out⟩
      rw [HE.out]
      exact ((HN.out.set9 (Nat.lt_succ_self _)).set9 (Nat.lt_succ_self _)).base13 (Nat.le_succ _)
    · have he : (str L).toList.isEmpty = false := by rw [Lib.toList_data, str_data, List.isEmpty_eq_false_iff]; exact hL
      obtain ⟨ln, rs, en, k, n, ok, hcut, hline, hll, hkl, hnl, hA, hB, hC⟩ := parse_step hL hacc
      have hs := HS.out
      have HC := Lib.hid (fun w => HCut.out L hs w)
      have HLn := Lib.hid (fun w => HLine.out ln (by omega) w)
      unfold CutPost at HC
      rw [str_data, hcut] at HC
      rw [hline] at HLn
      have ek : (⟨ln.toArray⟩ : ByteArray) = str ln := rfl
      have er : (⟨rs.toArray⟩ : ByteArray) = str rs := rfl
      simp only [ek, er] at HC
      obtain ⟨i, hi⟩ : ∃ i, i = acc.length := ⟨_, rfl⟩
      have Hi := Lib.hid hi
      rw [← hi] at HN hacc ⊢
      have HLL := Lib.hid hs
      clear hcut hline ek er hL hs hi HS
      cases ok with
      | false =>
        obtain ⟨h1, h2⟩ := hA rfl
        have HE : Hid (R = ([], 130, (i : Int))) := Lib.hid (by rw [HR.out, h2, Hi.out])
        have HF := Lib.hid (fun w h => HRef.out (.slice a i cap) acc k n false w h)
        rw [h1] at HF
        clear h1 h2 hA hB hC hll hkl hnl HRef HR
        go_wp2_with fail
        refine (HC.out _).mono ?_
        rintro e w1 ⟨rfl, m, rfl⟩
        have hb1 := below_drew wr m
        have HW1 := Lib.hid (below_step HW.out hb1)
        have HO1 := Lib.hid (obj_kept hb1 HO.out)
        have HN1 := Lib.hid (HN.out.mono hb1)
        generalize wr.drewN m = W1 at *
        clear hb1 HW HO HN HZ
        go_wp2_with fail
        refine (HLn.out _).mono ?_
        rintro e w2 ⟨rfl, hb2⟩
        have hb3 := below_alloc w2 (.cells #[.string (str k), .string (str n)] 45)
        obtain ⟨y0, y1⟩ := rec_two w2 w2.heap.size rfl (.string (str k)) (.string (str n)) 45
        have hb23 := below_step hb2 hb3
        have HW3 := Lib.hid (below_step HW1.out hb23)
        have HO3 := Lib.hid (obj_kept hb23 HO1.out)
        have HN3 := Lib.hid (HN1.out.mono hb23)
        clear hb2 hb3 hb23 HW1 HO1 HN1
        go_wp2_with fail
        refine (HF.out _ (HN3.out.at sgC_len)).mono ?_
        rintro e w4 ⟨rfl, hb4⟩
        have HW4 := Lib.hid (below_step HW3.out hb4)
        have ho := obj_kept hb4 HO3.out
        obtain ⟨n0, n1⟩ := two_of13 ho
        have f0 := Lib.frozen_of_heap ho 0
        have f1 := Lib.frozen_of_heap ho 1
        obtain ⟨s0, s1⟩ := two_of13 (set_two13 (a := .int .i64 130) (b := .int .i64 (i : Int)) ho)
        have hlt := lt_of_obj ho
        clear ho hb4 y0 y1 HW3 HO3 HN3
        go_wp2
        refine bodyPost_ret (v := .tuple #[.slice none 0 0, flt 130 (i : Int)]) (by simp [results, Tryd.results10, go_sem, s0, s1, flt]) rfl ⟨_, by rw [HE.out], ?_, below_two13 (Nat.le_refl _) HW4.out⟩
        rw [HE.out]
        exact ownR_nil _ _ _ _ _
      | true =>
        have HF := Lib.hid (fun w h => HRef.out (.slice a i cap) acc k n en w h)
        obtain ⟨c, hc⟩ : ∃ c, c = refC acc k en := ⟨_, rfl⟩
        rw [← hc] at HF hB hC
        by_cases hc0 : c = 0
        · obtain ⟨h1, h2, h3⟩ := hC rfl hc0
          have HE : Hid (R = Sg.parseL (acc ++ [(⟨k, n⟩ : Sg.Sig)]) (acc ++ [(⟨k, n⟩ : Sg.Sig)]).length (Mt.split 10 rs)) := Lib.hid (by rw [HR.out, h1])
          have HL2 := Lib.hid h2
          have HLr : Hid (rs.length ≤ 281474976710656) := Lib.hid (by have := HLL.out; omega)
          have h3' : i + 1 ≤ 100 := by rw [Hi.out]; exact h3
          subst hc0
          clear h1 h2 h3 hA hB hC hc hll hkl hnl HRef HR
          go_wp2_with fail
          refine (HC.out _).mono ?_
          rintro e w1 ⟨rfl, m, rfl⟩
          have hb1 := below_drew wr m
          have HW1 := Lib.hid (below_step HW.out hb1)
          have HO1 := Lib.hid (obj_kept hb1 HO.out)
          have HN1 := Lib.hid (HN.out.mono hb1)
          have HZ1 : Hid (w.heap.size + 1 ≤ (wr.drewN m).heap.size) := Lib.hid (Nat.le_trans HZ.out hb1.size)
          generalize wr.drewN m = W1 at *
          clear hb1 HW HO HN HZ
          go_wp2_with fail
          refine (HLn.out _).mono ?_
          rintro e w2 ⟨rfl, hb2⟩
          have hb3 := below_alloc w2 (.cells #[.string (str k), .string (str n)] 45)
          obtain ⟨y0, y1⟩ := rec_two w2 w2.heap.size rfl (.string (str k)) (.string (str n)) 45
          have hob := new_two13 w2 w2.heap.size rfl (.string (str k)) (.string (str n)) 45
          have hb23 := below_step hb2 hb3
          have HW3 := Lib.hid (below_step HW1.out hb23)
          have HO3 := Lib.hid (obj_kept hb23 HO1.out)
          have HN3 := Lib.hid (HN1.out.mono hb23)
          have HZ3 := Lib.hid (Nat.le_trans HZ1.out hb23.size)
          have Hob := Lib.hid hob
          clear hb2 hb3 hb23 HW1 HO1 HN1 HZ1 hob
          go_wp2_with fail
          refine (HF.out _ (HN3.out.at sgC_len)).mono ?_
          rintro e w4 ⟨rfl, hb4⟩
          have HW4 := Lib.hid (below_step HW3.out hb4)
          have HO4 := Lib.hid (obj_kept hb4 HO3.out)
          have HN4 := Lib.hid (HN3.out.mono hb4)
          have HZ4 := Lib.hid (Nat.le_trans HZ3.out hb4.size)
          obtain ⟨z0, z1⟩ := two_of13 (obj_kept hb4 Hob.out)
          clear hb4 y0 y1 HW3 HO3 HN3 HZ3 Hob
          have HN5 := Lib.hid (HN4.out.mono (below_alloc w4 (.cells #[.string (str k), .string (str n)] 45)))
          have HS5 := Lib.hid (slc_new sgC_len w4 w4.heap.size rfl [(⟨k, n⟩ : Sg.Sig)] 45 (by simp) #[.string (str k), .string (str n)] rfl)
          have HW5 := Lib.hid (below_step HW4.out (below_alloc w4 (.cells #[.string (str k), .string (str n)] 45)))
          have HO5 := Lib.hid (obj_kept (below_alloc w4 (.cells #[.string (str k), .string (str n)] 45)) HO4.out)
          have hz5 := Nat.le_trans HZ4.out (below_alloc w4 (.cells #[.string (str k), .string (str n)] 45)).size
          clear HW4 HO4 HN4 HZ4
          go_wp2_with (at_builtin; refine wpList_append_slc Tryd.underlying22 infoSg13 rfl (by decide) sgC_len sgC_cell rfl _ _ rfl (w.heap.size + 1) _ _ acc [(⟨k, n⟩ : Sg.Sig)] rfl HN5.out rfl HS5.out (by have := Hi.out; simp; omega) (by have := Hi.out; unfold maxLen; simp; omega) hz5 ?_; intro v9 w9 h9 hg9; have HN9 := Lib.hid h9; have HZ9 := Lib.hid (Nat.le_trans hz5 hg9.size); have HO9 := Lib.hid (obj_far HO5.out hg9 (own_off9 HN5.out HO5.out (by decide))); have HW9 := Lib.hid (below_app HW5.out hg9 (HN5.out.base13 (Nat.le_succ _)) HW5.out.size); clear h9 hg9)
          obtain ⟨a9, c9, rfl⟩ := sg_slice HN9.out
          go_wp2
          go_roundw
          case rel => exact ⟨rs, acc ++ [(⟨k, n⟩ : Sg.Sig)], a9, c9, rfl, rfl, by rw [List.length_append, ← Hi.out]; exact h3', HLr, HE, HN9, HO9, HZ9, HW9⟩
          case measure => simp [str_size13]; exact HL2.out
        · have HE : Hid (R = ([], c, (i : Int))) := Lib.hid (by rw [HR.out, hB rfl hc0, Hi.out])
          have hcb : (c == 0) = false := by rw [beq_eq_false_iff_ne]; exact hc0
          clear hA hB hC hc hc0 hll hkl hnl HRef HR
          go_wp2_with fail
          refine (HC.out _).mono ?_
          rintro e w1 ⟨rfl, m, rfl⟩
          have hb1 := below_drew wr m
          have HW1 := Lib.hid (below_step HW.out hb1)
          have HO1 := Lib.hid (obj_kept hb1 HO.out)
          have HN1 := Lib.hid (HN.out.mono hb1)
          generalize wr.drewN m = W1 at *
          clear hb1 HW HO HN HZ
          go_wp2_with fail
          refine (HLn.out _).mono ?_
          rintro e w2 ⟨rfl, hb2⟩
          have hb3 := below_alloc w2 (.cells #[.string (str k), .string (str n)] 45)
          obtain ⟨y0, y1⟩ := rec_two w2 w2.heap.size rfl (.string (str k)) (.string (str n)) 45
          have hb23 := below_step hb2 hb3
          have HW3 := Lib.hid (below_step HW1.out hb23)
          have HO3 := Lib.hid (obj_kept hb23 HO1.out)
          have HN3 := Lib.hid (HN1.out.mono hb23)
          clear hb2 hb3 hb23 HW1 HO1 HN1
          go_wp2_with fail
          refine (HF.out _ (HN3.out.at sgC_len)).mono ?_
          rintro e w4 ⟨rfl, hb4⟩
          have HW4 := Lib.hid (below_step HW3.out hb4)
          have ho := obj_kept hb4 HO3.out
          obtain ⟨n0, n1⟩ := two_of13 ho
          have f0 := Lib.frozen_of_heap ho 0
          have f1 := Lib.frozen_of_heap ho 1
          obtain ⟨s0, s1⟩ := two_of13 (set_two13 (a := .int .i64 c) (b := .int .i64 (i : Int)) ho)
          have hlt := lt_of_obj ho
          clear ho hb4 y0 y1 HW3 HO3 HN3
          go_wp2
          refine bodyPost_ret (v := .tuple #[.slice none 0 0, flt c (i : Int)]) (by simp [results, Tryd.results10, go_sem, s0, s1, flt]) rfl ⟨_, by rw [HE.out], ?_, below_two13 (Nat.le_refl _) HW4.out⟩
          rw [HE.out]
          exact ownR_nil _ _ _ _ _
end Go.Proofs.YtlgfmkmpopcciaaDoor
