/-
  The law TreeParts: of two lists of tokens that are parsed, one behind the other, the nodes are those of the one, and then of the other one.
-/
import Derived.Test.YtimpadooknclkaaAppend6
import Derived.Test.YtimpadooknclkaaLawParses6
set_option linter.unusedVariables false
set_option linter.unusedSimpArgs false
namespace Go.Proofs.Ytimpadooknclkaa
open Go.RowKit

theorem G_size {d : Nat} {l : List Tok} {ns : List Nd} (h : Tr.G d l ns) : Tr.sizeL ns ≤ l.length := by
  induction h with
  | nil d => exact Nat.zero_le _
  | word h hr ih => simp only [Tr.sizeL, Tr.sizeN, Tr.sizeA, List.length_cons]; omega
  | cmd h hr ih => simp only [Tr.sizeL, Tr.sizeN, Tr.sizeA, List.length_cons]; omega
  | grp h ho hc hd hb hr ihb ihr => simp only [Tr.sizeL, Tr.sizeN, Tr.sizeA, List.length_cons, List.length_append] at *; omega
theorem len_size : ∀ l : List Nd, l.length ≤ Tr.sizeL l
  | [] => Nat.zero_le _
  | .mk c x args a :: r => by have := len_size r; simp only [List.length_cons, Tr.sizeL, Tr.sizeN]; omega
/-- what Parse answers, any tokens -/
def ParseAny (ts : List Tok) (w : World) (e : Ending) (w' : World) : Prop := ∃ v K ns, e = .returned (.tuple #[v, .agg #[.int .i64 (Tr.code ts), .int .i64 (Tr.place ts)]]) ∧ NodesAt w' K v ns ∧ (Tr.code ts = 0 → Tr.G 0 (Tr.reals ts) ns) ∧ (Tr.code ts ≠ 0 → ns = []) ∧ Below w.heap.size w w'
theorem parse_all (C : TreeC) (v : Value) (ts : List Tok) (hn : ts.length ≤ 1073741824) (w : World) (h : ToksAt w v ts) : Calls Try.prog 7 #[v] w (ParseAny ts w) := by
  by_cases hc : Tr.code ts = 0
  · obtain ⟨hp, ns, hG⟩ := Tr.parse_yes hc
    refine (C.yes v ts ns w hn hG h).mono ?_
    rintro e w' ⟨v', K, rfl, h1, h2⟩
    exact ⟨v', K, ns, by rw [hc, hp]; rfl, h1, fun _ => hG, fun h => absurd hc h, h2⟩
  · refine (C.no v ts w hn hc h).mono ?_
    rintro e w' ⟨v', K, rfl, h1, h2⟩
    exact ⟨v', K, [], rfl, h1, fun h => absurd h hc, fun _ => rfl, h2⟩

set_option maxHeartbeats 4000000 in
set_option maxRecDepth 100000 in
theorem lawParts_any (C : TreeC) (F : FixC) (v u : Value) (ts us : List Tok) (hn : ts.length + us.length ≤ 1073741824) (w : World) (h : ToksAt w v ts) (k : ToksAt w u us) : Calls Try.prog 6 #[v, u] w (Ret (.bool true) w) := by
  have HF := Lib.hid F
  have cA := Lib.hid (fun w h => parse_all C v ts (by omega) w h)
  have cB := Lib.hid (fun w h => parse_all C u us (by omega) w h)
  have HC := Lib.hid C
  have HN := Lib.hid hn
  have H := Lib.hid h
  have HK := Lib.hid k
  have hpy1 : Tr.code ts = 0 → Tr.place ts = 0 := fun e => (Tr.parse_yes e).1
  have hpy2 : Tr.code us = 0 → Tr.place us = 0 := fun e => (Tr.parse_yes e).1
  obtain ⟨c1, hc1⟩ : ∃ c, c = Tr.code ts := ⟨_, rfl⟩
  obtain ⟨p1, hp1⟩ : ∃ c, c = Tr.place ts := ⟨_, rfl⟩
  obtain ⟨c2, hc2⟩ : ∃ c, c = Tr.code us := ⟨_, rfl⟩
  obtain ⟨p2, hp2⟩ : ∃ c, c = Tr.place us := ⟨_, rfl⟩
  unfold ParseAny at cA cB
  rw [← hc1, ← hp1] at cA
  rw [← hc2, ← hp2] at cB
  clear h k hn C F hc1 hp1 hc2 hp2 hpy1 hpy2
  go_enter Try.func6, Try.ntmps6
  go_wp2_with fail
  refine (cA.out _ H.out).mono ?_
  rintro e w1 ⟨v1, K1, A, rfl, h1, hy1, hz1, hb1⟩
  have hb1' := below_step hb1 (below_alloc w1 (.cells #[.int .i64 c1, .int .i64 p1] 26))
  have HB1 := Lib.hid hb1'
  have HV1 := Lib.hid (h1.mono (below_alloc w1 (.cells #[.int .i64 c1, .int .i64 p1] 26)))
  have HG1 := Lib.hid (flt_new w1 c1 p1)
  have HY1 := Lib.hid hy1
  clear h1 hb1 hb1' hy1 hz1
  go_wp2_with fail
  refine (cB.out _ (HK.out.mono HB1.out)).mono ?_
  rintro e w2 ⟨v2, K2, B, rfl, h2, hy2, hz2, hb2⟩
  have hb2' := below_step hb2 (below_alloc w2 (.cells #[.int .i64 c2, .int .i64 p2] 26))
  have HB2 := Lib.hid (below_step HB1.out hb2')
  have HV2 := Lib.hid (HV1.out.mono hb2')
  have HW2 := Lib.hid (h2.mono (below_alloc w2 (.cells #[.int .i64 c2, .int .i64 p2] 26)))
  have HG2 := Lib.hid (HG1.out.mono hb2')
  have HH2 := Lib.hid (flt_new w2 c2 p2)
  have HY2 := Lib.hid hy2
  clear h2 hb2 hb2' hy2 hz2
  go_wp2_with fail
  refine (HF.out _).mono ?_
  rintro e w3 ⟨rfl, hb3⟩
  have HB3 := Lib.hid (below_step HB2.out hb3)
  have HV3 := Lib.hid (HV2.out.mono hb3)
  have HW3 := Lib.hid (HW2.out.mono hb3)
  have HG3 := Lib.hid (HG2.out.mono hb3)
  have HH3 := Lib.hid (HH2.out.mono hb3)
  clear hb3
  have x0 := HG3.out.c0
  have y0 := HH3.out.c0
  by_cases hc1 : c1 = 0
  · by_cases hc2 : c2 = 0
    · subst hc1 hc2
      have HGA := Lib.hid (HY1.out rfl)
      have HGB := Lib.hid (HY2.out rfl)
      have HS1 : Hid (A.length + B.length ≤ 1073741824) := Lib.hid (by
        have h1 := len_size A
        have h2 := len_size B
        have h3 := G_size HGA.out
        have h4 := G_size HGB.out
        have h5 : (Tr.reals ts).length ≤ ts.length := List.length_filter_le ..
        have h6 : (Tr.reals us).length ≤ us.length := List.length_filter_le ..
        have := HN.out
        omega)
      have cP : Hid (∀ v w, ToksAt w v (ts ++ us) → Calls Try.prog 7 #[v] w (fun e w' => ∃ v K, e = .returned (.tuple #[v, .agg #[.int .i64 0, .int .i64 0]]) ∧ NodesAt w' K v (A ++ B) ∧ Below w.heap.size w w')) := Lib.hid (fun v w h => HC.out.yes v (ts ++ us) (A ++ B) w (by rw [List.length_append]; exact HN.out) (Tr.parts HGA.out HGB.out) h)
      have HO0 := Lib.hid (ownT_made w3)
      have HT0 := Lib.hid ((H.out.mono HB3.out).mono (below_alloc w3 (.cells #[] 36)))
      have HU0 := Lib.hid ((HK.out.mono HB3.out).mono (below_alloc w3 (.cells #[] 36)))
      have HK0 := Lib.hid (below_alloc w3 (.cells #[] 36))
      go_wp2_with (first | (at_builtin; refine wpList_append_toksAt rfl _ _ rfl w3.heap.size (.slice (some ⟨w3.heap.size, 0, none⟩) 0 0) v [] ts rfl HO0.out rfl HT0.out (by have := HN.out; simp; omega) HK0.out.size ?_; intro v9 w9 h9 hb9; have HK9 := Lib.hid (HK0.out.trans hb9); have HO9 : Hid (OwnT w3.heap.size v9 ts w9) := Lib.hid (by simpa using h9); have HU9 : Hid (ToksAt w9 u us) := Lib.hid ((HK.out.mono HB3.out).mono HK9.out); clear h9 hb9) | (at_builtin; refine wpList_append_toksAt rfl _ _ rfl w3.heap.size v9 u ts us rfl HO9.out rfl HU9.out (by have := HN.out; omega) HK9.out.size ?_; intro v10 w10 h10 hb10; have HK10 := Lib.hid (HK9.out.trans hb10); have HO10 := Lib.hid h10; clear h10 hb10))
      refine (cP.out _ _ HO10.out.at).mono ?_
      rintro e w4 ⟨v4, K4, rfl, h4, hb4⟩
      obtain ⟨W4, hW4⟩ : ∃ W4, W4 = w4.alloc (.cells #[.int .i64 0, .int .i64 0] 26) := ⟨_, rfl⟩
      have hb4' := below_step hb4 (below_alloc w4 (.cells #[.int .i64 0, .int .i64 0] 26))
      have HX4 := Lib.hid (flt_new w4 0 0)
      have eW : W4.heap.size = w4.heap.size + 1 := by rw [hW4, World.size_alloc]
      have HB4 := Lib.hid (below_step HB3.out (HK10.out.trans (hb4'.mono HK10.out.size)))
      have HR4 := Lib.hid (h4.mono (below_alloc w4 (.cells #[.int .i64 0, .int .i64 0] 26)))
      have hBK : Below w3.heap.size w3 (w4.alloc (.cells #[.int .i64 0, .int .i64 0] 26)) := HK10.out.trans (hb4'.mono HK10.out.size)
      have HV4 := Lib.hid (HV3.out.mono hBK).lt
      have HW4 := Lib.hid (HW3.out.mono hBK).lt
      rw [← hW4] at HX4 HB4 HR4 HV4 HW4
      have HO4 : Hid (OwnN W4.heap.size (fun b => b < W4.heap.size) (.slice (some ⟨w4.heap.size + 1, 0, none⟩) 0 0) [] (W4.alloc (.cells #[] 43))) := Lib.hid (by
        have h := ownN_new W4
        rw [eW] at h ⊢
        exact h)
      have HL4 := Lib.hid (below_alloc W4 (.cells #[] 43))
      have z0 := HX4.out.c0
      rw [hW4] at z0
      clear h4 hb4 hb4' hBK eW x0 y0
      go_wp2_with (first | (at_builtin; refine wpList_append_nodesAt rfl _ _ rfl W4.heap.size (fun b => b < W4.heap.size) (fun _ h => h) (.slice (some ⟨w4.heap.size + 1, 0, none⟩) 0 0) v1 [] A rfl (by rw [← hW4]; exact HO4.out) rfl (by rw [← hW4]; exact HV4.out.mono HL4.out) (by have := HS1.out; simp; omega) (by rw [← hW4]; exact HL4.out.size) ?_; intro v11 w11 h11 hb11; rw [← hW4] at hb11; have HK11 := Lib.hid (HL4.out.trans hb11); have HO11 : Hid (OwnN W4.heap.size (fun b => b < W4.heap.size) v11 A w11) := Lib.hid (by simpa using h11); have HW11 := Lib.hid (HW4.out.mono HK11.out); clear h11 hb11) | (at_builtin; refine wpList_append_nodesAt rfl _ _ rfl W4.heap.size (fun b => b < W4.heap.size) (fun _ h => h) v11 v2 A B rfl HO11.out rfl HW11.out (by have := HS1.out; omega) HK11.out.size ?_; intro v12 w12 h12 hb12; have HK12 := Lib.hid (HK11.out.trans hb12); have HO12 := Lib.hid h12; clear h12 hb12))
      refine (places_self v4 v12 (A ++ B) _ _ _ (HR4.out.mono HK12.out) HO12.out.at).mono ?_
      rintro e w13 ⟨rfl, n13, rfl⟩
      go_wp2_with fail
      go_ret
      exact ⟨rfl, below_step HB4.out (HK12.out.trans ((below_drew _ _).mono HK12.out.size))⟩
    · have hcb : (c2 == 0) = false := tk_bne0 hc2
      have hcc : (c2 != 0) = true := by simp only [bne, hcb]; rfl
      subst hc1
      clear hc2
      go_wp2_with fail
      refine (HF.out _).mono ?_
      rintro e w5 ⟨rfl, hb5⟩
      have HB5 := Lib.hid (below_step HB3.out hb5)
      clear hb5
      go_wp2_with fail
      go_ret
      exact ⟨rfl, HB5.out⟩
  · have hcb : (c1 == 0) = false := tk_bne0 hc1
    have hcc : (c1 != 0) = true := by simp only [bne, hcb]; rfl
    clear hc1
    go_wp2_with fail
    refine (HF.out _).mono ?_
    rintro e w5 ⟨rfl, hb5⟩
    have HB5 := Lib.hid (below_step HB3.out hb5)
    clear hb5
    go_wp2_with fail
    go_ret
    exact ⟨rfl, HB5.out⟩
end Go.Proofs.Ytimpadooknclkaa
