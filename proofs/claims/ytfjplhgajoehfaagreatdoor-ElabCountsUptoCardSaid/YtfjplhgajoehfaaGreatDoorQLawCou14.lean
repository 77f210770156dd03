/-
  ElabCounts: of a source that says something there are as many chunks, paragraphs and stanzas, lines of these, notes and labels as there are such commands.
-/
import Derived.BigQuiet
import Derived.Deep.RegionHeld3
import Derived.Test.YtfjplhgajoehfaaGreatDoorQBad14
import Derived.Test.YtfjplhgajoehfaaGreatDoorQCou14
import Derived.Test.YtfjplhgajoehfaaGreatDoorQWor14
set_option linter.unusedVariables false
set_option linter.unusedSimpArgs false
namespace Go.Proofs.YtfjplhgajoehfaaGreatDoor
open Go.RowKit
attribute [local irreducible] El.made El.visit El.finish

namespace El
def s1 (l : List Side) : Nat := (l.map (fun x => x.chunks.length)).sum
def s2 (l : List Side) : Nat := (l.map (fun x => paC x.chunks)).sum
def s3 (l : List Side) : Nat := (l.map (fun x => lnC x.chunks)).sum
def s4 (l : List Side) : Nat := (l.map (fun x => x.notes.length)).sum
theorem s1_cons (x : Side) (l : List Side) : s1 (x :: l) = x.chunks.length + s1 l := by simp [s1]
theorem s2_cons (x : Side) (l : List Side) : s2 (x :: l) = paC x.chunks + s2 l := by simp [s2]
theorem s3_cons (x : Side) (l : List Side) : s3 (x :: l) = lnC x.chunks + s3 l := by simp [s3]
theorem s4_cons (x : Side) (l : List Side) : s4 (x :: l) = x.notes.length + s4 l := by simp [s4]
theorem paC_cons (c : List Para) (l : List (List Para)) : paC (c :: l) = c.length + paC l := by simp [paC]
theorem lnC_cons (c : List Para) (l : List (List Para)) : lnC (c :: l) = lnP c + lnC l := by simp [lnC]
theorem lnP_cons (p : Para) (l : List Para) : lnP (p :: l) = (if p.verse = true then p.ends.length else 0) + lnP l := by simp [lnP]
end El
def CountsIn14 (l : List El.Nd) (w : World) (e : Ending) (w' : World) : Prop := Below w.heap.size w w' ∧ ((∃ (vs vl : Value) (s : El.St), e = .returned (.tuple #[.agg #[vs, vl], .agg #[.int .i64 0, .int .i64 0]]) ∧ SidesAt w' vs s.sides ∧ SlcAt laC 3 w' vl s.labels ∧ (El.plainL l = true → El.fitL 64 l = true → El.CountsOk 64 l s)) ∨ ∃ c a, e = .returned (.tuple #[.agg #[.slice none 0 0, .slice none 0 0], .agg #[.int .i64 c, .int .i64 a]]) ∧ c ≠ 0)
theorem doc_counts {keys : List (List UInt8)} {l : List El.Nd} {w w' : World} {e : Ending} (h : MakePost keys l w e w') : CountsIn14 l w e w' := by
  have h := h.res
  obtain ⟨R, hR⟩ : ∃ R, R = El.made keys El.deepest l := ⟨_, rfl⟩
  rw [← hR] at h
  obtain ⟨hb, h⟩ := h
  refine ⟨hb, ?_⟩
  cases R with
  | ok s =>
    obtain ⟨vs, vl, K, rfl, hS, hL, _⟩ := h
    exact .inl ⟨vs, vl, s, rfl, ⟨K, hS⟩, hL.at, fun hp hf => El.counts_made hR.symm hp hf⟩
  | bad c a => exact .inr ⟨c, a, h, El.made_coded hR.symm⟩
/-- the law's count of some names that are laid ahead of it -/
theorem count_laid (ns : List (List UInt8)) (m : Nat) (hm : ns.length = m) (hns : m ≤ 100) (cs : Array Value) (hcs : cs.toList = ns.flatMap txC) (v : Value) (l : List El.Nd) (w wx wy : World) (hsz : El.sizeL l ≤ lim14) (h : NodesAt w (fun _ => True) v l) (hb : Below w.heap.size w wx) (hy : Below (wx.alloc (.cells cs 9)).heap.size (wx.alloc (.cells cs 9)) wy) : Calls Tryz.prog 24 #[v, .slice (some ⟨wx.heap.size, 0, none⟩) m m, .int .i64 64] wy (Ret (.int .i64 ((El.cntL ns 64 l : Nat) : Int)) wy) := by
  have h1 := slc_new txC_len wx wx.heap.size rfl ns 9 (by omega) cs hcs
  rw [hm] at h1
  exact count_any ns (by omega) 64 _ v _ l _ (by omega) hsz (h.mono (below_step (below_step hb (below_alloc wx _)) hy)) (SlcAt.mono h1 hy)
set_option maxHeartbeats 8000000 in
set_option maxRecDepth 100000 in
theorem elabCounts_any (l : List El.Nd) (v tv : Value) (t : List Sg.Sig) (w : World) (hl : NodesAt w (fun _ => True) v l) (hsz : El.sizeL l ≤ lim14) (ht : SgsAt w tv t) (hE : Envs14 w) : Calls Tryz.prog 8 #[v, tv] w (Ret (.bool true) w) := by
  have HE := Lib.hid hE
  have HLn := Lib.hid hl
  have HSz := Lib.hid hsz
  have HMk := Lib.hid (landedMake_any l v tv t w hl hsz ht hE.lib hE.ser hE.err)
  obtain ⟨⟨pv, cv, rfl, _⟩, _, _⟩ := hl
  obtain ⟨⟨ptv, ctv, rfl, _⟩, _, _⟩ := ht
  clear hsz hE
  go_enter Tryz.func8, Tryz.ntmps8
  go_wp2_with fail
  refine HMk.out.mono ?_
  intro e w1 hm
  obtain ⟨hb, hres⟩ := doc_counts hm
  clear hm HMk
  rcases hres with ⟨vs, vl, s, rfl, hS, hL, hOk⟩ | ⟨c, a, rfl, hc⟩
  case inr =>
    have b2 := below_step (below_alloc w1 (.cells #[.slice none 0 0, .slice none 0 0] 29)) (below_alloc _ (.cells #[.int .i64 c, .int .i64 a] 32))
    have p1 := obj_kept (below_alloc (w1.alloc (.cells #[.slice none 0 0, .slice none 0 0] 29)) (.cells #[.int .i64 c, .int .i64 a] 32)) (obj_new w1 _ rfl #[.slice none 0 0, .slice none 0 0] 29)
    have p2 := obj_new (w1.alloc (.cells #[.slice none 0 0, .slice none 0 0] 29)) (w1.heap.size + 1) (by simp) #[.int .i64 c, .int .i64 a] 32
    obtain ⟨W, hW⟩ : ∃ W, W = (w1.alloc (.cells #[.slice none 0 0, .slice none 0 0] 29)).alloc (.cells #[.int .i64 c, .int .i64 a] 32) := ⟨_, rfl⟩
    rw [← hW] at b2 p1 p2
    have HBW := Lib.hid (below_step hb b2)
    have HP1 := Lib.hid p1
    have HP2 := Lib.hid p2
    have HFx := Lib.hid (fun wx (h : Below W.heap.size W wx) => fixed_any wx (HE.out.mono (below_step HBW.out h)))
    have hcq : (c == 0) = false := beq_eq_false_iff_ne.2 hc
    have hcn : (c != 0) = true := bne_iff_ne.2 hc
    have hci : ¬ c = 0 := hc
    clear hb b2 p1 p2 hc
    go_upto_region 2 with fail
    rw [← hW]
    clear hW
    go_wp2_with fail
    refine (HFx.out _ (Below.refl _ _)).mono ?_
    rintro e w2 ⟨rfl, hb⟩
    have HB2 := Lib.hid hb
    have q2 := mcell (obj_kept hb HP2.out) 0 rfl
    clear hb
    go_wp2_with fail
    refine (HFx.out _ HB2.out).mono ?_
    rintro e w3 ⟨rfl, hb⟩
    have HB3 := Lib.hid (below_step HB2.out hb)
    have r0 := mcell (obj_kept HB3.out HP1.out) 0 rfl
    have r1 := mcell (obj_kept HB3.out HP1.out) 1 rfl
    clear hb q2
    go_wp2
    go_ret
    exact ⟨rfl, below_step HBW.out HB3.out⟩
  obtain ⟨ps, cs, rfl, hsm⟩ := sides_head hS
  obtain ⟨⟨pl, cl, rfl, hlc⟩, hlm, _⟩ := hL
  obtain ⟨ns, hns⟩ : ∃ ns, ns = s.sides.length := ⟨_, rfl⟩
  have Hns := Lib.hid hns
  obtain ⟨nl, hnl⟩ : ∃ nl, nl = s.labels.length := ⟨_, rfl⟩
  have Hnl := Lib.hid hnl
  rw [← hnl] at hlc hlm ⊢
  rw [← hns] at hS hsm ⊢
  have HOk := Lib.hid hOk
  have hzs : ns ≤ 9223372036854775807 := by unfold maxLen at hsm; omega
  have b2 := below_step (below_alloc w1 (.cells #[.slice ps ns cs, .slice pl nl cl] 29)) (below_alloc _ (.cells #[.int .i64 0, .int .i64 0] 32))
  have p1 := obj_kept (below_alloc (w1.alloc (.cells #[.slice ps ns cs, .slice pl nl cl] 29)) (.cells #[.int .i64 0, .int .i64 0] 32)) (obj_new w1 _ rfl #[.slice ps ns cs, .slice pl nl cl] 29)
  have p2 := obj_new (w1.alloc (.cells #[.slice ps ns cs, .slice pl nl cl] 29)) (w1.heap.size + 1) (by simp) #[.int .i64 0, .int .i64 0] 32
  obtain ⟨W, hW⟩ : ∃ W, W = (w1.alloc (.cells #[.slice ps ns cs, .slice pl nl cl] 29)).alloc (.cells #[.int .i64 0, .int .i64 0] 32) := ⟨_, rfl⟩
  rw [← hW] at b2 p1 p2
  have HBW := Lib.hid (below_step hb b2)
  have HSW := Lib.hid (hS.mono b2)
  have HP1 := Lib.hid p1
  have HP2 := Lib.hid p2
  have HFx := Lib.hid (fun wx (h : Below W.heap.size W wx) => fixed_any wx (HE.out.mono (below_step HBW.out h)))
  clear hb b2 p1 p2 hS hOk hsm hns hlc hnl
  go_upto_region 2 with fail
  rw [← hW]
  clear hW
  go_wp2_with fail
  refine (HFx.out _ (Below.refl _ _)).mono ?_
  rintro e w2 ⟨rfl, hb⟩
  have HB2 := Lib.hid hb
  have q2 := mcell (obj_kept hb HP2.out) 0 rfl
  have HL2 := Lib.hid (HLn.out.mono (below_step HBW.out hb))
  have HMay := Lib.hid (may_nodes HL2.out)
  clear hb
  go_wp2_with fail
  refine HMay.out.mono ?_
  rintro e w3 ⟨bm, ⟨rfl, rfl⟩, hpf⟩
  cases bm with
  | false =>
    clear hpf q2
    go_wp2_with fail
    refine (HFx.out _ HB2.out).mono ?_
    rintro e w4 ⟨rfl, hb⟩
    have HB3 := Lib.hid (below_step HB2.out hb)
    clear hb
    go_wp2
    go_ret
    exact ⟨rfl, below_step HBW.out HB3.out⟩
  | true =>
    obtain ⟨hp1, hp2⟩ := hpf rfl
    have hall := HOk.out hp1 hp2
    have HC1 := Lib.hid (fun wx (h : Below w2.heap.size w2 wx) => count_laid El.nChunk 1 rfl (by omega) #[.string ⟨#[99, 104, 117, 110, 107]⟩] rfl _ l w2 wx (wx.alloc (.cells #[.string ⟨#[99, 104, 117, 110, 107]⟩] 9)).drew HSz.out HL2.out h (below_drew9 _))
    have HC2 := Lib.hid (fun wx (h : Below w2.heap.size w2 wx) => count_laid El.nPara 2 rfl (by omega) #[.string ⟨#[112]⟩, .string ⟨#[118, 101, 114, 115, 101]⟩] rfl _ l w2 wx (wx.alloc (.cells #[.string ⟨#[112]⟩, .string ⟨#[118, 101, 114, 115, 101]⟩] 9)) HSz.out HL2.out h (Below.refl _ _))
    have HC3 := Lib.hid (fun wx (h : Below w2.heap.size w2 wx) => count_laid El.nLine 1 rfl (by omega) #[.string ⟨#[108]⟩] rfl _ l w2 wx (wx.alloc (.cells #[.string ⟨#[108]⟩] 9)) HSz.out HL2.out h (Below.refl _ _))
    have HC5 := Lib.hid (fun wx (h : Below w2.heap.size w2 wx) => count_laid El.nLabel 1 rfl (by omega) #[.string ⟨#[108, 97, 98, 101, 108]⟩] rfl _ l w2 wx (wx.alloc (.cells #[.string ⟨#[108, 97, 98, 101, 108]⟩] 9)) HSz.out HL2.out h (Below.refl _ _))
    have HC4 : Hid (∀ wx, Below (w2.alloc (.cells #[.string ⟨#[65]⟩, .string ⟨#[66]⟩, .string ⟨#[67]⟩, .string ⟨#[68]⟩, .string ⟨#[69]⟩, .string ⟨#[102, 65]⟩, .string ⟨#[102, 66]⟩, .string ⟨#[102, 67]⟩, .string ⟨#[102, 68]⟩, .string ⟨#[102, 69]⟩, .string ⟨#[101, 110, 100]⟩] 9)).heap.size (w2.alloc (.cells #[.string ⟨#[65]⟩, .string ⟨#[66]⟩, .string ⟨#[67]⟩, .string ⟨#[68]⟩, .string ⟨#[69]⟩, .string ⟨#[102, 65]⟩, .string ⟨#[102, 66]⟩, .string ⟨#[102, 67]⟩, .string ⟨#[102, 68]⟩, .string ⟨#[102, 69]⟩, .string ⟨#[101, 110, 100]⟩] 9)) wx → Calls Tryz.prog 24 #[.slice pv l.length cv, .slice (some ⟨w2.heap.size, 0, none⟩) 11 11, .int .i64 64] wx (Ret (.int .i64 ((El.cntL El.seriesL 64 l : Nat) : Int)) wx)) := Lib.hid (fun wx h => by
      have h1 := slc_new txC_len w2 w2.heap.size rfl El.seriesL 9 (by decide) #[.string ⟨#[65]⟩, .string ⟨#[66]⟩, .string ⟨#[67]⟩, .string ⟨#[68]⟩, .string ⟨#[69]⟩, .string ⟨#[102, 65]⟩, .string ⟨#[102, 66]⟩, .string ⟨#[102, 67]⟩, .string ⟨#[102, 68]⟩, .string ⟨#[102, 69]⟩, .string ⟨#[101, 110, 100]⟩] rfl
      exact count_any El.seriesL (by decide) 64 _ _ _ l wx (by omega) HSz.out (HL2.out.mono (below_step (below_alloc w2 _) h)) (SlcAt.mono h1 h))
    obtain ⟨g1, g2, g3, g4, g5⟩ := hall
    have hS1 : El.s1 s.sides = El.cntL El.nChunk 64 l := g1
    have hS2 : El.s2 s.sides = El.cntL El.nPara 64 l := g2
    have hS3 : El.s3 s.sides = El.cntL El.nLine 64 l := g3
    have hS4 : El.s4 s.sides = El.cntL El.seriesL 64 l := g4
    rw [← hS1] at HC1
    rw [← hS2] at HC2
    rw [← hS3] at HC3
    rw [← hS4] at HC4
    rw [← g5, ← Hnl.out] at HC5
    have hlm : ∀ ns : List (List UInt8), ns.length ≤ 11 → El.cntL ns 64 l ≤ 46137344 := fun ns h => by
      have h1 := El.cntL_le ns 64 l
      have h2 : ns.length * El.sizeL l ≤ 11 * lim14 := Nat.mul_le_mul h HSz.out
      unfold lim14 at h2
      omega
    have hT1 := hlm El.nChunk (by decide)
    have hT2 := hlm El.nPara (by decide)
    have hT3 := hlm El.nLine (by decide)
    have hT4 := hlm El.seriesL (by decide)
    rw [← hS1] at hT1
    rw [← hS2] at hT2
    rw [← hS3] at hT3
    rw [← hS4] at hT4
    have H1 : Hid (0 + El.s1 (s.sides.drop 0) = El.s1 s.sides) := Lib.hid (by rw [Nat.zero_add]; rfl)
    have H2 : Hid (0 + El.s2 (s.sides.drop 0) = El.s2 s.sides) := Lib.hid (by rw [Nat.zero_add]; rfl)
    have H3 : Hid (0 + El.s3 (s.sides.drop 0) = El.s3 s.sides) := Lib.hid (by rw [Nat.zero_add]; rfl)
    have H4 : Hid (0 + El.s4 (s.sides.drop 0) = El.s4 s.sides) := Lib.hid (by rw [Nat.zero_add]; rfl)
    obtain ⟨T1, hT1e⟩ : ∃ T, T = El.s1 s.sides := ⟨_, rfl⟩
    obtain ⟨T2, hT2e⟩ : ∃ T, T = El.s2 s.sides := ⟨_, rfl⟩
    obtain ⟨T3, hT3e⟩ : ∃ T, T = El.s3 s.sides := ⟨_, rfl⟩
    obtain ⟨T4, hT4e⟩ : ∃ T, T = El.s4 s.sides := ⟨_, rfl⟩
    rw [← hT1e] at HC1 hT1 H1
    rw [← hT2e] at HC2 hT2 H2
    rw [← hT3e] at HC3 hT3 H3
    rw [← hT4e] at HC4 hT4 H4
    have HT1 := Lib.hid hT1
    have HT2 := Lib.hid hT2
    have HT3 := Lib.hid hT3
    have HT4 := Lib.hid hT4
    have HS2 := Lib.hid (HSW.out.mono HB2.out)
    have d0 := mcell (obj_kept HB2.out HP1.out) 0 rfl
    have d1 := mcell (obj_kept HB2.out HP1.out) 1 rfl
    clear hpf hp1 hp2 g1 g2 g3 g4 g5 hS1 hS2 hS3 hS4 hlm hT1 hT2 hT3 hT4 hT1e hT2e hT3e hT4e q2
    go_wp2_with fail
    go_loopw [7, 8, 9, 10, 11] (fun av bv cv dv iv wr => ∃ i : Nat, i ≤ ns ∧ iv = .int .i64 i ∧ ∃ x1 x2 x3 x4 : Nat, av = .int .i64 (x1 : Int) ∧ bv = .int .i64 (x2 : Int) ∧ cv = .int .i64 (x3 : Int) ∧ dv = .int .i64 (x4 : Int) ∧ Hid (x1 + El.s1 (s.sides.drop i) = T1) ∧ Hid (x2 + El.s2 (s.sides.drop i) = T2) ∧ Hid (x3 + El.s3 (s.sides.drop i) = T3) ∧ Hid (x4 + El.s4 (s.sides.drop i) = T4) ∧ wr = w2) (fun _ _ _ _ iv _ => ns - (intOf iv).toNat)
    case atStart => exact ⟨0, Nat.zero_le _, rfl, 0, 0, 0, 0, rfl, rfl, rfl, rfl, H1, H2, H3, H4, rfl⟩
    case round =>
      obtain ⟨i, hi, rfl, x1, x2, x3, x4, rfl, rfl, rfl, rfl, G1, G2, G3, G4, rfl⟩ := hrel
      clear H1 H2 H3 H4
      by_cases hil : i < ns
      · obtain ⟨d, hd⟩ : ∃ d, s.sides[i]? = some d := ⟨_, List.getElem?_eq_getElem (by rw [← Hns.out]; exact hil)⟩
        obtain ⟨bs, os, cps, es, pc, pw, pn, cc, cw, cn, hside⟩ := side_get HS2.out hd
        rw [← Hns.out] at es
        obtain ⟨rfl, rfl⟩ : ps = some ⟨bs, os, none⟩ ∧ cs = cps := by injection es with a1 a2 a3; exact ⟨a1, a3⟩
        obtain ⟨c0, c1, c2, hck, hnt⟩ := hside
        have hcm := chunks_lenM hck
        have hnm := notes_len hnt
        have hdr := drop_next14 hd
        have i0 : (0 : Int) ≤ (i : Int) := by omega
        have il : (i : Int) < (ns : Int) := by omega
        obtain ⟨nc, hnc⟩ : ∃ nc, nc = d.chunks.length := ⟨_, rfl⟩
        obtain ⟨nn, hnn⟩ : ∃ nn, nn = d.notes.length := ⟨_, rfl⟩
        have Hnc := Lib.hid hnc
        have HCk := Lib.hid hck
        have L1 : Hid ((x1 + nc) + El.s1 (s.sides.drop (i + 1)) = T1) := Lib.hid (by have := G1.out; rw [hdr, El.s1_cons] at this; omega)
        have L4 : Hid ((x4 + nn) + El.s4 (s.sides.drop (i + 1)) = T4) := Lib.hid (by have := G4.out; rw [hdr, El.s4_cons] at this; omega)
        have L2 : Hid (x2 + El.paC (d.chunks.drop 0) + El.s2 (s.sides.drop (i + 1)) = T2) := Lib.hid (by have := G2.out; rw [hdr, El.s2_cons] at this; rw [List.drop_zero]; omega)
        have L3 : Hid (x3 + El.lnC (d.chunks.drop 0) + El.s3 (s.sides.drop (i + 1)) = T3) := Lib.hid (by have := G3.out; rw [hdr, El.s3_cons] at this; rw [List.drop_zero]; omega)
        have b1 : x1 + nc ≤ 46137344 := by have := L1.out; have := HT1.out; omega
        have b4 : x4 + nn ≤ 46137344 := by have := L4.out; have := HT4.out; omega
        rw [← hnc] at c0 HCk
        rw [← hnn] at c2
        have b1i : (x1 : Int) + (nc : Int) ≤ 46137344 := by omega
        have b4i : (x4 : Int) + (nn : Int) ≤ 46137344 := by omega
        clear es hd hck hnt hdr hnc hnn hcm hnm G1 G2 G3 G4
        go_wp2_with fail
        go_loopw [8, 9, 12] (fun bv lv cv wx => ∃ c : Nat, c ≤ nc ∧ cv = .int .i64 c ∧ ∃ y2 y3 : Nat, bv = .int .i64 (y2 : Int) ∧ lv = .int .i64 (y3 : Int) ∧ Hid (y2 + El.paC (d.chunks.drop c) + El.s2 (s.sides.drop (i + 1)) = T2) ∧ Hid (y3 + El.lnC (d.chunks.drop c) + El.s3 (s.sides.drop (i + 1)) = T3) ∧ wx = wr) (fun _ _ cv _ => nc - (intOf cv).toNat)
        case atStart => exact ⟨0, Nat.zero_le _, rfl, x2, x3, rfl, rfl, L2, L3, rfl⟩
        case round =>
          obtain ⟨c, hc, rfl, y2, y3, rfl, rfl, G2, G3, rfl⟩ := hrel
          clear L2 L3
          by_cases hcl : c < nc
          · obtain ⟨ch, hch⟩ : ∃ ch, d.chunks[c]? = some ch := ⟨_, List.getElem?_eq_getElem (by rw [← Hnc.out]; exact hcl)⟩
            obtain ⟨bc, oc, cpc, ec, pp, cq, k0, hpar⟩ := chunk_get HCk.out hch
            rw [← Hnc.out] at ec
            obtain ⟨rfl, rfl⟩ : pc = some ⟨bc, oc, none⟩ ∧ cc = cpc := by injection ec with a1 a2 a3; exact ⟨a1, a3⟩
            have hpm := paras_lenM hpar
            have hdr := drop_next14 hch
            have j0 : (0 : Int) ≤ (c : Int) := by omega
            have jl : (c : Int) < (nc : Int) := by omega
            obtain ⟨np, hnp⟩ : ∃ np, np = ch.length := ⟨_, rfl⟩
            have Hnp := Lib.hid hnp
            have HPr := Lib.hid hpar
            have L2 : Hid ((y2 + np) + El.paC (d.chunks.drop (c + 1)) + El.s2 (s.sides.drop (i + 1)) = T2) := Lib.hid (by have := G2.out; rw [hdr, El.paC_cons] at this; omega)
            have L3 : Hid (y3 + El.lnP (ch.drop 0) + El.lnC (d.chunks.drop (c + 1)) + El.s3 (s.sides.drop (i + 1)) = T3) := Lib.hid (by have := G3.out; rw [hdr, El.lnC_cons] at this; rw [List.drop_zero]; omega)
            have b2 : x2 ≤ x2 := Nat.le_refl _
            have b2i : (y2 : Int) + (np : Int) ≤ 46137344 := by have := L2.out; have := HT2.out; omega
            rw [← hnp] at k0 HPr
            clear ec hch hpar hdr hnp hpm G2 G3 b2
            go_wp2_with fail
            go_loopw [9, 13] (fun lv pv wy => ∃ p : Nat, p ≤ np ∧ pv = .int .i64 p ∧ ∃ z3 : Nat, lv = .int .i64 (z3 : Int) ∧ Hid (z3 + El.lnP (ch.drop p) + El.lnC (d.chunks.drop (c + 1)) + El.s3 (s.sides.drop (i + 1)) = T3) ∧ wy = wr) (fun _ pv _ => np - (intOf pv).toNat)
            case atStart => exact ⟨0, Nat.zero_le _, rfl, y3, rfl, L3, rfl⟩
            case round =>
              obtain ⟨p, hp, rfl, z3, rfl, G3, rfl⟩ := hrel
              clear L3
              by_cases hpl : p < np
              · obtain ⟨pr, hpr⟩ : ∃ pr, ch[p]? = some pr := ⟨_, List.getElem?_eq_getElem (by rw [← Hnp.out]; exact hpl)⟩
                obtain ⟨bp, op, cpp, ep, pe, ce, hcell⟩ := para_get HPr.out hpr
                rw [← Hnp.out] at ep
                obtain ⟨rfl, rfl⟩ : pp = some ⟨bp, op, none⟩ ∧ cq = cpp := by injection ep with a1 a2 a3; exact ⟨a1, a3⟩
                have hdr := drop_next14 hpr
                obtain ⟨m0, m1, m2, m3, hen⟩ := hcell
                have hem := hen.2.1
                have p0 : (0 : Int) ≤ (p : Int) := by omega
                have plt : (p : Int) < (np : Int) := by omega
                obtain ⟨ne, hne⟩ : ∃ ne, ne = pr.ends.length := ⟨_, rfl⟩
                obtain ⟨vz, hvz⟩ : ∃ vz, vz = pr.verse := ⟨_, rfl⟩
                rw [← hne] at m3
                rw [← hvz] at m0
                cases vz with
                | true =>
                  have L3 : Hid ((z3 + ne) + El.lnP (ch.drop (p + 1)) + El.lnC (d.chunks.drop (c + 1)) + El.s3 (s.sides.drop (i + 1)) = T3) := Lib.hid (by have := G3.out; rw [hdr, El.lnP_cons, if_pos hvz.symm] at this; omega)
                  have b3i : (z3 : Int) + (ne : Int) ≤ 46137344 := by have := L3.out; have := HT3.out; omega
                  clear ep hpr hdr hen hem hne hvz G3
                  go_wp2_with fail
                  go_roundw
                  case rel => exact ⟨p + 1, by omega, by go_num, z3 + ne, by go_num, L3, trivial⟩
                  case measure => simp [intOf]; omega
                | false =>
                  have L3 : Hid (z3 + El.lnP (ch.drop (p + 1)) + El.lnC (d.chunks.drop (c + 1)) + El.s3 (s.sides.drop (i + 1)) = T3) := Lib.hid (by have := G3.out; rw [hdr, El.lnP_cons, if_neg (by rw [← hvz]; decide)] at this; omega)
                  clear ep hpr hdr hen hem hne hvz G3
                  go_wp2_with fail
                  go_roundw
                  case rel => exact ⟨p + 1, by omega, by go_num, z3, rfl, L3, trivial⟩
                  case measure => simp [intOf]; omega
              · have L3 : Hid (z3 + El.lnC (d.chunks.drop (c + 1)) + El.s3 (s.sides.drop (i + 1)) = T3) := Lib.hid (by
                  have h0 := G3.out
                  rw [show List.drop p ch = [] from List.drop_eq_nil_of_le (by rw [← Hnp.out]; omega)] at h0
                  have e : El.lnP [] = 0 := rfl
                  omega)
                go_wp2_with fail
                go_roundw
                case rel => exact ⟨c + 1, by omega, by go_num, y2 + np, z3, by go_num, rfl, L2, L3, trivial⟩
                case measure => simp [intOf]; omega
          · have M2 : Hid (y2 + El.s2 (s.sides.drop (i + 1)) = T2) := Lib.hid (by
              have h0 := G2.out
              rw [show List.drop c d.chunks = [] from List.drop_eq_nil_of_le (by rw [← Hnc.out]; omega)] at h0
              have e : El.paC [] = 0 := rfl
              omega)
            have M3 : Hid (y3 + El.s3 (s.sides.drop (i + 1)) = T3) := Lib.hid (by
              have h0 := G3.out
              rw [show List.drop c d.chunks = [] from List.drop_eq_nil_of_le (by rw [← Hnc.out]; omega)] at h0
              have e : El.lnC [] = 0 := rfl
              omega)
            go_wp2_with fail
            go_roundw
            case rel => exact ⟨i + 1, by omega, by go_num, x1 + nc, y2, y3, x4 + nn, by go_num, rfl, rfl, by go_num, L1, M2, M3, L4, trivial⟩
            case measure => simp [intOf]; omega
      · have hnil : List.drop i s.sides = [] := List.drop_eq_nil_of_le (by rw [← Hns.out]; omega)
        have e1 : x1 = T1 := by have h0 := G1.out; rw [hnil] at h0; have e : El.s1 [] = 0 := rfl; omega
        have e2 : x2 = T2 := by have h0 := G2.out; rw [hnil] at h0; have e : El.s2 [] = 0 := rfl; omega
        have e3 : x3 = T3 := by have h0 := G3.out; rw [hnil] at h0; have e : El.s3 [] = 0 := rfl; omega
        have e4 : x4 = T4 := by have h0 := G4.out; rw [hnil] at h0; have e : El.s4 [] = 0 := rfl; omega
        subst e1 e2 e3 e4
        clear hnil G1 G2 G3 G4
        obtain ⟨W3, hW3⟩ : ∃ W, W = wr.alloc (.cells #[.string ⟨#[65]⟩, .string ⟨#[66]⟩, .string ⟨#[67]⟩, .string ⟨#[68]⟩, .string ⟨#[69]⟩, .string ⟨#[102, 65]⟩, .string ⟨#[102, 66]⟩, .string ⟨#[102, 67]⟩, .string ⟨#[102, 68]⟩, .string ⟨#[102, 69]⟩, .string ⟨#[101, 110, 100]⟩] 9) := ⟨_, rfl⟩
        have hb3 := below_alloc wr (.cells #[.string ⟨#[65]⟩, .string ⟨#[66]⟩, .string ⟨#[67]⟩, .string ⟨#[68]⟩, .string ⟨#[69]⟩, .string ⟨#[102, 65]⟩, .string ⟨#[102, 66]⟩, .string ⟨#[102, 67]⟩, .string ⟨#[102, 68]⟩, .string ⟨#[102, 69]⟩, .string ⟨#[101, 110, 100]⟩] 9)
        rw [← hW3] at hb3 HC4
        have HB3 := Lib.hid hb3
        have HD := Lib.hid (fun (W : World) (h : Below W3.heap.size W3 W) => cell_below h (cell_below hb3 d1))
        clear hb3
        go_upto_region 20 with fail
        rw [← hW3]
        clear hW3 d0 d1
        go_region_held3 (fun w' => w'.cell? ⟨w1.heap.size, 1, none⟩ = some (.slice pl nl cl)) (first | (exact HD.out _ HE9.out) | (exact HD.out _ (below_step HE9.out (below_alloc _ _))) | (exact HD.out _ HE8.out) | (exact HD.out _ (below_step HE8.out (below_alloc _ _))) | (exact HD.out _ HE7.out) | (exact HD.out _ (below_step HE7.out (below_alloc _ _))) | (exact HD.out _ HE6.out) | (exact HD.out _ (below_step HE6.out (below_alloc _ _))) | (exact HD.out _ HE5.out) | (exact HD.out _ (below_step HE5.out (below_alloc _ _))) | (exact HD.out _ (below_step (below_alloc W3 _) (below_drew9 _))) | (exact HD.out _ (below_drew9 W3)) | (exact HD.out _ (below_alloc W3 _)) | (exact HD.out _ (Below.refl _ _)) | go_keep) (first | ((with_reducible refine (HC5.out _ (below_step HB3.out HE8.out)).mono ?_); rintro e v9 ⟨rfl, hb9⟩; have HE9 := Lib.hid (below_step (below_step HE8.out (below_alloc _ _)) hb9); clear hb9) | ((with_reducible refine (HC4.out _ HE7.out).mono ?_); rintro e v8 ⟨rfl, hb8⟩; have HE8 := Lib.hid (below_step HE7.out hb8); clear hb8) | ((with_reducible refine (HC3.out _ (below_step HB3.out HE6.out)).mono ?_); rintro e v7 ⟨rfl, hb7⟩; have HE7 := Lib.hid (below_step (below_step HE6.out (below_alloc _ _)) hb7); clear hb7) | ((with_reducible refine (HC2.out _ (below_step HB3.out HE5.out)).mono ?_); rintro e v6 ⟨rfl, hb6⟩; have HE6 := Lib.hid (below_step (below_step HE5.out (below_alloc _ _)) hb6); clear hb6) | ((with_reducible refine (HC1.out _ HB3.out).mono ?_); rintro e v5 ⟨rfl, hb5⟩; have HE5 := Lib.hid (below_step (below_step (below_alloc W3 _) (below_drew9 _)) hb5); clear hb5))
        go_wp2_with fail
        go_ret
        exact ⟨rfl, below_step HBW.out (below_step HB2.out (below_step HB3.out HE9.out))⟩
end Go.Proofs.YtfjplhgajoehfaaGreatDoor
