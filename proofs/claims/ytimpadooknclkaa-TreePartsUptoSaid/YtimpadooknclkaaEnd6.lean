/-
  The landed Parse: a group ends.
-/
import Derived.Test.YtimpadooknclkaaBegin6
set_option linter.unusedVariables false
set_option linter.unusedSimpArgs false
namespace Go.Proofs.Ytimpadooknclkaa
open Go.RowKit

set_option maxHeartbeats 1000000 in
set_option maxRecDepth 100000 in
theorem end_none {B Bo k : Nat} {w : World} {gb gc : Nat} {M : List MF} {nv : Value} {D : Nat → Prop} {t : Tok} {pre : List Nd} {a : Int} (h : Stk B Bo w gb gc ((nv, D) :: M) ((pre, a) :: [])) (ht : t.kind = 3) :
    Calls Try.prog 38 #[.pointer (some ⟨Bo, 0, none⟩)] w (TakePost B Bo k t pre a [] w) := by
  have hc := h.c0
  have cI := Lib.hid (inside_any Bo 0 gc _ w hc (by omega))
  have HM := Lib.hid (fun r => Tr.mch_close_none ht r pre a)
  clear h ht hc
  go_enter Try.func38, Try.ntmps38
  go_wp2_with fail
  refine cI.out.mono ?_
  rintro e w1 ⟨rfl, rfl⟩
  go_wp2
  go_ret
  exact .inl ⟨61, by decide, HM.out, rfl, Below.refl _ _⟩
theorem sizeS_close (q : List Nd) (n : Nd) (pre : List Nd) (b a : Int) (R : Tr.Frames) : Tr.sizeS (q ++ [Tr.putArg pre n]) R = Tr.sizeS pre ((q ++ [n], b) :: R) := by
  obtain ⟨c, x, args, l⟩ := n
  cases R with
  | nil => simp only [Tr.sizeS, Tr.sizeL_append, Tr.putArg, Tr.sizeL, Tr.sizeN, Tr.sizeA_append, Tr.sizeA]; omega
  | cons f R => simp only [Tr.sizeS, Tr.sizeL_append, Tr.putArg, Tr.sizeL, Tr.sizeN, Tr.sizeA_append, Tr.sizeA]; omega

set_option maxHeartbeats 2000000 in
set_option maxRecDepth 100000 in
theorem end_some {B Bo k : Nat} {w : World} {gb gc : Nat} {M : List MF} {nv pv : Value} {D Dp : Nat → Prop} {t : Tok} {pre q : List Nd} {a b : Int} {R : Tr.Frames} (h : Stk B Bo w gb gc ((nv, D) :: (pv, Dp) :: M) ((pre, a) :: (q, b) :: R)) (hI : Inv k pre ((q, b) :: R)) (hk : k ≤ 1073741824) (ht : t.kind = 3) :
    Calls Try.prog 38 #[.pointer (some ⟨Bo, 0, none⟩)] w (TakePost B Bo k t pre a ((q, b) :: R) w) := by
  have hdl : R.length + 1 ≤ 64 := hI.deep
  have hql : q.length ≤ k := by
    have h1 := Tr.len_le q
    have h2 : Tr.sizeL q ≤ Tr.sizeS q R := by
      cases R with
      | nil => exact Nat.le_refl _
      | cons f R => simp only [Tr.sizeS]; omega
    have := hI.size
    simp only [Tr.sizeS] at this
    omega
  have hcmd : Tr.lastCmd q = true := hI.cmds (q, b) (List.mem_cons_self ..)
  have hc := h.c0
  have htop := h.ctop.1
  have hc' : w.cell? ⟨Bo, 0, none⟩ = some (.slice (some ⟨gb, 0, none⟩) (R.length + 1 + 1) gc) := hc
  have htop' : w.cell? ⟨gb, (R.length + 1) * 2, none⟩ = some nv := htop
  have cI := Lib.hid (fun W (hW : W.cell? ⟨Bo, 0, none⟩ = some (.slice (some ⟨gb, 0, none⟩) (R.length + 1 + 1) gc)) => inside_any Bo (R.length + 1) gc _ W hW (by omega))
  have cT := Lib.hid (innermost_any Bo gb (R.length + 1) gc w hc' (by omega))
  have HS := Lib.hid h
  have HI := Lib.hid hI
  have HM := Lib.hid (fun r => Tr.mch_close ht r pre a q b R)
  have hlen : R.length + 1 + 1 ≤ gc := by
    rcases h.row.2 with ⟨e, _⟩ | ⟨_, _, _, e, _, _, hle, _⟩
    · cases e
    · injection e with e1 e2 e3; subst e3; exact hle
  have e1 : ((R.length + 1 : Nat) : Int) = (R.length : Int) + 1 := by omega
  obtain ⟨n, hn⟩ : ∃ n, n = R.length := ⟨_, rfl⟩
  have HN := Lib.hid hn
  rw [← hn] at cI cT hc' htop' hlen hdl
  have g1 : ((n : Int) + 1 == 0) = false := by rw [beq_eq_false_iff_ne]; omega
  have g2 : (0 : Int) ≤ (n : Int) + 1 := by omega
  have g3 : (n : Int) + 1 ≤ (gc : Int) := by omega
  have g4 : ((n : Int) + 1).toNat = n + 1 := by omega
  have f0 : w.frozen? ⟨Bo, 0, none⟩ = false := Lib.frozen_of_heap h.var 0
  have hnvs : ∃ pn ln cn, nv = .slice pn ln cn := by
    obtain ⟨⟨pn, cn, e, _⟩, _⟩ := h.frs.1.at
    exact ⟨pn, _, cn, e⟩
  obtain ⟨pn, ln, cn, rfl⟩ := hnvs
  clear h hI ht hc htop hn e1
  go_enter Try.func38, Try.ntmps38
  go_wp2_with fail
  refine (cI.out w hc').mono ?_
  rintro e w1 ⟨rfl, hw1⟩
  replace hw1 := hw1.symm
  subst hw1
  go_wp2_with fail
  refine cT.out.mono ?_
  rintro e w2 ⟨rfl, m, rfl⟩
  have ht1 := drew_cell w m ⟨gb, (n + 1) * 2, none⟩
  rw [htop'] at ht1
  have hc1 := drew_cell w m ⟨Bo, 0, none⟩
  rw [hc'] at hc1
  have cI2 := Lib.hid (fun q => cI.out (w.drewN q) hc')
  go_wp2_with fail
  go_region_law (first | (go_simp; go_at_call 21; refine (cI2.out _).mono ?_; rintro e w7 ⟨rfl, hw7⟩; replace hw7 := hw7.symm; subst hw7))
  all_goals (
    have hpop := (HS.out.mono (below_drew w (m + 1))).popped
    rw [show ((q, b) :: R : Tr.Frames).length = n + 1 by rw [HN.out]; rfl] at hpop
    obtain ⟨W2, hW2⟩ : ∃ W2, W2 = (w.drewN (m + 1)).setCell ⟨Bo, 0, none⟩ (.slice (some ⟨gb, 0, none⟩) (n + 1) gc) := ⟨_, rfl⟩
    rw [← hW2] at hpop ⊢
    have hB2 : Below B w W2 := by rw [hW2]; exact ((below_drew w (m + 1)).mono HS.out.low).setCell (p := ⟨Bo, 0, none⟩) HS.out.bo.1 _
    have HP := Lib.hid hpop
    have HB2 := Lib.hid hB2
    have cO := Lib.hid (owner_any hpop.1 (by have := HN.out; omega) (by omega))
    clear hW2 hpop hB2 ht1 hc1 f0 cI2 cI cT hc' htop'
    go_wp2_with fail
    refine cO.out.mono ?_
    rintro e w3 ⟨⟨m3, rfl⟩, hcase⟩
    rcases hcase with ⟨hl, _⟩ | ⟨init, x, args, l, p, cap, va, cs, K, Ka, rfl, rfl, hm, hv, rfl⟩
    · rw [hcmd] at hl; cases hl
    · obtain ⟨W3, hW3⟩ : ∃ W3, W3 = W2.drewN m3 := ⟨_, rfl⟩
      have hb3 : Below W2.heap.size W2 W3 := by rw [hW3]; exact below_drew W2 m3
      have hs3 : SameOn Dp W2 W3 := fun b hb => by rw [hW3]; rfl
      have hs3' : SameOn D W2 W3 := fun b hb => by rw [hW3]; rfl
      have hS3 := HP.out.1.mono hb3
      have hF3 := HP.out.2.same hs3' hb3.size
      have hm3 := hm.same hs3 hb3.size
      have hv3 := cell_below hb3 hv
      rw [← hW3]
      have hbA := below_alloc W3 (.cells #[.slice pn ln cn] 23)
      have HS4 := Lib.hid (hS3.mono hbA)
      have HF4 := Lib.hid (hF3.same (sameOn_below hbA hF3.lt) hbA.size)
      have hm4 := hm3.same (sameOn_below hbA hS3.frs.1.lt) hbA.size
      have HM4 := Lib.hid hm4
      obtain ⟨_, _, _, h3o, h4o, h5o, h6o⟩ := hm4
      obtain ⟨vs, hvr, hvc⟩ := h3o.row
      have HVC := Lib.hid hvc
      obtain ⟨csp, Tp, hp4⟩ := (HS4.out.frs.1.blk p (h6o p rfl)).2
      have hpl4 : p < (W3.alloc (.cells #[.slice pn ln cn] 23)).heap.size := lt_of_block hp4
      have hva4 : some p ≠ va.ownBlock := fun e => (h5o p (.inr e.symm)).2 rfl
      have hv4 := cell_below hbA hv3
      have HBW := Lib.hid (HB2.out.trans ((hb3.mono HP.out.1.low).trans (hbA.mono hS3.low)))
      have HVL := Lib.hid (World.ownsRow.lt hvr)
      have hlow : B ≤ (W3.alloc (.cells #[.slice pn ln cn] 23)).heap.size := HS4.out.low
      have hal : args.length ≤ k := by
        have h1 := HI.out.size
        have h2 := Tr.lenA_le args
        have h3 : Tr.sizeL (init ++ [Tr.Nd.mk true x args l]) ≤ Tr.sizeS (init ++ [Tr.Nd.mk true x args l]) R := by
          cases R with
          | nil => exact Nat.le_refl _
          | cons f R => simp only [Tr.sizeS]; omega
        rw [Tr.sizeL_append] at h3
        simp only [Tr.sizeS, Tr.sizeL, Tr.sizeN] at h1 h3
        omega
      have HJ : Hid (Inv (k + 1) (init ++ [.mk true x (args ++ [pre]) l]) R) := Lib.hid ⟨by
        have h1 := sizeS_close init (.mk true x args l) pre b a R
        have h2 := HI.out.size
        simp only [Tr.putArg] at h1
        omega, by have := HN.out; omega, fun f hf => HI.out.cmds f (List.mem_cons_of_mem _ hf)⟩
      have HX : Hid (∀ r, Tr.mch (t :: r) pre a ((init ++ [.mk true x args l], b) :: R) = Tr.mch r (init ++ [.mk true x (args ++ [pre]) l]) b R) := Lib.hid (fun r => by rw [HM.out r, Tr.addArg_snoc]; rfl)
      have HD : Hid (∀ b', D b' → ¬ Dp b' ∧ (∀ m ∈ M, ¬ m.2 b') ∧ b' ≠ Bo ∧ b' ≠ gb) := Lib.hid (fun b' hb' => by
        have h1 := List.pairwise_cons.1 HS.out.apart
        have h2 := HS.out.off _ (List.mem_cons_self ..)
        exact ⟨h1.1 _ (List.mem_cons_self ..) b' hb', fun m hm => h1.1 m (List.mem_cons_of_mem _ hm) b' hb', fun e => h2.1 (e ▸ hb'), fun e => h2.2 (e ▸ hb')⟩)
      obtain ⟨iA, hiA, hA0, hA1, hA2⟩ := info_parts infoArg
      clear hm hm3 hv h3o h4o h5o h6o hvc hS3 hF3 hs3 hs3' hb3 hbA hcmd hql hW3 HP HS
      go_wp2_with (at_builtin; refine wpList_append_lies _ rfl _ _ 41 rfl B 23 iA _ 1 24 Try.underlying41 hiA hA0 hA1 hA2 rfl (by decide) va _ vs rfl hvr ⟨W3.heap.size, 0, none⟩ 1 1 [.slice pn ln cn] rfl rfl (cell_val_new _ _ _) (fun z hz => by simp at hz; subst hz; rfl) (by omega) (by unfold maxLen; omega) (by omega) hlow _ rfl ?_; intro g9 cap9 w9 hown9 hgrow9 hat9 hlt9; have h9 : w9.heap[p]? = _ := (hgrow9.block p hpl4 hva4).trans hp4; have c9 : w9.cell? ⟨p, init.length * 4 + 2, none⟩ = some va := (World.cell?_of_block (a := ⟨p, init.length * 4 + 2, none⟩) (h9.trans hp4.symm)).trans hv4; have f9 : w9.frozen? ⟨p, init.length * 4 + 2, none⟩ = false := Lib.frozen_of_heap h9 _)
      go_ret
      refine .inr ⟨_, b, R, gb, gc, _, HX.out, HJ.out, rfl, HS4.out.put HF4.out HD.out HM4.out HVC.out hown9 hgrow9 (hat9.imp id (fun h => by rw [h]; exact Nat.le_refl _)), ?_⟩
      exact (HBW.out.grown hgrow9 hlow (fun q hq => (HVL.out q hq).1)).setCell (p := ⟨p, init.length * 4 + 2, none⟩) (HS4.out.frs.1.blk p (HM4.out.2.2.2.2.2.2 p rfl)).1 _)
end Go.Proofs.Ytimpadooknclkaa
