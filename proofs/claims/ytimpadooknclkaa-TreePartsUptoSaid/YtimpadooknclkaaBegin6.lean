/-
  The landed Parse: a group begins.
-/
import Derived.Test.YtimpadooknclkaaGroups6
import Derived.Test.YtimpadooknclkaaRefNodes6
set_option linter.unusedVariables false
set_option linter.unusedSimpArgs false
namespace Go.Proofs.Ytimpadooknclkaa
open Go.RowKit

theorem infoGrp : (Try.prog.info? 47).map (fun i => (i.zero, i.size, i.bytes)) = some (some (.agg #[.slice none 0 0, .int .i64 0]), 2, 32) := by kernel_rfl
/-- what is true of the groups that are open, whatever the tokens ahead -/
structure Inv (k : Nat) (pre : List Nd) (R : Tr.Frames) : Prop where
  size : Tr.sizeS pre R ≤ k
  deep : R.length ≤ 64
  cmds : ∀ f ∈ R, Tr.lastCmd f.1 = true
theorem Inv.len {k : Nat} {pre : List Nd} {R : Tr.Frames} (h : Inv k pre R) : pre.length ≤ k := by
  have h1 := Tr.len_le pre
  have h2 : Tr.sizeL pre ≤ Tr.sizeS pre R := by
    cases R with
    | nil => exact Nat.le_refl _
    | cons f R => simp only [Tr.sizeS]; omega
  have := h.size
  omega
def TakePost (B Bo k : Nat) (t : Tok) (pre : List Nd) (a : Int) (R : Tr.Frames) (w : World) (e : Ending) (w' : World) : Prop :=
  (∃ c : Int, c ≠ 0 ∧ (∀ r, Tr.mch (t :: r) pre a R = .bad c t.loc) ∧ e = .returned (.int .i64 c) ∧ Below w.heap.size w w') ∨
  (∃ pre' a' R' gb' gc' M', (∀ r, Tr.mch (t :: r) pre a R = Tr.mch r pre' a' R') ∧ Inv (k + 1) pre' R' ∧ e = .returned (.int .i64 0) ∧ Stk B Bo w' gb' gc' M' ((pre', a') :: R') ∧ Below B w w')
theorem cell_grp_new (w : World) (a : Int) (T : TypeId) : ∀ j u, [.slice none 0 0, .int .i64 a][j]? = some u → (w.alloc (.cells #[.slice none 0 0, .int .i64 a] T)).cell? ((⟨w.heap.size, 0, none⟩ : Addr).add j) = some u := by
  intro j u hj
  rw [add_none]
  match j, hj with
  | 0, hj => simp at hj; subst hj; simp
  | 1, hj => simp at hj; subst hj; simp
  | j + 2, hj => simp at hj
theorem Stk.low {B Bo : Nat} {w : World} {gb gc : Nat} {M : List MF} {S : Tr.Frames} (h : Stk B Bo w gb gc M S) : B ≤ w.heap.size := by
  have := h.var_lt
  have := h.bo.1
  omega

set_option maxHeartbeats 2000000 in
set_option maxRecDepth 100000 in
theorem begin_any {B Bo k : Nat} {w : World} {gb gc : Nat} {M : List MF} {nv : Value} {D : Nat → Prop} {t : Tok} {pre : List Nd} {a : Int} {R : Tr.Frames} (h : Stk B Bo w gb gc ((nv, D) :: M) ((pre, a) :: R)) (hI : Inv k pre R) (hk : k ≤ 1073741824) (ht : t.kind = 2) :
    Calls Try.prog 37 #[.pointer (some ⟨Bo, 0, none⟩), .int .i64 t.loc] w (TakePost B Bo k t pre a R w) := by
  have hpl := hI.len
  have hdl := hI.deep
  have cO := Lib.hid (owner_any h (by omega) (by omega))
  obtain ⟨loc, hloc⟩ : ∃ loc, loc = t.loc := ⟨_, rfl⟩
  have HM := Lib.hid (fun r => Tr.mch_open ht r pre a R)
  rw [← hloc] at HM ⊢
  have HS := Lib.hid h
  have HI := Lib.hid hI
  clear h hI ht
  go_enter Try.func37, Try.ntmps37
  go_wp2_with fail
  refine cO.out.mono ?_
  rintro e w1 ⟨⟨m, rfl⟩, hcase⟩
  rcases hcase with ⟨hl, rfl⟩ | ⟨init, x, args, l, p, cap, va, cs, K, Ka, rfl, rfl, hm, hv, rfl⟩
  · have HX : Hid (∀ r, Tr.mch (t :: r) pre a R = .bad 60 t.loc) := Lib.hid (fun r => by rw [HM.out r, if_pos hl, hloc])
    clear hl hpl hloc
    go_wp2
    go_ret
    exact .inl ⟨60, by decide, HX.out, rfl, below_drew _ _⟩
  · have hl : ¬ Tr.lastCmd (init ++ [.mk true x args l]) = false := by rw [Tr.lastCmd_snoc]; simp [Tr.isCmd]
    have hc := HS.out.c0
    have hc' : (w.drewN m).cell? ⟨Bo, 0, none⟩ = some (.slice (some ⟨gb, 0, none⟩) (R.length + 1) gc) := hc
    have cI := Lib.hid (inside_any Bo R.length gc _ (w.drewN m) hc' (by omega))
    obtain ⟨n, hn⟩ : ∃ n, n = R.length := ⟨_, rfl⟩
    by_cases h64 : 64 ≤ n
    · have HX : Hid (∀ r, Tr.mch (t :: r) (init ++ [.mk true x args l]) a R = .bad 63 t.loc) := Lib.hid (fun r => by rw [HM.out r, if_neg hl, if_pos (by omega), hloc])
      rw [← hn] at cI
      have g1 : (64 : Int) ≤ (n : Int) := by omega
      clear hl hpl hloc hn hm hv hc hc' h64 hdl
      go_wp2_with fail
      refine cI.out.mono ?_
      rintro e w1 ⟨rfl, rfl⟩
      go_wp2
      go_ret
      exact .inl ⟨63, by decide, HX.out, rfl, below_drew _ _⟩
    · have HX : Hid (∀ r, Tr.mch (t :: r) (init ++ [.mk true x args l]) a R = Tr.mch r [] loc ((init ++ [.mk true x args l], a) :: R)) := Lib.hid (fun r => by rw [HM.out r, if_neg hl, if_neg (by omega)])
      have HJ : Hid (Inv (k + 1) [] ((init ++ [.mk true x args l], a) :: R)) := Lib.hid ⟨by have := HI.out.size; simp only [Tr.sizeS, Tr.sizeL]; omega, by simp; omega, fun f hf => by
        rcases List.mem_cons.1 hf with rfl | hf
        · rw [Tr.lastCmd_snoc]; rfl
        · exact HI.out.cmds f hf⟩
      have hS := HS.out.mono (below_drew w m)
      have HD := Lib.hid hS
      have hrow := World.ownsRow.alloc hS.row (.cells #[.slice none 0 0, .int .i64 loc] 47)
      have hlow : B ≤ (w.drewN m).heap.size := hS.low
      have hvar := hS.var
      have hbo := hS.bo
      have hvl := hS.var_lt
      obtain ⟨iG, hiG, hG0, hG1, hG2⟩ := info_parts infoGrp
      rw [← hn] at cI
      have g1 : ¬ (64 : Int) ≤ (n : Int) := by omega
      have hc2 : ((w.drewN m).alloc (.cells #[.slice none 0 0, .int .i64 loc] 47)).cell? ⟨Bo, 0, none⟩ = some (.slice (some ⟨gb, 0, none⟩) (R.length + 1) gc) := cell_below (below_alloc _ _) hc'
      clear hl hpl hloc hm hv h64 hS hc
      go_wp2_with fail
      refine cI.out.mono ?_
      rintro e w1 ⟨rfl, rfl⟩
      clear hn cI
      go_wp2_with (at_builtin; go_loud (refine wpList_append_lies _ rfl _ _ 49 rfl B 47 iG _ 2 32 Try.underlying49 hiG hG0 hG1 hG2 rfl (by decide) _ _ _ rfl hrow ⟨(w.drewN m).heap.size, 0, none⟩ 1 1 [.slice none 0 0, .int .i64 loc] rfl rfl (cell_grp_new _ _ _) (fun z hz => by simp at hz; rcases hz with rfl | rfl <;> rfl) (by omega) (by unfold maxLen; simp <;> omega) (by simp <;> omega) (Nat.le_trans hlow (by simp)) _ rfl ?_; intro g9 cap9 w9 hown9 hgrow9 hat9 hlt9; have h9 : w9.heap[Bo]? = _ := (hgrow9.block Bo (Nat.lt_of_lt_of_le hvl (by simp)) (fun e => hbo.2 (Option.some.inj e))).trans ((Lib.alloc_old _ _ Bo hvl).trans hvar); have c9 : w9.cell? ⟨Bo, 0, none⟩ = some (.slice (some ⟨gb, 0, none⟩) (R.length + 1) gc) := (by rw [Lib.cell_of_heap h9] <;> rfl); have f9 : w9.frozen? ⟨Bo, 0, none⟩ = false := Lib.frozen_of_heap h9 0))
      go_ret
      refine .inr ⟨[], loc, _, g9, cap9, _, HX.out, HJ.out, rfl, (HD.out.mono (below_alloc _ _)).opened hown9 hgrow9 (hat9.imp id (fun h => by rw [h]; exact Nat.le_refl _)), ?_⟩
      have hB1 : Below B w ((w.drewN m).alloc (.cells #[.slice none 0 0, .int .i64 loc] 47)) := ((below_drew w m).mono hlow).alloc (by exact hlow) _
      exact (hB1.grown hgrow9 (Nat.le_trans hlow (by simp)) (fun q hq => by have e := Option.some.inj hq; subst e; exact HD.out.row_lt.1)).setCell (p := ⟨Bo, 0, none⟩) hbo.1 _
end Go.Proofs.Ytimpadooknclkaa
