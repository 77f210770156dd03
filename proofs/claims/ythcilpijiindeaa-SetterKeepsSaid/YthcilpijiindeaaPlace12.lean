/-
  The landed place: what stands where in a line, item by item.
-/
import Derived.Test.YthcilpijiindeaaMem12
import Derived.Test.YthcilpijiindeaaSeK12
import Derived.Test.YthcilpijiindeaaCut10
set_option linter.unusedVariables false
set_option linter.unusedSimpArgs false
namespace Go.Proofs.Ythcilpijiindeaa
open Go.RowKit

theorem slc_off {α : Type} {f : α → List Value} {k : Nat} {w w' : World} {b o n c P : Nat} {l : List α} (h : SlcAt f k w (.slice (some ⟨b, o, none⟩) n c) l) (hg : w.grownBy w' (some P)) (hne : b ≠ P) : SlcAt f k w' (.slice (some ⟨b, o, none⟩) n c) l := by
  obtain ⟨h1, h2, h3⟩ := h
  refine ⟨h1, h2, fun hp => ?_⟩
  obtain ⟨b', o', c', e, hx⟩ := h3 hp
  refine ⟨b', o', c', e, fun i x hi j u hj => ?_⟩
  injection e with e1
  injection e1 with e1
  injection e1 with e1
  subst e1
  exact hg.cell (hx i x hi j u hj) (fun e => by simp at e; exact hne e)
theorem grown_drew12 {w w' : World} {row : Option Nat} (h : w.grownBy w' row) : w.grownBy w'.drew row := ⟨h.os, h.tape, h.output, h.size, h.block⟩
theorem grown_below12 {w w' w'' : World} {row : Option Nat} (h : w.grownBy w' row) (hb : Below w'.heap.size w' w'') : w.grownBy w'' row :=
  ⟨hb.os.trans h.os, hb.tape.trans h.tape, hb.output.trans h.output, Nat.le_trans h.size hb.size, fun i hi hne => (hb.block i (by have := h.size; omega)).trans (h.block i hi hne)⟩
theorem grown_app12 {w w' w'' : World} {row : Option Nat} {B : Nat} {v : Value} {e : TypeId} {s n : Nat} {xs : List Value} (h : w.grownBy w' row) (hg : w'.grownBy w'' v.ownBlock) (hown : w'.ownsRow B e s v n xs) (hB : w.heap.size ≤ B) : w.grownBy w'' row :=
  h.andThen hg (fun j hj => .inl (by have := (World.ownsRow.lt hown j hj).1; omega))
theorem grown_set12 {w w' : World} {P i : Nat} {y : Value} (h : w.grownBy w' (some P)) : w.grownBy (w'.setCell ⟨P, i, none⟩ y) (some P) := by
  have hb : Below 0 w' (w'.setCell ⟨P, i, none⟩ y) := (Below.refl 0 w').setCell (p := ⟨P, i, none⟩) (Nat.zero_le _) y
  exact ⟨hb.os.trans h.os, hb.tape.trans h.tape, hb.output.trans h.output, Nat.le_trans h.size hb.size, fun j hj hne => (Below.heap_setCell w' ⟨P, i, none⟩ y j (fun e => hne (by rw [e]))).trans (h.block j hj hne)⟩
theorem own_setP {w : World} {B P i : Nat} {v y : Value} {l : List It.Plc} {cs : Array Value} {fr : Nat × Nat} (h : OwnP B v l w) (hP : w.heap[P]? = some (.cells cs 44 fr)) : OwnP B v l (w.setCell ⟨P, i, none⟩ y) := by
  refine OwnR.grown h (row := some P) (grown_set12 (World.grownBy.refl w _)) ?_
  exact .inr fun e => own_off9 h hP (by decide) e.symm
theorem gluey_take {l : List It.Itm} (ws : List Int) : ∀ (s : Nat × List It.Plc × Int), (l.foldl (It.stp ws) s).1 = s.1 + (l.filter It.gluey).length := by
  induction l with
  | nil => intro s; simp
  | cons i r ih =>
    intro s
    rw [List.foldl_cons, ih, List.filter_cons]
    unfold It.stp
    by_cases h : It.gluey i = true
    · rw [if_pos h, if_pos h, List.length_cons]; simp only []; omega
    · rw [if_neg h, if_neg h]
theorem lay_cnt {l : List It.Itm} {ws : List Int} {k : Nat} {x : It.Itm} (hx : l[k]? = some x) (hg : It.gluey x = true) (h : (l.filter It.gluey).length ≤ ws.length) : (It.lay ws (l.take k)).1 < ws.length := by
  have h1 : (It.lay ws (l.take k)).1 = ((l.take k).filter It.gluey).length := by unfold It.lay; rw [gluey_take]; simp
  have h2 : (l.filter It.gluey).length = ((l.take k).filter It.gluey).length + ((l.drop k).filter It.gluey).length := by
    conv => lhs; rw [← List.take_append_drop k l, List.filter_append, List.length_append]
  rw [It.drop_at hx, List.filter_cons, if_pos hg, List.length_cons] at h2
  omega
theorem lay_le {l : List It.Itm} {ws : List Int} {k : Nat} (hk : k ≤ l.length) : (It.lay ws (l.take k)).1 ≤ k ∧ (It.lay ws (l.take k)).2.1.length ≤ k := by
  have h1 : (It.lay ws (l.take k)).1 = ((l.take k).filter It.gluey).length := by unfold It.lay; rw [gluey_take]; simp
  have h2 : ((l.take k).filter It.gluey).length ≤ (l.take k).length := List.length_filter_le ..
  have h3 := It.lay_keys ws (l.take k) (0, [], 0)
  have h4 : (It.lay ws (l.take k)).2.1.length = (It.boxes (l.take k)).length := by
    have := congrArg List.length h3
    simpa [It.lay] using this
  have h5 : (It.boxes (l.take k)).length ≤ (l.take k).length := List.length_filter_le ..
  rw [List.length_take] at h2 h5
  omega
def lineC (fr en : Int) (u : Value) (hy : Bool) (x bad : Int) : Array Value := #[.int .i64 fr, .int .i64 en, u, .bool hy, .int .i64 x, .int .i64 bad]
/-- the line's record and its boxes, in the middle of it -/
def PlaceW (P : Nat) (fr en bad : Int) (hy : Bool) (B : Nat) (bs : List It.Plc) (x : Int) (w : World) : Prop :=
  ∃ a n c, w.heap[P]? = some (.cells (lineC fr en (.slice a n c) hy x bad) 44 (0, 0)) ∧ OwnP B (.slice a n c) bs w
set_option maxHeartbeats 8000000 in
set_option maxRecDepth 100000 in
theorem place_any (P : Nat) (fr en bad : Int) (hy : Bool) (v u : Value) (its : List It.Itm) (ws : List Int) (w : World) (hP : w.heap[P]? = some (.cells (lineC fr en (.slice none 0 0) hy 0 bad) 44 (0, 0)))
    (hI : ∀ wx, w.grownBy wx (some P) → ItsAt wx v its) (hW : ∀ wx, w.grownBy wx (some P) → LensAt wx u ws) (hn : its.length ≤ 2000) (hc : (its.filter It.gluey).length ≤ ws.length) :
    Calls Try.prog 32 #[.pointer (some ⟨P, 0, none⟩), v, u] w fun e w' => e = .returned (.tuple #[]) ∧ PlaceW P fr en bad hy w.heap.size (It.lay ws its).2.1 (It.lay ws its).2.2 w' ∧ w.grownBy w' (some P) := by
  have HI := Lib.hid hI
  have HWs := Lib.hid hW
  have hI0 := hI w (World.grownBy.refl w _)
  have hW0 := hW w (World.grownBy.refl w _)
  obtain ⟨⟨p, cp, rfl, hcap⟩, hm, _⟩ := hI0
  obtain ⟨⟨pw, cw, rfl, hcapw⟩, hmw, _⟩ := hW0
  obtain ⟨n, hnn⟩ : ∃ n, n = its.length := ⟨_, rfl⟩
  obtain ⟨nw, hnw⟩ : ∃ nw, nw = ws.length := ⟨_, rfl⟩
  have Hn := Lib.hid hnn
  have Hnw := Lib.hid hnw
  have HC := Lib.hid hc
  have hzw : nw ≤ 9223372036854775807 := by rw [hnw]; unfold maxLen at hmw; omega
  rw [← hnn] at HI hn ⊢
  rw [← hnw] at HWs ⊢
  have HN := Lib.hid hn
  have H0 : Hid (PlaceW P fr en bad hy w.heap.size (It.lay ws (its.take 0)).2.1 (It.lay ws (its.take 0)).2.2 w) := Lib.hid ⟨none, 0, 0, hP, ownR_nil _ _ _ _ _⟩
  have HG0 := Lib.hid (World.grownBy.refl w (some P))
  have hPl := lt_of_obj hP
  clear hI hW hcap hm hcapw hmw hnn hnw hc hP
  go_enter Try.func32, Try.ntmps32
  go_wp2_with fail
  go_loopw [6, 11] (fun nv kv wr => ∃ k : Nat, k ≤ n ∧ kv = .int .i64 k ∧ nv = .int .i64 ((It.lay ws (its.take k)).1 : Nat) ∧ Hid (PlaceW P fr en bad hy w.heap.size (It.lay ws (its.take k)).2.1 (It.lay ws (its.take k)).2.2 wr) ∧ Hid (w.grownBy wr (some P))) (fun _ kv _ => n - (intOf kv).toNat)
  case atStart => exact ⟨0, Nat.zero_le _, rfl, rfl, H0, HG0⟩
  case round =>
    obtain ⟨k, hk, rfl, rfl, HR, HG⟩ := hrel
    clear H0 HG0
    by_cases hlt : k < n
    · obtain ⟨b1, o1, d1, e1, r1⟩ := (HI.out _ HG.out).2.2 (by rw [← Hn.out]; omega)
      obtain ⟨rfl, rfl⟩ : p = some ⟨b1, o1, none⟩ ∧ cp = d1 := by injection e1 with a1 a2 a3; exact ⟨a1, a3⟩
      obtain ⟨x, hx⟩ : ∃ x, its[k]? = some x := ⟨_, List.getElem?_eq_getElem (by rw [← Hn.out]; exact hlt)⟩
      obtain ⟨y0, y1, y2, y3, y4, y5, y6, y7, y8⟩ := it_cells (r1 k x hx)
      have k0 : (0 : Int) ≤ (k : Int) := by omega
      have kl : (k : Int) < (n : Int) := by omega
      have HX := Lib.hid hx
      have HS := Lib.hid (It.lay_snoc ws hx)
      have HCn := Lib.hid (fun hg => lay_cnt (ws := ws) hx hg HC.out)
      have HLe := Lib.hid (lay_le (ws := ws) (l := its) (k := k) (by rw [← Hn.out]; omega))
      obtain ⟨st0, hst⟩ : ∃ s, s = It.lay ws (its.take k) := ⟨_, rfl⟩
      rw [← hst] at HS HCn HLe HR ⊢
      obtain ⟨m, bs, X⟩ := st0
      simp only [] at HCn HLe HR ⊢
      clear hst r1 e1 hx
      obtain ⟨a, nb, cb, hp0, ho0⟩ := HR.out
      have HW1 := Lib.hid (below_alloc wr (.cells #[.int .i64 x.k, .int .i64 x.g.w, .int .i64 x.g.st, .int .i64 x.g.sk, .int .i64 x.g.o, .int .i64 x.p, .bool x.f, .int .i64 x.n, .int .i64 x.q] 40))
      have HQ1 := Lib.hid (obj_new wr _ rfl #[.int .i64 x.k, .int .i64 x.g.w, .int .i64 x.g.st, .int .i64 x.g.sk, .int .i64 x.g.o, .int .i64 x.p, .bool x.f, .int .i64 x.n, .int .i64 x.q] 40)
      obtain ⟨W1, hW1⟩ : ∃ W1, W1 = wr.alloc (.cells #[.int .i64 x.k, .int .i64 x.g.w, .int .i64 x.g.st, .int .i64 x.g.sk, .int .i64 x.g.o, .int .i64 x.p, .bool x.f, .int .i64 x.n, .int .i64 x.q] 40) := ⟨_, rfl⟩
      rw [← hW1] at HW1 HQ1
      have HP1 := Lib.hid (obj_kept HW1.out hp0)
      have HO1 := Lib.hid (OwnR.mono ho0 HW1.out)
      have HG1 := Lib.hid (grown_below12 HG.out HW1.out)
      obtain ⟨Q, hQ⟩ : ∃ Q, Q = wr.heap.size := ⟨_, rfl⟩
      rw [← hQ] at HQ1
      have hQP : P ≠ Q := by have := lt_of_obj hp0; omega
      clear HR hp0 ho0
      have q0 : W1.cell? ⟨Q, 0, none⟩ = some (.int .i64 x.k) := Lib.cell_of_heap HQ1.out 0
      go_upto_region 4 with fail
      rw [← hW1, ← hQ]
      clear hW1 hQ y0 y1 y2 y3 y4 y5 y6 y7 y8
      by_cases h0 : x.k = 0
      · have hg : It.gluey x = true := by unfold It.gluey; rw [decide_eq_true h0]; rfl
        have HE : Hid (It.lay ws (its.take (k + 1)) = (m + 1, bs ++ [⟨x.n, x.q, X, x.g.w⟩], It.wr (X + ws.getD m 0))) := Lib.hid (by rw [HS.out]; unfold It.stp; rw [if_pos hg, if_pos h0])
        have hm := HCn.out hg
        rw [h0] at q0
        have q1 : W1.cell? ⟨Q, 1, none⟩ = some (.int .i64 x.g.w) := Lib.cell_of_heap HQ1.out 1
        have q4 : W1.cell? ⟨Q, 7, none⟩ = some (.int .i64 x.n) := Lib.cell_of_heap HQ1.out 7
        have q5 : W1.cell? ⟨Q, 8, none⟩ = some (.int .i64 x.q) := Lib.cell_of_heap HQ1.out 8
        have c2 : W1.cell? ⟨P, 2, none⟩ = some (.slice a nb cb) := Lib.cell_of_heap HP1.out 2
        have c4 : W1.cell? ⟨P, 4, none⟩ = some (.int .i64 X) := Lib.cell_of_heap HP1.out 4
        have hnb : bs.length = nb := by
          obtain ⟨⟨_, _, e, _⟩, _⟩ := OwnR.at HO1.out pcC_len
          injection e with _ e _
          exact e.symm
        subst hnb
        have HE1 := Lib.hid (below_step (below_alloc W1 (.cells #[.int .i64 x.n, .int .i64 x.q, .int .i64 X, .int .i64 x.g.w] 42)) (below_drew10w _))
        have HNw : Hid (∀ j u, [.int .i64 x.n, .int .i64 x.q, .int .i64 X, .int .i64 x.g.w][j]? = some u → ((W1.alloc (.cells #[.int .i64 x.n, .int .i64 x.q, .int .i64 X, .int .i64 x.g.w] 42)).drew).cell? ((⟨W1.heap.size, 0, none⟩ : Addr).add j) = some u) := Lib.hid (World.news_of_block (obj_kept (below_drew10w _) (obj_new W1 _ rfl #[.int .i64 x.n, .int .i64 x.q, .int .i64 X, .int .i64 x.g.w] 42)))
        obtain ⟨iN, hiN, hN0, hN1, hN2⟩ := info_parts infoPc
        obtain ⟨WE, hWE⟩ : ∃ WE, WE = (W1.alloc (.cells #[.int .i64 x.n, .int .i64 x.q, .int .i64 X, .int .i64 x.g.w] 42)).drew := ⟨_, rfl⟩
        rw [← hWE] at HE1 HNw
        have HWE := Lib.hid hWE
        clear hWE
        have HOe := Lib.hid (OwnR.mono HO1.out HE1.out)
        have HPe := Lib.hid (obj_kept HE1.out HP1.out)
        have HQe := Lib.hid (obj_kept HE1.out HQ1.out)
        have HGe := Lib.hid (grown_below12 HG1.out HE1.out)
        have hbig : bs.length ≤ 2000 := by have := HN.out; have := HLe.out; omega
        have hze := HGe.out.size
        have c2d : W1.drew.cell? ⟨P, 2, none⟩ = some (.slice a bs.length cb) := c2
        have c2e : WE.cell? ⟨P, 2, none⟩ = some (.slice a bs.length cb) := Lib.cell_of_heap HPe.out 2
        go_upto_region 7 with fail
        refine wp_region_held_drew (S := fun w' : World => w'.cell? ⟨P, 4, none⟩ = some (.int .i64 X) ∧ w'.cell? ⟨Q, 1, none⟩ = some (.int .i64 x.g.w) ∧ w'.cell? ⟨Q, 7, none⟩ = some (.int .i64 x.n) ∧ w'.cell? ⟨Q, 8, none⟩ = some (.int .i64 x.q)) (by kernel_rfl) ?_ (fun hHeld => ?_)
        · exact ⟨c4, q1, q4, q5⟩
        refine take_op (i := 0) (d := 21) (op := Op.move (Operand.tmp 0)) (ty := 72) (v := (.pointer (some ⟨P, 0, none⟩))) (by kernel_rfl) (by kernel_rfl) (by kernel_rfl) (by kernel_rfl) (by kernel_rfl) (fun _ _ _ h => h) (fun wS hS => by clear hS; go_simp) hHeld ?_
        simp only [Act.put, List.setIfInBounds_toArray, List.set_cons_zero, List.set_cons_succ]
        refine take_op (i := 1) (d := 22) (op := Op.move (Operand.tmp 0)) (ty := 72) (v := (.pointer (some ⟨P, 0, none⟩))) (by kernel_rfl) (by kernel_rfl) (by kernel_rfl) (by kernel_rfl) (by kernel_rfl) (fun _ _ _ h => h) (fun wS hS => by clear hS; go_simp) hHeld ?_
        simp only [Act.put, List.setIfInBounds_toArray, List.set_cons_zero, List.set_cons_succ]
        refine take_op (i := 2) (d := 23) (op := Op.nilCheck (Operand.tmp 22)) (ty := 0) (v := (.pointer (some ⟨P, 0, none⟩))) (by kernel_rfl) (by kernel_rfl) (by kernel_rfl) (by kernel_rfl) (by kernel_rfl) (fun _ _ _ h => h) (fun wS hS => by clear hS; go_simp) hHeld ?_
        simp only [Act.put, List.setIfInBounds_toArray, List.set_cons_zero, List.set_cons_succ]
        refine take_op (i := 3) (d := 24) (op := Op.fieldAddr 44 (Operand.tmp 23) 2) (ty := 0) (v := (.pointer (some ⟨P, 2, none⟩))) (by kernel_rfl) (by kernel_rfl) (by kernel_rfl) (by kernel_rfl) (by kernel_rfl) (fun _ _ _ h => h) (fun wS hS => by clear hS; go_simp) hHeld ?_
        simp only [Act.put, List.setIfInBounds_toArray, List.set_cons_zero, List.set_cons_succ]
        refine take_op (i := 5) (d := 26) (op := Op.fieldAddr 40 (Operand.tmp 8) 4) (ty := 0) (v := (.pointer (some ⟨Q, 7, none⟩))) (by kernel_rfl) (by kernel_rfl) (by kernel_rfl) (by kernel_rfl) (by kernel_rfl) (fun _ _ _ h => h) (fun wS hS => by clear hS; go_simp) hHeld ?_
        simp only [Act.put, List.setIfInBounds_toArray, List.set_cons_zero, List.set_cons_succ]
        refine take_op (i := 6) (d := 27) (op := Op.load 3 (Operand.tmp 26)) (ty := 3) (v := (.int .i64 x.n)) (by kernel_rfl) (by kernel_rfl) (by kernel_rfl) (by kernel_rfl) (by kernel_rfl) (fun _ _ _ h => h) (fun wS hS => by (try dsimp only at hS); have e0 := hS.1; have e1 := hS.2.1; have e2 := hS.2.2.1; have e3 := hS.2.2.2; clear hS; go_simp) hHeld ?_
        simp only [Act.put, List.setIfInBounds_toArray, List.set_cons_zero, List.set_cons_succ]
        refine take_op (i := 7) (d := 28) (op := Op.fieldAddr 40 (Operand.tmp 8) 5) (ty := 0) (v := (.pointer (some ⟨Q, 8, none⟩))) (by kernel_rfl) (by kernel_rfl) (by kernel_rfl) (by kernel_rfl) (by kernel_rfl) (fun _ _ _ h => h) (fun wS hS => by clear hS; go_simp) hHeld ?_
        simp only [Act.put, List.setIfInBounds_toArray, List.set_cons_zero, List.set_cons_succ]
        refine take_op (i := 8) (d := 29) (op := Op.load 3 (Operand.tmp 28)) (ty := 3) (v := (.int .i64 x.q)) (by kernel_rfl) (by kernel_rfl) (by kernel_rfl) (by kernel_rfl) (by kernel_rfl) (fun _ _ _ h => h) (fun wS hS => by (try dsimp only at hS); have e0 := hS.1; have e1 := hS.2.1; have e2 := hS.2.2.1; have e3 := hS.2.2.2; clear hS; go_simp) hHeld ?_
        simp only [Act.put, List.setIfInBounds_toArray, List.set_cons_zero, List.set_cons_succ]
        refine take_op (i := 9) (d := 30) (op := Op.move (Operand.tmp 0)) (ty := 72) (v := (.pointer (some ⟨P, 0, none⟩))) (by kernel_rfl) (by kernel_rfl) (by kernel_rfl) (by kernel_rfl) (by kernel_rfl) (fun _ _ _ h => h) (fun wS hS => by clear hS; go_simp) hHeld ?_
        simp only [Act.put, List.setIfInBounds_toArray, List.set_cons_zero, List.set_cons_succ]
        refine take_op (i := 10) (d := 31) (op := Op.nilCheck (Operand.tmp 30)) (ty := 0) (v := (.pointer (some ⟨P, 0, none⟩))) (by kernel_rfl) (by kernel_rfl) (by kernel_rfl) (by kernel_rfl) (by kernel_rfl) (fun _ _ _ h => h) (fun wS hS => by clear hS; go_simp) hHeld ?_
        simp only [Act.put, List.setIfInBounds_toArray, List.set_cons_zero, List.set_cons_succ]
        refine take_op (i := 11) (d := 32) (op := Op.fieldAddr 44 (Operand.tmp 31) 4) (ty := 0) (v := (.pointer (some ⟨P, 4, none⟩))) (by kernel_rfl) (by kernel_rfl) (by kernel_rfl) (by kernel_rfl) (by kernel_rfl) (fun _ _ _ h => h) (fun wS hS => by clear hS; go_simp) hHeld ?_
        simp only [Act.put, List.setIfInBounds_toArray, List.set_cons_zero, List.set_cons_succ]
        refine take_op (i := 12) (d := 33) (op := Op.load 2 (Operand.tmp 32)) (ty := 2) (v := (.int .i64 X)) (by kernel_rfl) (by kernel_rfl) (by kernel_rfl) (by kernel_rfl) (by kernel_rfl) (fun _ _ _ h => h) (fun wS hS => by (try dsimp only at hS); have e0 := hS.1; have e1 := hS.2.1; have e2 := hS.2.2.1; have e3 := hS.2.2.2; clear hS; go_simp) hHeld ?_
        simp only [Act.put, List.setIfInBounds_toArray, List.set_cons_zero, List.set_cons_succ]
        refine take_op (i := 13) (d := 34) (op := Op.fieldAddr 40 (Operand.tmp 8) 1) (ty := 0) (v := (.pointer (some ⟨Q, 1, none⟩))) (by kernel_rfl) (by kernel_rfl) (by kernel_rfl) (by kernel_rfl) (by kernel_rfl) (fun _ _ _ h => h) (fun wS hS => by clear hS; go_simp) hHeld ?_
        simp only [Act.put, List.setIfInBounds_toArray, List.set_cons_zero, List.set_cons_succ]
        refine take_op (i := 14) (d := 35) (op := Op.fieldAddr 38 (Operand.tmp 34) 0) (ty := 0) (v := (.pointer (some ⟨Q, 1, none⟩))) (by kernel_rfl) (by kernel_rfl) (by kernel_rfl) (by kernel_rfl) (by kernel_rfl) (fun _ _ _ h => h) (fun wS hS => by clear hS; go_simp) hHeld ?_
        simp only [Act.put, List.setIfInBounds_toArray, List.set_cons_zero, List.set_cons_succ]
        refine take_op (i := 15) (d := 36) (op := Op.load 2 (Operand.tmp 35)) (ty := 2) (v := (.int .i64 x.g.w)) (by kernel_rfl) (by kernel_rfl) (by kernel_rfl) (by kernel_rfl) (by kernel_rfl) (fun _ _ _ h => h) (fun wS hS => by (try dsimp only at hS); have e0 := hS.1; have e1 := hS.2.1; have e2 := hS.2.2.1; have e3 := hS.2.2.2; clear hS; go_simp) hHeld ?_
        simp only [Act.put, List.setIfInBounds_toArray, List.set_cons_zero, List.set_cons_succ]
        refine take_op (i := 16) (d := 37) (op := Op.build 42 #[(0, Operand.tmp 27), (1, Operand.tmp 29), (2, Operand.tmp 33), (3, Operand.tmp 36)]) (ty := 42) (v := (.agg #[.int .i64 x.n, .int .i64 x.q, .int .i64 X, .int .i64 x.g.w])) (by kernel_rfl) (by kernel_rfl) (by kernel_rfl) (by kernel_rfl) (by kernel_rfl) (fun _ _ _ h => h) (fun wS hS => by clear hS; go_simp) hHeld ?_
        simp only [Act.put, List.setIfInBounds_toArray, List.set_cons_zero, List.set_cons_succ]
        refine wpAnyH_ready (rs := [4, 17]) (by kernel_rfl) (by simp) ?_
        refine AllReadyH.cons rfl (fun K hK => ?_) (AllReadyH.cons rfl (fun K hK => ?_) AllReadyH.nil)
        · go_simp
          refine hK.out _ _ hHeld (fun _ => ?_)
          clear hK K
          refine wpAnyH_ready (rs := [17]) (by kernel_rfl) (by simp) ?_
          refine AllReadyH.cons rfl (fun K hK => ?_) AllReadyH.nil
          go_simp
          rw [← HWE.out]
          refine hK.out _ _ ⟨Lib.cell_of_heap HPe.out 4, Lib.cell_of_heap HQe.out 1, Lib.cell_of_heap HQe.out 7, Lib.cell_of_heap HQe.out 8⟩ (fun hHeld => ?_)
          clear hK K
          refine wpAnyH_ready (rs := [18]) (by kernel_rfl) (by simp) ?_
          refine AllReadyH.cons rfl (fun K hK => ?_) AllReadyH.nil
          refine step_append_lies _ (by rfl) _ _ _ (by rfl) w.heap.size 42 iN _ 4 32 Try.underlying33 hiN hN0 hN1 hN2 rfl (by decide) (.slice a bs.length cb) bs.length (bs.flatMap pcC) (by rfl) HOe.out ⟨W1.heap.size, 0, none⟩ 1 1 [.int .i64 x.n, .int .i64 x.q, .int .i64 X, .int .i64 x.g.w] (by rfl) (by rfl) HNw.out (fun z hz => by simp at hz; rcases hz with rfl | rfl | rfl | rfl <;> rfl) (by omega) (by unfold maxLen; omega) (by omega) hze _ rfl ?_
          intro g9 cap9 w9 hown9 hgrow9 hat9 hlt9
          have HP9 := Lib.hid (obj_far HPe.out hgrow9 (own_off9 HOe.out HPe.out (by decide)))
          have HQ9 := Lib.hid (obj_far HQe.out hgrow9 (own_off9 HOe.out HQe.out (by decide)))
          have HG9 := Lib.hid (grown_app12 HGe.out hgrow9 HOe.out (Nat.le_refl _))
          have HO9 : Hid (OwnP w.heap.size (.slice (some ⟨g9, 0, none⟩) (bs.length + 1) cap9) (bs ++ [⟨x.n, x.q, X, x.g.w⟩]) w9) := Lib.hid (by unfold OwnP OwnR; rw [List.length_append, List.flatMap_append]; exact hown9)
          clear hown9 hgrow9 hat9 hlt9
          refine hK.out _ _ ⟨Lib.cell_of_heap HP9.out 4, Lib.cell_of_heap HQ9.out 1, Lib.cell_of_heap HQ9.out 7, Lib.cell_of_heap HQ9.out 8⟩ (fun hHeld => ?_)
          clear hK K
          simp only [Act.put, List.setIfInBounds_toArray, List.set_cons_zero, List.set_cons_succ]
          have c29 : w9.cell? ⟨P, 2, none⟩ = some (.slice a bs.length cb) := Lib.cell_of_heap HP9.out 2
          have f29 := Lib.frozen_of_heap HP9.out 2
          obtain ⟨WS, hWS⟩ : ∃ WS, WS = w9.setCell ⟨P, 2, none⟩ (.slice (some ⟨g9, 0, none⟩) (bs.length + 1) cap9) := ⟨_, rfl⟩
          have HPs : Hid (WS.heap[P]? = some (.cells (lineC fr en (.slice (some ⟨g9, 0, none⟩) (bs.length + 1) cap9) hy X bad) 44 (0, 0))) := Lib.hid (by rw [hWS]; exact heap_setCell_same _ _ 2 _ _ _ HP9.out)
          have HQs := Lib.hid (obj_set (i := 2) (v := .slice (some ⟨g9, 0, none⟩) (bs.length + 1) cap9) HQ9.out hQP.symm)
          have HOs := Lib.hid (own_setP (i := 2) (y := .slice (some ⟨g9, 0, none⟩) (bs.length + 1) cap9) HO9.out HP9.out)
          have HGs := Lib.hid (grown_set12 (i := 2) (y := .slice (some ⟨g9, 0, none⟩) (bs.length + 1) cap9) HG9.out)
          rw [← hWS] at HQs HOs HGs
          refine take_op (i := 19) (d := 40) (op := Op.nilCheck (Operand.tmp 21)) (ty := 0) (v := (.pointer (some ⟨P, 0, none⟩))) (by kernel_rfl) (by kernel_rfl) (by kernel_rfl) (by kernel_rfl) (by kernel_rfl) (fun _ _ _ h => h) (fun wS hS => by clear hS; go_simp) hHeld ?_
          simp only [Act.put, List.setIfInBounds_toArray, List.set_cons_zero, List.set_cons_succ]
          refine take_op (i := 20) (d := 41) (op := Op.fieldAddr 44 (Operand.tmp 40) 2) (ty := 0) (v := (.pointer (some ⟨P, 2, none⟩))) (by kernel_rfl) (by kernel_rfl) (by kernel_rfl) (by kernel_rfl) (by kernel_rfl) (fun _ _ _ h => h) (fun wS hS => by clear hS; go_simp) hHeld ?_
          simp only [Act.put, List.setIfInBounds_toArray, List.set_cons_zero, List.set_cons_succ]
          refine wpAnyH_ready (rs := [21]) (by kernel_rfl) (by simp) ?_
          refine AllReadyH.cons rfl (fun K hK => ?_) AllReadyH.nil
          go_simp
          rw [← hWS]
          refine hK.out _ _ ⟨Lib.cell_of_heap HPs.out 4, Lib.cell_of_heap HQs.out 1, Lib.cell_of_heap HQs.out 7, Lib.cell_of_heap HQs.out 8⟩ (fun _ => ?_)
          clear hK K hWS c29 f29
          refine wpAnyH_done (by kernel_rfl) ?_ _
          clear c2 c4 q1 q4 q5 hze c2d
          obtain ⟨bw, ow, dw, ew, rw0⟩ := (HWs.out _ HGs.out).2.2 (by omega)
          rw [← Hnw.out] at ew
          obtain ⟨rfl, rfl⟩ : pw = some ⟨bw, ow, none⟩ ∧ cw = dw := by injection ew with a1 a2 a3; exact ⟨a1, a3⟩
          obtain ⟨y, hyw⟩ : ∃ y, ws[m]? = some y := ⟨_, List.getElem?_eq_getElem hm⟩
          have hget : ws.getD m 0 = y := by rw [List.getD_eq_getElem?_getD, hyw]; rfl
          have cy : WS.cell? ⟨bw, ow + m, none⟩ = some (.int .i64 y) := by have := rw0 m y hyw 0 _ rfl; rwa [Nat.mul_one, Nat.add_zero] at this
          have c4 : WS.cell? ⟨P, 4, none⟩ = some (.int .i64 X) := Lib.cell_of_heap HPs.out 4
          have f4 := Lib.frozen_of_heap HPs.out 4
          have m0 : (0 : Int) ≤ (m : Int) := by omega
          have ml : (m : Int) < (nw : Int) := by have := Hnw.out; omega
          have hwr : IntKind.i64.wrap (X + y) = It.wr (X + y) := rfl
          rw [hget] at HE
          have HPd := Lib.hid (obj_kept (below_drew10w WS) HPs.out)
          have HPf : Hid ((WS.drew.setCell ⟨P, 4, none⟩ (.int .i64 (It.wr (X + y)))).heap[P]? = some (.cells (lineC fr en (.slice (some ⟨g9, 0, none⟩) (bs.length + 1) cap9) hy (It.wr (X + y)) bad) 44 (0, 0))) := Lib.hid (heap_setCell_same _ _ 4 _ _ _ HPd.out)
          have HOf := Lib.hid (own_setP (i := 4) (y := .int .i64 (It.wr (X + y))) (OwnR.mono HOs.out (below_drew10w WS)) HPd.out)
          have HGf := Lib.hid (grown_set12 (i := 4) (y := .int .i64 (It.wr (X + y))) (grown_drew12 HGs.out))
          have hk2 := HN.out
          obtain ⟨hl1, hl2⟩ := HLe.out
          clear ew rw0 hyw hget
          go_upto_region 8 with fail
          go_region
          all_goals (
            go_wp2
            go_roundw
            case rel => exact ⟨k + 1, by omega, by go_num, by rw [HE.out]; go_num, by rw [HE.out]; exact Lib.hid ⟨_, _, _, HPf.out, HOf.out⟩, HGf⟩
            case measure => simp [intOf]; omega)
        · go_simp
          rw [← HWE.out]
          refine hK.out _ _ ⟨Lib.cell_of_heap HPe.out 4, Lib.cell_of_heap HQe.out 1, Lib.cell_of_heap HQe.out 7, Lib.cell_of_heap HQe.out 8⟩ (fun hHeld => ?_)
          clear hK K
          refine wpAnyH_ready (rs := [4]) (by kernel_rfl) (by simp) ?_
          refine AllReadyH.cons rfl (fun K hK => ?_) AllReadyH.nil
          go_simp
          refine hK.out _ _ hHeld (fun _ => ?_)
          clear hK K
          refine wpAnyH_ready (rs := [18]) (by kernel_rfl) (by simp) ?_
          refine AllReadyH.cons rfl (fun K hK => ?_) AllReadyH.nil
          refine step_append_lies _ (by rfl) _ _ _ (by rfl) w.heap.size 42 iN _ 4 32 Try.underlying33 hiN hN0 hN1 hN2 rfl (by decide) (.slice a bs.length cb) bs.length (bs.flatMap pcC) (by rfl) HOe.out ⟨W1.heap.size, 0, none⟩ 1 1 [.int .i64 x.n, .int .i64 x.q, .int .i64 X, .int .i64 x.g.w] (by rfl) (by rfl) HNw.out (fun z hz => by simp at hz; rcases hz with rfl | rfl | rfl | rfl <;> rfl) (by omega) (by unfold maxLen; omega) (by omega) hze _ rfl ?_
          intro g9 cap9 w9 hown9 hgrow9 hat9 hlt9
          have HP9 := Lib.hid (obj_far HPe.out hgrow9 (own_off9 HOe.out HPe.out (by decide)))
          have HQ9 := Lib.hid (obj_far HQe.out hgrow9 (own_off9 HOe.out HQe.out (by decide)))
          have HG9 := Lib.hid (grown_app12 HGe.out hgrow9 HOe.out (Nat.le_refl _))
          have HO9 : Hid (OwnP w.heap.size (.slice (some ⟨g9, 0, none⟩) (bs.length + 1) cap9) (bs ++ [⟨x.n, x.q, X, x.g.w⟩]) w9) := Lib.hid (by unfold OwnP OwnR; rw [List.length_append, List.flatMap_append]; exact hown9)
          clear hown9 hgrow9 hat9 hlt9
          refine hK.out _ _ ⟨Lib.cell_of_heap HP9.out 4, Lib.cell_of_heap HQ9.out 1, Lib.cell_of_heap HQ9.out 7, Lib.cell_of_heap HQ9.out 8⟩ (fun hHeld => ?_)
          clear hK K
          simp only [Act.put, List.setIfInBounds_toArray, List.set_cons_zero, List.set_cons_succ]
          have c29 : w9.cell? ⟨P, 2, none⟩ = some (.slice a bs.length cb) := Lib.cell_of_heap HP9.out 2
          have f29 := Lib.frozen_of_heap HP9.out 2
          obtain ⟨WS, hWS⟩ : ∃ WS, WS = w9.setCell ⟨P, 2, none⟩ (.slice (some ⟨g9, 0, none⟩) (bs.length + 1) cap9) := ⟨_, rfl⟩
          have HPs : Hid (WS.heap[P]? = some (.cells (lineC fr en (.slice (some ⟨g9, 0, none⟩) (bs.length + 1) cap9) hy X bad) 44 (0, 0))) := Lib.hid (by rw [hWS]; exact heap_setCell_same _ _ 2 _ _ _ HP9.out)
          have HQs := Lib.hid (obj_set (i := 2) (v := .slice (some ⟨g9, 0, none⟩) (bs.length + 1) cap9) HQ9.out hQP.symm)
          have HOs := Lib.hid (own_setP (i := 2) (y := .slice (some ⟨g9, 0, none⟩) (bs.length + 1) cap9) HO9.out HP9.out)
          have HGs := Lib.hid (grown_set12 (i := 2) (y := .slice (some ⟨g9, 0, none⟩) (bs.length + 1) cap9) HG9.out)
          rw [← hWS] at HQs HOs HGs
          refine take_op (i := 19) (d := 40) (op := Op.nilCheck (Operand.tmp 21)) (ty := 0) (v := (.pointer (some ⟨P, 0, none⟩))) (by kernel_rfl) (by kernel_rfl) (by kernel_rfl) (by kernel_rfl) (by kernel_rfl) (fun _ _ _ h => h) (fun wS hS => by clear hS; go_simp) hHeld ?_
          simp only [Act.put, List.setIfInBounds_toArray, List.set_cons_zero, List.set_cons_succ]
          refine take_op (i := 20) (d := 41) (op := Op.fieldAddr 44 (Operand.tmp 40) 2) (ty := 0) (v := (.pointer (some ⟨P, 2, none⟩))) (by kernel_rfl) (by kernel_rfl) (by kernel_rfl) (by kernel_rfl) (by kernel_rfl) (fun _ _ _ h => h) (fun wS hS => by clear hS; go_simp) hHeld ?_
          simp only [Act.put, List.setIfInBounds_toArray, List.set_cons_zero, List.set_cons_succ]
          refine wpAnyH_ready (rs := [21]) (by kernel_rfl) (by simp) ?_
          refine AllReadyH.cons rfl (fun K hK => ?_) AllReadyH.nil
          go_simp
          rw [← hWS]
          refine hK.out _ _ ⟨Lib.cell_of_heap HPs.out 4, Lib.cell_of_heap HQs.out 1, Lib.cell_of_heap HQs.out 7, Lib.cell_of_heap HQs.out 8⟩ (fun _ => ?_)
          clear hK K hWS c29 f29
          refine wpAnyH_done (by kernel_rfl) ?_ _
          clear c2 c4 q1 q4 q5 hze c2d
          obtain ⟨bw, ow, dw, ew, rw0⟩ := (HWs.out _ HGs.out).2.2 (by omega)
          rw [← Hnw.out] at ew
          obtain ⟨rfl, rfl⟩ : pw = some ⟨bw, ow, none⟩ ∧ cw = dw := by injection ew with a1 a2 a3; exact ⟨a1, a3⟩
          obtain ⟨y, hyw⟩ : ∃ y, ws[m]? = some y := ⟨_, List.getElem?_eq_getElem hm⟩
          have hget : ws.getD m 0 = y := by rw [List.getD_eq_getElem?_getD, hyw]; rfl
          have cy : WS.cell? ⟨bw, ow + m, none⟩ = some (.int .i64 y) := by have := rw0 m y hyw 0 _ rfl; rwa [Nat.mul_one, Nat.add_zero] at this
          have c4 : WS.cell? ⟨P, 4, none⟩ = some (.int .i64 X) := Lib.cell_of_heap HPs.out 4
          have f4 := Lib.frozen_of_heap HPs.out 4
          have m0 : (0 : Int) ≤ (m : Int) := by omega
          have ml : (m : Int) < (nw : Int) := by have := Hnw.out; omega
          have hwr : IntKind.i64.wrap (X + y) = It.wr (X + y) := rfl
          rw [hget] at HE
          have HPd := Lib.hid (obj_kept (below_drew10w WS) HPs.out)
          have HPf : Hid ((WS.drew.setCell ⟨P, 4, none⟩ (.int .i64 (It.wr (X + y)))).heap[P]? = some (.cells (lineC fr en (.slice (some ⟨g9, 0, none⟩) (bs.length + 1) cap9) hy (It.wr (X + y)) bad) 44 (0, 0))) := Lib.hid (heap_setCell_same _ _ 4 _ _ _ HPd.out)
          have HOf := Lib.hid (own_setP (i := 4) (y := .int .i64 (It.wr (X + y))) (OwnR.mono HOs.out (below_drew10w WS)) HPd.out)
          have HGf := Lib.hid (grown_set12 (i := 4) (y := .int .i64 (It.wr (X + y))) (grown_drew12 HGs.out))
          have hk2 := HN.out
          obtain ⟨hl1, hl2⟩ := HLe.out
          clear ew rw0 hyw hget
          go_upto_region 8 with fail
          go_region
          all_goals (
            go_wp2
            go_roundw
            case rel => exact ⟨k + 1, by omega, by go_num, by rw [HE.out]; go_num, by rw [HE.out]; exact Lib.hid ⟨_, _, _, HPf.out, HOf.out⟩, HGf⟩
            case measure => simp [intOf]; omega)
      · by_cases h1 : x.k = 1
        · have hg : It.gluey x = true := by unfold It.gluey; rw [decide_eq_true h1]; simp
          have HE : Hid (It.lay ws (its.take (k + 1)) = (m + 1, bs, It.wr (X + ws.getD m 0))) := Lib.hid (by rw [HS.out]; unfold It.stp; rw [if_pos hg, if_neg h0])
          have hm := HCn.out hg
          rw [h1] at q0
          obtain ⟨WS, hWS⟩ : ∃ WS, WS = W1 := ⟨_, rfl⟩
          rw [← hWS] at q0 HP1 HO1 HG1 ⊢
          clear hWS
          have HPs := HP1
          have HOs := HO1
          have HGs := HG1
          obtain ⟨bw, ow, dw, ew, rw0⟩ := (HWs.out _ HGs.out).2.2 (by omega)
          rw [← Hnw.out] at ew
          obtain ⟨rfl, rfl⟩ : pw = some ⟨bw, ow, none⟩ ∧ cw = dw := by injection ew with a1 a2 a3; exact ⟨a1, a3⟩
          obtain ⟨y, hyw⟩ : ∃ y, ws[m]? = some y := ⟨_, List.getElem?_eq_getElem hm⟩
          have hget : ws.getD m 0 = y := by rw [List.getD_eq_getElem?_getD, hyw]; rfl
          have cy : WS.cell? ⟨bw, ow + m, none⟩ = some (.int .i64 y) := by have := rw0 m y hyw 0 _ rfl; rwa [Nat.mul_one, Nat.add_zero] at this
          have c4 : WS.cell? ⟨P, 4, none⟩ = some (.int .i64 X) := Lib.cell_of_heap HPs.out 4
          have f4 := Lib.frozen_of_heap HPs.out 4
          have m0 : (0 : Int) ≤ (m : Int) := by omega
          have ml : (m : Int) < (nw : Int) := by have := Hnw.out; omega
          have hwr : IntKind.i64.wrap (X + y) = It.wr (X + y) := rfl
          rw [hget] at HE
          have HPd := Lib.hid (obj_kept (below_drew10w WS) HPs.out)
          have HPf : Hid ((WS.drew.setCell ⟨P, 4, none⟩ (.int .i64 (It.wr (X + y)))).heap[P]? = some (.cells (lineC fr en (.slice a nb cb) hy (It.wr (X + y)) bad) 44 (0, 0))) := Lib.hid (heap_setCell_same _ _ 4 _ _ _ HPd.out)
          have HOf := Lib.hid (own_setP (i := 4) (y := .int .i64 (It.wr (X + y))) (OwnR.mono HOs.out (below_drew10w WS)) HPd.out)
          have HGf := Lib.hid (grown_set12 (i := 4) (y := .int .i64 (It.wr (X + y))) (grown_drew12 HGs.out))
          have hk2 := HN.out
          obtain ⟨hl1, hl2⟩ := HLe.out
          clear ew rw0 hyw hget
          go_upto_region 8 with fail
          go_region
          all_goals (
            go_wp2
            go_roundw
            case rel => exact ⟨k + 1, by omega, by go_num, by rw [HE.out]; go_num, by rw [HE.out]; exact Lib.hid ⟨_, _, _, HPf.out, HOf.out⟩, HGf⟩
            case measure => simp [intOf]; omega)
        · have hg : It.gluey x = false := by unfold It.gluey; rw [decide_eq_false h0, decide_eq_false h1]; rfl
          have HE : Hid (It.lay ws (its.take (k + 1)) = (m, bs, X)) := Lib.hid (by rw [HS.out]; unfold It.stp; rw [if_neg (by rw [hg]; decide)])
          go_wp2
          go_roundw
          case rel => exact ⟨k + 1, by omega, by go_num, by rw [HE.out], by rw [HE.out]; exact Lib.hid ⟨a, nb, cb, HP1.out, HO1.out⟩, HG1⟩
          case measure => simp [intOf]; omega
    · have HE : Hid (its.take k = its) := Lib.hid (List.take_of_length_le (by rw [← Hn.out]; omega))
      go_wp2
      go_end0
      exact ⟨rfl, by rw [← HE.out]; exact HR.out, HG.out⟩
end Go.Proofs.Ythcilpijiindeaa
