/-
  The law's fixed: calls whose answers the document fixes.
-/
import Derived.Test.YtfjplhgajoehfaaGreatDoorQFxm14
set_option linter.unusedVariables false
set_option linter.unusedSimpArgs false
namespace Go.Proofs.YtfjplhgajoehfaaGreatDoor
open Go.RowKit
attribute [local irreducible] El.made El.visit El.finish

/-- what a result leaves -/
def MakeRes (R : El.Res) (w : World) (e : Ending) (w' : World) : Prop := Below w.heap.size w w' ∧ match R with
  | .ok s => ∃ vs vl K, e = .returned (.tuple #[.agg #[vs, vl], .agg #[.int .i64 0, .int .i64 0]]) ∧ SidesK K w' vs s.sides ∧ SlcK laC 3 K w' vl s.labels ∧ ∀ b, K b → b < w'.heap.size
  | .bad c a => e = .returned (.tuple #[.agg #[.slice none 0 0, .slice none 0 0], .agg #[.int .i64 c, .int .i64 a]])
theorem MakePost.res {keys : List (List UInt8)} {l : List El.Nd} {w w' : World} {e : Ending} (h : MakePost keys l w e w') : MakeRes (El.made keys El.deepest l) w e w' := h

/-- the example's document, in memory -/
structure Doc14 (w : World) (b o bn on ser loc : Nat) (zs zl : Int) (pc pw pt : Option Addr) (nc cc cw cn nt ct : Nat) : Prop where
  s0 : w.cell? ⟨b, o, none⟩ = some (.slice pc nc cc)
  s1 : w.cell? ⟨b, o + 1, none⟩ = some (.slice pw 4 cw)
  s2 : w.cell? ⟨b, o + 2, none⟩ = some (.slice (some ⟨bn, on, none⟩) 1 cn)
  ws : TxsAt w (.slice pw 4 cw) [[97], [98], [99], [101]]
  n0 : w.cell? ⟨bn, on, none⟩ = some (.int .i64 zs)
  n1 : w.cell? ⟨bn, on + 1, none⟩ = some (.int .i64 1)
  n2 : w.cell? ⟨bn, on + 2, none⟩ = some (.int .i64 3)
  n3 : w.cell? ⟨bn, on + 3, none⟩ = some (.slice pt nt ct)
  n4 : w.cell? ⟨bn, on + 4, none⟩ = some (.int .i64 zl)
theorem Doc14.mono {w w' : World} {b o bn on ser loc : Nat} {zs zl : Int} {pc pw pt : Option Addr} {nc cc cw cn nt ct : Nat} (h : Doc14 w b o bn on ser loc zs zl pc pw pt nc cc cw cn nt ct) (hb : Below w.heap.size w w') : Doc14 w' b o bn on ser loc zs zl pc pw pt nc cc cw cn nt ct :=
  ⟨cell_below hb h.s0, cell_below hb h.s1, cell_below hb h.s2, SlcAt.mono h.ws hb, cell_below hb h.n0, cell_below hb h.n1, cell_below hb h.n2, cell_below hb h.n3, cell_below hb h.n4⟩
theorem doc_small {w w' : World} {e : Ending} (h : MakePost [] smallL w e w') : Below w.heap.size w w' ∧ ∃ (b o c bn on : Nat) (zs zl : Int) (pc pw pt la : Option Addr) (nc cc cw cn nt ct ln lc : Nat),
    e = .returned (.tuple #[.agg #[.slice (some ⟨b, o, none⟩) 1 c, .slice la ln lc], .agg #[.int .i64 0, .int .i64 0]]) ∧ Doc14 w' b o bn on 0 0 zs zl pc pw pt nc cc cw cn nt ct := by
  obtain ⟨s, d, n, hm, hsd, hw, hn, h1, h3⟩ := made_small
  have h := h.res
  rw [hm] at h
  obtain ⟨hb, h⟩ := h
  obtain ⟨vs, vl, K, rfl, hS, hL, _⟩ := h
  rw [hsd] at hS
  obtain ⟨rs, r1, r2⟩ := hS
  obtain ⟨r, hr, q1, q2, q3⟩ := r2.get (i := 0) (y := d) rfl
  have hrl : rs.length = 1 := r2.1
  obtain ⟨_, _, r13⟩ := r1
  obtain ⟨b, o, c, rfl, _, hc⟩ := r13 (by omega)
  have hcell := hc 0 r hr
  rw [hn] at q3
  obtain ⟨ns, n1, n2⟩ := q3
  obtain ⟨x, hx, x1, x2, x3, x4, x5⟩ := n2.get (i := 0) (y := n) rfl
  have hnl : ns.length = 1 := n2.1
  obtain ⟨_, _, n13⟩ := n1
  obtain ⟨bn, on, cn, hv, _, hcn⟩ := n13 (by omega)
  have ncell := hcn 0 x hx
  rw [hw] at q2
  have hq2 := q2
  obtain ⟨⟨pw, cw, hpw, _⟩, _, _⟩ := q2
  obtain ⟨⟨la, lc, rfl, _⟩, _, _⟩ := hL
  refine ⟨hb, b, o, c, bn, on, x.ser, x.loc, r.c.a, pw, x.t.a, la, r.c.n, r.c.cap, cw, cn, x.t.n, x.t.cap, _, lc, by rw [hrl], ?_⟩
  have e0 := hcell 0 _ rfl
  have e1 := hcell 1 _ rfl
  have e2 := hcell 2 _ rfl
  have f0 := ncell 0 _ rfl
  have f1 := ncell 1 _ rfl
  have f2 := ncell 2 _ rfl
  have f3 := ncell 3 _ rfl
  have f4 := ncell 4 _ rfl
  exact {
    s0 := by simpa [Hd.v] using e0
    s1 := by rw [hpw] at e1; simpa using e1
    s2 := by rw [hv, hnl] at e2; simpa using e2
    ws := by rw [hpw] at hq2; exact hq2.at
    n0 := by simpa using f0
    n1 := by rw [x2, h1] at f1; simpa using f1
    n2 := by rw [x3, h3] at f2; simpa using f2
    n3 := by simpa [Hd.v] using f3
    n4 := by simpa using f4 }
/-- what the row's list lays -/
structure Envs14 (w : World) : Prop where
  lib : LibEnv w
  ser : SerAt w
  err : ErrTy w
theorem Envs14.mono {w w' : World} (h : Envs14 w) (hb : Below w.heap.size w w') : Envs14 w' := ⟨h.lib.mono hb, fun k hk => cell_below hb (h.ser k hk), cell_below hb h.err⟩
theorem sgs_none (w : World) : SgsAt w (.slice none 0 0) [] := ⟨⟨none, 0, rfl, Nat.le_refl _⟩, by unfold maxLen; simp, fun h => by simp at h⟩
theorem size_small : El.sizeL smallL ≤ lim14 := by decide
theorem make_nil (l : List El.Nd) (v : Value) (w : World) (hE : Envs14 w) (hl : NodesAt w (fun _ => True) v l) (hsz : El.sizeL l ≤ lim14) : Calls Tryz.prog 11 #[v, .slice none 0 0] w (MakeRes (El.made [] El.deepest l) w) :=
  (landedMake_any l v (.slice none 0 0) [] w hl hsz (sgs_none w) hE.lib hE.ser hE.err).mono fun e w' h => MakePost.res h
def BadRes (c : Int) (w : World) (e : Ending) (w' : World) : Prop := Below w.heap.size w w' ∧ ∃ a, e = .returned (.tuple #[.agg #[.slice none 0 0, .slice none 0 0], .agg #[.int .i64 c, .int .i64 a]])
theorem bad_res {R : El.Res} {c : Int} {w w' : World} {e : Ending} (h : MakeRes R w e w') (hR : ∃ a, R = .bad c a) : BadRes c w e w' := by
  obtain ⟨a, rfl⟩ := hR
  exact ⟨h.1, a, h.2⟩
def FixPost (w : World) (e : Ending) (w' : World) : Prop := e = .returned (.bool true) ∧ Below w.heap.size w w'
set_option maxHeartbeats 4000000 in
set_option maxRecDepth 100000 in
theorem fixed_any (w : World) (hE : Envs14 w) : Calls Tryz.prog 10 #[] w (FixPost w) := by
  have HE := Lib.hid hE
  have C1 := Lib.hid (small_any w)
  clear hE
  go_enter Tryz.func10, Tryz.ntmps10
  go_wp2_with fail
  refine C1.out.mono ?_
  rintro e w1 ⟨v, rfl, hb, hn⟩
  have HB1 := Lib.hid hb
  have C2 := Lib.hid (make_nil smallL v w1 (HE.out.mono hb) hn size_small)
  obtain ⟨⟨pv, cv, rfl, _⟩, _, _⟩ := hn
  clear hb C1
  go_wp2_with fail
  refine C2.out.mono ?_
  intro e w2 hm
  obtain ⟨hb, b, o, c, bn, on, zs, zl, pc, pw, pt, la, nc, cc, cw, cn, nt, ct, ln, lc, rfl, hd⟩ := doc_small hm
  have HB2 := Lib.hid (below_step HB1.out hb)
  have HD2 := Lib.hid hd
  have b2 := below_step (below_alloc w2 (.cells #[.slice (some ⟨b, o, none⟩) 1 c, .slice la ln lc] 29)) (below_alloc _ (.cells #[.int .i64 0, .int .i64 0] 32))
  have p1 := obj_kept (below_alloc (w2.alloc (.cells #[.slice (some ⟨b, o, none⟩) 1 c, .slice la ln lc] 29)) (.cells #[.int .i64 0, .int .i64 0] 32)) (obj_new w2 _ rfl #[.slice (some ⟨b, o, none⟩) 1 c, .slice la ln lc] 29)
  have p2 := obj_new (w2.alloc (.cells #[.slice (some ⟨b, o, none⟩) 1 c, .slice la ln lc] 29)) (w2.heap.size + 1) (by simp) #[.int .i64 0, .int .i64 0] 32
  obtain ⟨W2, hW2⟩ : ∃ W2, W2 = (w2.alloc (.cells #[.slice (some ⟨b, o, none⟩) 1 c, .slice la ln lc] 29)).alloc (.cells #[.int .i64 0, .int .i64 0] 32) := ⟨_, rfl⟩
  rw [← hW2] at b2 p1 p2
  have BW2 := Lib.hid b2
  have P1 := Lib.hid p1
  have P2 := Lib.hid p2
  have C3 := Lib.hid (make_nil [] (.slice none 0 0) W2 (HE.out.mono (below_step HB2.out b2)) (nodes_none _ _) (by decide))
  clear hm hb hd b2 p1 p2 C2
  go_wp2_with fail
  rw [← hW2]
  refine C3.out.mono ?_
  intro e w3 hm
  obtain ⟨hb, a3, rfl⟩ := bad_res hm made_none
  have HB3 := Lib.hid (below_step (below_step HB2.out BW2.out) hb)
  have b3 := below_step (below_alloc w3 (.cells #[.slice none 0 0, .slice none 0 0] 29)) (below_alloc _ (.cells #[.int .i64 140, .int .i64 a3] 32))
  have p4 := obj_new (w3.alloc (.cells #[.slice none 0 0, .slice none 0 0] 29)) (w3.heap.size + 1) (by simp) #[.int .i64 140, .int .i64 a3] 32
  obtain ⟨W3, hW3⟩ : ∃ W3, W3 = (w3.alloc (.cells #[.slice none 0 0, .slice none 0 0] 29)).alloc (.cells #[.int .i64 140, .int .i64 a3] 32) := ⟨_, rfl⟩
  rw [← hW3] at b3 p4
  have bx := below_alloc W3 (.cells #[.string (str [97])] 9)
  have BX := Lib.hid bx
  have BW3 := Lib.hid b3
  have P4 := Lib.hid p4
  have B23 := Lib.hid (below_step BW2.out (below_step hb b3))
  have HBW3 := Lib.hid (below_step HB3.out b3)
  have C4 := Lib.hid (words14_any _ [[97]] _ (slc_new txC_len W3 (w3.heap.size + 1 + 1) (by rw [hW3]; simp) [[97]] 9 (by simp) #[.string (str [97])] rfl) (by simp))
  have HBb := Lib.hid hb
  clear hm hb b3 p4 bx C3 hW2
  go_wp2_with fail
  rw [← hW3]
  clear hW3
  refine C4.out.mono ?_
  rintro e w4 ⟨v, rfl, hb, ho⟩
  obtain ⟨g4, c4, rfl, hg0, hg1⟩ := own_slice 1 ho rfl (by omega)
  have n4 := words_nodes (xs := [[97]]) (K := fun _ => True) ho (fun _ _ => trivial)
  have B34 := Lib.hid (below_step BX.out hb)
  have C5 := Lib.hid (make_nil [.mk false [97] [] 0] (.slice (some ⟨g4, 0, none⟩) 1 c4) w4 (HE.out.mono (below_step HBW3.out B34.out)) n4 (by decide))
  clear hb ho hg0 hg1 n4 C4 BX
  go_wp2_with fail
  refine C5.out.mono ?_
  intro e w5 hm
  obtain ⟨hb, a5, rfl⟩ := bad_res hm made_word
  have b5 := below_step (below_alloc w5 (.cells #[.slice none 0 0, .slice none 0 0] 29)) (below_alloc _ (.cells #[.int .i64 141, .int .i64 a5] 32))
  have p6 := obj_new (w5.alloc (.cells #[.slice none 0 0, .slice none 0 0] 29)) (w5.heap.size + 1) (by simp) #[.int .i64 141, .int .i64 a5] 32
  obtain ⟨W5, hW5⟩ : ∃ W5, W5 = (w5.alloc (.cells #[.slice none 0 0, .slice none 0 0] 29)).alloc (.cells #[.int .i64 141, .int .i64 a5] 32) := ⟨_, rfl⟩
  rw [← hW5] at b5 p6
  have b35 := below_step B34.out (below_step hb b5)
  have b25 := below_step (below_step HBb.out BW3.out) b35
  have q6 := mcell p6 0 rfl
  have q4 := mcell (obj_kept b35 P4.out) 0 rfl
  have q2 := mcell (obj_kept b25 P2.out) 0 rfl
  have q1 := mcell (obj_kept b25 P1.out) 0 rfl
  have HD5 := Lib.hid (HD2.out.mono (below_step BW2.out b25))
  have s0 := HD5.out.s0
  have s1 := HD5.out.s1
  have s2 := HD5.out.s2
  have HB5 := Lib.hid (below_step HBW3.out b35)
  have HE5 := Lib.hid (HE.out.mono HB5.out)
  clear hm hb b5 p6 b35 b25 C5 BW2 P1 P2 BW3 P4 B23 HB3 HBb B34 HD2
  go_upto_region 4 with fail
  rw [← hW5]
  clear hW5
  go_wp2_with fail
  have bV := below_alloc W5 (.cells #[.slice pc nc cc, .slice pw 4 cw, .slice (some ⟨bn, on, none⟩) 1 cn] 41)
  have pV := obj_new W5 _ rfl #[.slice pc nc cc, .slice pw 4 cw, .slice (some ⟨bn, on, none⟩) 1 cn] 41
  obtain ⟨P, hP⟩ : ∃ P, P = W5.heap.size := ⟨_, rfl⟩
  rw [← hP] at pV ⊢
  obtain ⟨V, hV⟩ : ∃ V, V = W5.alloc (.cells #[.slice pc nc cc, .slice pw 4 cw, .slice (some ⟨bn, on, none⟩) 1 cn] 41) := ⟨_, rfl⟩
  rw [← hV] at bV pV ⊢
  have HEV := Lib.hid (HE5.out.mono bV)
  have HBV := Lib.hid (below_step HB5.out bV)
  have HDV := Lib.hid (HD5.out.mono bV)
  have HC := Lib.hid (fun wx (hb : Below V.heap.size V wx) => (⟨mcell (obj_kept hb pV) 0 rfl, mcell (obj_kept hb pV) 1 rfl, mcell (obj_kept hb pV) 2 rfl, (HDV.out.mono hb).n0, (HDV.out.mono hb).n1, (HDV.out.mono hb).n2, (HDV.out.mono hb).n3, (HDV.out.mono hb).n4⟩ :
    wx.cell? ⟨P, 0, none⟩ = some (.slice pc nc cc) ∧ wx.cell? ⟨P, 1, none⟩ = some (.slice pw 4 cw) ∧ wx.cell? ⟨P, 2, none⟩ = some (.slice (some ⟨bn, on, none⟩) 1 cn) ∧ wx.cell? ⟨bn, on, none⟩ = some (.int .i64 zs) ∧ wx.cell? ⟨bn, on + 1, none⟩ = some (.int .i64 1) ∧ wx.cell? ⟨bn, on + 2, none⟩ = some (.int .i64 3) ∧ wx.cell? ⟨bn, on + 3, none⟩ = some (.slice pt nt ct) ∧ wx.cell? ⟨bn, on + 4, none⟩ = some (.int .i64 zl)))
  have HWs := Lib.hid (fun wx (hb : Below V.heap.size V wx) => (HDV.out.mono hb).ws)
  have b1 := below_alloc V (.cells #[.string ⟨#[97]⟩, .string ⟨#[98]⟩, .string ⟨#[99]⟩, .string ⟨#[101]⟩] 9)
  have H48 : Hid (TxsAt (V.alloc (.cells #[.string ⟨#[97]⟩, .string ⟨#[98]⟩, .string ⟨#[99]⟩, .string ⟨#[101]⟩] 9)) (.slice (some ⟨V.heap.size, 0, none⟩) 4 4) [[97], [98], [99], [101]]) := Lib.hid (slc_new txC_len V V.heap.size rfl [[97], [98], [99], [101]] 9 (by simp) #[.string ⟨#[97]⟩, .string ⟨#[98]⟩, .string ⟨#[99]⟩, .string ⟨#[101]⟩] rfl)
  have HV1 := Lib.hid b1
  have bd := below_drew (V.alloc (.cells #[.string ⟨#[97]⟩, .string ⟨#[98]⟩, .string ⟨#[99]⟩, .string ⟨#[101]⟩] 9)) 1
  have HVd : Hid (Below V.heap.size V (V.alloc (.cells #[.string ⟨#[97]⟩, .string ⟨#[98]⟩, .string ⟨#[99]⟩, .string ⟨#[101]⟩] 9)).drew) := Lib.hid (below_step b1 bd)
  have HT1 : Hid (Calls Tryz.prog 16 #[.slice pw 4 cw, .slice (some ⟨V.heap.size, 0, none⟩) 4 4] (V.alloc (.cells #[.string ⟨#[97]⟩, .string ⟨#[98]⟩, .string ⟨#[99]⟩, .string ⟨#[101]⟩] 9)).drew (BoolD true (V.alloc (.cells #[.string ⟨#[97]⟩, .string ⟨#[98]⟩, .string ⟨#[99]⟩, .string ⟨#[101]⟩] 9)).drew)) := Lib.hid (texts_self _ _ _ _ (HWs.out _ HVd.out) (H48.out.mono bd))
  have HL := Lib.hid (fun wx (hb : Below V.heap.size V wx) => (by
    have := lemma_any pc pw (some ⟨bn, on, none⟩) pt nc 4 1 nt cc cw cn ct [[97], [98], [99], [101]] zs 1 3 zl wx (HWs.out _ hb) (by simp) (by simp) (by omega) (by omega) (by omega) (by omega)
    exact this : Calls Tryz.prog 17 #[.agg #[.slice pc nc cc, .slice pw 4 cw, .slice (some ⟨bn, on, none⟩) 1 cn], .agg #[.int .i64 zs, .int .i64 1, .int .i64 3, .slice pt nt ct, .int .i64 zl]] wx (LemPost [[97], [98], [99], [101]] 1 3 wx)))
  have HS1 := Lib.hid (fun wx (hb : Below V.heap.size V wx) => (by
    have := series_any [102, 66] wx (HEV.out.mono hb).ser
    have e : serIx [102, 66] = 6 := by rfl
    rw [e] at this
    exact this : Calls Tryz.prog 14 #[.string ⟨#[102, 66]⟩] wx (Ret (.int .i64 6) wx)))
  have HS2 := Lib.hid (fun wx (hb : Below V.heap.size V wx) => (by
    have := series_any [70] wx (HEV.out.mono hb).ser
    have e : serIx [70] = -1 := by rfl
    rw [e] at this
    exact this : Calls Tryz.prog 14 #[.string ⟨#[70]⟩] wx (Ret (.int .i64 (-1)) wx)))
  have elw : lemW [[97], [98], [99], [101]] 1 3 = [[98], [99]] := by rfl
  have HEl := Lib.hid elw
  obtain ⟨c0, c1, c2, c3, c4', c5, c6, c7⟩ := HC.out V (Below.refl _ _)
  clear s0 s1 s2 q1 q2 q4 q6 bV pV hP hV b1 bd elw HB1 HB2 HBW3 HE HE5 HD5 HB5
  go_region_held3 (fun w' => w'.cell? ⟨P, 0, none⟩ = some (.slice pc nc cc) ∧ w'.cell? ⟨P, 1, none⟩ = some (.slice pw 4 cw) ∧ w'.cell? ⟨P, 2, none⟩ = some (.slice (some ⟨bn, on, none⟩) 1 cn) ∧ w'.cell? ⟨bn, on, none⟩ = some (.int .i64 zs) ∧ w'.cell? ⟨bn, on + 1, none⟩ = some (.int .i64 1) ∧ w'.cell? ⟨bn, on + 2, none⟩ = some (.int .i64 3) ∧ w'.cell? ⟨bn, on + 3, none⟩ = some (.slice pt nt ct) ∧ w'.cell? ⟨bn, on + 4, none⟩ = some (.int .i64 zl))
    (first | (with_reducible exact HC.out _ HU5.out) | (with_reducible exact HC.out _ HU4.out) | (with_reducible exact HC.out _ HU3.out) | (with_reducible exact HC.out _ HU2.out) | (with_reducible exact HC.out _ HU2a.out) | (with_reducible exact HC.out _ HUA.out) | (with_reducible exact HC.out _ HU1.out) | (with_reducible exact HC.out _ HVd.out) | (with_reducible exact HC.out _ HV1.out) | go_keep)
    (first
      | ((with_reducible refine HT1.out.mono ?_); rintro e u1 ⟨rfl, nd, hu1⟩; have HU1 : Hid (Below V.heap.size V u1) := Lib.hid (by rw [hu1]; exact below_step HVd.out (below_drew _ _)); have HUA : Hid (Below V.heap.size V (u1.alloc (.cells #[.string ⟨#[98]⟩, .string ⟨#[99]⟩] 9))) := Lib.hid (below_step HU1.out (below_alloc _ _)); have HSB : Hid (TxsAt (u1.alloc (.cells #[.string ⟨#[98]⟩, .string ⟨#[99]⟩] 9)) (.slice (some ⟨u1.heap.size, 0, none⟩) 2 2) [[98], [99]]) := Lib.hid (slc_new txC_len u1 u1.heap.size rfl [[98], [99]] 9 (by simp) #[.string ⟨#[98]⟩, .string ⟨#[99]⟩] rfl); clear hu1)
      | ((with_reducible refine (HL.out _ HUA.out).mono ?_); rintro e u2 ⟨vl, rfl, hb2, hx2⟩; rw [HEl.out] at hx2; have HU2 := Lib.hid (below_step HUA.out hb2); have HT2 := Lib.hid (texts_self _ _ _ _ hx2 (HSB.out.mono hb2)); clear hb2 hx2)
      | ((with_reducible refine (HL.out _ HU1.out).mono ?_); rintro e u2 ⟨vl, rfl, hb2, hx2⟩; rw [HEl.out] at hx2; have hba := below_alloc u2 (.cells #[.string ⟨#[98]⟩, .string ⟨#[99]⟩] 9); have HU2a := Lib.hid (below_step HU1.out hb2); have HU2 := Lib.hid (below_step HU2a.out hba); have hsA : TxsAt (u2.alloc (.cells #[.string ⟨#[98]⟩, .string ⟨#[99]⟩] 9)) (.slice (some ⟨u2.heap.size, 0, none⟩) 2 2) [[98], [99]] := slc_new txC_len u2 u2.heap.size rfl [[98], [99]] 9 (by simp) #[.string ⟨#[98]⟩, .string ⟨#[99]⟩] rfl; have HT2 := Lib.hid (texts_self _ _ _ _ (hx2.mono hba) hsA); clear hb2 hx2 hba hsA)
      | ((with_reducible refine HT2.out.mono ?_); rintro e u3 ⟨rfl, nd3, hu3⟩; have HU3 : Hid (Below V.heap.size V u3) := Lib.hid (by rw [hu3]; exact below_step HU2.out (below_drew _ _)); clear hu3)
      | ((with_reducible refine (HS1.out _ HU3.out).mono ?_); rintro e u4 ⟨rfl, hb4⟩; have HU4 := Lib.hid (below_step HU3.out hb4); clear hb4)
      | ((with_reducible refine (HS2.out _ HU4.out).mono ?_); rintro e u5 ⟨rfl, hb5⟩; have HU5 := Lib.hid (below_step HU4.out hb5); clear hb5))
  all_goals
    go_wp2
    go_ret
    exact ⟨rfl, below_step HBV.out HU5.out⟩
end Go.Proofs.YtfjplhgajoehfaaGreatDoor
