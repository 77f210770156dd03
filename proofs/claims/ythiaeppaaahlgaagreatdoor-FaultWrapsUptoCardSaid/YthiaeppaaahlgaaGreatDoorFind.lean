/-
  The program's stagesOf and Find: the stages of a chain in their order, and the fault as it was.
-/
import Derived.Test.YthiaeppaaahlgaaGreatDoorAsCall
import Derived.Deep.RegionHeld3
set_option linter.unusedVariables false
set_option linter.unusedSimpArgs false
namespace Go.Proofs.YthiaeppaaahlgaaGreatDoor
open Go.RowKit Go.Extern.Stop Go.Stop Go.Extern

theorem ErrTy.mono {w w' : World} (hb : Below w.heap.size w w') (h : ErrTy w) : ErrTy w' := cell_below hb h
theorem Own.keptBut {B bt : Nat} {v : Value} {ns : List ByteArray} {w w' : World} (h : Own B v ns w) (hg : w.grownBy w' (some bt)) (hb : bt < B) : Own B v ns w' :=
  World.ownsRow.kept h hg (by
    cases e : v.ownBlock with
    | none => exact .inl rfl
    | some k =>
      right
      intro hk
      injection hk with hk
      have := (World.ownsRow.lt h k e).1
      omega)
theorem own_ne {w : World} {B bt : Nat} {e : TypeId} {size : Nat} {v : Value} {n : Nat} {xs : List Value} (h : w.ownsRow B e size v n xs) (hb : bt < B) : some bt ≠ v.ownBlock := by
  intro hk
  have := (World.ownsRow.lt h bt hk.symm).1
  omega
theorem frozen_grown {w w' : World} {row : Option Nat} (hg : w.grownBy w' row) {bt i : Nat} (hlt : bt < w.heap.size) (hne : some bt ≠ row) (h : w.frozen? ⟨bt, i, none⟩ = false) : w'.frozen? ⟨bt, i, none⟩ = false := by
  rw [World.frozen?_of_block (w := w) (hg.block bt hlt hne)]; exact h
theorem own_snoc {B : Nat} {v : Value} {dn : List ByteArray} {n : ByteArray} {w : World} (h : w.ownsRow B 9 1 v (dn.length + 1) (dn.map Value.string ++ [Value.string n])) : Hid (Own B v (dn ++ [n]) w) := by
  show World.ownsRow _ _ _ _ _ _ _
  rw [List.length_append, List.map_append]
  exact h
/-- v is a slice of length n with at least as much room -/
def CapOk (v : Value) (n : Nat) : Prop := ∃ p cap, v = .slice p n cap ∧ n ≤ cap
theorem Own.cap {B : Nat} {v : Value} {ns : List ByteArray} {w : World} (h : Own B v ns w) : CapOk v ns.length := by
  rcases h.2 with ⟨rfl, hn⟩ | ⟨g, cap, cur, rfl, _, _, hcap, _⟩
  · exact ⟨none, 0, by rw [hn], by omega⟩
  · exact ⟨_, _, rfl, hcap⟩
def StrsPost (ns : List ByteArray) (w : World) (e : Ending) (w' : World) : Prop := ∃ v, e = .returned v ∧ (StrsAt w' v ns ∧ CapOk v ns.length) ∧ Below w.heap.size w w'

set_option maxHeartbeats 4000000 in
set_option maxRecDepth 100000 in
theorem stagesOf_any (c a : Int) (ns : List ByteArray) (hn : ns.length ≤ 1000) (v : Value) (w : World) (hE : ErrTy w) (hch : ChainAt w c a ns v) :
    Calls Tryz.prog 14 #[v] w (StrsPost ns w) := by
  obtain ⟨i0, hi, hz0, hz1, hz2⟩ := info_parts infoStr
  have HE := Lib.hid hE
  have HV := Lib.hid hch
  clear hE hch
  obtain ⟨ty, x, rfl⟩ := HV.out.isIface
  go_enter Tryz.func14, Tryz.ntmps14
  go_wp2_with fail
  go_loopg [0, 3] ns.length (fun k err names wr => ∃ dn rs : List ByteArray, rs.length = k ∧ ns = dn ++ rs ∧ ChainAt w c a rs err ∧ Own (w.heap.size + 1) names dn wr ∧ Below w.heap.size w wr ∧ (∃ o, wr.cell? ⟨w.heap.size, 0, none⟩ = some o) ∧ wr.frozen? ⟨w.heap.size, 0, none⟩ = false)
  case atStart => exact ⟨[], ns, rfl, rfl, HV.out, own_nil _ _, below_alloc _ _, ⟨.pointer none, by simp⟩, by simp⟩
  case round =>
    obtain ⟨dn, rs, hk, hns, hr, hown, hb, ⟨o, ho⟩, hf⟩ := hrel
    have HK := Lib.hid hk
    have HNS := Lib.hid hns
    have HB := Lib.hid hb
    have HO := Lib.hid hown
    have HF := Lib.hid hf
    have HC := Lib.hid ho
    have hsz : w.heap.size < wr.heap.size := lt_of_cell ho
    have hdn : dn.length ≤ 1000 := by rw [hns] at hn; rw [List.length_append] at hn; omega
    clear hk hns hb hown hf ho
    cases rs with
    | nil =>
      have e := hr
      unfold ChainAt at e
      subst e
      clear hr
      go_wp2_with fail
      refine (asCallS_miss c a w.heap.size wr (HE.out.mono HB.out)).mono ?_
      rintro e w1 ⟨rfl, hb1⟩
      have HB1 := Lib.hid (below_step HB.out hb1)
      have HO1 := Lib.hid (HO.out.kept hb1)
      clear hb1
      go_wp2_with fail
      go_ret
      have e := HNS.out
      rw [List.append_nil] at e
      exact ⟨_, rfl, by rw [e]; exact ⟨HO1.out.strs, HO1.out.cap⟩, HB1.out⟩
    | cons n r =>
      obtain ⟨b, inner, e, hc0, hc1, hr⟩ := hr
      subst e
      obtain ⟨ty', x', rfl⟩ := hr.isIface
      have HR := Lib.hid hr
      have HC0 := Lib.hid hc0
      have HC1 := Lib.hid hc1
      clear hr hc0 hc1
      go_wp2_with fail
      refine (asCallS_hit b w.heap.size o wr (HE.out.mono HB.out) HC.out HF.out).mono ?_
      rintro e w1 ⟨rfl, hg1, hc, hf1⟩
      have HB1 := Lib.hid (HB.out.grown hg1 (Nat.le_of_lt hsz) (fun k hk => by injection hk with hk; omega))
      have HO1 := Lib.hid (HO.out.keptBut hg1 (Nat.lt_succ_self _))
      have HF1 := Lib.hid hf1
      have hsz1 : w.heap.size < w1.heap.size := lt_of_cell hc
      have n0 : w1.cell? ⟨b, 0, none⟩ = some (.string n) := cell_below HB1.out HC0.out
      clear hg1 hf1
      have hown := World.ownsRow.alloc HO1.out (.cells #[.string n] 9)
      go_wp2_with (at_builtin; refine wpList_append_own _ rfl _ _ 25 rfl (w.heap.size + 1) 9 i0 (.string ByteArray.empty) 1 16 Tryz.underlying25 hi hz0 hz1 hz2 rfl (by decide) _ _ _ rfl hown ⟨w1.heap.size, 0, none⟩ 1 1 [.string n] rfl rfl (cell_one_new _ _ _) (fun z hz => by simp at hz; subst hz; rfl) (by unfold maxLen; omega) (by omega) (by simp; omega) ?_; intro v' w3 hown' hgrow3 hnil3; have HB3 := Lib.hid ((HB1.out.alloc (Nat.le_of_lt hsz1) (.cells #[.string n] 9)).grown hgrow3 (by simp; omega) (fun q hq => Nat.le_of_lt (hown.lt q hq).1)); have c3 : w3.cell? ⟨w.heap.size, 0, none⟩ = some (.pointer (some ⟨b, 0, none⟩)) := World.grownBy.cell hgrow3 (cell_allocs hc _) (own_ne hown (Nat.lt_succ_self _)); have f3 : Hid (w3.frozen? ⟨w.heap.size, 0, none⟩ = false) := Lib.hid (frozen_grown hgrow3 (by simp; omega) (own_ne hown (Nat.lt_succ_self _)) (frozen_allocs hsz1 HF1.out _)); have n1 : w3.cell? ⟨b, 1, none⟩ = some (.iface ty' x') := cell_below HB3.out HC1.out; have HO3 : Hid (Own (w.heap.size + 1) v' (dn ++ [n]) w3) := own_snoc hown'; clear hown hown' hgrow3 hnil3)
      go_roundg r.length
      case measure => have := HK.out; simp at this; omega
      case rel => exact ⟨dn ++ [n], r, rfl, by rw [HNS.out]; simp, HR.out, HO3.out, HB3.out, ⟨_, c3⟩, f3.out⟩

theorem strs_set {w : World} {v : Value} {ns : List ByteArray} (h : StrsAt w v ns) {p : Addr} {k : IntKind} {z : Int} (hp : w.cell? p = some (.int k z)) (y : Value) : StrsAt (w.setCell p y) v ns := by
  obtain ⟨h1, h2, h3⟩ := h
  refine ⟨h1, h2, fun hl => ?_⟩
  obtain ⟨b, o, cap, e, hc⟩ := h3 hl
  refine ⟨b, o, cap, e, fun i s hs => ?_⟩
  rw [World.cell?_setCell_other _ _ _ _ (by intro e; rw [e, hc i s hs] at hp; injection hp with hp; cases hp)]
  exact hc i s hs
theorem two_other (W : World) {b b' i : Nat} (h : b ≠ b') (x y : Value) : ((W.setCell ⟨b, 0, none⟩ x).setCell ⟨b, 1, none⟩ y).cell? ⟨b', i, none⟩ = W.cell? ⟨b', i, none⟩ := by
  rw [World.cell?_setCell_other _ _ _ _ (by intro e; injection e with e _ _; exact h e), World.cell?_setCell_other _ _ _ _ (by intro e; injection e with e _ _; exact h e)]
def FindCap (c a : Int) (ns : List ByteArray) (w : World) (e : Ending) (w' : World) : Prop :=
  ∃ v, e = .returned (.tuple #[.agg #[.int .i64 c, .int .i64 a], v]) ∧ (StrsAt w' v ns ∧ CapOk v ns.length) ∧ Below w.heap.size w w'
def FindPost (c a : Int) (ns : List ByteArray) (w : World) (e : Ending) (w' : World) : Prop :=
  ∃ v, e = .returned (.tuple #[.agg #[.int .i64 c, .int .i64 a], v]) ∧ StrsAt w' v ns ∧ Below w.heap.size w w'

set_option maxHeartbeats 4000000 in
set_option maxRecDepth 100000 in
/-- Find: whatever the stages, the fault as it was, and its stages in their order. -/
theorem find_cap (c a : Int) (ns : List ByteArray) (hn : ns.length ≤ 1000) (v : Value) (w : World) (hE : ErrTy w) (hv : StrsAt w v ns) :
    Calls Tryz.prog 6 #[.agg #[.int .i64 c, .int .i64 a], v] w (FindCap c a ns w) := by
  have HE := Lib.hid hE
  have HV := Lib.hid hv
  have HB0 : Hid (Below w.heap.size w ((w.alloc (.cells #[.int .i64 c, .int .i64 a] 24)).alloc (.cells #[.int .i64 0, .int .i64 0] 24))) := below_step (below_alloc _ _) (below_alloc _ _)
  clear hE hv
  go_enter Tryz.func6, Tryz.ntmps6
  go_wp2_with fail
  refine (wrap_any c a v ns _ (HV.out.mono HB0.out)).mono ?_
  rintro e w1 ⟨v1, rfl, hch, hb1⟩
  have HB1 := Lib.hid (below_step HB0.out hb1)
  have HC := Lib.hid hch
  have HW1 := Lib.hid hb1
  clear hb1 hch
  go_wp2_with fail
  refine (asCallF c a ns v1 w1.heap.size (.int .i64 0) (.int .i64 0) _ ((HE.out.mono HB1.out).mono (below_alloc _ _)) (HC.out.mono (below_alloc _ _)) (by simp) (by simp) (by simp) (by simp)).mono ?_
  rintro e w2 ⟨rfl, hg2, t0, t1⟩
  have hb2 : Below w1.heap.size w1 w2 := (below_alloc _ _).grown hg2 (by simp) (fun k hk => by injection hk with hk; omega)
  have HB2 := Lib.hid (below_step HB1.out hb2)
  have HW2 := Lib.hid (below_step HW1.out hb2)
  have HC2 := Lib.hid (HC.out.mono hb2)
  have T0 := Lib.hid t0
  have T1 := Lib.hid t1
  clear hb2 hg2
  go_wp2_with fail
  have HNE : Hid (w.heap.size + 1 ≠ w1.heap.size) := by
    show _ ≠ _
    have := HW1.out.size
    simp at this
    omega
  have HD : Hid (Below w2.heap.size w2 w2.drew) := Lib.hid ⟨rfl, rfl, rfl, Nat.le_refl _, fun _ _ => rfl⟩
  go_region_held3 (fun w' => w'.cell? ⟨w1.heap.size, 0, none⟩ = some (.int .i64 c) ∧ w'.cell? ⟨w1.heap.size, 1, none⟩ = some (.int .i64 a)) (first | go_keep | exact ⟨cell_below HB3.out T0.out, cell_below HB3.out T1.out⟩ | exact ⟨(two_other _ HNE.out _ _).trans (cell_below HB3.out T0.out), (two_other _ HNE.out _ _).trans (cell_below HB3.out T1.out)⟩)
    ((go_at_call 14; refine (stagesOf_any c a ns hn v1 _ ((HE.out.mono HB2.out).mono HD.out) (HC2.out.mono HD.out)).mono ?_; rintro e w3 ⟨v3, rfl, hs3, hb3⟩; have HB3 := Lib.hid (below_step HD.out hb3); have HW3 := Lib.hid (below_step HW2.out HB3.out); have HS3 := Lib.hid hs3; have r0 : w3.cell? ⟨w.heap.size + 1, 0, none⟩ = some (.int .i64 0) := cell_below HW3.out (by simp); have r1 : w3.cell? ⟨w.heap.size + 1, 1, none⟩ = some (.int .i64 0) := cell_below HW3.out (by simp); have r2 : w3.frozen? ⟨w.heap.size + 1, 0, none⟩ = false := (by rw [HW3.out.frozen (by simp)]; simp); have r3 : w3.frozen? ⟨w.heap.size + 1, 1, none⟩ = false := (by rw [HW3.out.frozen (by simp)]; simp); clear hs3 hb3))
  go_wp2_with fail
  have HBW : Hid (Below w.heap.size w ((w3.setCell ⟨w.heap.size + 1, 0, none⟩ (.int .i64 c)).setCell ⟨w.heap.size + 1, 1, none⟩ (.int .i64 a))) := Lib.hid (Below.setCell (Below.setCell (below_step HB2.out HB3.out) (Nat.le_succ _) _) (Nat.le_succ _) _)
  have HSW : Hid (StrsAt ((w3.setCell ⟨w.heap.size + 1, 0, none⟩ (.int .i64 c)).setCell ⟨w.heap.size + 1, 1, none⟩ (.int .i64 a)) v3 ns) := Lib.hid (strs_set (strs_set HS3.out.1 r0 _) (by rw [World.cell?_setCell_other _ _ _ _ (by intro h; injection h with _ h _; cases h)]; exact r1) _)
  have hc := two_cells w3 (w.heap.size + 1) c a _ _ r0 r1
  have q0 := hc.1
  have q1 := hc.2
  exact bodyPost_ret (v := .tuple #[.agg #[.int .i64 c, .int .i64 a], v3]) (by simp [results, Tryz.results6, go_sem, q0, q1]) rfl ⟨v3, rfl, ⟨HSW.out, HS3.out.2⟩, HBW.out⟩
theorem find_any (c a : Int) (ns : List ByteArray) (hn : ns.length ≤ 1000) (v : Value) (w : World) (hE : ErrTy w) (hv : StrsAt w v ns) :
    Calls Tryz.prog 6 #[.agg #[.int .i64 c, .int .i64 a], v] w (FindPost c a ns w) :=
  (find_cap c a ns hn v w hE hv).mono fun _ _ ⟨v', he, hs, hb⟩ => ⟨v', he, hs.1, hb⟩
end Go.Proofs.YthiaeppaaahlgaaGreatDoor
