/-
  The law FaultTexts: its walk. The text of any chain, and what chain any text is of, is as the document's own answer says.
-/
import Derived.Test.YthiaeppaaahlgaaDoorFixed
import Derived.Test.YthiaeppaaahlgaaDoorRead3
set_option linter.unusedVariables false
set_option linter.unusedSimpArgs false
namespace Go.Proofs.YthiaeppaaahlgaaDoor
open Go.RowKit Go.Extern.Stop Go.Stop Go.Extern Go.Sort

theorem eqFlt (c a code z : Int) (w : World) : (binOp .eql 24 (.agg #[.int .i64 c, .int .i64 a]) (.agg #[.int .i64 code, .int .i64 z])).run Tryd.prog w = .ok (.bool ((c == code) && (a == z))) w := by
  rw [run_eql_struct, eqin24 9998]
  rfl
theorem mixedB : Tryd.prog.follows .mixedOrders = true := by kernel_rfl
def ReadB (b : Bool) (c a : Int) (ms : List (List UInt8)) (w : World) (e : Ending) (w' : World) : Prop :=
  ∃ v ns, e = .returned (.tuple #[.agg #[.int .i64 c, .int .i64 a], v, .bool b]) ∧ StrsAt w' v ns ∧ lns ns = ms ∧ Below w.heap.size w w'
theorem strs_zero (w : World) (p : Option Addr) (cap : Nat) : StrsAt w (.slice p 0 cap) [] := ⟨⟨p, cap, rfl⟩, by unfold maxLen; simp, fun h => by simp at h⟩
theorem readB_of {l : List UInt8} : ∃ b c a ms, (∀ w e w', ReadPost (Fm.readText l) w e w' → ReadB b c a ms w e w') ∧ (b = true → Fm.readText l = some (c, a, ms)) ∧ (b = false → Fm.readText l = none) := by
  cases h : Fm.readText l with
  | none =>
    refine ⟨false, 0, 0, [], fun w e w' hp => ?_, (fun h => by cases h), fun _ => rfl⟩
    obtain ⟨he, hb⟩ := no_of hp
    exact ⟨_, [], he, strs_zero _ _ _, rfl, hb⟩
  | some x =>
    obtain ⟨c, a, ms⟩ := x
    refine ⟨true, c, a, ms, fun w e w' hp => ?_, (fun _ => rfl), fun h => by cases h⟩
    obtain ⟨v, ns, he, h1, h2, h3⟩ := yes_of hp
    exact ⟨v, ns, he, h1, h2, h3⟩
def Grw (w w' : World) : Prop := ∃ p : Regrown, w' = grow (redrawn w p.d) p.os

set_option maxHeartbeats 8000000 in
set_option maxRecDepth 1000000 in
theorem lawTexts_walk (c a : Int) (hc : -9223372036854775808 ≤ c ∧ c ≤ 9223372036854775807) (ha : -9223372036854775808 ≤ a ∧ a ≤ 9223372036854775807) (ns : List ByteArray) (v : Value) (s : ByteArray) (w : World) (hE : Env w) (hv : StrsAt w v ns)
    (hl : (Fm.chainText c a (lns ns)).length ≤ 140737488355328) (hs : s.size < 4294967281) (b : Bool) (c2 a2 : Int) (ms : List (List UInt8)) (hr : ∀ w e w', ReadPost (Fm.readText s.data.toList) w e w' → ReadB b c2 a2 ms w e w') :
    Calls Tryd.prog 3 #[.agg #[.int .i64 c, .int .i64 a], v, .string s] w (IsPost true w) := by
  have HB0 := Lib.hid (below_alloc w (.cells #[.int .i64 c, .int .i64 a] 24))
  have HE := Lib.hid hE
  have HV := Lib.hid hv
  have HL := Lib.hid hl
  have HR := Lib.hid hr
  have mixed := mixedB
  clear hE hv hl hr
  go_enter Tryd.func3, Tryd.ntmps3
  go_wp2_with fail
  refine (read_any s hs _ (HE.out.mono HB0.out)).mono ?_
  intro e w1 hp1
  obtain ⟨v1, n1, rfl, hs1, hn1, hb1⟩ := HR.out _ _ _ hp1
  clear hp1
  have HB1 := Lib.hid (below_step HB0.out hb1)
  have HS1 := Lib.hid hs1
  have HN1 := Lib.hid hn1
  have f0 : w1.cell? ⟨w.heap.size, 0, none⟩ = some (.int .i64 c) := cell_below hb1 (by simp)
  have f1 : w1.cell? ⟨w.heap.size, 1, none⟩ = some (.int .i64 a) := cell_below hb1 (by simp)
  clear hs1 hn1 hb1
  go_wp2_with fail
  refine (refRead_any s hs _).mono ?_
  intro e w2 hp2
  obtain ⟨v2, n2, rfl, hs2, hn2, hb2⟩ := HR.out _ _ _ hp2
  clear hp2
  have hb2' := below_step (below_alloc w1 (.cells #[.int .i64 c2, .int .i64 a2] 24)) hb2
  have HB2 := Lib.hid (below_step HB1.out hb2')
  have HS2 := Lib.hid hs2
  have HN2 := Lib.hid hn2
  have HS1' := Lib.hid (HS1.out.mono hb2')
  have f0' := cell_alloc (cell_below hb2' f0) (.cells #[.int .i64 c2, .int .i64 a2] 24)
  have f1' := cell_alloc (cell_below hb2' f1) (.cells #[.int .i64 c2, .int .i64 a2] 24)
  have g0 : w2.cell? ⟨w1.heap.size, 0, none⟩ = some (.int .i64 c2) := cell_below hb2 (by simp)
  have g1 : w2.cell? ⟨w1.heap.size, 1, none⟩ = some (.int .i64 a2) := cell_below hb2 (by simp)
  have g0' := cell_alloc g0 (.cells #[.int .i64 c2, .int .i64 a2] 24)
  have g1' := cell_alloc g1 (.cells #[.int .i64 c2, .int .i64 a2] 24)
  clear hs2 hn2 hb2 hb2' f0 f1 g0 g1
  go_wp2_with fail
  obtain ⟨W, hW⟩ : ∃ W, W = w2.alloc (.cells #[.int .i64 c2, .int .i64 a2] 24) := ⟨_, rfl⟩
  have m0 : W.cell? ⟨w2.heap.size, 0, none⟩ = some (.int .i64 c2) := by rw [hW]; simp
  have m1 : W.cell? ⟨w2.heap.size, 1, none⟩ = some (.int .i64 a2) := by rw [hW]; simp
  rw [← hW] at f0' f1' g0' g1'
  have HBW : Hid (Below w.heap.size w W) := by rw [hW]; exact below_step HB2.out (below_alloc _ _)
  have HV1 : Hid (StrsAt W v1 n1) := by rw [hW]; exact HS1'.out.mono (below_alloc _ _)
  have HV2 : Hid (StrsAt W v2 n2) := by rw [hW]; exact HS2.out.mono (below_alloc _ _)
  have HTX : Hid (decide (lns n1 = lns n2) = true) := decide_eq_true (by rw [HN1.out, HN2.out])
  rw [← hW]
  clear hW
  have k0 := cell_regrown f0'
  have k1 := cell_regrown f1'
  have k2 := cell_regrown g0'
  have k3 := cell_regrown g1'
  have k4 := cell_regrown m0
  have k5 := cell_regrown m1
  have cF : ∀ d os, Calls Tryd.prog 8 #[] (grow (redrawn W d) os) fun e w'' => e = .returned (.bool true) ∧ ∃ p : Regrown, w'' = grow (redrawn W p.d) p.os := fun d os => Calls.regrown_of (fixed_any _ (HE.out.mono (below_step HBW.out (below_regrown W d os))))
  have cT : ∀ d os, Calls Tryd.prog 9 #[.agg #[.int .i64 c, .int .i64 a], v] (grow (redrawn W d) os) fun e w'' => e = .returned (.string ⟨(Fm.chainText c a (lns ns)).toArray⟩) ∧ ∃ p : Regrown, w'' = grow (redrawn W p.d) p.os := fun d os => Calls.regrown_of (text_any c a hc ha ns v _ (HE.out.mono (below_step HBW.out (below_regrown W d os))) (HV.out.mono (below_step HBW.out (below_regrown W d os))) HL.out)
  have cR : ∀ d os, Calls Tryd.prog 10 #[.agg #[.int .i64 c, .int .i64 a], v] (grow (redrawn W d) os) fun e w'' => e = .returned (.string ⟨(Fm.chainText c a (lns ns)).toArray⟩) ∧ ∃ p : Regrown, w'' = grow (redrawn W p.d) p.os := fun d os => Calls.regrown_of (refText_any c a hc ha ns v _ (HV.out.mono (below_step HBW.out (below_regrown W d os))) HL.out)
  have cX : ∀ d os, Calls Tryd.prog 11 #[v1, v2] (grow (redrawn W d) os) fun e w'' => e = .returned (.bool true) ∧ ∃ p : Regrown, w'' = grow (redrawn W p.d) p.os := fun d os => Calls.regrown_of ((texts_at v1 v2 n1 n2 true HTX.out _ (HV1.out.mono (below_regrown W d os)) (HV2.out.mono (below_regrown W d os))).mono fun e w' ⟨he, n, hw⟩ => ⟨he, by rw [hw]; exact below_drewN (Below.refl _ _) n⟩)
  have hq := eqFlt c2 a2 c2 a2
  clear f0' f1' g0' g1' m0 m1
  cases b
  all_goals
   refine wp_region_quiet_below (by assumption) (by kernel_rfl) ?_
   repeat (quiet_step (first | exact cF _ _ | exact cT _ _ | exact cR _ _ | exact cX _ _))
   refine wpQuiet_nil ?_
   intro _ hw'
   obtain ⟨⟨dq, osq⟩, hw''⟩ := hw'
   subst hw''
   go_wp2_with fail
   go_ret
   exact ⟨by simp, below_step HBW.out (below_regrown W dq osq)⟩

/-- THE LAW, AT EVERY CHAIN WHOSE TEXT FITS AND EVERY TEXT OF FEWER THAN 4294967281 BYTES. -/
theorem lawTexts_any (c a : Int) (hc : -9223372036854775808 ≤ c ∧ c ≤ 9223372036854775807) (ha : -9223372036854775808 ≤ a ∧ a ≤ 9223372036854775807) (ns : List ByteArray) (v : Value) (s : ByteArray) (w : World) (hE : Env w) (hv : StrsAt w v ns)
    (hl : (Fm.chainText c a (lns ns)).length ≤ 140737488355328) (hs : s.size < 4294967281) :
    Calls Tryd.prog 3 #[.agg #[.int .i64 c, .int .i64 a], v, .string s] w (IsPost true w) := by
  obtain ⟨b, c2, a2, ms, h, _⟩ := readB_of (l := s.data.toList)
  exact lawTexts_walk c a hc ha ns v s w hE hv hl hs b c2 a2 ms h
end Go.Proofs.YthiaeppaaahlgaaDoor
