/-
  The law FaultWraps: its walk. A stage more stands ahead of the text, and of the stages that are found; the fault stays.
-/
import Derived.Test.YthiaeppaaahlgaaGreatDoorFind
import Derived.Laws.AppendOwnNone
set_option linter.unusedVariables false
set_option linter.unusedSimpArgs false
namespace Go.Proofs.YthiaeppaaahlgaaGreatDoor
open Go.RowKit Go.Extern.Stop Go.Stop Go.Extern Go.Sort

theorem eqFltW (c a code z : Int) (w : World) : (binOp .eql 24 (.agg #[.int .i64 c, .int .i64 a]) (.agg #[.int .i64 code, .int .i64 z])).run Tryz.prog w = .ok (.bool ((c == code) && (a == z))) w := by
  rw [run_eql_struct, eqin24 9998]
  rfl
theorem mixedW : Tryz.prog.follows .mixedOrders = true := by kernel_rfl

/-- what is appended: nothing, or a row of strings -/
def Src (w : World) (p : Option Addr) (ns : List ByteArray) (cap : Nat) : Prop :=
  (p = none ∧ ns = [] ∧ cap = 0) ∨ ∃ ad : Addr, p = some ad ∧ ∀ (j : Nat) (s : ByteArray), ns[j]? = some s → w.cell? (ad.add j) = some (.string s)
theorem Src.mono {w w' : World} {p : Option Addr} {ns : List ByteArray} {cap : Nat} (hb : Below w.heap.size w w') (h : Src w p ns cap) : Src w' p ns cap := by
  rcases h with h | ⟨ad, hp, hc⟩
  · exact .inl h
  · exact .inr ⟨ad, hp, fun j s hs => cell_below hb (hc j s hs)⟩

theorem wpList_append_strs {w : World} {ops : Array Oper} {rest : List Oper} {o : Oper} {a : Act} {Q : Exit → Act → World → Prop} (hgd : o.guard = none) (s x : Operand)
    (ho : o.op = .call { callee := .builtin .append, args := #[s, x], argTypes := #[25, 25] })
    (base : Nat) (v : Value) (dn : List ByteArray) (hs : a.eval s = v) (hown : Own base v dn w)
    (p : Option Addr) (ns : List ByteArray) (cap : Nat) (hx : a.eval x = .slice p ns.length cap) (hsrc : Src w p ns cap) (hlen : dn.length + ns.length ≤ 1000) (hbase : base ≤ w.heap.size)
    (h : ∀ v' w', Own base v' (dn ++ ns) w' → w.grownBy w' v.ownBlock → wpList Tryz.prog ops Q rest (a.put o.dst v') w') : wpList Tryz.prog ops Q (o :: rest) a w := by
  obtain ⟨i0, hi, hz0, hz1, hz2⟩ := info_parts infoStr
  rcases hsrc with ⟨rfl, rfl, rfl⟩ | ⟨ad, rfl, hc⟩
  · refine wpList_append_own_none hgd s x _ ho base 9 i0 1 Tryz.underlying25 hi v dn.length _ hs hown hx (h v w (by rw [List.append_nil]; exact hown) ⟨rfl, rfl, rfl, Nat.le_refl _, fun _ _ _ => rfl⟩)
  · refine wpList_append_own w hgd s x _ ho base 9 i0 (.string ByteArray.empty) 1 16 Tryz.underlying25 hi hz0 hz1 hz2 rfl (by decide) v dn.length _ hs hown ad ns.length cap (ns.map Value.string) hx (by simp) (fun j u hu => ?_) (fun u hu => ?_) (by unfold maxLen; omega) (by omega) hbase fun v' w' h1 h2 _ => h v' w' ?_ h2
    · rw [List.getElem?_map] at hu
      obtain ⟨s, hs, rfl⟩ := Option.map_eq_some_iff.1 hu
      exact hc j s hs
    · obtain ⟨s, _, rfl⟩ := List.mem_map.1 hu
      rfl
    · show World.ownsRow _ _ _ _ _ _ _
      rw [List.length_append, List.map_append]
      exact h1

/-- the rest of a slice of strings, as the language cuts it -/
theorem strs_tail {W : World} {b o cap : Nat} {n : ByteArray} {ns : List ByteArray} (hm : ns.length ≤ maxLen) (hcap : ns.length + 1 ≤ cap) (hc : ∀ i s, (n :: ns)[i]? = some s → W.cell? ⟨b, o + i, none⟩ = some (.string s)) :
    StrsAt W (.slice (if cap = 1 then some ⟨b, o, none⟩ else some ⟨b, o + 1, none⟩) ns.length (cap - 1)) ns := by
  refine ⟨⟨_, _, rfl⟩, hm, fun hp => ⟨b, o + 1, cap - 1, by rw [if_neg (by omega)], fun i s hs => ?_⟩⟩
  have := hc (i + 1) s (by simpa using hs)
  rw [show o + 1 + i = o + (i + 1) by omega]
  exact this

set_option maxHeartbeats 2000000 in
set_option maxRecDepth 100000 in
theorem lawWraps_big (c a : Int) (m : Nat) (hm : 100 < m) (p : Option Addr) (cap : Nat) (more : ByteArray) (w : World) (hE : Env w) :
    Calls Tryz.prog 4 #[.agg #[.int .i64 c, .int .i64 a], .slice p m cap, .string more] w (IsPost true w) := by
  have HE := Lib.hid hE
  have HB0 : Hid (Below w.heap.size w (w.alloc (.cells #[.int .i64 c, .int .i64 a] 24))) := below_alloc _ _
  clear hE
  go_enter Tryz.func4, Tryz.ntmps4
  go_wp2_with fail
  refine (fixed_any _ (HE.out.mono HB0.out)).mono ?_
  rintro e w1 ⟨rfl, hb1⟩
  have HB1 := Lib.hid (below_step HB0.out hb1)
  clear hb1
  go_wp2_with fail
  refine (fixed_any w1 (HE.out.mono HB1.out)).mono ?_
  rintro e w2 ⟨rfl, hb2⟩
  have HB2 := Lib.hid (below_step HB1.out hb2)
  clear hb2
  go_wp2_with fail
  go_ret
  exact ⟨rfl, HB2.out⟩

theorem elemStrs : Tryz.prog.elem 25 = 9 := by kernel_rfl
theorem sizeStr (wx : World) : (sizeOf 9).run Tryz.prog wx = .ok 1 wx := by kernel_rfl
theorem run_tail (b o n cap : Nat) (wx : World) : (Instr.slice 25 (.slice (some ⟨b, o, none⟩) (n + 1) cap) (some (.int .i64 1)) none none).run Tryz.prog wx = .ok (.slice (if cap = 1 then some ⟨b, o, none⟩ else some ⟨b, o + 1, none⟩) n (cap - 1)) wx := by
  rw [run_slice_l (ht := by rw [elemStrs]; exact Tryz.underlying25) (h0 := by omega) (h1 := by omega), elemStrs, sizeStr]
  simp [Result.andThen, sliced, Addr.add]
theorem ba_ext {a b : ByteArray} (h : a.data.toList = b.data.toList) : a = b := by
  obtain ⟨⟨a⟩⟩ := a; obtain ⟨⟨b⟩⟩ := b; simp at h; rw [h]

set_option maxHeartbeats 4000000 in
set_option maxRecDepth 1000000 in
theorem lawWraps_some (c a : Int) (hc : -9223372036854775808 ≤ c ∧ c ≤ 9223372036854775807) (ha : -9223372036854775808 ≤ a ∧ a ≤ 9223372036854775807) (ns : List ByteArray) (hn : ns.length ≤ 100) (p : Option Addr) (cap : Nat) (more : ByteArray) (w : World) (hE : Env w) (hT : ErrTy w)
    (hv : StrsAt w (.slice p ns.length cap) ns) (hsrc : Src w p ns cap) (hl : (Fm.chainText c a (lns (more :: ns))).length ≤ 140737488355328) :
    Calls Tryz.prog 4 #[.agg #[.int .i64 c, .int .i64 a], .slice p ns.length cap, .string more] w (IsPost true w) := by
  have HE := Lib.hid hE
  have HT := Lib.hid hT
  have HV := Lib.hid hv
  have HR := Lib.hid hsrc
  have HL := Lib.hid hl
  have mixed := mixedW
  have HB0 : Hid (Below w.heap.size w (w.alloc (.cells #[.int .i64 c, .int .i64 a] 24))) := below_alloc _ _
  clear hE hT hv hsrc hl
  go_enter Tryz.func4, Tryz.ntmps4
  go_wp2_with fail
  refine (fixed_any _ (HE.out.mono HB0.out)).mono ?_
  rintro e w1 ⟨rfl, hb1⟩
  have HB1 := Lib.hid (below_step HB0.out hb1)
  have f0 : w1.cell? ⟨w.heap.size, 0, none⟩ = some (.int .i64 c) := cell_below hb1 (by simp)
  have f1 : w1.cell? ⟨w.heap.size, 1, none⟩ = some (.int .i64 a) := cell_below hb1 (by simp)
  have hown : Own w1.heap.size (.slice (some ⟨w1.heap.size, 0, none⟩) 1 1) [more] (w1.alloc (.cells #[.string more] 9)) := World.ownsRow_lit w1 #[.string more] 1 (Nat.le_refl _) (by unfold maxLen; omega) rfl
  clear hb1
  go_wp2_with (at_builtin; refine wpList_append_strs rfl _ _ rfl w1.heap.size _ [more] rfl hown p ns cap rfl (HR.out.mono (below_step HB1.out (below_alloc _ _))) (by simp; omega) (by simp) ?_; intro v3 w3 hown3 hgrow3; have hb3 : Below w1.heap.size w1 w3 := (below_alloc w1 _).grown hgrow3 (by simp) (fun q hq => by injection hq with hq; exact Nat.le_of_eq hq); have g0 := cell_below hb3 f0; have g1 := cell_below hb3 f1; have HB3 := Lib.hid (below_step HB1.out hb3); have HO3 := Lib.hid hown3; clear hb3 hown3 hgrow3 hown)
  obtain ⟨p3, cap3, e3, hcap3⟩ := HO3.out.cap
  have HS3 := Lib.hid HO3.out.strs
  simp only [List.singleton_append, List.length_cons] at e3 hcap3
  subst e3
  have hl3 : (more :: ns).length ≤ 1000 := by rw [List.length_cons]; omega
  refine (find_cap c a (more :: ns) hl3 _ w3 (HT.out.mono HB3.out) HS3.out).mono ?_
  rintro e w4 ⟨v4, rfl, ⟨hs4, hc4⟩, hb4⟩
  have HB4 := Lib.hid (below_step HB3.out hb4)
  have HS4 := Lib.hid hs4
  have HS3' := Lib.hid (HS3.out.mono hb4)
  have r0 := cell_alloc (cell_below hb4 g0) (.cells #[.int .i64 c, .int .i64 a] 24)
  have r1 := cell_alloc (cell_below hb4 g1) (.cells #[.int .i64 c, .int .i64 a] 24)
  clear hs4 hb4 f0 f1 g0 g1
  obtain ⟨p4, cap4, e4, hcap4⟩ := hc4
  obtain ⟨b, o, cap', e4', hcell⟩ := HS4.out.2.2 (by simp)
  rw [e4] at e4'
  obtain ⟨q1, _, q2⟩ := Value.slice.inj e4'
  subst q1
  subst q2
  clear e4'
  rw [List.length_cons] at e4 hcap4
  subst e4
  have HK := Lib.hid hcell
  clear hcell
  go_wp2_with fail
  obtain ⟨W, hW⟩ : ∃ W, W = w4.alloc (.cells #[.int .i64 c, .int .i64 a] 24) := ⟨_, rfl⟩
  have m0 : W.cell? ⟨w4.heap.size, 0, none⟩ = some (.int .i64 c) := by rw [hW]; simp
  have m1 : W.cell? ⟨w4.heap.size, 1, none⟩ = some (.int .i64 a) := by rw [hW]; simp
  have z0 : W.cell? ⟨b, o, none⟩ = some (.string more) := by rw [hW]; exact cell_alloc (HK.out 0 more rfl) _
  rw [← hW] at r0 r1
  have HBW : Hid (Below w.heap.size w W) := by rw [hW]; exact below_step HB4.out (below_alloc _ _)
  have HAW : Hid (StrsAt W (.slice p3 (ns.length + 1) cap3) (more :: ns)) := by rw [hW]; exact HS3'.out.mono (below_alloc _ _)
  obtain ⟨VS, hVS⟩ : ∃ VS : Value, VS = .slice (if cap4 = 1 then some ⟨b, o, none⟩ else some ⟨b, o + 1, none⟩) ns.length (cap4 - 1) := ⟨_, rfl⟩
  have HTW : Hid (StrsAt W VS ns) := by
    rw [hW, hVS]
    exact strs_tail (HV.out.2.1) hcap4 (fun i s hs => cell_alloc (HK.out i s hs) _)
  rw [← hW]
  clear hW
  obtain ⟨T, hT⟩ : ∃ T : ByteArray, T = ⟨(Fm.chainText c a (lns ns)).toArray⟩ := ⟨_, rfl⟩
  have HTA : Hid ((⟨(Fm.chainText c a (lns (more :: ns))).toArray⟩ : ByteArray) = more ++ ⟨#[58, 32]⟩ ++ T) := by
    show _ = _
    rw [hT, chain_cons]
    exact ba_ext (by simp)
  have hsz : more.size + T.size + 2 ≤ 140737488355328 := by
    have := HL.out
    rw [chain_cons] at this
    simp only [List.length_append, List.length_cons, List.length_nil] at this
    have h1 := Lib.size_eq more
    have h2 := arr_size (Fm.chainText c a (lns ns))
    rw [← hT] at h2
    omega
  have HL0 : Hid ((Fm.chainText c a (lns ns)).length ≤ 140737488355328) := by
    have := HL.out
    rw [chain_cons] at this
    simp only [List.length_append, List.length_cons, List.length_nil] at this
    show _ ≤ _
    omega
  have k0 := cell_regrown r0
  have k1 := cell_regrown r1
  have k2 := cell_regrown m0
  have k3 := cell_regrown m1
  have k4 := cell_regrown z0
  have HTX : Hid (decide (lns ns = lns ns) = true) := decide_eq_true rfl
  have cA : ∀ d os, Calls Tryz.prog 9 #[.agg #[.int .i64 c, .int .i64 a], .slice p3 (ns.length + 1) cap3] (grow (redrawn W d) os) fun e w'' => e = .returned (.string (more ++ ⟨#[58, 32]⟩ ++ T)) ∧ ∃ p : Regrown, w'' = grow (redrawn W p.d) p.os := fun d os => Calls.regrown_of ((text_any c a hc ha (more :: ns) _ _ (HE.out.mono (below_step HBW.out (below_regrown W d os))) (HAW.out.mono (below_regrown W d os)) HL.out).mono fun e w' ⟨he, hb⟩ => ⟨by rw [he, HTA.out], hb⟩)
  have cT : ∀ d os, Calls Tryz.prog 9 #[.agg #[.int .i64 c, .int .i64 a], .slice p ns.length cap] (grow (redrawn W d) os) fun e w'' => e = .returned (.string T) ∧ ∃ p : Regrown, w'' = grow (redrawn W p.d) p.os := fun d os => Calls.regrown_of ((text_any c a hc ha ns _ _ (HE.out.mono (below_step HBW.out (below_regrown W d os))) (HV.out.mono (below_step HBW.out (below_regrown W d os))) HL0.out).mono fun e w' ⟨he, hb⟩ => ⟨by rw [he, hT], hb⟩)
  have cX : ∀ d os, Calls Tryz.prog 7 #[VS, .slice p ns.length cap] (grow (redrawn W d) os) fun e w'' => e = .returned (.bool true) ∧ ∃ p : Regrown, w'' = grow (redrawn W p.d) p.os := fun d os => Calls.regrown_of ((texts_at _ _ ns ns true HTX.out _ (HTW.out.mono (below_regrown W d os)) (HV.out.mono (below_step HBW.out (below_regrown W d os)))).mono fun e w' ⟨he, n, hw⟩ => ⟨he, by rw [hw]; exact below_drewN (Below.refl _ _) n⟩)
  have hq := eqFltW c a c a
  have hx1 : ∀ wx, (Op.stringOp .add more ⟨#[58, 32]⟩).run Tryz.prog wx = .ok (.string (more ++ ⟨#[58, 32]⟩)) wx := fun wx => by apply run_string_add_sum; show more.size + 2 ≤ _; omega
  have hx2 : ∀ wx, (Op.stringOp .add (more ++ ⟨#[58, 32]⟩) T).run Tryz.prog wx = .ok (.string (more ++ ⟨#[58, 32]⟩ ++ T)) wx := fun wx => by apply run_string_add_sum; rw [ByteArray.size_append]; show more.size + 2 + T.size ≤ _; omega
  have hs1 : ∀ wx, (Instr.slice 25 (.slice (some ⟨b, o, none⟩) (ns.length + 1) cap4) (some (.int .i64 1)) none none).run Tryz.prog wx = .ok VS wx := fun wx => by
    rw [hVS]; exact run_tail b o ns.length cap4 wx
  have hs2 : ∀ wx, (Instr.sliceAt 25 (.slice (some ⟨b, o, none⟩) (ns.length + 1) cap4) (some (.int .i64 1)) none none).run Tryz.prog wx = .ok VS wx := fun wx => by
    rw [run_sliceAt_slice (h := by rw [elemStrs]; exact Tryz.underlying25)]; exact hs1 wx
  clear r0 r1 m0 m1 z0 hT hVS
  refine wp_region_quiet_below (by assumption) (by kernel_rfl) ?_
  repeat (quiet_step (first | with_reducible exact cA _ _ | with_reducible exact cT _ _ | with_reducible exact cX _ _))
  refine wpQuiet_nil ?_
  intro _ hw'
  obtain ⟨⟨dq, osq⟩, hw''⟩ := hw'
  subst hw''
  go_wp2_with fail
  go_ret
  exact ⟨by simp, below_step HBW.out (below_regrown W dq osq)⟩

/-- THE LAW, AT EVERY FAULT, SLICE OF STAGES AND STAGE MORE WHOSE TEXT FITS. -/
theorem lawWraps_any (c a : Int) (hc : -9223372036854775808 ≤ c ∧ c ≤ 9223372036854775807) (ha : -9223372036854775808 ≤ a ∧ a ≤ 9223372036854775807) (ns : List ByteArray) (p : Option Addr) (cap : Nat) (more : ByteArray) (w : World) (hE : Env w) (hT : ErrTy w)
    (hv : StrsAt w (.slice p ns.length cap) ns) (hsrc : Src w p ns cap) (hl : (Fm.chainText c a (lns (more :: ns))).length ≤ 140737488355328) :
    Calls Tryz.prog 4 #[.agg #[.int .i64 c, .int .i64 a], .slice p ns.length cap, .string more] w (IsPost true w) := by
  by_cases h : 100 < ns.length
  · exact lawWraps_big c a _ h p cap more w hE
  · exact lawWraps_some c a hc ha ns (by omega) p cap more w hE hT hv hsrc hl
end Go.Proofs.YthiaeppaaahlgaaGreatDoor
