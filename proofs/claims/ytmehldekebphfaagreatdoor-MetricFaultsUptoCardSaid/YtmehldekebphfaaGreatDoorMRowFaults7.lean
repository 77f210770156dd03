/-
  PROVED: the law MetricFaults where what it is handed is of bulk at most 1048576: the lines ahead of a line that is wrong are none the less right.
  Conditions: the bulk.
-/
import Derived.Test.YtmehldekebphfaaGreatDoorFixedW7
import Derived.Test.YtmehldekebphfaaGreatDoorRefSplit7
import Derived.Test.YtmehldekebphfaaGreatDoorLen7
import Derived.Test.YtmehldekebphfaaGreatDoorFrameM7
set_option linter.unusedVariables false
set_option linter.unusedSimpArgs false
namespace Go.Proofs.YtmehldekebphfaaGreatDoor
open Go.RowKit

theorem str_append (a b : List UInt8) : str a ++ str b = str (a ++ b) := by
  apply ByteArray.ext
  simp [str]
def headOf (ps : List (List UInt8)) : List UInt8 := ps.flatMap fun l => l ++ [10]
theorem headOf_take {ps : List (List UInt8)} {i : Nat} {x : List UInt8} (h : ps[i]? = some x) : headOf (ps.take (i + 1)) = headOf (ps.take i) ++ (x ++ [10]) := by
  rw [List.take_add_one, h]
  simp [headOf]
theorem headOf_len (l : List UInt8) (k : Nat) : (headOf ((Mt.split 10 l).take k)).length ≤ l.length + 1 := by
  have e := Mt.join_split 10 l
  have hn := Mt.split_ne 10 l
  generalize Mt.split 10 l = ps at e hn
  obtain ⟨init, r, rfl⟩ : ∃ init r, ps = init ++ [r] := ⟨ps.dropLast, ps.getLast hn, (List.dropLast_concat_getLast hn).symm⟩
  rw [Mt.join_lines] at e
  have h1 : (headOf (init ++ [r])).length = l.length + 1 := by
    rw [← e]
    simp [headOf]
    omega
  have h2 : headOf (init ++ [r]) = headOf ((init ++ [r]).take k) ++ headOf ((init ++ [r]).drop k) := by
    unfold headOf
    rw [← List.flatMap_append, List.take_append_drop]
  rw [h2, List.length_append] at h1
  omega

set_option maxHeartbeats 8000000 in
set_option maxRecDepth 100000 in
theorem faults_not {W0 : World} (C : MetW W0) (s more : ByteArray) (hs : s.size + more.size ≤ 1048576) (w : World) (hw : Below W0.heap.size W0 w) (hn : ∀ n, Mt.parse s.data.toList ≠ .inr (70, n)) : Calls Tryz.prog 6 #[.string s, .string more] w (Ret (.bool true) w) := by
  have HFx := Lib.hid (fun w' (hb : Below w.heap.size w w') => fixedW7 C w' (below_step hw hb))
  have cP : Hid (∃ xc xa, xc ≠ 70 ∧ ∀ w1, Below w.heap.size w w1 → Calls Tryz.prog 8 #[.string s] w1 (fun e w' => ∃ v m, e = .returned (.tuple #[v, .agg #[.int .i64 xc, .int .i64 xa]]) ∧ MetAt w' v m ∧ Below w1.heap.size w1 w')) := Lib.hid (by
    cases h : Mt.parse s.data.toList with
    | inl m => exact ⟨0, 0, by decide, fun w1 hb1 => (C.parse s w1 (below_step hw hb1) (by omega)).mono fun e w' k => by obtain ⟨v, h1, h2, h3⟩ := parse_inl h k; exact ⟨v, m, h1, h2, h3⟩⟩
    | inr x =>
      obtain ⟨xc, xa⟩ := x
      exact ⟨xc, xa, fun e => hn xa (by rw [h, e]), fun w1 hb1 => (C.parse s w1 (below_step hw hb1) (by omega)).mono fun e w' k => by obtain ⟨h1, h3⟩ := parse_inr h k; exact ⟨zeroM, {}, h1, zero_met _, h3⟩⟩)
  obtain ⟨xc, xa, hx, hP⟩ := cP.out
  have HP := Lib.hid hP
  have g1 : (xc == 70) = false := beq_eq_false_iff_ne.2 hx
  have g2 : (xc != 70) = true := by simp only [bne, g1]; rfl
  clear C hw hP hn hs hx
  go_enter Tryz.func6, Tryz.ntmps6
  go_wp2_with fail
  refine (HP.out _ (Below.refl _ _)).mono ?_
  rintro e w1 ⟨v1, m, rfl, hm, hb1⟩
  obtain ⟨sw, st, sk, so, hy, pc, na, cc, pk, nb, ck, pl, nc, cl, rfl⟩ := met_open hm
  have hbs := below_step hb1 (below_two w1 (.cells #[.int .i64 sw, .int .i64 st, .int .i64 sk, .int .i64 so, .int .i32 hy, .slice pc na cc, .slice pk nb ck, .slice pl nc cl] 28) (.cells #[.int .i64 xc, .int .i64 xa] 31))
  have HB := Lib.hid hbs
  have HF := Lib.hid (flt_two7 w1 (.cells #[.int .i64 sw, .int .i64 st, .int .i64 sk, .int .i64 so, .int .i32 hy, .slice pc na cc, .slice pk nb ck, .slice pl nc cl] 28) xc xa)
  clear hm hb1 hbs
  go_wp2_with fail
  refine (HFx.out _ HB.out).mono ?_
  rintro e w2 ⟨rfl, hb2⟩
  have HB := Lib.hid (below_step HB.out hb2)
  have HF := Lib.hid (HF.out.mono hb2)
  clear hb2
  have f0 := HF.out.c0
  go_wp2_with fail
  refine (HFx.out _ HB.out).mono ?_
  rintro e w3 ⟨rfl, hb3⟩
  have HB := Lib.hid (below_step HB.out hb3)
  clear hb3
  go_wp2
  go_ret
  exact ⟨rfl, HB.out⟩

set_option maxHeartbeats 8000000 in
set_option maxRecDepth 100000 in
theorem faults_at {W0 : World} (C : MetW W0) (s more : ByteArray) (hs : s.size + more.size ≤ 1048576) (w : World) (hw : Below W0.heap.size W0 w) (n : Int) (hp : Mt.parse s.data.toList = .inr (70, n)) : Calls Tryz.prog 6 #[.string s, .string more] w (Ret (.bool true) w) := by
  obtain ⟨k, rfl, hk, hfar⟩ := Mt.parse_fault (more := more.data.toList) hp
  have HFx := Lib.hid (fun w' (hb : Below w.heap.size w w') => fixedW7 C w' (below_step hw hb))
  have cP : Hid (∀ w1, Below w.heap.size w w1 → Calls Tryz.prog 8 #[.string s] w1 (Ret (.tuple #[zeroM, .agg #[.int .i64 70, .int .i64 (k : Int)]]) w1)) := Lib.hid (fun w1 hb1 => (C.parse s w1 (below_step hw hb1) (by omega)).mono fun e w' h => parse_inr hp h)
  have cS := Lib.hid (fun w => split_any s (by omega) 10 w)
  rw [show (((10 : UInt8).toNat : Nat) : Int) = 10 from rfl] at cS
  obtain ⟨ps, hps⟩ : ∃ ps, ps = Mt.split 10 s.data.toList := ⟨_, rfl⟩
  obtain ⟨X, hX⟩ : ∃ X, X = headOf (ps.take k) := ⟨_, rfl⟩
  have HL : Hid (∀ j, (headOf (ps.take j)).length ≤ 1048577) := Lib.hid (fun j => by
    have := headOf_len s.data.toList j
    rw [← hps] at this
    rw [size7] at hs
    omega)
  have hXl : X.length ≤ s.size + 1 := by
    have := headOf_len s.data.toList k
    rw [← hps, ← hX] at this
    rw [size7]; exact this
  have cP2 : Hid (∃ yc ya, (yc = 70 → (k : Int) ≤ ya) ∧ ∀ w1, Below w.heap.size w w1 → Calls Tryz.prog 8 #[.string (str X ++ more)] w1 (fun e w' => ∃ v m, e = .returned (.tuple #[v, .agg #[.int .i64 yc, .int .i64 ya]]) ∧ MetAt w' v m ∧ Below w1.heap.size w1 w')) := Lib.hid (by
    have hsz : (str X ++ more).size ≤ 1073741824 := by rw [ByteArray.size_append, str_size]; omega
    have hd : (str X ++ more).data.toList = X ++ more.data.toList := by simp [str]
    cases h : Mt.parse (X ++ more.data.toList) with
    | inl m => exact ⟨0, 0, fun e => absurd e (by decide), fun w1 hb1 => (C.parse _ w1 (below_step hw hb1) hsz).mono fun e w' q => by obtain ⟨v, h1, h2, h3⟩ := parse_inl (by rw [hd]; exact h) q; exact ⟨v, m, h1, h2, h3⟩⟩
    | inr x =>
      obtain ⟨yc, ya⟩ := x
      refine ⟨yc, ya, fun e => ?_, fun w1 hb1 => (C.parse _ w1 (below_step hw hb1) hsz).mono fun e w' q => by obtain ⟨h1, h3⟩ := parse_inr (by rw [hd]; exact h) q; exact ⟨zeroM, {}, h1, zero_met _, h3⟩⟩
      subst e
      rw [hX, hps] at h
      exact hfar ya h)
  unfold zeroM at cP
  rw [← hps] at hk
  rw [← hps] at cS
  obtain ⟨yc, ya, hy, hP2⟩ := cP2.out
  have HP2 := Lib.hid hP2
  have HY := Lib.hid hy
  have HX := Lib.hid hX
  have hpl : ps.length ≤ 1048577 := by
    have h1 := headOf_len s.data.toList ps.length
    rw [← hps, List.take_length] at h1
    have h2 : ∀ l : List (List UInt8), l.length ≤ (headOf l).length := fun l => by
      induction l with
      | nil => simp [headOf]
      | cons a r ih => simp only [headOf, List.flatMap_cons, List.length_append, List.length_cons, List.length_nil] at ih ⊢; omega
    have := h2 ps
    rw [size7] at hs
    omega
  have g1 : ¬ (k : Int) < 0 := by omega
  have g2 : (k : Int) < (ps.length : Int) := by omega
  have g3 : ¬ (k : Int) ≥ (ps.length : Int) := by omega
  have g4 : ¬ (ps.length : Int) ≤ (k : Int) := by omega
  obtain ⟨K, hK⟩ : ∃ K : Int, K = (k : Int) := ⟨_, rfl⟩
  have eX : Hid (∀ wx, (Op.stringOp .add (str X) more).run Tryz.prog wx = .ok (.string (str X ++ more)) wx) := Lib.hid (fun wx => by apply run_string_add_sum; rw [str_size]; omega)
  clear C hw hfar hp hps hX hP2 hy cP2 hXl
  go_enter Tryz.func6, Tryz.ntmps6
  go_wp2_with fail
  refine (cP.out _ (Below.refl _ _)).mono ?_
  rintro e w1 ⟨rfl, hb1⟩
  have hbs := below_step hb1 (below_two w1 (.cells #[.int .i64 0, .int .i64 0, .int .i64 0, .int .i64 0, .int .i32 0, .slice none 0 0, .slice none 0 0, .slice none 0 0] 28) (.cells #[.int .i64 70, .int .i64 (k : Int)] 31))
  have HB := Lib.hid hbs
  have HF := Lib.hid (flt_two7 w1 (.cells #[.int .i64 0, .int .i64 0, .int .i64 0, .int .i64 0, .int .i32 0, .slice none 0 0, .slice none 0 0, .slice none 0 0] 28) 70 (k : Int))
  clear hb1 hbs
  go_wp2_with fail
  refine (HFx.out _ HB.out).mono ?_
  rintro e w2 ⟨rfl, hb2⟩
  have HB := Lib.hid (below_step HB.out hb2)
  have HF := Lib.hid (HF.out.mono hb2)
  clear hb2
  have f0 := HF.out.c0
  go_wp2_with fail
  refine (cS.out _).mono ?_
  rintro e w3 ⟨v3, rfl, hO3, hb3⟩
  have HB3 := Lib.hid (below_step HB.out hb3)
  have HF3 := Lib.hid (HF.out.mono hb3)
  have HS3 := Lib.hid hO3.at
  obtain ⟨⟨p3, c3, rfl, _⟩, _, _⟩ := hO3.at
  clear hb3 hO3 f0
  have f1 := HF3.out.c1
  go_wp2_with fail
  go_loopw [8, 9] (fun hv iv wr => ∃ i : Nat, i ≤ k ∧ iv = .int .i64 i ∧ hv = .string (str (headOf (ps.take i))) ∧ wr = w3) (fun _ iv _ => k - (intOf iv).toNat)
  case atStart => exact ⟨0, Nat.zero_le _, rfl, rfl, rfl⟩
  case round =>
    obtain ⟨i, hik, rfl, rfl, rfl⟩ := hrel
    by_cases hlt : i < k
    · obtain ⟨b3, o3, d3, e3, r3⟩ := HS3.out.2.2 (by omega)
      obtain ⟨rfl, rfl⟩ : p3 = some ⟨b3, o3, none⟩ ∧ c3 = d3 := by injection e3 with a1 a2 a3; exact ⟨a1, a3⟩
      obtain ⟨x, hx⟩ : ∃ x, ps[i]? = some x := ⟨_, List.getElem?_eq_getElem (by omega)⟩
      have z0 := r3 i x hx
      have HT := Lib.hid (headOf_take hx)
      have k0 : (0 : Int) ≤ (i : Int) := by omega
      have kl : (i : Int) < (k : Int) := by omega
      have kp : (i : Int) < (ps.length : Int) := by omega
      have zl := HL.out (i + 1)
      rw [HT.out, List.length_append, List.length_append, List.length_singleton] at zl
      have e1 : ∀ wx, (Op.stringOp .add (str x) ⟨#[10]⟩).run Tryz.prog wx = .ok (.string (str x ++ ⟨#[10]⟩)) wx := fun wx => by apply run_string_add_sum; rw [str_size]; show x.length + 1 ≤ _; omega
      have e2 : ∀ wx, (Op.stringOp .add (str (headOf (ps.take i))) (str x ++ ⟨#[10]⟩)).run Tryz.prog wx = .ok (.string (str (headOf (ps.take i)) ++ (str x ++ ⟨#[10]⟩))) wx := fun wx => by apply run_string_add_sum; rw [str_size, ByteArray.size_append, str_size]; show (headOf (ps.take i)).length + (x.length + 1) ≤ _; omega
      clear r3 e3 hx zl
      go_wp2
      go_roundw
      case rel => exact ⟨i + 1, by omega, by go_num, by rw [HT.out, ← str_append, ← str_append]; rfl, by trivial⟩
      case measure => simp [intOf]; omega
    · obtain rfl : i = k := by omega
      rw [← HX.out]
      have eX1 := eX.out
      go_wp2_with fail
      refine (HP2.out _ HB3.out).mono ?_
      rintro e w4 ⟨v4, m4, rfl, hm4, hb4⟩
      obtain ⟨sw, st, sk, so, hy', pc, na, cc, pk, nb, ck, pl, nc, cl, rfl⟩ := met_open hm4
      have hbs := below_step hb4 (below_two w4 (.cells #[.int .i64 sw, .int .i64 st, .int .i64 sk, .int .i64 so, .int .i32 hy', .slice pc na cc, .slice pk nb ck, .slice pl nc cl] 28) (.cells #[.int .i64 yc, .int .i64 ya] 31))
      have HB4 := Lib.hid (below_step HB3.out hbs)
      have HF4 := Lib.hid (HF3.out.mono hbs)
      have HG4 := Lib.hid (flt_two7 w4 (.cells #[.int .i64 sw, .int .i64 st, .int .i64 sk, .int .i64 so, .int .i32 hy', .slice pc na cc, .slice pk nb ck, .slice pl nc cl] 28) yc ya)
      clear hm4 hb4 hbs f1
      have c1 := HF4.out.c1
      have d0 := HG4.out.c0
      have d1 := HG4.out.c1
      by_cases hy7 : yc = 70
      · have hge := HY.out hy7
        have hge2 : ¬ ya < (i : Int) := by omega
        subst hy7
        go_wp2
        go_ret
        exact ⟨rfl, HB4.out⟩
      · have q1 : (yc == 70) = false := beq_eq_false_iff_ne.2 hy7
        have q2 : (yc != 70) = true := by simp only [bne, q1]; rfl
        go_wp2
        go_ret
        exact ⟨rfl, HB4.out⟩
theorem lawFaults7 {W0 : World} (C : MetW W0) (s more : ByteArray) (hs : s.size + more.size ≤ 1048576) (w : World) (hw : Below W0.heap.size W0 w) : Calls Tryz.prog 6 #[.string s, .string more] w (Ret (.bool true) w) := by
  by_cases h : ∃ n, Mt.parse s.data.toList = .inr (70, n)
  · obtain ⟨n, hn⟩ := h
    exact faults_at C s more hs w hw n hn
  · exact faults_not C s more hs w hw (fun n hn => h ⟨n, hn⟩)
end Go.Proofs.YtmehldekebphfaaGreatDoor

namespace Go.Proofs.YtmehldekebphfaaGreatDoor
open Go.ChangeShapes Go.WideShapes Go.ChangeAt Go.RowKit

set_option maxRecDepth 100000 in
/-- WHAT THE WALK GIVES, FOR EVERY ARGUMENT OF SUCH A BULK AND EVERY WORLD. -/
theorem metricFaults_contract (H : Type) (enc : TypeId × Value → H) (W : World) (base : Nat) (args : Array Value) (ds gs : List (DataW H)) (before : List MemPlace)
    (hval : ∀ (j : Nat) t v, Tryz.f6.params[j]? = some t → args[j]? = some v → Value.okWide Tryz.prog W .any base t v)
    (hW : DataW.Whole enc Tryz.prog Tryz.f6.params.toList Rows.metricFaultsSpec.vars false W args.toList ds gs before) (hk : Rows.uptoSmall H (ds ++ gs) = true) (C : MetW W) :
    Calls Tryz.prog 6 args W fun e W' => ∃ v, e = .returned v ∧ Rows.metricFaultsSpec.post enc Tryz.prog Tryz.f6 false true false false W args v W' := by
  have hW' := hW
  have hlt : ∀ x ∈ before, x.block < W.heap.size := fun x hx => hW'.lt x hx
  obtain ⟨p, q, hA0, hV, hbe, hfz, hnd⟩ := hW
  have hA : DataW.TrodAll enc Tryz.prog W 0 (fun _ => true) true Tryz.f6.params.toList args.toList ds p := hA0
  rw [Tryz.params6] at hA hval
  have hAk := hA
  obtain ⟨v0, vs0, d0, ds0, p0, q0, hargs, rfl, rfl, h0, r0⟩ := trodAll_cons hA
  obtain ⟨v1, vs1, d1, ds1, p1, q1, rfl, rfl, rfl, h1, r1⟩ := trodAll_cons r0
  obtain ⟨rfl, rfl, rfl⟩ := trodAll_nil r1
  obtain rfl : args = #[v0, v1] := by cases args; simp_all
  obtain ⟨rfl, rfl⟩ := trodVars_none hV
  have hb : Rows.uptoBulkAll ([d0, d1] ++ []) ≤ 1048576 := of_decide_eq_true hk
  simp only [List.append_nil, Rows.uptoBulkAll] at hb
  obtain ⟨x0, rfl, rfl, _, _⟩ := Go.ChangeMaps.open_string Tryz.underlying9 (hval 0 _ v0 rfl rfl) h0
  have hsz0 := Lib.size_eq x0
  obtain ⟨x1, rfl, rfl, _, _⟩ := Go.ChangeMaps.open_string Tryz.underlying9 (hval 1 _ v1 rfl rfl) h1
  have hsz1 := Lib.size_eq x1
  try simp only [Rows.uptoBulk] at hb
  refine (lawFaults7 C x0 x1 (by omega) W (Below.refl _ _)).mono fun e W' ⟨he, hb⟩ => ?_
  subst he
  obtain ⟨D0, hD0⟩ : ∃ D, D = (DataW.lit (H := H) (.string x0.data.toList)) := ⟨_, rfl⟩
  obtain ⟨D1, hD1⟩ : ∃ D, D = (DataW.lit (H := H) (.string x1.data.toList)) := ⟨_, rfl⟩
  rw [← hD0, ← hD1] at hAk hW'
  have e1 : Rows.metricFaultsSpec.fn H ([D0, D1] ++ []) = { results := [.lit (.bool true)], args := [D0, D1] } := rfl
  refine ⟨_, rfl, [D0, D1], [], before, [], p0 ++ (p1 ++ []), [], hW', ?_, ?_, ?_, hb.frame _, fun h => by cases h⟩
  · rw [e1]; exact trodAll_mk1 (shut_bool Tryz.underlying4 true)
  · rw [e1, Tryz.params6]
    exact args_kept laidOut hb _ _ _ _ (by
      intro t ht
      have : t = 9 := by simpa using ht
      rcases this with rfl
      all_goals exact ⟨by kernel_rfl, of_decide_eq_true (by kernel_rfl)⟩) hAk (fun x hx => hlt x (by rw [hbe]; exact List.mem_append_left _ hx))
  · rw [e1]; rfl

theorem metricFaults_laid_met (os : Os) : laidMet Tryz.prog Rows.metricFaultsRow.laid ((World.laidAll Tryz.prog os laidList).forCall (fun _ _ => 0) ⟨#[], #[.string ByteArray.empty, .string ByteArray.empty], []⟩).memory :=
  laidMet_laidAll _ (by kernel_rfl) (by kernel_rfl)
theorem metricFaults_reads (os : Os) {H : Type} (enc : TypeId × Value → H) : ∃ places, DataW.whole enc Tryz.prog ((World.laidAll Tryz.prog os laidList).forCall (fun _ _ => 0) ⟨#[], #[.string ByteArray.empty, .string ByteArray.empty], []⟩).memory Tryz.f6.params.toList Rows.metricFaultsSpec.vars false #[Value.string ByteArray.empty, .string ByteArray.empty].toList 8 = some ([.lit (.string []), .lit (.string [])], [], places) :=
  ⟨[], by kernel_rfl⟩

set_option maxRecDepth 100000 in
theorem metricFaults_lifted (os : Os) (started : os.Started) (H : Type) (enc : TypeId × Value → H) (F : Stop.Interp) :
    ReturnsInHanded {} Tryz.checked os 6 .any ((Rows.OpenSpec.upto Rows.metricFaultsSpec).preRow enc Tryz.prog Tryz.f6 Rows.metricFaultsUptoRow.domain false Rows.metricFaultsUptoRow.laid) (((Rows.OpenSpec.upto Rows.metricFaultsSpec).at F).post enc Tryz.prog Tryz.f6 false true false false) := by
  obtain ⟨places, hx⟩ := metricFaults_reads os enc
  refine returnsInHanded_of_row (C := Tryz.checked) (s := Rows.OpenSpec.upto Rows.metricFaultsSpec) own started (by kernel_rfl) Tryz.func6
    (witness_row_atRef (enc := enc) (C := Tryz.checked) false (World.laidAll Tryz.prog os laidList) #[.string ByteArray.empty, .string ByteArray.empty] (World.laidAll_os _ _ _) (by kernel_rfl) (by kernel_rfl) (by kernel_rfl)
      (OpenSpec.preRow_of_cond 8 hx (by kernel_rfl) (fun k hk => by cases hk; kernel_rfl) (by kernel_rfl) (metricFaults_laid_met os))) ?_
  intro W base args ds gs before hval hW _ hcond _ hL hsh _
  exact metricFaults_contract H enc W base args ds gs before hval hW (hcond _ rfl) (metW_of_laid hL hsh)

theorem metricFaults_upto_said : Rows.MetricFaultsUptoSaid :=
  OpenClaim.holds_of_cond 6 Tryz.f6 rfl rfl rfl rfl rfl rfl rfl ⟨rfl, rfl, rfl, rfl, rfl⟩ rfl rfl rfl rfl rfl (by kernel_rfl) Tryz.func6 (by kernel_rfl)
    (of_decide_eq_true (by kernel_rfl)) (by unfold Func.isWrapper; first | (rw [if_pos (by decide +kernel)]; kernel_rfl) | (rw [if_neg (by decide +kernel)]; exact ⟨rfl, rfl⟩))
    (fun os started H enc _ F => by rw [OpenClaim.pre_eq_preRow]; exact metricFaults_lifted os started H enc F)

/-- No parameter wants a stand-in; what the program's own reckoning says of looks: what the card asks. -/
theorem metricFaults_plain (f : FuncId) (fn : Func) (hf : Tryz.pinned.checked.prog.funcNamed "variorum/variorumlaw07.MetricFaults" = some f) (hfn : Tryz.pinned.checked.prog.funcs[f]? = some fn) :
    true = Tryz.pinned.checked.prog.looks [] ∧ ∀ (j : Nat) t, fn.params[j]? = some t → Tryz.pinned.checked.prog.wantsStandIn t = false := by
  obtain rfl : f = 6 := Option.some.inj ((show Tryz.prog.funcNamed "variorum/variorumlaw07.MetricFaults" = some 6 by kernel_rfl).symm.trans hf) |>.symm
  obtain rfl : fn = Tryz.f6 := (Option.some.inj (Tryz.func6.symm.trans hfn)).symm
  refine ⟨by kernel_rfl, fun j t ht => ?_⟩
  rw [Tryz.params6] at ht
  have : t = 9 := by simpa using Array.mem_of_getElem? ht
  rcases this with rfl
  · exact (show Tryz.prog.wantsStandIn 9 = false by kernel_rfl)

/-- THE CARD. -/
theorem metricFaults_upto_card : Rows.MetricFaultsUptoCardSaid :=
  Claim7.holds_tied_plain_at .later [] _ _ _ _ metricFaults_upto_said (fun _ h => by cases h) (by kernel_rfl) (fun _ h => by cases h) metricFaultsUpto_row_tie rfl ⟨rfl, rfl⟩ (by kernel_rfl) rfl metricFaults_plain (by kernel_rfl)
end Go.Proofs.YtmehldekebphfaaGreatDoor
