/-
  The law LinenoUnits.
-/
import Derived.Test.YtffjboddnjbepaaLawSki16
set_option linter.unusedVariables false
set_option linter.unusedSimpArgs false
namespace Go.Proofs.Ytffjboddnjbepaa
open Go.RowKit

/-! ### parts of slices -/
def tailS (s : Nat) (a : Option Addr) (k cap : Nat) : Option Addr := a.map fun p => if cap = k then p else p.add (k * s)
theorem elemRw16 : Try.prog.elem 22 = 29 := by kernel_rfl
theorem sizeRw16 (wx : World) : (sizeOf 29).run Try.prog wx = .ok 7 wx := by kernel_rfl
theorem elemNm16 : Try.prog.elem 23 = 31 := by kernel_rfl
theorem sizeNm16 (wx : World) : (sizeOf 31).run Try.prog wx = .ok 2 wx := by kernel_rfl
theorem run_midR (a : Option Addr) (n k m cap : Nat) (h : k ≤ m) (h2 : m ≤ cap) (wx : World) : (Instr.slice 22 (.slice a n cap) (some (.int .i64 (k : Int))) (some (.int .i64 (m : Int))) none).run Try.prog wx = .ok (.slice (tailS 7 a k cap) (m - k) (cap - k)) wx := by
  rw [run_slice_lh (ht := by rw [elemRw16]; exact Try.underlying22) (h0 := by omega) (h1 := by omega) (h2 := by omega), elemRw16, sizeRw16]
  cases a with
  | none => simp [Result.andThen, sliced, tailS]
  | some p =>
    simp [Result.andThen, sliced, tailS]
    split <;> rfl
theorem run_midN (a : Option Addr) (n k m cap : Nat) (h : k ≤ m) (h2 : m ≤ cap) (wx : World) : (Instr.slice 23 (.slice a n cap) (some (.int .i64 (k : Int))) (some (.int .i64 (m : Int))) none).run Try.prog wx = .ok (.slice (tailS 2 a k cap) (m - k) (cap - k)) wx := by
  rw [run_slice_lh (ht := by rw [elemNm16]; exact Try.underlying23) (h0 := by omega) (h1 := by omega) (h2 := by omega), elemNm16, sizeNm16]
  cases a with
  | none => simp [Result.andThen, sliced, tailS]
  | some p =>
    simp [Result.andThen, sliced, tailS]
    split <;> rfl

theorem slc_part {α : Type} {f : α → List Value} {s : Nat} {w : World} {a : Option Addr} {cap n : Nat} {l : List α} (hn : n = l.length) (h : SlcAt f s w (.slice a n cap) l) (k m : Nat) (hk : k ≤ m) (hm : m ≤ n) : SlcAt f s w (.slice (tailS s a k cap) (m - k) (cap - k)) ((l.take m).drop k) := by
  subst hn
  obtain ⟨⟨a', c', e, hc⟩, hmx, hx⟩ := h
  injection e with e1 e2 e3
  subst e1 e3
  have hl : ((l.take m).drop k).length = m - k := by rw [List.length_drop, List.length_take]; omega
  refine ⟨⟨_, _, by rw [hl], by rw [hl]; omega⟩, by rw [hl]; omega, fun hp => ?_⟩
  rw [hl] at hp
  obtain ⟨b, o, c', e, hq⟩ := hx (by omega)
  injection e with e1 e2 e3
  subst e1 e3
  refine ⟨b, o + k * s, cap - k, ?_, fun i x hi => ?_⟩
  · rw [hl]
    have : ¬ cap = k := by omega
    simp [tailS, this, Addr.add]
  · rw [List.getElem?_drop, List.getElem?_take] at hi
    split at hi
    · have := hq (k + i) x hi
      rw [show o + k * s + i * s = o + (k + i) * s by rw [Nat.add_mul]; omega]
      exact this
    · cases hi
theorem refNums_same (u v : Value) (x : List (Int × Int)) (w : World) (hu : NmsAt w u x) (hv : NmsAt w v x) : Calls Try.prog 10 #[u, v] w fun e w' => e = .returned (.bool true) ∧ Below w.heap.size w w' := by
  have := refNums_any u v x x w hu hv
  rwa [decide_eq_true rfl] at this
def cutAt (u : Int) (l : List Ln.Rw) (k : Nat) : Prop := k = 0 ∨ ∃ p r, 0 < k ∧ l[k - 1]? = some p ∧ l[k]? = some r ∧ Ln.unit u r ≠ Ln.unit u p
set_option maxHeartbeats 16000000 in
set_option maxRecDepth 100000 in
theorem lawUnits (v : Value) (l : List Ln.Rw) (u : Int) (w : World) (h : RwsAt w v l) (hb : l.length * 40 ≤ 140737488355328) : Calls Try.prog 3 #[v, .int .i64 u] w fun e w' => e = .returned (.bool true) ∧ Below w.heap.size w w' := by
  have HF := Lib.hid fixed16_any
  have HNum := Lib.hid (number_any v l u w h (by omega))
  have HKn := Lib.hid (fun v' w' (k m : Nat) (hk : k ≤ m) (hm : m ≤ l.length) (hc : cutAt u l k) (h : RwsAt w' v' ((l.take m).drop k)) => by
    have := number_any v' _ u w' h (by rw [List.length_drop, List.length_take]; omega)
    rw [Ln.number_cut u l k m hk hm hc] at this
    exact this)
  have HR := Lib.hid h
  obtain ⟨a, cp, rfl, hm, _⟩ := slc_open h
  obtain ⟨⟨_, _, hae, hcap⟩, _⟩ := h
  obtain ⟨N, hN⟩ : ∃ N, N = Ln.number u l := ⟨_, rfl⟩
  have hNl : N.length = l.length := by rw [hN]; exact Ln.goN_len u l _ _
  have HNl := Lib.hid hNl
  have HNx := Lib.hid (Ln.number_next u l)
  rw [← hN] at HNum HKn HNx
  obtain ⟨n, hn⟩ : ∃ n, n = l.length := ⟨_, rfl⟩
  have Hn := Lib.hid hn
  have hcp : n ≤ cp := by injection hae with x1 x2 x3; omega
  rw [← hn] at hb hm HNl HNum HKn ⊢
  have hz : n ≤ 140737488355328 := by omega
  clear hN hNl hn hm hb hae hcap
  go_enter Try.func3, Try.ntmps3
  go_wp2_with fail
  refine HNum.out.mono ?_
  rintro e w1 ⟨v1, rfl, hv1, hb1⟩
  have HB1 := Lib.hid hb1
  have HV1 := Lib.hid hv1
  clear hb1
  obtain ⟨⟨a1, cp1, rfl, hcp1⟩, _⟩ := hv1
  rw [HNl.out] at hcp1 HV1 ⊢
  go_wp2_with fail
  refine (HF.out _).mono ?_
  rintro e w2 ⟨rfl, hb2⟩
  have HB2 := Lib.hid (below_step HB1.out hb2)
  have HA := Lib.hid (SlcAt.mono HR.out HB2.out)
  have HV := Lib.hid (SlcAt.mono HV1.out hb2)
  clear hb2
  go_wp2_with fail
  go_loopw [6, 7] (fun fv iv wr => ∃ i f : Nat, 1 ≤ i ∧ i ≤ n + 1 ∧ f < i ∧ iv = .int .i64 (i : Int) ∧ fv = .int .i64 (f : Int) ∧ Hid (i ≤ n → cutAt u l f) ∧ Hid (Below w2.heap.size w2 wr)) (fun _ iv _ => n + 1 - (intOf iv).toNat)
  case atStart => exact ⟨1, 0, by omega, by omega, by omega, rfl, rfl, Lib.hid (fun _ => .inl rfl), Lib.hid (Below.refl _ _)⟩
  case round =>
    obtain ⟨i, f, hi1, hin, hfi, rfl, rfl, HC, HW⟩ := hrel
    by_cases hlt : i ≤ n
    · obtain ⟨k, hk⟩ : ∃ k, i = k + 1 := ⟨i - 1, by omega⟩
      have Hk := Lib.hid hk
      have km2 : IntKind.i64.wrap ((i : Int) - 1) = (k : Int) := by rw [IntWalk.i64_left, IntWalk.wrap64_in _ (by omega)]; omega
      have kl : (k : Int) < (n : Int) := by omega
      have k0 : (0 : Int) ≤ (k : Int) := by omega
      have i0 : (0 : Int) ≤ (i : Int) := by omega
      have f0 : (0 : Int) ≤ (f : Int) := by omega
      have fl : (f : Int) ≤ (i : Int) := by omega
      have il : (i : Int) ≤ (n : Int) := by omega
      have ic : (i : Int) ≤ (cp : Int) := by omega
      have ic1 : (i : Int) ≤ (cp1 : Int) := by omega
      obtain ⟨b1, o1, d1, e1, r1⟩ := HA.out.2.2 (by rw [← Hn.out]; omega)
      rw [← Hn.out] at e1
      have E1 := Lib.hid e1
      obtain ⟨rfl, rfl⟩ : a = some ⟨b1, o1, none⟩ ∧ cp = d1 := by injection e1 with a1 a2 a3; exact ⟨a1, a3⟩
      obtain ⟨b9, o9, d9, e9, r9⟩ := HV.out.2.2 (by rw [HNl.out]; omega)
      rw [HNl.out] at e9
      obtain ⟨rfl, rfl⟩ : a1 = some ⟨b9, o9, none⟩ ∧ cp1 = d9 := by injection e9 with a1 a2 a3; exact ⟨a1, a3⟩
      obtain ⟨q, hq⟩ : ∃ r, l[k]? = some r := ⟨_, List.getElem?_eq_getElem (by rw [← Hn.out]; omega)⟩
      have HZq := Lib.hid (r1 k q hq)
      have Hq := Lib.hid hq
      have HR9 := Lib.hid r9
      have HR1 := Lib.hid r1
      have hs3 := fun wx => run_midR (some ⟨b1, o1, none⟩) n f i cp (by omega) (by omega) wx
      have hs4 := fun wx => run_midN (some ⟨b9, o9, none⟩) n f i cp1 (by omega) (by omega) wx
      have HP1 := Lib.hid (slc_part (a := some ⟨b1, o1, none⟩) (cap := cp) (n := n) Hn.out (by have := HA.out; rwa [← Hn.out] at this) f i (by omega) hlt)
      have HP2 := Lib.hid (slc_part HNl.out.symm HV.out f i (by omega) hlt)
      have HKf := Lib.hid (fun v' w' h => HKn.out v' w' f i (by omega) hlt (HC.out hlt) h)
      clear hq hk e1 r1 e9 r9
      have HBd := Lib.hid (below_step HW.out (below_drew16 wr))
      obtain ⟨z0, z1, z2, z3, z4, z5, z6⟩ := rw_cells (HZq.out.mono HW.out)
      by_cases hlast : i < n
      · have cd : decide (i < n) = true := by rw [decide_eq_true_iff]; exact hlast
        have il2 : (i : Int) < (n : Int) := by omega
        obtain ⟨r, hr⟩ : ∃ r, l[i]? = some r := ⟨_, List.getElem?_eq_getElem (by rw [← Hn.out]; exact hlast)⟩
        have HZr := Lib.hid (HR1.out i r hr)
        have Hr := Lib.hid hr
        obtain ⟨y0, y1, y2, y3, y4, y5, y6⟩ := rw_cells (HZr.out.mono HW.out)
        have HU1 := Lib.hid (fun w => unit_any r u w)
        have HU2 := Lib.hid (fun w => unit_any q u w)
        obtain ⟨⟨ua, ub, uc⟩, hU⟩ : ∃ x, x = Ln.unit u r := ⟨_, rfl⟩
        obtain ⟨⟨va, vb, vc⟩, hV⟩ : ∃ x, x = Ln.unit u q := ⟨_, rfl⟩
        rw [← hU] at HU1
        rw [← hV] at HU2
        unfold rwV unV at HU1 HU2
        simp only [] at HU1 HU2
        have HUr := Lib.hid hU
        have HUq := Lib.hid hV
        clear hU hV hr
        by_cases hne : (ua, ub, uc) = (va, vb, vc)
        · have heq : ∀ w, (binOp .eql 26 (.agg #[.int .i64 ua, .int .i64 ub, .int .i64 uc]) (.agg #[.int .i64 va, .int .i64 vb, .int .i64 vc])).run Try.prog w = .ok (.bool true) w := fun w => by
            rw [run_eql_struct, eq_unit]
            have e : decide ((ua, ub, uc) = (va, vb, vc)) = true := by rw [decide_eq_true_iff]; exact hne
            rw [e]; rfl
          have HNe : Hid (Ln.plainRw r = true → q.sk = false → ∃ a, N[k]? = some a ∧ N[i]? = some (Ln.wr (a.1 + 1), 0)) := Lib.hid (by
            intro h1 h2
            have := HNx.out k q r Hq.out (by rw [← Hk.out]; exact Hr.out) (by rw [← HUr.out, ← HUq.out, hne]) h1 h2
            rwa [← Hk.out] at this)
          clear hne hs3 hs4
          cases hsk : r.sk with
          | true =>
            rw [hsk] at HU1
            go_upto_region 8 with fail
            go_region_held3 (fun w' => w'.cell? ⟨b1, o1 + i * 7, none⟩ = some (.int .i64 r.pg) ∧ w'.cell? ⟨b1, o1 + i * 7 + 1, none⟩ = some (.int .i64 r.ch) ∧ w'.cell? ⟨b1, o1 + i * 7 + 2, none⟩ = some (.int .i64 r.pa) ∧ w'.cell? ⟨b1, o1 + i * 7 + 3, none⟩ = some (.int .i64 r.st) ∧ w'.cell? ⟨b1, o1 + i * 7 + 4, none⟩ = some (.bool r.sb) ∧ w'.cell? ⟨b1, o1 + i * 7 + 5, none⟩ = some (.bool r.sk) ∧ w'.cell? ⟨b1, o1 + i * 7 + 6, none⟩ = some (.bool r.lk) ∧ w'.cell? ⟨b1, o1 + k * 7, none⟩ = some (.int .i64 q.pg) ∧ w'.cell? ⟨b1, o1 + k * 7 + 1, none⟩ = some (.int .i64 q.ch) ∧ w'.cell? ⟨b1, o1 + k * 7 + 2, none⟩ = some (.int .i64 q.pa) ∧ w'.cell? ⟨b1, o1 + k * 7 + 3, none⟩ = some (.int .i64 q.st) ∧ w'.cell? ⟨b1, o1 + k * 7 + 4, none⟩ = some (.bool q.sb) ∧ w'.cell? ⟨b1, o1 + k * 7 + 5, none⟩ = some (.bool q.sk) ∧ w'.cell? ⟨b1, o1 + k * 7 + 6, none⟩ = some (.bool q.lk)) (first | (have hz := rw_cells (HZr.out.mono HB5.out); have hz2 := rw_cells (HZq.out.mono HB5.out); exact ⟨hz.1, hz.2.1, hz.2.2.1, hz.2.2.2.1, hz.2.2.2.2.1, hz.2.2.2.2.2.1, hz.2.2.2.2.2.2, hz2.1, hz2.2.1, hz2.2.2.1, hz2.2.2.2.1, hz2.2.2.2.2.1, hz2.2.2.2.2.2.1, hz2.2.2.2.2.2.2⟩) | (have hz := rw_cells (HZr.out.mono HB4.out); have hz2 := rw_cells (HZq.out.mono HB4.out); exact ⟨hz.1, hz.2.1, hz.2.2.1, hz.2.2.2.1, hz.2.2.2.2.1, hz.2.2.2.2.2.1, hz.2.2.2.2.2.2, hz2.1, hz2.2.1, hz2.2.2.1, hz2.2.2.2.1, hz2.2.2.2.2.1, hz2.2.2.2.2.2.1, hz2.2.2.2.2.2.2⟩) | (have hz := rw_cells (HZr.out.mono HBd.out); have hz2 := rw_cells (HZq.out.mono HBd.out); exact ⟨hz.1, hz.2.1, hz.2.2.1, hz.2.2.2.1, hz.2.2.2.2.1, hz.2.2.2.2.2.1, hz.2.2.2.2.2.2, hz2.1, hz2.2.1, hz2.2.2.1, hz2.2.2.2.1, hz2.2.2.2.2.1, hz2.2.2.2.2.2.1, hz2.2.2.2.2.2.2⟩) | go_keep) (first | ((with_reducible refine (HU2.out _).mono ?_); rintro e w5 ⟨rfl, hb5⟩; have HB5 := Lib.hid (below_step HB4.out hb5); clear hb5) | ((with_reducible refine (HU1.out _).mono ?_); rintro e w4 ⟨rfl, hb4⟩; have HB4 := Lib.hid (below_step HBd.out hb4); clear hb4))
            have HBq := Lib.hid (fun nq => below_step HB5.out (below_drew w5 nq))
            obtain ⟨p0, p1, p2, p3, p4, p5, p6⟩ := rw_cells (HZr.out.mono HB5.out)
            obtain ⟨s0, s1, s2, s3, s4, s5, s6⟩ := rw_cells (HZq.out.mono HB5.out)
            have sq5 := fun nq => (rw_cells (HZq.out.mono (HBq.out nq))).2.2.2.2.2.1

            go_wp2_with fail
            go_quiet (fail)
            go_wp2_with fail
            go_roundw
            case rel => exact ⟨i + 1, f, by omega, by omega, by omega, by go_num, rfl, Lib.hid (fun _ => HC.out hlt), Lib.hid (below_step HB5.out (below_drew _ _))⟩
            case measure => simp [intOf]; omega
          | false =>
            rw [hsk] at HU1
            cases hsb : r.sb with
            | true =>
              rw [hsb] at HU1
              go_upto_region 8 with fail
              go_region_held3 (fun w' => w'.cell? ⟨b1, o1 + i * 7, none⟩ = some (.int .i64 r.pg) ∧ w'.cell? ⟨b1, o1 + i * 7 + 1, none⟩ = some (.int .i64 r.ch) ∧ w'.cell? ⟨b1, o1 + i * 7 + 2, none⟩ = some (.int .i64 r.pa) ∧ w'.cell? ⟨b1, o1 + i * 7 + 3, none⟩ = some (.int .i64 r.st) ∧ w'.cell? ⟨b1, o1 + i * 7 + 4, none⟩ = some (.bool r.sb) ∧ w'.cell? ⟨b1, o1 + i * 7 + 5, none⟩ = some (.bool r.sk) ∧ w'.cell? ⟨b1, o1 + i * 7 + 6, none⟩ = some (.bool r.lk) ∧ w'.cell? ⟨b1, o1 + k * 7, none⟩ = some (.int .i64 q.pg) ∧ w'.cell? ⟨b1, o1 + k * 7 + 1, none⟩ = some (.int .i64 q.ch) ∧ w'.cell? ⟨b1, o1 + k * 7 + 2, none⟩ = some (.int .i64 q.pa) ∧ w'.cell? ⟨b1, o1 + k * 7 + 3, none⟩ = some (.int .i64 q.st) ∧ w'.cell? ⟨b1, o1 + k * 7 + 4, none⟩ = some (.bool q.sb) ∧ w'.cell? ⟨b1, o1 + k * 7 + 5, none⟩ = some (.bool q.sk) ∧ w'.cell? ⟨b1, o1 + k * 7 + 6, none⟩ = some (.bool q.lk)) (first | (have hz := rw_cells (HZr.out.mono HB5.out); have hz2 := rw_cells (HZq.out.mono HB5.out); exact ⟨hz.1, hz.2.1, hz.2.2.1, hz.2.2.2.1, hz.2.2.2.2.1, hz.2.2.2.2.2.1, hz.2.2.2.2.2.2, hz2.1, hz2.2.1, hz2.2.2.1, hz2.2.2.2.1, hz2.2.2.2.2.1, hz2.2.2.2.2.2.1, hz2.2.2.2.2.2.2⟩) | (have hz := rw_cells (HZr.out.mono HB4.out); have hz2 := rw_cells (HZq.out.mono HB4.out); exact ⟨hz.1, hz.2.1, hz.2.2.1, hz.2.2.2.1, hz.2.2.2.2.1, hz.2.2.2.2.2.1, hz.2.2.2.2.2.2, hz2.1, hz2.2.1, hz2.2.2.1, hz2.2.2.2.1, hz2.2.2.2.2.1, hz2.2.2.2.2.2.1, hz2.2.2.2.2.2.2⟩) | (have hz := rw_cells (HZr.out.mono HBd.out); have hz2 := rw_cells (HZq.out.mono HBd.out); exact ⟨hz.1, hz.2.1, hz.2.2.1, hz.2.2.2.1, hz.2.2.2.2.1, hz.2.2.2.2.2.1, hz.2.2.2.2.2.2, hz2.1, hz2.2.1, hz2.2.2.1, hz2.2.2.2.1, hz2.2.2.2.2.1, hz2.2.2.2.2.2.1, hz2.2.2.2.2.2.2⟩) | go_keep) (first | ((with_reducible refine (HU2.out _).mono ?_); rintro e w5 ⟨rfl, hb5⟩; have HB5 := Lib.hid (below_step HB4.out hb5); clear hb5) | ((with_reducible refine (HU1.out _).mono ?_); rintro e w4 ⟨rfl, hb4⟩; have HB4 := Lib.hid (below_step HBd.out hb4); clear hb4))
              have HBq := Lib.hid (fun nq => below_step HB5.out (below_drew w5 nq))
              obtain ⟨p0, p1, p2, p3, p4, p5, p6⟩ := rw_cells (HZr.out.mono HB5.out)
              obtain ⟨s0, s1, s2, s3, s4, s5, s6⟩ := rw_cells (HZq.out.mono HB5.out)
              have sq5 := fun nq => (rw_cells (HZq.out.mono (HBq.out nq))).2.2.2.2.2.1

              go_wp2_with fail
              go_quiet (fail)
              go_wp2_with fail
              go_roundw
              case rel => exact ⟨i + 1, f, by omega, by omega, by omega, by go_num, rfl, Lib.hid (fun _ => HC.out hlt), Lib.hid (below_step HB5.out (below_drew _ _))⟩
              case measure => simp [intOf]; omega
            | false =>
              rw [hsb] at HU1
              cases hlk : r.lk with
              | true =>
                rw [hlk] at HU1
                go_upto_region 8 with fail
                go_region_held3 (fun w' => w'.cell? ⟨b1, o1 + i * 7, none⟩ = some (.int .i64 r.pg) ∧ w'.cell? ⟨b1, o1 + i * 7 + 1, none⟩ = some (.int .i64 r.ch) ∧ w'.cell? ⟨b1, o1 + i * 7 + 2, none⟩ = some (.int .i64 r.pa) ∧ w'.cell? ⟨b1, o1 + i * 7 + 3, none⟩ = some (.int .i64 r.st) ∧ w'.cell? ⟨b1, o1 + i * 7 + 4, none⟩ = some (.bool r.sb) ∧ w'.cell? ⟨b1, o1 + i * 7 + 5, none⟩ = some (.bool r.sk) ∧ w'.cell? ⟨b1, o1 + i * 7 + 6, none⟩ = some (.bool r.lk) ∧ w'.cell? ⟨b1, o1 + k * 7, none⟩ = some (.int .i64 q.pg) ∧ w'.cell? ⟨b1, o1 + k * 7 + 1, none⟩ = some (.int .i64 q.ch) ∧ w'.cell? ⟨b1, o1 + k * 7 + 2, none⟩ = some (.int .i64 q.pa) ∧ w'.cell? ⟨b1, o1 + k * 7 + 3, none⟩ = some (.int .i64 q.st) ∧ w'.cell? ⟨b1, o1 + k * 7 + 4, none⟩ = some (.bool q.sb) ∧ w'.cell? ⟨b1, o1 + k * 7 + 5, none⟩ = some (.bool q.sk) ∧ w'.cell? ⟨b1, o1 + k * 7 + 6, none⟩ = some (.bool q.lk)) (first | (have hz := rw_cells (HZr.out.mono HB5.out); have hz2 := rw_cells (HZq.out.mono HB5.out); exact ⟨hz.1, hz.2.1, hz.2.2.1, hz.2.2.2.1, hz.2.2.2.2.1, hz.2.2.2.2.2.1, hz.2.2.2.2.2.2, hz2.1, hz2.2.1, hz2.2.2.1, hz2.2.2.2.1, hz2.2.2.2.2.1, hz2.2.2.2.2.2.1, hz2.2.2.2.2.2.2⟩) | (have hz := rw_cells (HZr.out.mono HB4.out); have hz2 := rw_cells (HZq.out.mono HB4.out); exact ⟨hz.1, hz.2.1, hz.2.2.1, hz.2.2.2.1, hz.2.2.2.2.1, hz.2.2.2.2.2.1, hz.2.2.2.2.2.2, hz2.1, hz2.2.1, hz2.2.2.1, hz2.2.2.2.1, hz2.2.2.2.2.1, hz2.2.2.2.2.2.1, hz2.2.2.2.2.2.2⟩) | (have hz := rw_cells (HZr.out.mono HBd.out); have hz2 := rw_cells (HZq.out.mono HBd.out); exact ⟨hz.1, hz.2.1, hz.2.2.1, hz.2.2.2.1, hz.2.2.2.2.1, hz.2.2.2.2.2.1, hz.2.2.2.2.2.2, hz2.1, hz2.2.1, hz2.2.2.1, hz2.2.2.2.1, hz2.2.2.2.2.1, hz2.2.2.2.2.2.1, hz2.2.2.2.2.2.2⟩) | go_keep) (first | ((with_reducible refine (HU2.out _).mono ?_); rintro e w5 ⟨rfl, hb5⟩; have HB5 := Lib.hid (below_step HB4.out hb5); clear hb5) | ((with_reducible refine (HU1.out _).mono ?_); rintro e w4 ⟨rfl, hb4⟩; have HB4 := Lib.hid (below_step HBd.out hb4); clear hb4))
                have HBq := Lib.hid (fun nq => below_step HB5.out (below_drew w5 nq))
                obtain ⟨p0, p1, p2, p3, p4, p5, p6⟩ := rw_cells (HZr.out.mono HB5.out)
                obtain ⟨s0, s1, s2, s3, s4, s5, s6⟩ := rw_cells (HZq.out.mono HB5.out)
                have sq5 := fun nq => (rw_cells (HZq.out.mono (HBq.out nq))).2.2.2.2.2.1

                go_wp2_with fail
                go_quiet (fail)
                go_wp2_with fail
                go_roundw
                case rel => exact ⟨i + 1, f, by omega, by omega, by omega, by go_num, rfl, Lib.hid (fun _ => HC.out hlt), Lib.hid (below_step HB5.out (below_drew _ _))⟩
                case measure => simp [intOf]; omega
              | false =>
                rw [hlk] at HU1
                by_cases hst : r.st < 1
                · cases hqk : q.sk with
                  | true =>
                    rw [hqk] at HU2
                    go_upto_region 8 with fail
                    go_region_held3 (fun w' => w'.cell? ⟨b1, o1 + i * 7, none⟩ = some (.int .i64 r.pg) ∧ w'.cell? ⟨b1, o1 + i * 7 + 1, none⟩ = some (.int .i64 r.ch) ∧ w'.cell? ⟨b1, o1 + i * 7 + 2, none⟩ = some (.int .i64 r.pa) ∧ w'.cell? ⟨b1, o1 + i * 7 + 3, none⟩ = some (.int .i64 r.st) ∧ w'.cell? ⟨b1, o1 + i * 7 + 4, none⟩ = some (.bool r.sb) ∧ w'.cell? ⟨b1, o1 + i * 7 + 5, none⟩ = some (.bool r.sk) ∧ w'.cell? ⟨b1, o1 + i * 7 + 6, none⟩ = some (.bool r.lk) ∧ w'.cell? ⟨b1, o1 + k * 7, none⟩ = some (.int .i64 q.pg) ∧ w'.cell? ⟨b1, o1 + k * 7 + 1, none⟩ = some (.int .i64 q.ch) ∧ w'.cell? ⟨b1, o1 + k * 7 + 2, none⟩ = some (.int .i64 q.pa) ∧ w'.cell? ⟨b1, o1 + k * 7 + 3, none⟩ = some (.int .i64 q.st) ∧ w'.cell? ⟨b1, o1 + k * 7 + 4, none⟩ = some (.bool q.sb) ∧ w'.cell? ⟨b1, o1 + k * 7 + 5, none⟩ = some (.bool q.sk) ∧ w'.cell? ⟨b1, o1 + k * 7 + 6, none⟩ = some (.bool q.lk)) (first | (have hz := rw_cells (HZr.out.mono HB5.out); have hz2 := rw_cells (HZq.out.mono HB5.out); exact ⟨hz.1, hz.2.1, hz.2.2.1, hz.2.2.2.1, hz.2.2.2.2.1, hz.2.2.2.2.2.1, hz.2.2.2.2.2.2, hz2.1, hz2.2.1, hz2.2.2.1, hz2.2.2.2.1, hz2.2.2.2.2.1, hz2.2.2.2.2.2.1, hz2.2.2.2.2.2.2⟩) | (have hz := rw_cells (HZr.out.mono HB4.out); have hz2 := rw_cells (HZq.out.mono HB4.out); exact ⟨hz.1, hz.2.1, hz.2.2.1, hz.2.2.2.1, hz.2.2.2.2.1, hz.2.2.2.2.2.1, hz.2.2.2.2.2.2, hz2.1, hz2.2.1, hz2.2.2.1, hz2.2.2.2.1, hz2.2.2.2.2.1, hz2.2.2.2.2.2.1, hz2.2.2.2.2.2.2⟩) | (have hz := rw_cells (HZr.out.mono HBd.out); have hz2 := rw_cells (HZq.out.mono HBd.out); exact ⟨hz.1, hz.2.1, hz.2.2.1, hz.2.2.2.1, hz.2.2.2.2.1, hz.2.2.2.2.2.1, hz.2.2.2.2.2.2, hz2.1, hz2.2.1, hz2.2.2.1, hz2.2.2.2.1, hz2.2.2.2.2.1, hz2.2.2.2.2.2.1, hz2.2.2.2.2.2.2⟩) | go_keep) (first | ((with_reducible refine (HU2.out _).mono ?_); rintro e w5 ⟨rfl, hb5⟩; have HB5 := Lib.hid (below_step HB4.out hb5); clear hb5) | ((with_reducible refine (HU1.out _).mono ?_); rintro e w4 ⟨rfl, hb4⟩; have HB4 := Lib.hid (below_step HBd.out hb4); clear hb4))
                    have HBq := Lib.hid (fun nq => below_step HB5.out (below_drew w5 nq))
                    obtain ⟨p0, p1, p2, p3, p4, p5, p6⟩ := rw_cells (HZr.out.mono HB5.out)
                    obtain ⟨s0, s1, s2, s3, s4, s5, s6⟩ := rw_cells (HZq.out.mono HB5.out)
                    have sq5 := fun nq => (rw_cells (HZq.out.mono (HBq.out nq))).2.2.2.2.2.1

                    go_wp2_with fail
                    go_quiet (fail)
                    go_wp2_with fail
                    go_roundw
                    case rel => exact ⟨i + 1, f, by omega, by omega, by omega, by go_num, rfl, Lib.hid (fun _ => HC.out hlt), Lib.hid (below_step HB5.out (below_drew _ _))⟩
                    case measure => simp [intOf]; omega
                  | false =>
                    rw [hqk] at HU2
                    go_upto_region 8 with fail
                    go_region_held3 (fun w' => w'.cell? ⟨b1, o1 + i * 7, none⟩ = some (.int .i64 r.pg) ∧ w'.cell? ⟨b1, o1 + i * 7 + 1, none⟩ = some (.int .i64 r.ch) ∧ w'.cell? ⟨b1, o1 + i * 7 + 2, none⟩ = some (.int .i64 r.pa) ∧ w'.cell? ⟨b1, o1 + i * 7 + 3, none⟩ = some (.int .i64 r.st) ∧ w'.cell? ⟨b1, o1 + i * 7 + 4, none⟩ = some (.bool r.sb) ∧ w'.cell? ⟨b1, o1 + i * 7 + 5, none⟩ = some (.bool r.sk) ∧ w'.cell? ⟨b1, o1 + i * 7 + 6, none⟩ = some (.bool r.lk) ∧ w'.cell? ⟨b1, o1 + k * 7, none⟩ = some (.int .i64 q.pg) ∧ w'.cell? ⟨b1, o1 + k * 7 + 1, none⟩ = some (.int .i64 q.ch) ∧ w'.cell? ⟨b1, o1 + k * 7 + 2, none⟩ = some (.int .i64 q.pa) ∧ w'.cell? ⟨b1, o1 + k * 7 + 3, none⟩ = some (.int .i64 q.st) ∧ w'.cell? ⟨b1, o1 + k * 7 + 4, none⟩ = some (.bool q.sb) ∧ w'.cell? ⟨b1, o1 + k * 7 + 5, none⟩ = some (.bool q.sk) ∧ w'.cell? ⟨b1, o1 + k * 7 + 6, none⟩ = some (.bool q.lk)) (first | (have hz := rw_cells (HZr.out.mono HB5.out); have hz2 := rw_cells (HZq.out.mono HB5.out); exact ⟨hz.1, hz.2.1, hz.2.2.1, hz.2.2.2.1, hz.2.2.2.2.1, hz.2.2.2.2.2.1, hz.2.2.2.2.2.2, hz2.1, hz2.2.1, hz2.2.2.1, hz2.2.2.2.1, hz2.2.2.2.2.1, hz2.2.2.2.2.2.1, hz2.2.2.2.2.2.2⟩) | (have hz := rw_cells (HZr.out.mono HB4.out); have hz2 := rw_cells (HZq.out.mono HB4.out); exact ⟨hz.1, hz.2.1, hz.2.2.1, hz.2.2.2.1, hz.2.2.2.2.1, hz.2.2.2.2.2.1, hz.2.2.2.2.2.2, hz2.1, hz2.2.1, hz2.2.2.1, hz2.2.2.2.1, hz2.2.2.2.2.1, hz2.2.2.2.2.2.1, hz2.2.2.2.2.2.2⟩) | (have hz := rw_cells (HZr.out.mono HBd.out); have hz2 := rw_cells (HZq.out.mono HBd.out); exact ⟨hz.1, hz.2.1, hz.2.2.1, hz.2.2.2.1, hz.2.2.2.2.1, hz.2.2.2.2.2.1, hz.2.2.2.2.2.2, hz2.1, hz2.2.1, hz2.2.2.1, hz2.2.2.2.1, hz2.2.2.2.2.1, hz2.2.2.2.2.2.1, hz2.2.2.2.2.2.2⟩) | go_keep) (first | ((with_reducible refine (HU2.out _).mono ?_); rintro e w5 ⟨rfl, hb5⟩; have HB5 := Lib.hid (below_step HB4.out hb5); clear hb5) | ((with_reducible refine (HU1.out _).mono ?_); rintro e w4 ⟨rfl, hb4⟩; have HB4 := Lib.hid (below_step HBd.out hb4); clear hb4))
                    have HBq := Lib.hid (fun nq => below_step HB5.out (below_drew w5 nq))
                    obtain ⟨p0, p1, p2, p3, p4, p5, p6⟩ := rw_cells (HZr.out.mono HB5.out)
                    obtain ⟨s0, s1, s2, s3, s4, s5, s6⟩ := rw_cells (HZq.out.mono HB5.out)
                    have sq5 := fun nq => (rw_cells (HZq.out.mono (HBq.out nq))).2.2.2.2.2.1
                    obtain ⟨⟨xa, xb⟩, hxa, hxi⟩ := HNe.out (by unfold Ln.plainRw; rw [hsk, hsb, hlk, decide_eq_true hst]; rfl) hqk
                    have HXa := Lib.hid (HR9.out k _ hxa)
                    have HXi := Lib.hid (HR9.out i _ hxi)
                    have x0 := fun nq => (nm_cells (HXa.out.mono (HBq.out nq))).1
                    have x2 := fun nq => (nm_cells (HXi.out.mono (HBq.out nq))).1
                    have x3 := fun nq => (nm_cells (HXi.out.mono (HBq.out nq))).2
                    simp only [wr_is16] at x2
                    clear hxa hxi
                    have sq5' := sq5

                    go_wp2_with fail
                    go_quiet (fail)
                    go_wp2_with fail
                    go_roundw
                    case rel => exact ⟨i + 1, f, by omega, by omega, by omega, by go_num, rfl, Lib.hid (fun _ => HC.out hlt), Lib.hid (below_step HB5.out (below_drew _ _))⟩
                    case measure => simp [intOf]; omega
                · have hst2 : decide (r.st < 1) = false := decide_eq_false hst
                  go_upto_region 8 with fail
                  go_region_held3 (fun w' => w'.cell? ⟨b1, o1 + i * 7, none⟩ = some (.int .i64 r.pg) ∧ w'.cell? ⟨b1, o1 + i * 7 + 1, none⟩ = some (.int .i64 r.ch) ∧ w'.cell? ⟨b1, o1 + i * 7 + 2, none⟩ = some (.int .i64 r.pa) ∧ w'.cell? ⟨b1, o1 + i * 7 + 3, none⟩ = some (.int .i64 r.st) ∧ w'.cell? ⟨b1, o1 + i * 7 + 4, none⟩ = some (.bool r.sb) ∧ w'.cell? ⟨b1, o1 + i * 7 + 5, none⟩ = some (.bool r.sk) ∧ w'.cell? ⟨b1, o1 + i * 7 + 6, none⟩ = some (.bool r.lk) ∧ w'.cell? ⟨b1, o1 + k * 7, none⟩ = some (.int .i64 q.pg) ∧ w'.cell? ⟨b1, o1 + k * 7 + 1, none⟩ = some (.int .i64 q.ch) ∧ w'.cell? ⟨b1, o1 + k * 7 + 2, none⟩ = some (.int .i64 q.pa) ∧ w'.cell? ⟨b1, o1 + k * 7 + 3, none⟩ = some (.int .i64 q.st) ∧ w'.cell? ⟨b1, o1 + k * 7 + 4, none⟩ = some (.bool q.sb) ∧ w'.cell? ⟨b1, o1 + k * 7 + 5, none⟩ = some (.bool q.sk) ∧ w'.cell? ⟨b1, o1 + k * 7 + 6, none⟩ = some (.bool q.lk)) (first | (have hz := rw_cells (HZr.out.mono HB5.out); have hz2 := rw_cells (HZq.out.mono HB5.out); exact ⟨hz.1, hz.2.1, hz.2.2.1, hz.2.2.2.1, hz.2.2.2.2.1, hz.2.2.2.2.2.1, hz.2.2.2.2.2.2, hz2.1, hz2.2.1, hz2.2.2.1, hz2.2.2.2.1, hz2.2.2.2.2.1, hz2.2.2.2.2.2.1, hz2.2.2.2.2.2.2⟩) | (have hz := rw_cells (HZr.out.mono HB4.out); have hz2 := rw_cells (HZq.out.mono HB4.out); exact ⟨hz.1, hz.2.1, hz.2.2.1, hz.2.2.2.1, hz.2.2.2.2.1, hz.2.2.2.2.2.1, hz.2.2.2.2.2.2, hz2.1, hz2.2.1, hz2.2.2.1, hz2.2.2.2.1, hz2.2.2.2.2.1, hz2.2.2.2.2.2.1, hz2.2.2.2.2.2.2⟩) | (have hz := rw_cells (HZr.out.mono HBd.out); have hz2 := rw_cells (HZq.out.mono HBd.out); exact ⟨hz.1, hz.2.1, hz.2.2.1, hz.2.2.2.1, hz.2.2.2.2.1, hz.2.2.2.2.2.1, hz.2.2.2.2.2.2, hz2.1, hz2.2.1, hz2.2.2.1, hz2.2.2.2.1, hz2.2.2.2.2.1, hz2.2.2.2.2.2.1, hz2.2.2.2.2.2.2⟩) | go_keep) (first | ((with_reducible refine (HU2.out _).mono ?_); rintro e w5 ⟨rfl, hb5⟩; have HB5 := Lib.hid (below_step HB4.out hb5); clear hb5) | ((with_reducible refine (HU1.out _).mono ?_); rintro e w4 ⟨rfl, hb4⟩; have HB4 := Lib.hid (below_step HBd.out hb4); clear hb4))
                  have HBq := Lib.hid (fun nq => below_step HB5.out (below_drew w5 nq))
                  obtain ⟨p0, p1, p2, p3, p4, p5, p6⟩ := rw_cells (HZr.out.mono HB5.out)
                  obtain ⟨s0, s1, s2, s3, s4, s5, s6⟩ := rw_cells (HZq.out.mono HB5.out)
                  have sq5 := fun nq => (rw_cells (HZq.out.mono (HBq.out nq))).2.2.2.2.2.1

                  go_wp2_with fail
                  go_quiet (fail)
                  go_wp2_with fail
                  go_roundw
                  case rel => exact ⟨i + 1, f, by omega, by omega, by omega, by go_num, rfl, Lib.hid (fun _ => HC.out hlt), Lib.hid (below_step HB5.out (below_drew _ _))⟩
                  case measure => simp [intOf]; omega
        · have heq : ∀ w, (binOp .eql 26 (.agg #[.int .i64 ua, .int .i64 ub, .int .i64 uc]) (.agg #[.int .i64 va, .int .i64 vb, .int .i64 vc])).run Try.prog w = .ok (.bool false) w := fun w => by
            rw [run_eql_struct, eq_unit]
            have e : decide ((ua, ub, uc) = (va, vb, vc)) = false := by rw [decide_eq_false_iff_not]; exact hne
            rw [e]; rfl
          have HCn : Hid (i + 1 ≤ n → cutAt u l i) := Lib.hid (fun _ => .inr ⟨q, r, by omega, by rw [Hk.out]; exact Hq.out, Hr.out, by rw [← HUr.out, ← HUq.out]; exact hne⟩)
          clear hne
          go_upto_region 8 with fail
          go_region_held3 (fun w' => w'.cell? ⟨b1, o1 + i * 7, none⟩ = some (.int .i64 r.pg) ∧ w'.cell? ⟨b1, o1 + i * 7 + 1, none⟩ = some (.int .i64 r.ch) ∧ w'.cell? ⟨b1, o1 + i * 7 + 2, none⟩ = some (.int .i64 r.pa) ∧ w'.cell? ⟨b1, o1 + i * 7 + 3, none⟩ = some (.int .i64 r.st) ∧ w'.cell? ⟨b1, o1 + i * 7 + 4, none⟩ = some (.bool r.sb) ∧ w'.cell? ⟨b1, o1 + i * 7 + 5, none⟩ = some (.bool r.sk) ∧ w'.cell? ⟨b1, o1 + i * 7 + 6, none⟩ = some (.bool r.lk) ∧ w'.cell? ⟨b1, o1 + k * 7, none⟩ = some (.int .i64 q.pg) ∧ w'.cell? ⟨b1, o1 + k * 7 + 1, none⟩ = some (.int .i64 q.ch) ∧ w'.cell? ⟨b1, o1 + k * 7 + 2, none⟩ = some (.int .i64 q.pa) ∧ w'.cell? ⟨b1, o1 + k * 7 + 3, none⟩ = some (.int .i64 q.st) ∧ w'.cell? ⟨b1, o1 + k * 7 + 4, none⟩ = some (.bool q.sb) ∧ w'.cell? ⟨b1, o1 + k * 7 + 5, none⟩ = some (.bool q.sk) ∧ w'.cell? ⟨b1, o1 + k * 7 + 6, none⟩ = some (.bool q.lk)) (first | (have hz := rw_cells (HZr.out.mono HB5.out); have hz2 := rw_cells (HZq.out.mono HB5.out); exact ⟨hz.1, hz.2.1, hz.2.2.1, hz.2.2.2.1, hz.2.2.2.2.1, hz.2.2.2.2.2.1, hz.2.2.2.2.2.2, hz2.1, hz2.2.1, hz2.2.2.1, hz2.2.2.2.1, hz2.2.2.2.2.1, hz2.2.2.2.2.2.1, hz2.2.2.2.2.2.2⟩) | (have hz := rw_cells (HZr.out.mono HB4.out); have hz2 := rw_cells (HZq.out.mono HB4.out); exact ⟨hz.1, hz.2.1, hz.2.2.1, hz.2.2.2.1, hz.2.2.2.2.1, hz.2.2.2.2.2.1, hz.2.2.2.2.2.2, hz2.1, hz2.2.1, hz2.2.2.1, hz2.2.2.2.1, hz2.2.2.2.2.1, hz2.2.2.2.2.2.1, hz2.2.2.2.2.2.2⟩) | (have hz := rw_cells (HZr.out.mono HBd.out); have hz2 := rw_cells (HZq.out.mono HBd.out); exact ⟨hz.1, hz.2.1, hz.2.2.1, hz.2.2.2.1, hz.2.2.2.2.1, hz.2.2.2.2.2.1, hz.2.2.2.2.2.2, hz2.1, hz2.2.1, hz2.2.2.1, hz2.2.2.2.1, hz2.2.2.2.2.1, hz2.2.2.2.2.2.1, hz2.2.2.2.2.2.2⟩) | go_keep) (first | ((with_reducible refine (HU2.out _).mono ?_); rintro e w5 ⟨rfl, hb5⟩; have HB5 := Lib.hid (below_step HB4.out hb5); clear hb5) | ((with_reducible refine (HU1.out _).mono ?_); rintro e w4 ⟨rfl, hb4⟩; have HB4 := Lib.hid (below_step HBd.out hb4); clear hb4))
          have HW5 := Lib.hid HB5.out
          have HP3 := Lib.hid (SlcAt.mono HP1.out (below_step HW5.out (below_drew16 w5)))
          have HP4 := Lib.hid (SlcAt.mono HP2.out (below_step HW5.out (below_drew16 w5)))
          have HD5 := Lib.hid (below_step HW5.out (below_drew16 w5))
          go_upto_region 12 with fail
          go_region_held3 (fun w' => True) (trivial) (first | ((with_reducible refine (refNums_same _ _ _ _ HV6.out HP6.out).mono ?_); rintro e w7 ⟨rfl, hb7⟩; have HB7 := Lib.hid (below_step HB6.out hb7); clear hb7) | ((with_reducible refine (HKf.out _ _ HP3.out).mono ?_); rintro e w6 ⟨v6, rfl, h6, hb6⟩; have HV6 := Lib.hid h6; have HP6 := Lib.hid (SlcAt.mono HP4.out hb6); have HB6 := Lib.hid (below_step HD5.out hb6); clear h6 hb6))
          go_wp2_with fail
          go_roundw
          case rel => exact ⟨i + 1, i, by omega, by omega, by omega, by go_num, rfl, HCn, HB7⟩
          case measure => simp [intOf]; omega
      · have cd : decide (i < n) = false := by rw [decide_eq_false_iff_not]; exact hlast
        have hil : i = n := by omega
        have HCn : Hid (i + 1 ≤ n → cutAt u l i) := Lib.hid (fun h => absurd h (by omega))
        have il2 : ((i : Int) < (n : Int)) = False := by rw [eq_iff_iff]; exact ⟨fun h => by omega, False.elim⟩
        clear hil
        have HDq := Lib.hid (fun nq => below_step HW.out (below_drew wr nq))
        have HP3 := Lib.hid (fun nq => SlcAt.mono HP1.out (HDq.out nq))
        have HP4 := Lib.hid (fun nq => SlcAt.mono HP2.out (HDq.out nq))
        go_upto_region 8 with fail
        go_quiet (fail)
        go_upto_region 12 with fail
        go_region_held3 (fun w' => True) (trivial) (first | ((with_reducible refine (refNums_same _ _ _ _ HV6.out HP6.out).mono ?_); rintro e w7 ⟨rfl, hb7⟩; have HB7 := Lib.hid (below_step HB6.out hb7); clear hb7) | ((with_reducible refine (HKf.out _ _ (HP3.out _)).mono ?_); rintro e w6 ⟨v6, rfl, h6, hb6⟩; have HV6 := Lib.hid h6; have HP6 := Lib.hid (SlcAt.mono (HP4.out _) hb6); have HB6 := Lib.hid (below_step (HDq.out _) hb6); clear h6 hb6))
        go_wp2_with fail
        go_roundw
        case rel => exact ⟨i + 1, i, by omega, by omega, by omega, by go_num, rfl, HCn, HB7⟩
        case measure => simp [intOf]; omega
    · go_wp2
      go_ret
      exact ⟨rfl, below_step HB2.out HW.out⟩
end Go.Proofs.Ytffjboddnjbepaa
