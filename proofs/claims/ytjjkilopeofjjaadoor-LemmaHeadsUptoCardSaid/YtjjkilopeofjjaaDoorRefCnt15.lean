/-
  The reference's Count and Mark.
-/
import Derived.Test.YtjjkilopeofjjaaDoorCnt15
import Derived.BigQuiet
set_option linter.unusedVariables false
set_option linter.unusedSimpArgs false
namespace Go.Proofs.YtjjkilopeofjjaaDoor
open Go.RowKit

def Qt (v : Value) (w : World) (e : Ending) (w' : World) : Prop := e = .returned v ∧ ∃ n, w' = w.drewN n
theorem Qt.ret {v : Value} {w w' : World} {e : Ending} (h : Qt v w e w') : Ret v w e w' := by
  obtain ⟨rfl, n, rfl⟩ := h
  exact ⟨rfl, below_drew _ _⟩
theorem quiet15 {f : FuncId} {args : Array Value} {v : Value} {w : World} {n : Nat} (h : Calls Tryd.prog f args (w.drewN n) (Is v (w.drewN n))) : Calls Tryd.prog f args (w.drewN n) fun e w'' => e = .returned v ∧ ∃ m, w'' = w.drewN m := Calls.quiet_of_same (h.mono fun _ _ h => ⟨h.1, h.2.symm⟩)
theorem drewN_drewN (w : World) (a b : Nat) : (w.drewN a).drewN b = w.drewN (a + b) := World.drewN_drewN w a b
theorem quietQ15 {f : FuncId} {args : Array Value} {v : Value} {w : World} {n : Nat} (h : Calls Tryd.prog f args (w.drewN n) (Qt v (w.drewN n))) : Calls Tryd.prog f args (w.drewN n) fun e w'' => e = .returned v ∧ ∃ m, w'' = w.drewN m := h.mono fun _ _ h => ⟨h.1, by obtain ⟨m, hm⟩ := h.2; exact ⟨n + m, by rw [hm, World.drewN_drewN]⟩⟩
set_option maxHeartbeats 4000000 in
set_option maxRecDepth 100000 in
theorem refCount_any (v : Value) (L : List (List UInt8)) (a : Int) (w : World) (h : TxsAt w v L) (hs : TxSm L) : Calls Tryd.prog 10 #[v, .int .i64 a] w (Qt (cntV (Lm.cnt L a)) w) := by
  have HA := Lib.hid h
  obtain ⟨⟨pa, cp, rfl, hcap⟩, hm, _⟩ := h
  have hza : L.length ≤ 9223372036854775807 := by unfold maxLen at hm; omega
  obtain ⟨n, hn⟩ : ∃ n, n = L.length := ⟨_, rfl⟩
  have Hn := Lib.hid hn
  rw [← hn] at HA hza ⊢
  clear hm hcap
  by_cases hin : 0 ≤ a ∧ a < n
  · obtain ⟨j, rfl⟩ : ∃ j : Nat, a = j := ⟨a.toNat, by omega⟩
    have hj : j < n := by omega
    have ha0 : (0 : Int) ≤ (j : Int) := by omega
    have haj : (j : Int) < (n : Int) := by omega
    obtain ⟨b1, o1, d1, e1, r1⟩ := HA.out.2.2 (by rw [← Hn.out]; omega)
    rw [← Hn.out] at e1
    obtain ⟨rfl, rfl⟩ : pa = some ⟨b1, o1, none⟩ ∧ cp = d1 := by injection e1 with a1 a2 a3; exact ⟨a1, a3⟩
    have gj := Lm.get_of (l := L) (k := j) (by rw [← Hn.out]; exact hj)
    have yj := tx_cells (r1 j _ gj)
    rw [Nat.mul_one] at yj
    have HR := Lib.hid r1
    obtain ⟨q, hq⟩ : ∃ q, q = Lm.plain (Lm.at_ L j) := ⟨_, rfl⟩
    have HV : Hid (Lm.cnt L (j : Int) = ((upTo L q j n : Int), (Lm.eqs q (L.take n) : Int))) := Lib.hid (by rw [hq, hn]; exact cnt_in (by rw [← hn]; exact hj))
    have HC := Lib.hid (fun wx => refPlain_any _ (sm_get hs gj) wx)
    rw [← hq] at HC
    have HS := Lib.hid hs
    have u0 : upTo L q j 0 = 0 := by have := upTo_le L q j 0; omega
    have t0 : Lm.eqs q (L.take 0) = 0 := by have := all_le L q 0; omega
    generalize Lm.at_ L j = sj at *
    clear e1 r1 gj hq hs hn hin
    go_enter Tryd.func10, Tryd.ntmps10
    go_wp2_with fail
    go_loopw [6, 7, 8] (fun uv av iv wr => ∃ k d : Nat, k ≤ n ∧ iv = .int .i64 k ∧ uv = .int .i64 (upTo L q j k) ∧ av = .int .i64 (Lm.eqs q (L.take k)) ∧ Hid (wr = w.drewN d)) (fun _ _ iv _ => n - (intOf iv).toNat)
    case atStart => exact ⟨0, 0, Nat.zero_le _, rfl, by rw [u0]; rfl, by rw [t0]; rfl, Lib.hid rfl⟩
    case round =>
      obtain ⟨k, d, hk, rfl, rfl, rfl, HW⟩ := hrel
      clear u0 t0
      by_cases hlt : k < n
      · obtain ⟨x, hx⟩ : ∃ x, L[k]? = some x := ⟨_, List.getElem?_eq_getElem (by rw [← Hn.out]; exact hlt)⟩
        have y0 := tx_cells ((HR.out k x hx).mono (w' := wr) (by rw [HW.out]; exact below_drew _ _))
        rw [Nat.mul_one] at y0
        have k0 : (0 : Int) ≤ (k : Int) := by omega
        have kl : (k : Int) < (n : Int) := by omega
        have yj := cell_below (w' := wr) (by rw [HW.out]; exact below_drew _ _) yj
        have HCx := Lib.hid (fun nn => quiet15 (refPlain_any x (sm_get HS.out hx) (wr.drewN nn)))
        have HCj := Lib.hid (fun nn => quiet15 (HC.out (wr.drewN nn)))
        have hq := toList_beq15 (Lm.plain x) q
        have A1 := Lib.hid (all_next (q := q) hx)
        have U1 := Lib.hid (fun h => upTo_near (q := q) (j := j) hx h)
        have ul := upTo_le L q j k
        have al := all_le L q k
        by_cases he : Lm.plain x = q
        · rw [decide_eq_true he] at hq
          rw [if_pos he] at A1 U1
          clear hx he
          by_cases hkj : k ≤ j
          · have kj : (k : Int) ≤ (j : Int) := by omega
            have U2 := Lib.hid (U1.out hkj)
            clear U1
            generalize upTo L q j k = uk at *
            generalize Lm.eqs q (L.take k) = ak at *
            go_wp2_with fail
            go_quiet (first | with_reducible exact HCx.out _ | with_reducible exact HCj.out _)
            go_wp2
            go_roundw
            case rel => exact ⟨k + 1, d + nq, by omega, by go_num, by rw [U2.out]; go_num, by rw [A1.out]; go_num, Lib.hid (by rw [HW.out, World.drewN_drewN])⟩
            case measure => simp [intOf]; omega
          · have kj : ¬ (k : Int) ≤ (j : Int) := by omega
            have U2 := Lib.hid (upTo_far (L := L) (q := q) (j := j) (k := k) (by omega))
            clear U1
            generalize upTo L q j k = uk at *
            generalize Lm.eqs q (L.take k) = ak at *
            go_wp2_with fail
            go_quiet (first | with_reducible exact HCx.out _ | with_reducible exact HCj.out _)
            go_wp2
            go_roundw
            case rel => exact ⟨k + 1, d + nq, by omega, by go_num, by rw [U2.out], by rw [A1.out]; go_num, Lib.hid (by rw [HW.out, World.drewN_drewN])⟩
            case measure => simp [intOf]; omega
        · rw [decide_eq_false he] at hq
          rw [if_neg he] at A1 U1
          have U2 : Hid (upTo L q j (k + 1) = upTo L q j k) := Lib.hid (by
            by_cases hkj : k ≤ j
            · exact U1.out hkj
            · exact upTo_far (by omega))
          clear hx he U1
          go_wp2_with fail
          go_quiet (first | with_reducible exact HCx.out _ | with_reducible exact HCj.out _)
          go_wp2
          go_roundw
          case rel => exact ⟨k + 1, d + nq, by omega, by go_num, by rw [U2.out], by rw [A1.out]; rfl, Lib.hid (by rw [HW.out, World.drewN_drewN])⟩
          case measure => simp [intOf]; omega
      · obtain rfl : k = n := by omega
        go_wp2
        exact bodyPost_ret (v := .tuple #[.int .i64 (upTo L q j k), .int .i64 (Lm.eqs q (L.take k))]) (by simp [results, Tryd.results10, go_sem]) rfl ⟨by rw [HV.out]; rfl, d, HW.out⟩
  · have HV := Lib.hid (cnt_out (L := L) (a := a) (by rw [← hn]; exact hin))
    rw [HV.out]
    by_cases hpos : 0 < n
    · have hp : (0 : Int) < (n : Int) := by omega
      by_cases h0 : a < 0
      · clear hin HV hn
        go_enter Tryd.func10, Tryd.ntmps10
        go_wp2_with fail
        go_loopw [6, 7, 8] (fun uv av iv wr => uv = .int .i64 0 ∧ av = .int .i64 0 ∧ iv = .int .i64 0 ∧ wr = w) (fun _ _ _ _ => 0)
        case atStart => exact ⟨rfl, rfl, rfl, rfl⟩
        case round =>
          obtain ⟨rfl, rfl, rfl, rfl⟩ := hrel
          go_wp2
          exact bodyPost_ret (v := .tuple #[.int .i64 0, .int .i64 0]) (by simp [results, Tryd.results10, go_sem]) rfl ⟨rfl, 0, rfl⟩
      · have h1 : (n : Int) ≤ a := by omega
        clear hin HV hn
        go_enter Tryd.func10, Tryd.ntmps10
        go_wp2_with fail
        go_loopw [6, 7, 8] (fun uv av iv wr => uv = .int .i64 0 ∧ av = .int .i64 0 ∧ iv = .int .i64 0 ∧ wr = w) (fun _ _ _ _ => 0)
        case atStart => exact ⟨rfl, rfl, rfl, rfl⟩
        case round =>
          obtain ⟨rfl, rfl, rfl, rfl⟩ := hrel
          go_wp2
          exact bodyPost_ret (v := .tuple #[.int .i64 0, .int .i64 0]) (by simp [results, Tryd.results10, go_sem]) rfl ⟨rfl, 0, rfl⟩
    · have hp : ¬ (0 : Int) < (n : Int) := by omega
      clear hin HV hn
      go_enter Tryd.func10, Tryd.ntmps10
      go_wp2_with fail
      go_loopw [6, 7, 8] (fun uv av iv wr => uv = .int .i64 0 ∧ av = .int .i64 0 ∧ iv = .int .i64 0 ∧ wr = w) (fun _ _ _ _ => 0)
      case atStart => exact ⟨rfl, rfl, rfl, rfl⟩
      case round =>
        obtain ⟨rfl, rfl, rfl, rfl⟩ := hrel
        go_wp2
        exact bodyPost_ret (v := .tuple #[.int .i64 0, .int .i64 0]) (by simp [results, Tryd.results10, go_sem]) rfl ⟨rfl, 0, rfl⟩
end Go.Proofs.YtjjkilopeofjjaaDoor
