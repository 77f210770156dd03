/-
  The reference's Is: a table is the same as itself, wherever each of the two lies.
-/
import Derived.Test.YtmehldekebphfaaGreatDoorCalls7
import Derived.BigQuiet
set_option linter.unusedVariables false
set_option linter.unusedSimpArgs false
namespace Go.Proofs.YtmehldekebphfaaGreatDoor
open Go.RowKit

theorem drew_cell7 (w : World) (n : Nat) (p : Addr) : (w.drewN n).cell? p = w.cell? p := rfl
theorem drew_add7 (w : World) (n m : Nat) : (w.drewN n).drewN m = w.drewN (n + m) := by simp [World.drewN, Nat.add_assoc]
theorem ch_cells {w : World} {b o : Nat} {c : Mt.Ch} (h : RecAt w b o (chC c)) : w.cell? ⟨b, o, none⟩ = some (.int .i32 c.code) ∧ w.cell? ⟨b, o + 1, none⟩ = some (.int .i64 c.w) ∧ w.cell? ⟨b, o + 2, none⟩ = some (.int .i64 c.h) ∧ w.cell? ⟨b, o + 3, none⟩ = some (.int .i64 c.d) :=
  ⟨h 0 _ rfl, h 1 _ rfl, h 2 _ rfl, h 3 _ rfl⟩
theorem kn_cells {w : World} {b o : Nat} {c : Mt.Kn} (h : RecAt w b o (knC c)) : w.cell? ⟨b, o, none⟩ = some (.int .i32 c.a) ∧ w.cell? ⟨b, o + 1, none⟩ = some (.int .i32 c.b) ∧ w.cell? ⟨b, o + 2, none⟩ = some (.int .i64 c.w) :=
  ⟨h 0 _ rfl, h 1 _ rfl, h 2 _ rfl⟩
theorem lg_cells {w : World} {b o : Nat} {c : Mt.Lg} (h : RecAt w b o (lgC c)) : w.cell? ⟨b, o, none⟩ = some (.int .i32 c.a) ∧ w.cell? ⟨b, o + 1, none⟩ = some (.int .i32 c.b) ∧ w.cell? ⟨b, o + 2, none⟩ = some (.int .i32 c.to) :=
  ⟨h 0 _ rfl, h 1 _ rfl, h 2 _ rfl⟩

set_option maxHeartbeats 8000000 in
set_option maxRecDepth 100000 in
theorem is_self (v1 v2 : Value) (m : Mt.Tab) (w : World) (h1 : MetAt w v1 m) (h2 : MetAt w v2 m) : Calls Tryz.prog 11 #[v1, v2] w (Ret (.bool true) w) := by
  obtain ⟨cv1, kv1, lv1, rfl, a1, b1, c1⟩ := h1
  obtain ⟨cv2, kv2, lv2, rfl, a2, b2, c2⟩ := h2
  have HA1 := Lib.hid a1
  have HA2 := Lib.hid a2
  have HB1 := Lib.hid b1
  have HB2 := Lib.hid b2
  have HC1 := Lib.hid c1
  have HC2 := Lib.hid c2
  obtain ⟨⟨p1, k1, rfl, _⟩, ma, _⟩ := a1
  obtain ⟨⟨p2, k2, rfl, _⟩, _, _⟩ := a2
  obtain ⟨⟨p3, k3, rfl, _⟩, mb, _⟩ := b1
  obtain ⟨⟨p4, k4, rfl, _⟩, _, _⟩ := b2
  obtain ⟨⟨p5, k5, rfl, _⟩, mc, _⟩ := c1
  obtain ⟨⟨p6, k6, rfl, _⟩, _, _⟩ := c2
  have hza : m.chars.length ≤ 9223372036854775807 := by unfold maxLen at ma; omega
  have hzb : m.kerns.length ≤ 9223372036854775807 := by unfold maxLen at mb; omega
  have hzc : m.ligs.length ≤ 9223372036854775807 := by unfold maxLen at mc; omega
  obtain ⟨na, hna⟩ : ∃ n, n = m.chars.length := ⟨_, rfl⟩
  obtain ⟨nb, hnb⟩ : ∃ n, n = m.kerns.length := ⟨_, rfl⟩
  obtain ⟨nc, hnc⟩ : ∃ n, n = m.ligs.length := ⟨_, rfl⟩
  obtain ⟨sw, hsw⟩ : ∃ n, n = m.sw := ⟨_, rfl⟩
  obtain ⟨st, hst⟩ : ∃ n, n = m.st := ⟨_, rfl⟩
  obtain ⟨sk, hsk⟩ : ∃ n, n = m.sk := ⟨_, rfl⟩
  obtain ⟨so, hso⟩ : ∃ n, n = m.order := ⟨_, rfl⟩
  obtain ⟨hy, hhy⟩ : ∃ n, n = m.hyph := ⟨_, rfl⟩
  have q : ∀ wx, (binOp .neq 23 (.agg #[.int .i64 sw, .int .i64 st, .int .i64 sk, .int .i64 so]) (.agg #[.int .i64 sw, .int .i64 st, .int .i64 sk, .int .i64 so])).run Tryz.prog wx = .ok (.bool false) wx := fun wx => (same_gl sw st sk so wx).2
  have Hna := Lib.hid hna
  have Hnb := Lib.hid hnb
  have Hnc := Lib.hid hnc
  unfold metV
  rw [← hna] at hza ⊢
  rw [← hnb] at hzb ⊢
  rw [← hnc] at hzc ⊢
  rw [← hsw, ← hst, ← hsk, ← hso, ← hhy]
  obtain ⟨W1, hW1⟩ : ∃ W1, W1 = (w.alloc (.cells #[.int .i64 sw, .int .i64 st, .int .i64 sk, .int .i64 so, .int .i32 hy, .slice p1 na k1, .slice p3 nb k3, .slice p5 nc k5] 28)).alloc (.cells #[.int .i64 sw, .int .i64 st, .int .i64 sk, .int .i64 so, .int .i32 hy, .slice p2 na k2, .slice p4 nb k4, .slice p6 nc k6] 28) := ⟨_, rfl⟩
  clear ma mb mc hna hnb hnc hsw hst hsk hso hhy
  go_enter Tryz.func11, Tryz.ntmps11
  go_wp2_with fail
  rw [← hW1]
  have hb : Below w.heap.size w W1 := by rw [hW1]; exact below_step (below_alloc _ _) (below_alloc _ _)
  have HBw := Lib.hid hb
  have x5 : W1.cell? ⟨w.heap.size, 5, none⟩ = some (.slice p1 na k1) := by rw [hW1]; simp
  have x6 : W1.cell? ⟨w.heap.size, 6, none⟩ = some (.slice p3 nb k3) := by rw [hW1]; simp
  have x7 : W1.cell? ⟨w.heap.size, 7, none⟩ = some (.slice p5 nc k5) := by rw [hW1]; simp
  have z5 : W1.cell? ⟨w.heap.size + 1, 5, none⟩ = some (.slice p2 na k2) := by rw [hW1]; simp
  have z6 : W1.cell? ⟨w.heap.size + 1, 6, none⟩ = some (.slice p4 nb k4) := by rw [hW1]; simp
  have z7 : W1.cell? ⟨w.heap.size + 1, 7, none⟩ = some (.slice p6 nc k6) := by rw [hW1]; simp
  clear hW1 hb q
  go_loopw [5] (fun iv wr => ∃ k q : Nat, k ≤ na ∧ iv = .int .i64 k ∧ wr = W1.drewN q) (fun iv _ => na - (intOf iv).toNat)
  case atStart => exact ⟨0, 0, Nat.zero_le _, rfl, rfl⟩
  case round =>
    obtain ⟨k, q0, hk, rfl, rfl⟩ := hrel
    by_cases hlt : k < na
    · obtain ⟨b1, o1, d1, e1, r1⟩ := HA1.out.2.2 (by rw [← Hna.out]; omega)
      obtain ⟨b2, o2, d2, e2, r2⟩ := HA2.out.2.2 (by rw [← Hna.out]; omega)
      obtain ⟨rfl, rfl⟩ : p1 = some ⟨b1, o1, none⟩ ∧ k1 = d1 := by injection e1 with a1 a2 a3; exact ⟨a1, a3⟩
      obtain ⟨rfl, rfl⟩ : p2 = some ⟨b2, o2, none⟩ ∧ k2 = d2 := by injection e2 with a1 a2 a3; exact ⟨a1, a3⟩
      obtain ⟨c, hc⟩ : ∃ c, m.chars[k]? = some c := ⟨_, List.getElem?_eq_getElem (by rw [← Hna.out]; exact hlt)⟩
      have y1 := ch_cells ((r1 k c hc).mono HBw.out)
      have y2 := ch_cells ((r2 k c hc).mono HBw.out)
      obtain ⟨y1a, y1b, y1c, y1d⟩ := y1
      obtain ⟨y2a, y2b, y2c, y2d⟩ := y2
      have k0 : (0 : Int) ≤ (k : Int) := by omega
      have kl : (k : Int) < (na : Int) := by omega
      have qs : ∀ wx, (binOp .neq 38 (.agg #[.int .i32 c.code, .int .i64 c.w, .int .i64 c.h, .int .i64 c.d]) (.agg #[.int .i32 c.code, .int .i64 c.w, .int .i64 c.h, .int .i64 c.d])).run Tryz.prog wx = .ok (.bool false) wx := fun wx => (same_ch c wx).2
      clear r1 r2 e1 e2 hc
      go_wp2_with fail
      go_quiet (fail)
      go_wp2
      go_roundw
      case rel => exact ⟨k + 1, q0 + nq, by omega, by go_num, by first | rfl | exact drew_add7 _ _ _⟩
      case measure => simp [intOf]; omega
    · go_wp2_with fail
      go_loopw [6] (fun iv wr => ∃ k q : Nat, k ≤ nb ∧ iv = .int .i64 k ∧ wr = W1.drewN q) (fun iv _ => nb - (intOf iv).toNat)
      case atStart => exact ⟨0, q0, Nat.zero_le _, rfl, rfl⟩
      case round =>
        obtain ⟨k, q0, hk, rfl, rfl⟩ := hrel
        by_cases hlt : k < nb
        · obtain ⟨b1, o1, d1, e1, r1⟩ := HB1.out.2.2 (by rw [← Hnb.out]; omega)
          obtain ⟨b2, o2, d2, e2, r2⟩ := HB2.out.2.2 (by rw [← Hnb.out]; omega)
          obtain ⟨rfl, rfl⟩ : p3 = some ⟨b1, o1, none⟩ ∧ k3 = d1 := by injection e1 with a1 a2 a3; exact ⟨a1, a3⟩
          obtain ⟨rfl, rfl⟩ : p4 = some ⟨b2, o2, none⟩ ∧ k4 = d2 := by injection e2 with a1 a2 a3; exact ⟨a1, a3⟩
          obtain ⟨c, hc⟩ : ∃ c, m.kerns[k]? = some c := ⟨_, List.getElem?_eq_getElem (by rw [← Hnb.out]; exact hlt)⟩
          have y1 := kn_cells ((r1 k c hc).mono HBw.out)
          have y2 := kn_cells ((r2 k c hc).mono HBw.out)
          obtain ⟨y1a, y1b, y1c⟩ := y1
          obtain ⟨y2a, y2b, y2c⟩ := y2
          have k0 : (0 : Int) ≤ (k : Int) := by omega
          have kl : (k : Int) < (nb : Int) := by omega
          have qs : ∀ wx, (binOp .neq 52 (.agg #[.int .i32 c.a, .int .i32 c.b, .int .i64 c.w]) (.agg #[.int .i32 c.a, .int .i32 c.b, .int .i64 c.w])).run Tryz.prog wx = .ok (.bool false) wx := fun wx => (same_kn c wx).2
          clear r1 r2 e1 e2 hc
          go_wp2_with fail
          go_quiet (fail)
          go_wp2
          go_roundw
          case rel => exact ⟨k + 1, q0 + nq, by omega, by go_num, by first | rfl | exact drew_add7 _ _ _⟩
          case measure => simp [intOf]; omega
        · go_wp2_with fail
          go_loopw [7] (fun iv wr => ∃ k q : Nat, k ≤ nc ∧ iv = .int .i64 k ∧ wr = W1.drewN q) (fun iv _ => nc - (intOf iv).toNat)
          case atStart => exact ⟨0, q0, Nat.zero_le _, rfl, rfl⟩
          case round =>
            obtain ⟨k, q0, hk, rfl, rfl⟩ := hrel
            by_cases hlt : k < nc
            · obtain ⟨b1, o1, d1, e1, r1⟩ := HC1.out.2.2 (by rw [← Hnc.out]; omega)
              obtain ⟨b2, o2, d2, e2, r2⟩ := HC2.out.2.2 (by rw [← Hnc.out]; omega)
              obtain ⟨rfl, rfl⟩ : p5 = some ⟨b1, o1, none⟩ ∧ k5 = d1 := by injection e1 with a1 a2 a3; exact ⟨a1, a3⟩
              obtain ⟨rfl, rfl⟩ : p6 = some ⟨b2, o2, none⟩ ∧ k6 = d2 := by injection e2 with a1 a2 a3; exact ⟨a1, a3⟩
              obtain ⟨c, hc⟩ : ∃ c, m.ligs[k]? = some c := ⟨_, List.getElem?_eq_getElem (by rw [← Hnc.out]; exact hlt)⟩
              have y1 := lg_cells ((r1 k c hc).mono HBw.out)
              have y2 := lg_cells ((r2 k c hc).mono HBw.out)
              obtain ⟨y1a, y1b, y1c⟩ := y1
              obtain ⟨y2a, y2b, y2c⟩ := y2
              have k0 : (0 : Int) ≤ (k : Int) := by omega
              have kl : (k : Int) < (nc : Int) := by omega
              have qs : ∀ wx, (binOp .neq 54 (.agg #[.int .i32 c.a, .int .i32 c.b, .int .i32 c.to]) (.agg #[.int .i32 c.a, .int .i32 c.b, .int .i32 c.to])).run Tryz.prog wx = .ok (.bool false) wx := fun wx => (same_lg c wx).2
              clear r1 r2 e1 e2 hc
              go_wp2_with fail
              go_quiet (fail)
              go_wp2
              go_roundw
              case rel => exact ⟨k + 1, q0 + nq, by omega, by go_num, by first | rfl | exact drew_add7 _ _ _⟩
              case measure => simp [intOf]; omega
            · go_wp2
              go_ret
              exact ⟨rfl, below_step HBw.out (below_drew _ _)⟩
end Go.Proofs.YtmehldekebphfaaGreatDoor
