/-
  The landed checkRefs: all notes of all sides.
-/
import Derived.Test.YtfjplhgajoehfaaGreatDoorQChk14
set_option linter.unusedVariables false
set_option linter.unusedSimpArgs false
namespace Go.Proofs.YtfjplhgajoehfaaGreatDoor
open Go.RowKit

set_option maxHeartbeats 8000000 in
set_option maxRecDepth 100000 in
theorem refs_any (p bl : Nat) (ls : List (List UInt8)) (K : Nat → Prop) (vs : Value) (ss : List El.Side) (w : World) (h28 : w.cell? ⟨p, 28, none⟩ = some vs) (hc : w.cell? ⟨p, 30, none⟩ = some (.map (some bl))) (hm : Map14 w bl (nameM ls)) (hS : SidesK K w vs ss) :
    Calls Tryz.prog 72 #[.pointer (some ⟨p, 0, none⟩)] w (RefRet (El.refSides ls ss) w) := by
  obtain ⟨rs, hrs, heach⟩ := hS
  have HE0 := Lib.hid heach
  have HA := Lib.hid hrs.at
  obtain ⟨⟨ad, cp, rfl, _⟩, hmx, _⟩ := hrs
  obtain ⟨na, hna⟩ : ∃ n, n = rs.length := ⟨_, rfl⟩
  have Hna := Lib.hid hna
  have hza : na ≤ 9223372036854775807 := by rw [hna]; unfold maxLen at hmx; omega
  have HM := Lib.hid hm
  have HC := Lib.hid hc
  have HR0 : Hid (El.refSides ls (ss.take 0) = none) := Lib.hid rfl
  have HB0 := Lib.hid (Below.refl w.heap.size w)
  have q1 := err_nil
  have q2 := err_some
  rw [← hna] at h28
  clear hmx hna hm hc heach
  go_enter Tryz.func72, Tryz.ntmps72
  go_wp2_with fail
  clear h28
  go_loopw [14] (fun iv wr => ∃ k : Nat, k ≤ na ∧ iv = .int .i64 k ∧ Hid (El.refSides ls (ss.take k) = none) ∧ Hid (Below w.heap.size w wr)) (fun iv _ => na - (intOf iv).toNat)
  case atStart => exact ⟨0, Nat.zero_le _, rfl, HR0, HB0⟩
  case round =>
    obtain ⟨k, hk, rfl, HR, HB⟩ := hrel
    clear HR0 HB0
    by_cases hlt : k < na
    · obtain ⟨b1, o1, d1, e1, r1⟩ := HA.out.2.2 (by rw [← Hna.out]; omega)
      rw [← Hna.out] at e1
      obtain ⟨rfl, rfl⟩ : ad = some ⟨b1, o1, none⟩ ∧ cp = d1 := by injection e1 with a1 a2 a3; exact ⟨a1, a3⟩
      obtain ⟨x, hx⟩ : ∃ x, ss[k]? = some x := ⟨_, List.getElem?_eq_getElem (by rw [← HE0.out.1, ← Hna.out]; exact hlt)⟩
      obtain ⟨r, hr, hR⟩ := HE0.out.get hx
      have hrec := (r1 k r hr).mono HB.out
      have y0 : wr.cell? ⟨b1, o1 + k * 3, none⟩ = some (.slice r.c.a r.c.n r.c.cap) := hrec 0 _ rfl
      have y1 : wr.cell? ⟨b1, o1 + k * 3 + 1, none⟩ = some (.slice r.w.a r.w.n r.w.cap) := hrec 1 _ rfl
      have y2 : wr.cell? ⟨b1, o1 + k * 3 + 2, none⟩ = some (.slice r.n.a r.n.n r.n.cap) := hrec 2 _ rfl
      have k0 : (0 : Int) ≤ (k : Int) := by omega
      have kl : (k : Int) < (na : Int) := by omega
      obtain ⟨wo, hwo⟩ : ∃ wo, wo = wr := ⟨_, rfl⟩
      subst hwo
      obtain ⟨wq, hwq⟩ : ∃ wq, wq = wo.alloc (.cells #[.slice r.c.a r.c.n r.c.cap, .slice r.w.a r.w.n r.w.cap, .slice r.n.a r.n.n r.n.cap] 41) := ⟨_, rfl⟩
      have HBq := Lib.hid (below_step HB.out (by rw [hwq]; exact below_alloc _ _ : Below wo.heap.size wo wq))
      obtain ⟨ns, hns, hnE⟩ := hR.2.2
      have HNE := Lib.hid hnE
      have HNA := Lib.hid hns.at
      have hnl : ns.length = r.n.n := by
        obtain ⟨⟨a', c', e, _⟩, _, _⟩ := hns
        unfold Hd.v at e
        injection e with _ e _
        exact e.symm
      have hnm : r.n.n ≤ 9223372036854775807 := by
        have := hns.2.1
        rw [hnl] at this
        unfold maxLen at this
        omega
      have HST := Lib.hid (refSides_step hx HR.out)
      have HNL := Lib.hid hnl
      have HI0 : Hid (El.refNotes ls (x.notes.take 0) = none) := Lib.hid rfl
      generalize hrna : r.n.a = nad at *
      generalize hrnn : r.n.n = nn at *
      generalize hrnc : r.n.cap = ncp at *
      have HNV : Hid (r.n.v = .slice nad nn ncp) := Lib.hid (by unfold Hd.v; rw [hrna, hrnn, hrnc])
      clear e1 r1 hx hrec hns hnE hR hr hnl hrna hrnn hrnc
      go_upto_region 4 with fail
      rw [← hwq]
      have hbx : wq.heap[wo.heap.size]? = some (.cells #[.slice r.c.a r.c.n r.c.cap, .slice r.w.a r.w.n r.w.cap, .slice nad nn ncp] 41 (0, 0)) := by rw [hwq]; exact obj_new _ _ rfl _ _
      have b2x := mcell hbx 2 rfl
      clear hwq y0 y1 y2 hbx
      go_wp2_with fail
      clear b2x
      go_loopw [21] (fun iv wr => ∃ j : Nat, j ≤ nn ∧ iv = .int .i64 j ∧ Hid (El.refNotes ls (x.notes.take j) = none) ∧ Hid (Below w.heap.size w wr)) (fun iv _ => nn - (intOf iv).toNat)
      case atStart => exact ⟨0, Nat.zero_le _, rfl, HI0, HBq⟩
      case round =>
        obtain ⟨j, hj, rfl, HJ, HBj⟩ := hrel
        clear HI0 HBq
        by_cases hjl : j < nn
        · obtain ⟨b2, o2, d2, e2, r2⟩ := HNA.out.2.2 (by rw [HNL.out]; omega)
          rw [HNV.out, HNL.out] at e2
          obtain ⟨rfl, rfl⟩ : nad = some ⟨b2, o2, none⟩ ∧ ncp = d2 := by injection e2 with a1 a2 a3; exact ⟨a1, a3⟩
          obtain ⟨z, hz⟩ : ∃ z, x.notes[j]? = some z := ⟨_, List.getElem?_eq_getElem (by rw [← HNE.out.1, HNL.out]; exact hjl)⟩
          obtain ⟨q, hq, hQ⟩ := HNE.out.get hz
          have hrec := (r2 j q hq).mono HBj.out
          have y0 : wr.cell? ⟨b2, o2 + j * 5, none⟩ = some (.int .i64 q.ser) := hrec 0 _ rfl
          have y1 : wr.cell? ⟨b2, o2 + j * 5 + 1, none⟩ = some (.int .i64 q.fr) := hrec 1 _ rfl
          have y2 : wr.cell? ⟨b2, o2 + j * 5 + 2, none⟩ = some (.int .i64 q.til) := hrec 2 _ rfl
          have y3 : wr.cell? ⟨b2, o2 + j * 5 + 3, none⟩ = some (.slice q.t.a q.t.n q.t.cap) := hrec 3 _ rfl
          have y4 : wr.cell? ⟨b2, o2 + j * 5 + 4, none⟩ = some (.int .i64 q.loc) := hrec 4 _ rfl
          have k0 : (0 : Int) ≤ (j : Int) := by omega
          have kl : (j : Int) < (nn : Int) := by omega
          obtain ⟨wn, hwn⟩ : ∃ wn, wn = wr.alloc (.cells #[.int .i64 q.ser, .int .i64 q.fr, .int .i64 q.til, .slice q.t.a q.t.n q.t.cap, .int .i64 q.loc] 44) := ⟨_, rfl⟩
          have HBn := Lib.hid (below_step HBj.out (by rw [hwn]; exact below_alloc _ _ : Below wr.heap.size wr wn))
          have HSTJ := Lib.hid (refNotes_step hz HJ.out)
          have HCALL := Lib.hid (refsOf_any p bl ls q.ser q.fr q.til (.slice q.t.a q.t.n q.t.cap) q.loc z.txt wn (cell_below HBn.out HC.out) (HM.out.mono HBn.out) (SlcAt.mono hQ.2.2.2.2.at HBn.out))
          obtain ⟨rr, hrr⟩ : ∃ rr, rr = El.refSaid ls z.txt := ⟨_, rfl⟩
          rw [← hrr] at HSTJ HCALL
          clear e2 r2 hz hrec hQ hq hrr
          go_upto_region 7 with fail
          rw [← hwn]
          clear y0 y1 y2 y3 y4
          have hbx : wn.heap[wr.heap.size]? = some (.cells #[.int .i64 q.ser, .int .i64 q.fr, .int .i64 q.til, .slice q.t.a q.t.n q.t.cap, .int .i64 q.loc] 44 (0, 0)) := by rw [hwn]; exact obj_new _ _ rfl _ _
          have x0 := mcell hbx 0 rfl
          have x1 := mcell hbx 1 rfl
          have x2 := mcell hbx 2 rfl
          have x3 := mcell hbx 3 rfl
          have x4 := mcell hbx 4 rfl
          clear hwn hbx
          go_wp2_with fail
          refine HCALL.out.mono ?_
          intro e w9 ho
          obtain ⟨hb9, ho⟩ := ho
          have HB9 := Lib.hid (below_step HBn.out hb9)
          clear hb9 HCALL x0 x1 x2 x3 x4
          cases rr with
          | none =>
            simp only [] at ho
            subst ho
            go_wp2
            go_roundw
            case rel => exact ⟨j + 1, by omega, by go_num, HSTJ, HB9⟩
            case measure => simp [intOf]; omega
          | some a =>
            simp only [] at ho
            subst ho
            go_wp2
            go_ret
            rw [refSides_stop (HST.out.trans (refNotes_stop HSTJ.out))]
            exact ⟨HB9.out, rfl⟩
        · have hnot : Hid (El.refSides ls (ss.take (k + 1)) = none) := Lib.hid (by
            have h1 := HJ.out
            rw [List.take_of_length_le (by rw [← HNE.out.1, HNL.out]; omega)] at h1
            exact HST.out.trans h1)
          go_wp2
          go_roundw
          case rel => exact ⟨k + 1, by omega, by go_num, hnot, HBj⟩
          case measure => simp [intOf]; omega
    · have HE : Hid (ss.take k = ss) := Lib.hid (List.take_of_length_le (by rw [← HE0.out.1, ← Hna.out]; omega))
      go_wp2
      go_ret
      have h1 := HR.out
      rw [HE.out] at h1
      rw [h1]
      exact ⟨HB.out, rfl⟩
end Go.Proofs.YtfjplhgajoehfaaGreatDoor
