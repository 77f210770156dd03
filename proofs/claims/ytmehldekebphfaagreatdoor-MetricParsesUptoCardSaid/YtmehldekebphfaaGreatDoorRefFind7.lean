/-
  The reference's Find, Kern and Lig: the first record of that name.
-/
import Derived.Test.YtmehldekebphfaaGreatDoorRefIs7
import Derived.Test.YtmehldekebphfaaGreatDoorFour7
set_option linter.unusedVariables false
set_option linter.unusedSimpArgs false
namespace Go.Proofs.YtmehldekebphfaaGreatDoor
open Go.RowKit

theorem find_here {α : Type} {p : α → Bool} {l : List α} {k : Nat} {x : α} (hx : l[k]? = some x) (hp : p x = true) : (l.drop k).find? p = some x := by
  obtain ⟨hk, e⟩ := List.getElem?_eq_some_iff.1 hx
  rw [List.drop_eq_getElem_cons hk, e, List.find?_cons_of_pos hp]
theorem find_on {α : Type} {p : α → Bool} {l : List α} {k : Nat} {x : α} (hx : l[k]? = some x) (hp : p x = false) : (l.drop k).find? p = (l.drop (k + 1)).find? p := by
  obtain ⟨hk, e⟩ := List.getElem?_eq_some_iff.1 hx
  rw [List.drop_eq_getElem_cons hk, e, List.find?_cons_of_neg (by rw [hp]; decide)]
theorem find_end {α : Type} {p : α → Bool} {l : List α} {k : Nat} (h : l.length ≤ k) : (l.drop k).find? p = none := by
  rw [List.drop_of_length_le h]; rfl

theorem below_set4 {w w7 : World} {a b c d : Value} (hb : Below w.heap.size w w7) : Below w.heap.size w ((((w7.setCell ⟨w.heap.size + 1, 0, none⟩ a).setCell ⟨w.heap.size + 1, 1, none⟩ b).setCell ⟨w.heap.size + 1, 2, none⟩ c).setCell ⟨w.heap.size + 1, 3, none⟩ d) :=
  (((hb.setCell (p := ⟨w.heap.size + 1, 0, none⟩) (Nat.le_succ _) _).setCell (p := ⟨w.heap.size + 1, 1, none⟩) (Nat.le_succ _) _).setCell (p := ⟨w.heap.size + 1, 2, none⟩) (Nat.le_succ _) _).setCell (p := ⟨w.heap.size + 1, 3, none⟩) (Nat.le_succ _) _
set_option maxHeartbeats 8000000 in
set_option maxRecDepth 100000 in
theorem refFind_any (v : Value) (m : Mt.Tab) (c : Int) (w : World) (h : MetAt w v m) : Calls Tryz.prog 13 #[v, .int .i32 c] w (Ret (findV (Mt.find m c)) w) := by
  obtain ⟨cv, kv, lv, rfl, a, b, d⟩ := h
  have HA := Lib.hid a
  obtain ⟨⟨p1, k1, rfl, _⟩, ma, _⟩ := a
  obtain ⟨⟨p3, k3, rfl, _⟩, mb, _⟩ := b
  obtain ⟨⟨p5, k5, rfl, _⟩, mc, _⟩ := d
  have hza : m.chars.length ≤ 9223372036854775807 := by unfold maxLen at ma; omega
  obtain ⟨na, hna⟩ : ∃ n, n = m.chars.length := ⟨_, rfl⟩
  obtain ⟨nb, hnb⟩ : ∃ n, n = m.kerns.length := ⟨_, rfl⟩
  obtain ⟨nc, hnc⟩ : ∃ n, n = m.ligs.length := ⟨_, rfl⟩
  have Hna := Lib.hid hna
  have HM : Hid (Mt.find m c = (m.chars.drop 0).find? fun x => x.code == c) := Lib.hid rfl
  unfold metV
  rw [← hna] at hza ⊢
  rw [← hnb, ← hnc]
  obtain ⟨r, hr⟩ : ∃ r, r = Mt.find m c := ⟨_, rfl⟩
  rw [← hr] at HM ⊢
  obtain ⟨W1, hW1⟩ : ∃ W1, W1 = (w.alloc (.cells #[.int .i64 m.sw, .int .i64 m.st, .int .i64 m.sk, .int .i64 m.order, .int .i32 m.hyph, .slice p1 na k1, .slice p3 nb k3, .slice p5 nc k5] 28)).alloc (.cells #[.int .i32 0, .int .i64 0, .int .i64 0, .int .i64 0] 38) := ⟨_, rfl⟩
  clear ma mb mc hna hnb hnc hr
  go_enter Tryz.func13, Tryz.ntmps13
  go_wp2_with fail
  rw [← hW1]
  have hb : Below w.heap.size w W1 := by rw [hW1]; exact below_step (below_alloc _ _) (below_alloc _ _)
  have HBw := Lib.hid hb
  obtain ⟨nh, ⟨n0, n1, n2, n3⟩, n4, n5, n6, n7⟩ := new_four (w.alloc (.cells #[.int .i64 m.sw, .int .i64 m.st, .int .i64 m.sk, .int .i64 m.order, .int .i32 m.hyph, .slice p1 na k1, .slice p3 nb k3, .slice p5 nc k5] 28)) (w.heap.size + 1) (World.size_alloc _ _) (.int .i32 0) (.int .i64 0) (.int .i64 0) (.int .i64 0) 38 (Below.refl _ _)
  rw [← hW1] at nh n0 n1 n2 n3 n4 n5 n6 n7
  have NH := Lib.hid nh
  clear nh
  have x5 : W1.cell? ⟨w.heap.size, 5, none⟩ = some (.slice p1 na k1) := by rw [hW1]; simp
  clear hW1 hb
  go_loopw [6] (fun iv wr => ∃ k : Nat, k ≤ na ∧ iv = .int .i64 k ∧ wr = W1 ∧ Hid (r = (m.chars.drop k).find? fun x => x.code == c)) (fun iv _ => na - (intOf iv).toNat)
  case atStart => exact ⟨0, Nat.zero_le _, rfl, rfl, HM⟩
  case round =>
    obtain ⟨k, hk, rfl, rfl, HK⟩ := hrel
    by_cases hlt : k < na
    · obtain ⟨b1, o1, d1, e1, r1⟩ := HA.out.2.2 (by rw [← Hna.out]; omega)
      obtain ⟨rfl, rfl⟩ : p1 = some ⟨b1, o1, none⟩ ∧ k1 = d1 := by injection e1 with a1 a2 a3; exact ⟨a1, a3⟩
      obtain ⟨x, hx⟩ : ∃ x, m.chars[k]? = some x := ⟨_, List.getElem?_eq_getElem (by rw [← Hna.out]; exact hlt)⟩
      have y1 := ch_cells ((r1 k x hx).mono HBw.out)
      obtain ⟨y1a, y1b, y1c, y1d⟩ := y1
      have k0 : (0 : Int) ≤ (k : Int) := by omega
      have kl : (k : Int) < (na : Int) := by omega
      by_cases hq : x.code = c
      · have q1 : (x.code == c) = true := beq_iff_eq.2 hq
        have HE := Lib.hid (HK.out.trans (find_here hx q1))
        clear r1 e1 hx hq
        obtain ⟨s0, s1, s2, s3⟩ := set_four (a := .int .i32 x.code) (b := .int .i64 x.w) (c := .int .i64 x.h) (d := .int .i64 x.d) NH.out
        go_wp2
        rw [HE.out]
        exact bodyPost_ret (v := .tuple #[.agg #[.int .i32 x.code, .int .i64 x.w, .int .i64 x.h, .int .i64 x.d], .bool true]) (by simp [results, Tryz.results13, go_sem, s0, s1, s2, s3]) rfl ⟨rfl, below_set4 HBw.out⟩
      · have q1 : (x.code == c) = false := beq_eq_false_iff_ne.2 hq
        have HE := Lib.hid (HK.out.trans (find_on hx q1))
        clear r1 e1 hx hq
        go_wp2
        go_roundw
        case rel => exact ⟨k + 1, by omega, by go_num, by trivial, HE⟩
        case measure => simp [intOf]; omega
    · have HE := Lib.hid (HK.out.trans (find_end (by rw [← Hna.out]; omega)))
      obtain ⟨s0, s1, s2, s3⟩ := set_four (a := .int .i32 0) (b := .int .i64 0) (c := .int .i64 0) (d := .int .i64 0) NH.out
      go_wp2
      rw [HE.out]
      exact bodyPost_ret (v := .tuple #[.agg #[.int .i32 0, .int .i64 0, .int .i64 0, .int .i64 0], .bool false]) (by simp [results, Tryz.results13, go_sem, s0, s1, s2, s3]) rfl ⟨rfl, below_set4 HBw.out⟩

set_option maxHeartbeats 8000000 in
set_option maxRecDepth 100000 in
theorem refKern_any (v : Value) (m : Mt.Tab) (a b : Int) (w : World) (h : MetAt w v m) : Calls Tryz.prog 21 #[v, .int .i32 a, .int .i32 b] w (Ret (.int .i64 (Mt.kern m a b)) w) := by
  obtain ⟨cv, kv, lv, rfl, a1, b1, d1⟩ := h
  have HA := Lib.hid b1
  obtain ⟨⟨p1, k1, rfl, _⟩, ma, _⟩ := a1
  obtain ⟨⟨p3, k3, rfl, _⟩, mb, _⟩ := b1
  obtain ⟨⟨p5, k5, rfl, _⟩, mc, _⟩ := d1
  have hza : m.kerns.length ≤ 9223372036854775807 := by unfold maxLen at mb; omega
  obtain ⟨na, hna⟩ : ∃ n, n = m.chars.length := ⟨_, rfl⟩
  obtain ⟨nb, hnb⟩ : ∃ n, n = m.kerns.length := ⟨_, rfl⟩
  obtain ⟨nc, hnc⟩ : ∃ n, n = m.ligs.length := ⟨_, rfl⟩
  have Hna := Lib.hid hnb
  unfold metV
  rw [← hnb] at hza
  rw [← hna, ← hnb, ← hnc]
  obtain ⟨r, hr⟩ : ∃ r, r = m.kerns.find? fun k => k.a == a && k.b == b := ⟨_, rfl⟩
  have HM : Hid (r = (m.kerns.drop 0).find? fun k => k.a == a && k.b == b) := Lib.hid hr
  have hR : Mt.kern m a b = (r.map (·.w)).getD 0 := by rw [hr]; rfl
  rw [hR]
  obtain ⟨W1, hW1⟩ : ∃ W1, W1 = w.alloc (.cells #[.int .i64 m.sw, .int .i64 m.st, .int .i64 m.sk, .int .i64 m.order, .int .i32 m.hyph, .slice p1 na k1, .slice p3 nb k3, .slice p5 nc k5] 28) := ⟨_, rfl⟩
  clear ma mb mc hna hnb hnc hr hR
  go_enter Tryz.func21, Tryz.ntmps21
  go_wp2_with fail
  rw [← hW1]
  have hb : Below w.heap.size w W1 := by rw [hW1]; exact below_alloc _ _
  have HBw := Lib.hid hb
  have x6 : W1.cell? ⟨w.heap.size, 6, none⟩ = some (.slice p3 nb k3) := by rw [hW1]; simp
  clear hW1 hb
  go_loopw [7] (fun iv wr => ∃ k : Nat, k ≤ nb ∧ iv = .int .i64 k ∧ wr = W1 ∧ Hid (r = (m.kerns.drop k).find? fun k => k.a == a && k.b == b)) (fun iv _ => nb - (intOf iv).toNat)
  case atStart => exact ⟨0, Nat.zero_le _, rfl, rfl, HM⟩
  case round =>
    obtain ⟨k, hk, rfl, rfl, HK⟩ := hrel
    by_cases hlt : k < nb
    · obtain ⟨b2, o1, d2, e1, r1⟩ := HA.out.2.2 (by rw [← Hna.out]; omega)
      obtain ⟨rfl, rfl⟩ : p3 = some ⟨b2, o1, none⟩ ∧ k3 = d2 := by injection e1 with a1 a2 a3; exact ⟨a1, a3⟩
      obtain ⟨x, hx⟩ : ∃ x, m.kerns[k]? = some x := ⟨_, List.getElem?_eq_getElem (by rw [← Hna.out]; exact hlt)⟩
      have y1 := kn_cells ((r1 k x hx).mono HBw.out)
      obtain ⟨y1a, y1b, y1c⟩ := y1
      have k0 : (0 : Int) ≤ (k : Int) := by omega
      have kl : (k : Int) < (nb : Int) := by omega
      by_cases hq : x.a = a
      · have q1 : (x.a == a) = true := beq_iff_eq.2 hq
        by_cases hp : x.b = b
        · have q2 : (x.b == b) = true := beq_iff_eq.2 hp
          have HE := Lib.hid (HK.out.trans (find_here hx (by rw [q1, q2]; rfl)))
          clear r1 e1 hx hq hp
          go_wp2
          go_ret
          rw [HE.out]
          exact ⟨rfl, HBw.out⟩
        · have q2 : (x.b == b) = false := beq_eq_false_iff_ne.2 hp
          have HE := Lib.hid (HK.out.trans (find_on hx (by rw [q1, q2]; rfl)))
          clear r1 e1 hx hq hp
          go_wp2
          go_roundw
          case rel => exact ⟨k + 1, by omega, by go_num, by trivial, HE⟩
          case measure => simp [intOf]; omega
      · have q1 : (x.a == a) = false := beq_eq_false_iff_ne.2 hq
        have HE := Lib.hid (HK.out.trans (find_on hx (by rw [q1]; rfl)))
        clear r1 e1 hx hq
        go_wp2
        go_roundw
        case rel => exact ⟨k + 1, by omega, by go_num, by trivial, HE⟩
        case measure => simp [intOf]; omega
    · have HE := Lib.hid (HK.out.trans (find_end (by rw [← Hna.out]; omega)))
      go_wp2
      go_ret
      rw [HE.out]
      exact ⟨rfl, HBw.out⟩

set_option maxHeartbeats 8000000 in
set_option maxRecDepth 100000 in
theorem refLig_any (v : Value) (m : Mt.Tab) (a b : Int) (w : World) (h : MetAt w v m) : Calls Tryz.prog 15 #[v, .int .i32 a, .int .i32 b] w (Ret (ligV (Mt.lig m a b)) w) := by
  obtain ⟨cv, kv, lv, rfl, a1, b1, d1⟩ := h
  have HA := Lib.hid d1
  obtain ⟨⟨p1, k1, rfl, _⟩, ma, _⟩ := a1
  obtain ⟨⟨p3, k3, rfl, _⟩, mb, _⟩ := b1
  obtain ⟨⟨p5, k5, rfl, _⟩, mc, _⟩ := d1
  have hza : m.ligs.length ≤ 9223372036854775807 := by unfold maxLen at mc; omega
  obtain ⟨na, hna⟩ : ∃ n, n = m.chars.length := ⟨_, rfl⟩
  obtain ⟨nb, hnb⟩ : ∃ n, n = m.kerns.length := ⟨_, rfl⟩
  obtain ⟨nc, hnc⟩ : ∃ n, n = m.ligs.length := ⟨_, rfl⟩
  have Hna := Lib.hid hnc
  unfold metV
  rw [← hnc] at hza
  rw [← hna, ← hnb, ← hnc]
  obtain ⟨r, hr⟩ : ∃ r, r = m.ligs.find? fun k => k.a == a && k.b == b := ⟨_, rfl⟩
  have HM : Hid (r = (m.ligs.drop 0).find? fun k => k.a == a && k.b == b) := Lib.hid hr
  have hR : Mt.lig m a b = r.map (·.to) := by rw [hr]; rfl
  rw [hR]
  obtain ⟨W1, hW1⟩ : ∃ W1, W1 = w.alloc (.cells #[.int .i64 m.sw, .int .i64 m.st, .int .i64 m.sk, .int .i64 m.order, .int .i32 m.hyph, .slice p1 na k1, .slice p3 nb k3, .slice p5 nc k5] 28) := ⟨_, rfl⟩
  clear ma mb mc hna hnb hnc hr hR
  go_enter Tryz.func15, Tryz.ntmps15
  go_wp2_with fail
  rw [← hW1]
  have hb : Below w.heap.size w W1 := by rw [hW1]; exact below_alloc _ _
  have HBw := Lib.hid hb
  have x6 : W1.cell? ⟨w.heap.size, 7, none⟩ = some (.slice p5 nc k5) := by rw [hW1]; simp
  clear hW1 hb
  go_loopw [8] (fun iv wr => ∃ k : Nat, k ≤ nc ∧ iv = .int .i64 k ∧ wr = W1 ∧ Hid (r = (m.ligs.drop k).find? fun k => k.a == a && k.b == b)) (fun iv _ => nc - (intOf iv).toNat)
  case atStart => exact ⟨0, Nat.zero_le _, rfl, rfl, HM⟩
  case round =>
    obtain ⟨k, hk, rfl, rfl, HK⟩ := hrel
    by_cases hlt : k < nc
    · obtain ⟨b2, o1, d2, e1, r1⟩ := HA.out.2.2 (by rw [← Hna.out]; omega)
      obtain ⟨rfl, rfl⟩ : p5 = some ⟨b2, o1, none⟩ ∧ k5 = d2 := by injection e1 with a1 a2 a3; exact ⟨a1, a3⟩
      obtain ⟨x, hx⟩ : ∃ x, m.ligs[k]? = some x := ⟨_, List.getElem?_eq_getElem (by rw [← Hna.out]; exact hlt)⟩
      have y1 := lg_cells ((r1 k x hx).mono HBw.out)
      obtain ⟨y1a, y1b, y1c⟩ := y1
      have k0 : (0 : Int) ≤ (k : Int) := by omega
      have kl : (k : Int) < (nc : Int) := by omega
      by_cases hq : x.a = a
      · have q1 : (x.a == a) = true := beq_iff_eq.2 hq
        by_cases hp : x.b = b
        · have q2 : (x.b == b) = true := beq_iff_eq.2 hp
          have HE := Lib.hid (HK.out.trans (find_here hx (by rw [q1, q2]; rfl)))
          clear r1 e1 hx hq hp
          go_wp2
          go_ret2
          rw [HE.out]
          exact ⟨rfl, HBw.out⟩
        · have q2 : (x.b == b) = false := beq_eq_false_iff_ne.2 hp
          have HE := Lib.hid (HK.out.trans (find_on hx (by rw [q1, q2]; rfl)))
          clear r1 e1 hx hq hp
          go_wp2
          go_roundw
          case rel => exact ⟨k + 1, by omega, by go_num, by trivial, HE⟩
          case measure => simp [intOf]; omega
      · have q1 : (x.a == a) = false := beq_eq_false_iff_ne.2 hq
        have HE := Lib.hid (HK.out.trans (find_on hx (by rw [q1]; rfl)))
        clear r1 e1 hx hq
        go_wp2
        go_roundw
        case rel => exact ⟨k + 1, by omega, by go_num, by trivial, HE⟩
        case measure => simp [intOf]; omega
    · have HE := Lib.hid (HK.out.trans (find_end (by rw [← Hna.out]; omega)))
      go_wp2
      go_ret2
      rw [HE.out]
      exact ⟨rfl, HBw.out⟩

set_option maxHeartbeats 4000000 in
theorem refHas_any (v : Value) (m : Mt.Tab) (c : Int) (w : World) (h : MetAt w v m) : Calls Tryz.prog 56 #[v, .int .i32 c] w (Ret (.bool (Mt.has m c)) w) := by
  obtain ⟨sw, st, sk, so, hy, pc, na, cc, pk, nb, ck, pl, nc, cl, rfl⟩ := met_open h
  have hF := refFind_any _ m c _ (h.mono (below_alloc w (.cells #[.int .i64 sw, .int .i64 st, .int .i64 sk, .int .i64 so, .int .i32 hy, .slice pc na cc, .slice pk nb ck, .slice pl nc cl] 28)))
  have HB := Lib.hid (below_alloc w (.cells #[.int .i64 sw, .int .i64 st, .int .i64 sk, .int .i64 so, .int .i32 hy, .slice pc na cc, .slice pk nb ck, .slice pl nc cl] 28))
  have hR : Mt.has m c = (Mt.find m c).isSome := rfl
  rw [hR]
  generalize Mt.find m c = r at hF ⊢
  have HF := Lib.hid hF
  clear hF h hR
  go_enter Tryz.func56, Tryz.ntmps56
  go_wp2_with fail
  refine HF.out.mono ?_
  rintro e w1 ⟨rfl, hb1⟩
  cases r with
  | none =>
    simp only [findV]
    go_wp2
    go_ret
    exact ⟨rfl, below_step (below_step HB.out hb1) (below_alloc _ _)⟩
  | some x =>
    simp only [findV]
    go_wp2
    go_ret
    exact ⟨rfl, below_step (below_step HB.out hb1) (below_alloc _ _)⟩
end Go.Proofs.YtmehldekebphfaaGreatDoor
