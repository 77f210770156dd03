/-
  The landed Find, Kern and Lig: the closures that they hand to first, and what they answer.
-/
import Derived.Test.YtmehldekebphfaaGreatDoorFirst7
import Derived.Shelf.Abstract
set_option linter.unusedVariables false
set_option linter.unusedSimpArgs false
namespace Go.Proofs.YtmehldekebphfaaGreatDoor
open Go.RowKit

theorem lay_one (w : World) (p : Nat) (hp : w.heap.size = p) (v : Value) (T : TypeId) : (w.alloc (.cells #[v] T)).cell? ⟨p, 0, none⟩ = some v := by subst hp; exact cell_lay w #[v] T 0 v rfl
theorem mkf (fn : Fn) (first cap : Array Value) (w : World) : (Instr.makeFunc fn first cap).run Tryz.prog w = .ok (.func fn first cap) w := rfl
set_option maxHeartbeats 1000000 in
set_option maxRecDepth 100000 in
theorem clo_find (p : Nat) (c : Int) (x : Mt.Ch) (w : World) (h : w.cell? ⟨p, 0, none⟩ = some (.int .i32 c)) :
    Calls Tryz.prog 30 #[.agg #[.int .i32 x.code, .int .i64 x.w, .int .i64 x.h, .int .i64 x.d], .pointer (some ⟨p, 0, none⟩)] w (Ret (.bool (x.code == c)) w) := by
  have hlt := block_lt_of_cell h
  go_enter Tryz.func30, Tryz.ntmps30
  go_wp2
  go_ret
  exact ⟨rfl, below_alloc _ _⟩
theorem eg_find : ∀ args w, (callFunc 30 args).run Tryz.prog w = .ok (.enter 30 args) w := enters_of Tryz.func30 (by kernel_rfl) rfl


set_option maxHeartbeats 2000000 in
set_option maxRecDepth 100000 in
theorem clo_kn (p q : Nat) (a b : Int) (x : Mt.Kn) (w : World) (h1 : w.cell? ⟨p, 0, none⟩ = some (.int .i32 a)) (h2 : w.cell? ⟨q, 0, none⟩ = some (.int .i32 b)) :
    Calls Tryz.prog 45 #[.agg #[.int .i32 x.a, .int .i32 x.b, .int .i64 x.w], .pointer (some ⟨p, 0, none⟩), .pointer (some ⟨q, 0, none⟩)] w (Ret (.bool (x.a == a && x.b == b)) w) := by
  have hlt1 := block_lt_of_cell h1
  have hlt2 := block_lt_of_cell h2
  by_cases hq : x.a = a
  · have q1 : (x.a == a) = true := beq_iff_eq.2 hq
    rw [q1]
    clear hq
    go_enter Tryz.func45, Tryz.ntmps45
    go_wp2
    go_ret
    exact ⟨rfl, below_alloc _ _⟩
  · have q1 : (x.a == a) = false := beq_eq_false_iff_ne.2 hq
    rw [q1]
    clear hq
    go_enter Tryz.func45, Tryz.ntmps45
    go_wp2
    go_ret
    exact ⟨rfl, below_alloc _ _⟩
theorem eg_kn : ∀ args w, (callFunc 45 args).run Tryz.prog w = .ok (.enter 45 args) w := enters_of Tryz.func45 (by kernel_rfl) rfl


set_option maxHeartbeats 2000000 in
set_option maxRecDepth 100000 in
theorem clo_lg (p q : Nat) (a b : Int) (x : Mt.Lg) (w : World) (h1 : w.cell? ⟨p, 0, none⟩ = some (.int .i32 a)) (h2 : w.cell? ⟨q, 0, none⟩ = some (.int .i32 b)) :
    Calls Tryz.prog 32 #[.agg #[.int .i32 x.a, .int .i32 x.b, .int .i32 x.to], .pointer (some ⟨p, 0, none⟩), .pointer (some ⟨q, 0, none⟩)] w (Ret (.bool (x.a == a && x.b == b)) w) := by
  have hlt1 := block_lt_of_cell h1
  have hlt2 := block_lt_of_cell h2
  by_cases hq : x.a = a
  · have q1 : (x.a == a) = true := beq_iff_eq.2 hq
    rw [q1]
    clear hq
    go_enter Tryz.func32, Tryz.ntmps32
    go_wp2
    go_ret
    exact ⟨rfl, below_alloc _ _⟩
  · have q1 : (x.a == a) = false := beq_eq_false_iff_ne.2 hq
    rw [q1]
    clear hq
    go_enter Tryz.func32, Tryz.ntmps32
    go_wp2
    go_ret
    exact ⟨rfl, below_alloc _ _⟩
theorem eg_lg : ∀ args w, (callFunc 32 args).run Tryz.prog w = .ok (.enter 32 args) w := enters_of Tryz.func32 (by kernel_rfl) rfl


set_option maxHeartbeats 4000000 in
set_option maxRecDepth 100000 in
theorem find_any (v : Value) (m : Mt.Tab) (c : Int) (w : World) (h : MetAt w v m) : Calls Tryz.prog 12 #[v, .int .i32 c] w (Ret (findV (Mt.find m c)) w) := by
  obtain ⟨cv, kv, lv, rfl, a1, b1, d1⟩ := h
  have HS := Lib.hid a1
  obtain ⟨⟨p1, k1, rfl, _⟩, _, _⟩ := a1
  obtain ⟨⟨p3, k3, rfl, _⟩, _, _⟩ := b1
  obtain ⟨⟨p5, k5, rfl, _⟩, _, _⟩ := d1
  obtain ⟨na, hna⟩ : ∃ n, n = m.chars.length := ⟨_, rfl⟩
  obtain ⟨nb, hnb⟩ : ∃ n, n = m.kerns.length := ⟨_, rfl⟩
  obtain ⟨nc, hnc⟩ : ∃ n, n = m.ligs.length := ⟨_, rfl⟩
  unfold metV
  rw [← hna, ← hnb, ← hnc]
  have hmf := mkf
  have hb1 := below_alloc w (.cells #[.int .i64 m.sw, .int .i64 m.st, .int .i64 m.sk, .int .i64 m.order, .int .i32 m.hyph, .slice p1 na k1, .slice p3 nb k3, .slice p5 nc k5] 28)
  have hb2 := below_alloc (w.alloc (.cells #[.int .i64 m.sw, .int .i64 m.st, .int .i64 m.sk, .int .i64 m.order, .int .i32 m.hyph, .slice p1 na k1, .slice p3 nb k3, .slice p5 nc k5] 28)) (.cells #[.int .i32 c] 21)
  have hb3 := below_alloc ((w.alloc (.cells #[.int .i64 m.sw, .int .i64 m.st, .int .i64 m.sk, .int .i64 m.order, .int .i32 m.hyph, .slice p1 na k1, .slice p3 nb k3, .slice p5 nc k5] 28)).alloc (.cells #[.int .i32 c] 21)) (.cells #[.int .i32 0, .int .i64 0, .int .i64 0, .int .i64 0] 38)
  have hc2 : ((w.alloc (.cells #[.int .i64 m.sw, .int .i64 m.st, .int .i64 m.sk, .int .i64 m.order, .int .i32 m.hyph, .slice p1 na k1, .slice p3 nb k3, .slice p5 nc k5] 28)).alloc (.cells #[.int .i32 c] 21)).cell? ⟨w.heap.size + 1, 0, none⟩ = some (.int .i32 c) := lay_one _ _ (World.size_alloc _ _) _ _
  have HB := Lib.hid (below_step (below_step hb1 hb2) hb3)
  have hc3 := Lib.hid (cell_below hb3 hc2)
  have HF := Lib.hid (fun W (hW : Below (((w.alloc (.cells #[.int .i64 m.sw, .int .i64 m.st, .int .i64 m.sk, .int .i64 m.order, .int .i32 m.hyph, .slice p1 na k1, .slice p3 nb k3, .slice p5 nc k5] 28)).alloc (.cells #[.int .i32 c] 21)).alloc (.cells #[.int .i32 0, .int .i64 0, .int .i64 0, .int .i64 0] 38)).heap.size (((w.alloc (.cells #[.int .i64 m.sw, .int .i64 m.st, .int .i64 m.sk, .int .i64 m.order, .int .i32 m.hyph, .slice p1 na k1, .slice p3 nb k3, .slice p5 nc k5] 28)).alloc (.cells #[.int .i32 c] 21)).alloc (.cells #[.int .i32 0, .int .i64 0, .int .i64 0, .int .i64 0] 38)) W) => clo_find (w.heap.size + 1) c)
  have HG : Hid (Calls Tryz.prog 29 #[.slice p1 na k1, .func (.func 30) #[] #[.pointer (some ⟨w.heap.size + 1, 0, none⟩)]] (((w.alloc (.cells #[.int .i64 m.sw, .int .i64 m.st, .int .i64 m.sk, .int .i64 m.order, .int .i32 m.hyph, .slice p1 na k1, .slice p3 nb k3, .slice p5 nc k5] 28)).alloc (.cells #[.int .i32 c] 21)).alloc (.cells #[.int .i32 0, .int .i64 0, .int .i64 0, .int .i64 0] 38)) (Ret (opt_ch (Mt.find m c)) (((w.alloc (.cells #[.int .i64 m.sw, .int .i64 m.st, .int .i64 m.sk, .int .i64 m.order, .int .i32 m.hyph, .slice p1 na k1, .slice p3 nb k3, .slice p5 nc k5] 28)).alloc (.cells #[.int .i32 c] 21)).alloc (.cells #[.int .i32 0, .int .i64 0, .int .i64 0, .int .i64 0] 38)))) := Lib.hid (by
    rw [hna] at HB hc3 ⊢
    exact first_ch _ eg_find (w.heap.size + 1) (fun x => x.code == c) _ _ _ _ (Below.refl _ _) (HS.out.mono HB.out) (fun x w1 hw1 => clo_find _ c x w1 (cell_below hw1 hc3.out)))
  generalize Mt.find m c = r at HG ⊢
  have hsz : ((((w.alloc (.cells #[.int .i64 m.sw, .int .i64 m.st, .int .i64 m.sk, .int .i64 m.order, .int .i32 m.hyph, .slice p1 na k1, .slice p3 nb k3, .slice p5 nc k5] 28)).alloc (.cells #[.int .i32 c] 21)).heap.size) = w.heap.size + 2) := by simp
  have HN := Lib.hid (fun W hW => new_four ((w.alloc (.cells #[.int .i64 m.sw, .int .i64 m.st, .int .i64 m.sk, .int .i64 m.order, .int .i32 m.hyph, .slice p1 na k1, .slice p3 nb k3, .slice p5 nc k5] 28)).alloc (.cells #[.int .i32 c] 21)) (w.heap.size + 2) hsz (.int .i32 0) (.int .i64 0) (.int .i64 0) (.int .i64 0) 38 (w' := W) hW)
  clear hb1 hb2 hb3 hc2 HF hc3 hna hnb hnc hsz
  go_enter Tryz.func12, Tryz.ntmps12
  go_wp2_with fail
  refine HG.out.mono ?_
  rintro e w1 ⟨rfl, hbw⟩
  obtain ⟨nh, ⟨n0, n1, n2, n3⟩, f0, f1, f2, f3⟩ := HN.out _ hbw
  have NH := Lib.hid nh
  have HB1 := Lib.hid (below_step HB.out hbw)
  clear hbw nh hmf
  cases r with
  | none =>
    obtain ⟨s0, s1, s2, s3⟩ := set_four (a := .int .i32 0) (b := .int .i64 0) (c := .int .i64 0) (d := .int .i64 0) NH.out
    simp only [opt_ch, findV]
    go_wp2
    exact bodyPost_ret (v := .tuple #[.agg #[.int .i32 0, .int .i64 0, .int .i64 0, .int .i64 0], .bool false]) (by simp [results, Tryz.results12, go_sem, s0, s1, s2, s3]) rfl ⟨rfl, (((HB1.out.setCell (p := ⟨w.heap.size + 2, 0, none⟩) (Nat.le_add_right _ _) _).setCell (p := ⟨w.heap.size + 2, 1, none⟩) (Nat.le_add_right _ _) _).setCell (p := ⟨w.heap.size + 2, 2, none⟩) (Nat.le_add_right _ _) _).setCell (p := ⟨w.heap.size + 2, 3, none⟩) (Nat.le_add_right _ _) _⟩
  | some x =>
    obtain ⟨s0, s1, s2, s3⟩ := set_four (a := .int .i32 x.code) (b := .int .i64 x.w) (c := .int .i64 x.h) (d := .int .i64 x.d) NH.out
    simp only [opt_ch, findV]
    go_wp2
    exact bodyPost_ret (v := .tuple #[.agg #[.int .i32 x.code, .int .i64 x.w, .int .i64 x.h, .int .i64 x.d], .bool true]) (by simp [results, Tryz.results12, go_sem, s0, s1, s2, s3]) rfl ⟨rfl, (((HB1.out.setCell (p := ⟨w.heap.size + 2, 0, none⟩) (Nat.le_add_right _ _) _).setCell (p := ⟨w.heap.size + 2, 1, none⟩) (Nat.le_add_right _ _) _).setCell (p := ⟨w.heap.size + 2, 2, none⟩) (Nat.le_add_right _ _) _).setCell (p := ⟨w.heap.size + 2, 3, none⟩) (Nat.le_add_right _ _) _⟩


set_option maxHeartbeats 4000000 in
set_option maxRecDepth 100000 in
theorem kern_any (v : Value) (m : Mt.Tab) (a b : Int) (w : World) (h : MetAt w v m) : Calls Tryz.prog 20 #[v, .int .i32 a, .int .i32 b] w (Ret (.int .i64 (Mt.kern m a b)) w) := by
  obtain ⟨r, hr⟩ : ∃ r, r = m.kerns.find? fun k => k.a == a && k.b == b := ⟨_, rfl⟩
  have hR : Mt.kern m a b = (r.map (·.w)).getD 0 := by rw [hr]; rfl
  rw [hR]
  clear hR
  obtain ⟨cv, kv, lv, rfl, a1, b1, d1⟩ := h
  have HS := Lib.hid b1
  obtain ⟨⟨p1, k1, rfl, _⟩, _, _⟩ := a1
  obtain ⟨⟨p3, k3, rfl, _⟩, _, _⟩ := b1
  obtain ⟨⟨p5, k5, rfl, _⟩, _, _⟩ := d1
  obtain ⟨na, hna⟩ : ∃ n, n = m.chars.length := ⟨_, rfl⟩
  obtain ⟨nb, hnb⟩ : ∃ n, n = m.kerns.length := ⟨_, rfl⟩
  obtain ⟨nc, hnc⟩ : ∃ n, n = m.ligs.length := ⟨_, rfl⟩
  unfold metV
  rw [← hna, ← hnb, ← hnc]
  have hmf := mkf
  have hb1 := below_alloc w (.cells #[.int .i64 m.sw, .int .i64 m.st, .int .i64 m.sk, .int .i64 m.order, .int .i32 m.hyph, .slice p1 na k1, .slice p3 nb k3, .slice p5 nc k5] 28)
  have hb2 := below_alloc (w.alloc (.cells #[.int .i64 m.sw, .int .i64 m.st, .int .i64 m.sk, .int .i64 m.order, .int .i32 m.hyph, .slice p1 na k1, .slice p3 nb k3, .slice p5 nc k5] 28)) (.cells #[.int .i32 a] 21)
  have hb3 := below_alloc ((w.alloc (.cells #[.int .i64 m.sw, .int .i64 m.st, .int .i64 m.sk, .int .i64 m.order, .int .i32 m.hyph, .slice p1 na k1, .slice p3 nb k3, .slice p5 nc k5] 28)).alloc (.cells #[.int .i32 a] 21)) (.cells #[.int .i32 b] 21)
  have hc1 : (((w.alloc (.cells #[.int .i64 m.sw, .int .i64 m.st, .int .i64 m.sk, .int .i64 m.order, .int .i32 m.hyph, .slice p1 na k1, .slice p3 nb k3, .slice p5 nc k5] 28)).alloc (.cells #[.int .i32 a] 21)).alloc (.cells #[.int .i32 b] 21)).cell? ⟨w.heap.size + 1, 0, none⟩ = some (.int .i32 a) := cell_below hb3 (lay_one _ _ (World.size_alloc _ _) _ _)
  have hc2 : (((w.alloc (.cells #[.int .i64 m.sw, .int .i64 m.st, .int .i64 m.sk, .int .i64 m.order, .int .i32 m.hyph, .slice p1 na k1, .slice p3 nb k3, .slice p5 nc k5] 28)).alloc (.cells #[.int .i32 a] 21)).alloc (.cells #[.int .i32 b] 21)).cell? ⟨w.heap.size + 2, 0, none⟩ = some (.int .i32 b) := lay_one _ _ (by simp) _ _
  have HB := Lib.hid (below_step (below_step hb1 hb2) hb3)
  have Hc1 := Lib.hid hc1
  have Hc2 := Lib.hid hc2
  have HG : Hid (Calls Tryz.prog 44 #[.slice p3 nb k3, .func (.func 45) #[] #[.pointer (some ⟨w.heap.size + 1, 0, none⟩), .pointer (some ⟨w.heap.size + 2, 0, none⟩)]] (((w.alloc (.cells #[.int .i64 m.sw, .int .i64 m.st, .int .i64 m.sk, .int .i64 m.order, .int .i32 m.hyph, .slice p1 na k1, .slice p3 nb k3, .slice p5 nc k5] 28)).alloc (.cells #[.int .i32 a] 21)).alloc (.cells #[.int .i32 b] 21)) (Ret (opt_kn r) (((w.alloc (.cells #[.int .i64 m.sw, .int .i64 m.st, .int .i64 m.sk, .int .i64 m.order, .int .i32 m.hyph, .slice p1 na k1, .slice p3 nb k3, .slice p5 nc k5] 28)).alloc (.cells #[.int .i32 a] 21)).alloc (.cells #[.int .i32 b] 21)))) := Lib.hid (by
    rw [hr]
    rw [hnb] at HB Hc1 Hc2 ⊢
    exact first_kn _ eg_kn (w.heap.size + 1) (w.heap.size + 2) (fun k => k.a == a && k.b == b) _ _ _ _ (Below.refl _ _) (HS.out.mono HB.out) (fun x w1 hw1 => clo_kn _ _ a b x w1 (cell_below hw1 Hc1.out) (cell_below hw1 Hc2.out)))
  clear hb1 hb2 hb3 hc1 hc2 Hc1 Hc2 hna hnb hnc hr
  go_enter Tryz.func20, Tryz.ntmps20
  go_wp2_with fail
  refine HG.out.mono ?_
  rintro e w1 ⟨rfl, hbw⟩
  have HB1 := Lib.hid (below_step HB.out hbw)
  have hlt := hbw.size
  have HB2 := Lib.hid (below_step HB1.out (below_alloc w1 (.cells #[.int .i32 0, .int .i32 0, .int .i64 0] 52)))
  clear hbw hmf
  cases r with
  | none =>
    simp only [opt_kn]
    go_wp2
    go_ret
    exact ⟨rfl, by first | exact HB2.out | exact below_step HB1.out (below_alloc _ _)⟩
  | some x =>
    simp only [opt_kn]
    go_wp2
    go_ret
    exact ⟨rfl, by first | exact HB2.out | exact below_step HB1.out (below_alloc _ _)⟩


set_option maxHeartbeats 4000000 in
set_option maxRecDepth 100000 in
theorem lig_any (v : Value) (m : Mt.Tab) (a b : Int) (w : World) (h : MetAt w v m) : Calls Tryz.prog 14 #[v, .int .i32 a, .int .i32 b] w (Ret (ligV (Mt.lig m a b)) w) := by
  obtain ⟨r, hr⟩ : ∃ r, r = m.ligs.find? fun k => k.a == a && k.b == b := ⟨_, rfl⟩
  have hR : Mt.lig m a b = r.map (·.to) := by rw [hr]; rfl
  rw [hR]
  clear hR
  obtain ⟨cv, kv, lv, rfl, a1, b1, d1⟩ := h
  have HS := Lib.hid d1
  obtain ⟨⟨p1, k1, rfl, _⟩, _, _⟩ := a1
  obtain ⟨⟨p3, k3, rfl, _⟩, _, _⟩ := b1
  obtain ⟨⟨p5, k5, rfl, _⟩, _, _⟩ := d1
  obtain ⟨na, hna⟩ : ∃ n, n = m.chars.length := ⟨_, rfl⟩
  obtain ⟨nb, hnb⟩ : ∃ n, n = m.kerns.length := ⟨_, rfl⟩
  obtain ⟨nc, hnc⟩ : ∃ n, n = m.ligs.length := ⟨_, rfl⟩
  unfold metV
  rw [← hna, ← hnb, ← hnc]
  have hmf := mkf
  have hb1 := below_alloc w (.cells #[.int .i64 m.sw, .int .i64 m.st, .int .i64 m.sk, .int .i64 m.order, .int .i32 m.hyph, .slice p1 na k1, .slice p3 nb k3, .slice p5 nc k5] 28)
  have hb2 := below_alloc (w.alloc (.cells #[.int .i64 m.sw, .int .i64 m.st, .int .i64 m.sk, .int .i64 m.order, .int .i32 m.hyph, .slice p1 na k1, .slice p3 nb k3, .slice p5 nc k5] 28)) (.cells #[.int .i32 a] 21)
  have hb3 := below_alloc ((w.alloc (.cells #[.int .i64 m.sw, .int .i64 m.st, .int .i64 m.sk, .int .i64 m.order, .int .i32 m.hyph, .slice p1 na k1, .slice p3 nb k3, .slice p5 nc k5] 28)).alloc (.cells #[.int .i32 a] 21)) (.cells #[.int .i32 b] 21)
  have hc1 : (((w.alloc (.cells #[.int .i64 m.sw, .int .i64 m.st, .int .i64 m.sk, .int .i64 m.order, .int .i32 m.hyph, .slice p1 na k1, .slice p3 nb k3, .slice p5 nc k5] 28)).alloc (.cells #[.int .i32 a] 21)).alloc (.cells #[.int .i32 b] 21)).cell? ⟨w.heap.size + 1, 0, none⟩ = some (.int .i32 a) := cell_below hb3 (lay_one _ _ (World.size_alloc _ _) _ _)
  have hc2 : (((w.alloc (.cells #[.int .i64 m.sw, .int .i64 m.st, .int .i64 m.sk, .int .i64 m.order, .int .i32 m.hyph, .slice p1 na k1, .slice p3 nb k3, .slice p5 nc k5] 28)).alloc (.cells #[.int .i32 a] 21)).alloc (.cells #[.int .i32 b] 21)).cell? ⟨w.heap.size + 2, 0, none⟩ = some (.int .i32 b) := lay_one _ _ (by simp) _ _
  have HB := Lib.hid (below_step (below_step hb1 hb2) hb3)
  have Hc1 := Lib.hid hc1
  have Hc2 := Lib.hid hc2
  have HG : Hid (Calls Tryz.prog 31 #[.slice p5 nc k5, .func (.func 32) #[] #[.pointer (some ⟨w.heap.size + 1, 0, none⟩), .pointer (some ⟨w.heap.size + 2, 0, none⟩)]] (((w.alloc (.cells #[.int .i64 m.sw, .int .i64 m.st, .int .i64 m.sk, .int .i64 m.order, .int .i32 m.hyph, .slice p1 na k1, .slice p3 nb k3, .slice p5 nc k5] 28)).alloc (.cells #[.int .i32 a] 21)).alloc (.cells #[.int .i32 b] 21)) (Ret (opt_lg r) (((w.alloc (.cells #[.int .i64 m.sw, .int .i64 m.st, .int .i64 m.sk, .int .i64 m.order, .int .i32 m.hyph, .slice p1 na k1, .slice p3 nb k3, .slice p5 nc k5] 28)).alloc (.cells #[.int .i32 a] 21)).alloc (.cells #[.int .i32 b] 21)))) := Lib.hid (by
    rw [hr]
    rw [hnc] at HB Hc1 Hc2 ⊢
    exact first_lg _ eg_lg (w.heap.size + 1) (w.heap.size + 2) (fun k => k.a == a && k.b == b) _ _ _ _ (Below.refl _ _) (HS.out.mono HB.out) (fun x w1 hw1 => clo_lg _ _ a b x w1 (cell_below hw1 Hc1.out) (cell_below hw1 Hc2.out)))
  clear hb1 hb2 hb3 hc1 hc2 Hc1 Hc2 hna hnb hnc hr
  go_enter Tryz.func14, Tryz.ntmps14
  go_wp2_with fail
  refine HG.out.mono ?_
  rintro e w1 ⟨rfl, hbw⟩
  have HB1 := Lib.hid (below_step HB.out hbw)
  have hlt := hbw.size
  have HB2 := Lib.hid (below_step HB1.out (below_alloc w1 (.cells #[.int .i32 0, .int .i32 0, .int .i32 0] 54)))
  clear hbw hmf
  cases r with
  | none =>
    simp only [opt_lg]
    go_wp2
    go_ret2
    exact ⟨rfl, by first | exact HB2.out | exact below_step HB1.out (below_alloc _ _)⟩
  | some x =>
    simp only [opt_lg]
    go_wp2
    go_ret2
    exact ⟨rfl, by first | exact HB2.out | exact below_step HB1.out (below_alloc _ _)⟩

end Go.Proofs.YtmehldekebphfaaGreatDoor
