/-
  The program's search: slices.IndexFunc and first with any closure, at the three kinds of records; the closures; Find, Kern and Lig.
-/
import Derived.Test.YtmehldekebphfaaGreatDoorRefFind7
set_option linter.unusedVariables false
set_option linter.unusedSimpArgs false
namespace Go.Proofs.YtmehldekebphfaaGreatDoor
open Go.RowKit

theorem three_of {w : World} {p : Nat} {a b c : Value} {T : TypeId} (h1 : w.heap[p]? = some (.cells #[a, b, c] T (0, 0))) :
    w.cell? ⟨p, 0, none⟩ = some a ∧ w.cell? ⟨p, 1, none⟩ = some b ∧ w.cell? ⟨p, 2, none⟩ = some c := by
  refine ⟨?_, ?_, ?_⟩
  all_goals (rw [Lib.cell_of_heap h1]; rfl)
theorem new_three (w : World) (p : Nat) (hp : w.heap.size = p) (a b c : Value) (T : TypeId) {w' : World} (hb : Below (w.alloc (.cells #[a, b, c] T)).heap.size (w.alloc (.cells #[a, b, c] T)) w') :
    w'.heap[p]? = some (.cells #[a, b, c] T (0, 0)) ∧ (w'.cell? ⟨p, 0, none⟩ = some a ∧ w'.cell? ⟨p, 1, none⟩ = some b ∧ w'.cell? ⟨p, 2, none⟩ = some c) ∧
    (w'.frozen? ⟨p, 0, none⟩ = false ∧ w'.frozen? ⟨p, 1, none⟩ = false ∧ w'.frozen? ⟨p, 2, none⟩ = false) := by
  subst hp
  have h1 : w'.heap[w.heap.size]? = some (.cells #[a, b, c] T (0, 0)) := (hb.block _ (by rw [World.size_alloc]; omega)).trans (heap_alloc_new _ _)
  exact ⟨h1, three_of h1, Lib.frozen_of_heap h1 0, Lib.frozen_of_heap h1 1, Lib.frozen_of_heap h1 2⟩
theorem set_three {w : World} {p : Nat} {a b c x y z : Value} {T : TypeId} (h : w.heap[p]? = some (.cells #[x, y, z] T (0, 0))) :
    (((w.setCell ⟨p, 0, none⟩ a).setCell ⟨p, 1, none⟩ b).setCell ⟨p, 2, none⟩ c).cell? ⟨p, 0, none⟩ = some a ∧ (((w.setCell ⟨p, 0, none⟩ a).setCell ⟨p, 1, none⟩ b).setCell ⟨p, 2, none⟩ c).cell? ⟨p, 1, none⟩ = some b ∧
    (((w.setCell ⟨p, 0, none⟩ a).setCell ⟨p, 1, none⟩ b).setCell ⟨p, 2, none⟩ c).cell? ⟨p, 2, none⟩ = some c := by
  have h0 := heap_setCell_same w p 0 _ T a h
  have h1 := heap_setCell_same _ p 1 _ T b h0
  have h2 := heap_setCell_same _ p 2 _ T c h1
  exact three_of (T := T) h2
theorem below_set3 {w w7 : World} {a b c : Value} (hb : Below w.heap.size w w7) : Below w.heap.size w (((w7.setCell ⟨w.heap.size, 0, none⟩ a).setCell ⟨w.heap.size, 1, none⟩ b).setCell ⟨w.heap.size, 2, none⟩ c) :=
  ((hb.setCell (p := ⟨w.heap.size, 0, none⟩) (Nat.le_refl _) _).setCell (p := ⟨w.heap.size, 1, none⟩) (Nat.le_refl _) _).setCell (p := ⟨w.heap.size, 2, none⟩) (Nat.le_refl _) _
theorem below_set4z {w w7 : World} {a b c d : Value} (hb : Below w.heap.size w w7) : Below w.heap.size w ((((w7.setCell ⟨w.heap.size, 0, none⟩ a).setCell ⟨w.heap.size, 1, none⟩ b).setCell ⟨w.heap.size, 2, none⟩ c).setCell ⟨w.heap.size, 3, none⟩ d) :=
  (((hb.setCell (p := ⟨w.heap.size, 0, none⟩) (Nat.le_refl _) _).setCell (p := ⟨w.heap.size, 1, none⟩) (Nat.le_refl _) _).setCell (p := ⟨w.heap.size, 2, none⟩) (Nat.le_refl _) _).setCell (p := ⟨w.heap.size, 3, none⟩) (Nat.le_refl _) _
/-- where the first one of l stands that is sought -/
def IdxPost {α : Type} (l : List α) (r : Option α) (w : World) (e : Ending) (w' : World) : Prop :=
  Below w.heap.size w w' ∧ ((r = none ∧ e = .returned (.int .i64 (-1))) ∨ ∃ (k : Nat) (x : α), k < l.length ∧ l[k]? = some x ∧ r = some x ∧ e = .returned (.int .i64 k))


set_option maxHeartbeats 4000000 in
set_option maxRecDepth 100000 in
theorem idx_ch (g : Nat) (eg : ∀ args w, (callFunc g args).run Tryz.prog w = .ok (.enter g args) w) (p : Nat) (P : Mt.Ch → Bool) (v : Value) (l : List Mt.Ch) (w0 w : World) (hb0 : Below w0.heap.size w0 w) (h : SlcAt chC 4 w v l)
    (hclo : ∀ x : Mt.Ch, ∀ w1, Below w0.heap.size w0 w1 → Calls Tryz.prog g #[.agg #[.int .i32 x.code, .int .i64 x.w, .int .i64 x.h, .int .i64 x.d], .pointer (some ⟨p, 0, none⟩)] w1 (Ret (.bool (P x)) w1)) :
    Calls Tryz.prog 60 #[v, .func (.func g) #[] #[.pointer (some ⟨p, 0, none⟩)]] w (IdxPost l (l.find? P) w) := by
  have HA := Lib.hid h
  obtain ⟨⟨a, cp, rfl, _⟩, hm, _⟩ := h
  have hza : l.length ≤ 9223372036854775807 := by unfold maxLen at hm; omega
  obtain ⟨na, hna⟩ : ∃ n, n = l.length := ⟨_, rfl⟩
  have Hna := Lib.hid hna
  obtain ⟨r, hr⟩ : ∃ r, r = l.find? P := ⟨_, rfl⟩
  rw [← hna] at hza ⊢
  rw [← hr]
  have HM : Hid (r = (l.drop 0).find? P) := Lib.hid hr
  have HC := Lib.hid hclo
  have HB0 := Lib.hid hb0
  clear hm hna hr hclo hb0
  go_enter Tryz.func60, Tryz.ntmps60
  go_wp2_with fail
  go_loopw [8] (fun iv wr => ∃ k : Nat, k ≤ na ∧ iv = .int .i64 k ∧ Hid (Below w.heap.size w wr) ∧ Hid (r = (l.drop k).find? P)) (fun iv _ => na - (intOf iv).toNat)
  case atStart => exact ⟨0, Nat.zero_le _, rfl, Lib.hid (Below.refl _ _), HM⟩
  case round =>
    obtain ⟨k, hk, rfl, HB, HK⟩ := hrel
    clear HM
    by_cases hlt : k < na
    · obtain ⟨b1, o1, d1, e1, r1⟩ := HA.out.2.2 (by rw [← Hna.out]; omega)
      obtain ⟨rfl, rfl⟩ : a = some ⟨b1, o1, none⟩ ∧ cp = d1 := by injection e1 with a1 a2 a3; exact ⟨a1, a3⟩
      obtain ⟨x, hx⟩ : ∃ x, l[k]? = some x := ⟨_, List.getElem?_eq_getElem (by rw [← Hna.out]; exact hlt)⟩
      have Hx := Lib.hid hx
      have Hlt := Lib.hid (show k < l.length by rw [← Hna.out]; exact hlt)
      obtain ⟨y0, y1, y2, y3⟩ := ch_cells ((r1 k x hx).mono HB.out)
      have k0 : (0 : Int) ≤ (k : Int) := by omega
      have kl : (k : Int) < (na : Int) := by omega
      have HCx := Lib.hid (fun w1 h => HC.out x w1 h)
      cases hq : P x with
      | true =>
        have HE := Lib.hid (HK.out.trans (find_here hx hq))
        rw [hq] at HCx
        clear r1 e1 hx hq
        go_wp2_with fail
        refine (HCx.out _ (below_step HB0.out HB.out)).mono ?_
        rintro e w1 ⟨rfl, hb1⟩
        have HB1 := Lib.hid (below_step HB.out hb1)
        clear hb1 y0 y1 y2 y3 HCx
        go_wp2
        go_ret
        exact ⟨HB1.out, .inr ⟨k, x, Hlt.out, Hx.out, HE.out, rfl⟩⟩
      | false =>
        have HE := Lib.hid (HK.out.trans (find_on hx hq))
        rw [hq] at HCx
        clear r1 e1 hx hq
        go_wp2_with fail
        refine (HCx.out _ (below_step HB0.out HB.out)).mono ?_
        rintro e w1 ⟨rfl, hb1⟩
        have HB1 := Lib.hid (below_step HB.out hb1)
        clear hb1 y0 y1 y2 y3 HCx
        go_wp2
        go_roundw
        case rel => exact ⟨k + 1, by omega, by go_num, HB1, HE⟩
        case measure => simp [intOf]; omega
    · have HE := Lib.hid (HK.out.trans (find_end (by rw [← Hna.out]; omega)))
      go_wp2
      go_ret
      exact ⟨HB.out, .inl ⟨HE.out, rfl⟩⟩


def opt_ch : Option Mt.Ch → Value
  | some x => .tuple #[.agg #[.int .i32 x.code, .int .i64 x.w, .int .i64 x.h, .int .i64 x.d], .bool true]
  | none => .tuple #[.agg #[.int .i32 0, .int .i64 0, .int .i64 0, .int .i64 0], .bool false]
set_option maxHeartbeats 4000000 in
set_option maxRecDepth 100000 in
theorem first_ch (g : Nat) (eg : ∀ args w, (callFunc g args).run Tryz.prog w = .ok (.enter g args) w) (p : Nat) (P : Mt.Ch → Bool) (v : Value) (l : List Mt.Ch) (w0 w : World) (hb0 : Below w0.heap.size w0 w) (h : SlcAt chC 4 w v l)
    (hclo : ∀ x : Mt.Ch, ∀ w1, Below w0.heap.size w0 w1 → Calls Tryz.prog g #[.agg #[.int .i32 x.code, .int .i64 x.w, .int .i64 x.h, .int .i64 x.d], .pointer (some ⟨p, 0, none⟩)] w1 (Ret (.bool (P x)) w1)) :
    Calls Tryz.prog 29 #[v, .func (.func g) #[] #[.pointer (some ⟨p, 0, none⟩)]] w (Ret (opt_ch (l.find? P)) w) := by
  have hb := below_alloc w (.cells #[.int .i32 0, .int .i64 0, .int .i64 0, .int .i64 0] 38)
  have HI := Lib.hid (idx_ch g eg p P v l w0 _ (below_step hb0 hb) (h.mono hb) hclo)
  have HA := Lib.hid h
  have HB := Lib.hid hb
  obtain ⟨⟨a, cp, rfl, _⟩, hm, _⟩ := h
  have hza : l.length ≤ 9223372036854775807 := by unfold maxLen at hm; omega
  obtain ⟨na, hna⟩ : ∃ n, n = l.length := ⟨_, rfl⟩
  have Hna := Lib.hid hna
  obtain ⟨r, hr⟩ : ∃ r, r = l.find? P := ⟨_, rfl⟩
  rw [← hr] at HI ⊢
  rw [← hna] at hza HI ⊢
  clear hm hna hr hclo hb0 hb
  go_enter Tryz.func29, Tryz.ntmps29
  go_wp2_with fail
  refine HI.out.mono ?_
  rintro e w1 ⟨hb1, hcase⟩
  obtain ⟨nh, ⟨n0, n1, n2, n3⟩, f0, f1, f2, f3⟩ := new_four w w.heap.size rfl (.int .i32 0) (.int .i64 0) (.int .i64 0) (.int .i64 0) 38 hb1
  have HB1 := Lib.hid (below_step HB.out hb1)
  rcases hcase with ⟨rfl, rfl⟩ | ⟨k, x, hlt, hx, rfl, rfl⟩
  · have NH := Lib.hid nh
    have hlt := lt_of_block nh
    clear hb1 nh
    obtain ⟨s0, s1, s2, s3⟩ := set_four (a := .int .i32 0) (b := .int .i64 0) (c := .int .i64 0) (d := .int .i64 0) NH.out
    have Hz : Hid (((((((w1.setCell ⟨w.heap.size, 0, none⟩ (.int .i32 0)).setCell ⟨w.heap.size, 1, none⟩ (.int .i64 0)).setCell ⟨w.heap.size, 2, none⟩ (.int .i64 0)).setCell ⟨w.heap.size, 3, none⟩ (.int .i64 0))).alloc (.cells #[.int .i32 0, .int .i64 0, .int .i64 0, .int .i64 0] 38)).cell? ⟨w.heap.size, 0, none⟩ = some (.int .i32 0) ∧ ((((((w1.setCell ⟨w.heap.size, 0, none⟩ (.int .i32 0)).setCell ⟨w.heap.size, 1, none⟩ (.int .i64 0)).setCell ⟨w.heap.size, 2, none⟩ (.int .i64 0)).setCell ⟨w.heap.size, 3, none⟩ (.int .i64 0))).alloc (.cells #[.int .i32 0, .int .i64 0, .int .i64 0, .int .i64 0] 38)).cell? ⟨w.heap.size, 1, none⟩ = some (.int .i64 0) ∧ ((((((w1.setCell ⟨w.heap.size, 0, none⟩ (.int .i32 0)).setCell ⟨w.heap.size, 1, none⟩ (.int .i64 0)).setCell ⟨w.heap.size, 2, none⟩ (.int .i64 0)).setCell ⟨w.heap.size, 3, none⟩ (.int .i64 0))).alloc (.cells #[.int .i32 0, .int .i64 0, .int .i64 0, .int .i64 0] 38)).cell? ⟨w.heap.size, 2, none⟩ = some (.int .i64 0) ∧ ((((((w1.setCell ⟨w.heap.size, 0, none⟩ (.int .i32 0)).setCell ⟨w.heap.size, 1, none⟩ (.int .i64 0)).setCell ⟨w.heap.size, 2, none⟩ (.int .i64 0)).setCell ⟨w.heap.size, 3, none⟩ (.int .i64 0))).alloc (.cells #[.int .i32 0, .int .i64 0, .int .i64 0, .int .i64 0] 38)).cell? ⟨w.heap.size, 3, none⟩ = some (.int .i64 0)) := Lib.hid ⟨cell_below (below_alloc _ _) s0, cell_below (below_alloc _ _) s1, cell_below (below_alloc _ _) s2, cell_below (below_alloc _ _) s3⟩
    clear s0 s1 s2 s3
    go_wp2
    obtain ⟨s0, s1, s2, s3⟩ := Hz.out
    exact bodyPost_ret (v := .tuple #[.agg #[.int .i32 0, .int .i64 0, .int .i64 0, .int .i64 0], .bool false]) (by simp [results, Tryz.results29, go_sem, s0, s1, s2, s3]) rfl ⟨rfl, below_step (below_set4z HB1.out) (below_alloc _ _)⟩
  · obtain ⟨b1, o1, d1, e1, r1⟩ := HA.out.2.2 (by omega)
    obtain ⟨rfl, rfl⟩ : a = some ⟨b1, o1, none⟩ ∧ cp = d1 := by injection e1 with a1 a2 a3; exact ⟨a1, a3⟩
    obtain ⟨y0, y1, y2, y3⟩ := ch_cells ((r1 k x hx).mono HB1.out)
    have k0 : (0 : Int) ≤ (k : Int) := by omega
    have kl : (k : Int) < (na : Int) := by have := Hna.out; omega
    have NH := Lib.hid nh
    clear hb1 nh r1 e1 hx hlt
    obtain ⟨s0, s1, s2, s3⟩ := set_four (a := .int .i32 x.code) (b := .int .i64 x.w) (c := .int .i64 x.h) (d := .int .i64 x.d) NH.out
    go_wp2
    exact bodyPost_ret (v := .tuple #[.agg #[.int .i32 x.code, .int .i64 x.w, .int .i64 x.h, .int .i64 x.d], .bool true]) (by simp [results, Tryz.results29, go_sem, s0, s1, s2, s3]) rfl ⟨rfl, below_set4z HB1.out⟩


set_option maxHeartbeats 4000000 in
set_option maxRecDepth 100000 in
theorem idx_kn (g : Nat) (eg : ∀ args w, (callFunc g args).run Tryz.prog w = .ok (.enter g args) w) (p q : Nat) (P : Mt.Kn → Bool) (v : Value) (l : List Mt.Kn) (w0 w : World) (hb0 : Below w0.heap.size w0 w) (h : SlcAt knC 3 w v l)
    (hclo : ∀ x : Mt.Kn, ∀ w1, Below w0.heap.size w0 w1 → Calls Tryz.prog g #[.agg #[.int .i32 x.a, .int .i32 x.b, .int .i64 x.w], .pointer (some ⟨p, 0, none⟩), .pointer (some ⟨q, 0, none⟩)] w1 (Ret (.bool (P x)) w1)) :
    Calls Tryz.prog 79 #[v, .func (.func g) #[] #[.pointer (some ⟨p, 0, none⟩), .pointer (some ⟨q, 0, none⟩)]] w (IdxPost l (l.find? P) w) := by
  have HA := Lib.hid h
  obtain ⟨⟨a, cp, rfl, _⟩, hm, _⟩ := h
  have hza : l.length ≤ 9223372036854775807 := by unfold maxLen at hm; omega
  obtain ⟨na, hna⟩ : ∃ n, n = l.length := ⟨_, rfl⟩
  have Hna := Lib.hid hna
  obtain ⟨r, hr⟩ : ∃ r, r = l.find? P := ⟨_, rfl⟩
  rw [← hna] at hza ⊢
  rw [← hr]
  have HM : Hid (r = (l.drop 0).find? P) := Lib.hid hr
  have HC := Lib.hid hclo
  have HB0 := Lib.hid hb0
  clear hm hna hr hclo hb0
  go_enter Tryz.func79, Tryz.ntmps79
  go_wp2_with fail
  go_loopw [8] (fun iv wr => ∃ k : Nat, k ≤ na ∧ iv = .int .i64 k ∧ Hid (Below w.heap.size w wr) ∧ Hid (r = (l.drop k).find? P)) (fun iv _ => na - (intOf iv).toNat)
  case atStart => exact ⟨0, Nat.zero_le _, rfl, Lib.hid (Below.refl _ _), HM⟩
  case round =>
    obtain ⟨k, hk, rfl, HB, HK⟩ := hrel
    clear HM
    by_cases hlt : k < na
    · obtain ⟨b1, o1, d1, e1, r1⟩ := HA.out.2.2 (by rw [← Hna.out]; omega)
      obtain ⟨rfl, rfl⟩ : a = some ⟨b1, o1, none⟩ ∧ cp = d1 := by injection e1 with a1 a2 a3; exact ⟨a1, a3⟩
      obtain ⟨x, hx⟩ : ∃ x, l[k]? = some x := ⟨_, List.getElem?_eq_getElem (by rw [← Hna.out]; exact hlt)⟩
      have Hx := Lib.hid hx
      have Hlt := Lib.hid (show k < l.length by rw [← Hna.out]; exact hlt)
      obtain ⟨y0, y1, y2⟩ := kn_cells ((r1 k x hx).mono HB.out)
      have k0 : (0 : Int) ≤ (k : Int) := by omega
      have kl : (k : Int) < (na : Int) := by omega
      have HCx := Lib.hid (fun w1 h => HC.out x w1 h)
      cases hq : P x with
      | true =>
        have HE := Lib.hid (HK.out.trans (find_here hx hq))
        rw [hq] at HCx
        clear r1 e1 hx hq
        go_wp2_with fail
        refine (HCx.out _ (below_step HB0.out HB.out)).mono ?_
        rintro e w1 ⟨rfl, hb1⟩
        have HB1 := Lib.hid (below_step HB.out hb1)
        clear hb1 y0 y1 y2 HCx
        go_wp2
        go_ret
        exact ⟨HB1.out, .inr ⟨k, x, Hlt.out, Hx.out, HE.out, rfl⟩⟩
      | false =>
        have HE := Lib.hid (HK.out.trans (find_on hx hq))
        rw [hq] at HCx
        clear r1 e1 hx hq
        go_wp2_with fail
        refine (HCx.out _ (below_step HB0.out HB.out)).mono ?_
        rintro e w1 ⟨rfl, hb1⟩
        have HB1 := Lib.hid (below_step HB.out hb1)
        clear hb1 y0 y1 y2 HCx
        go_wp2
        go_roundw
        case rel => exact ⟨k + 1, by omega, by go_num, HB1, HE⟩
        case measure => simp [intOf]; omega
    · have HE := Lib.hid (HK.out.trans (find_end (by rw [← Hna.out]; omega)))
      go_wp2
      go_ret
      exact ⟨HB.out, .inl ⟨HE.out, rfl⟩⟩


def opt_kn : Option Mt.Kn → Value
  | some x => .tuple #[.agg #[.int .i32 x.a, .int .i32 x.b, .int .i64 x.w], .bool true]
  | none => .tuple #[.agg #[.int .i32 0, .int .i32 0, .int .i64 0], .bool false]
set_option maxHeartbeats 4000000 in
set_option maxRecDepth 100000 in
theorem first_kn (g : Nat) (eg : ∀ args w, (callFunc g args).run Tryz.prog w = .ok (.enter g args) w) (p q : Nat) (P : Mt.Kn → Bool) (v : Value) (l : List Mt.Kn) (w0 w : World) (hb0 : Below w0.heap.size w0 w) (h : SlcAt knC 3 w v l)
    (hclo : ∀ x : Mt.Kn, ∀ w1, Below w0.heap.size w0 w1 → Calls Tryz.prog g #[.agg #[.int .i32 x.a, .int .i32 x.b, .int .i64 x.w], .pointer (some ⟨p, 0, none⟩), .pointer (some ⟨q, 0, none⟩)] w1 (Ret (.bool (P x)) w1)) :
    Calls Tryz.prog 44 #[v, .func (.func g) #[] #[.pointer (some ⟨p, 0, none⟩), .pointer (some ⟨q, 0, none⟩)]] w (Ret (opt_kn (l.find? P)) w) := by
  have hb := below_alloc w (.cells #[.int .i32 0, .int .i32 0, .int .i64 0] 52)
  have HI := Lib.hid (idx_kn g eg p q P v l w0 _ (below_step hb0 hb) (h.mono hb) hclo)
  have HA := Lib.hid h
  have HB := Lib.hid hb
  obtain ⟨⟨a, cp, rfl, _⟩, hm, _⟩ := h
  have hza : l.length ≤ 9223372036854775807 := by unfold maxLen at hm; omega
  obtain ⟨na, hna⟩ : ∃ n, n = l.length := ⟨_, rfl⟩
  have Hna := Lib.hid hna
  obtain ⟨r, hr⟩ : ∃ r, r = l.find? P := ⟨_, rfl⟩
  rw [← hr] at HI ⊢
  rw [← hna] at hza HI ⊢
  clear hm hna hr hclo hb0 hb
  go_enter Tryz.func44, Tryz.ntmps44
  go_wp2_with fail
  refine HI.out.mono ?_
  rintro e w1 ⟨hb1, hcase⟩
  obtain ⟨nh, ⟨n0, n1, n2⟩, f0, f1, f2⟩ := new_three w w.heap.size rfl (.int .i32 0) (.int .i32 0) (.int .i64 0) 52 hb1
  have HB1 := Lib.hid (below_step HB.out hb1)
  rcases hcase with ⟨rfl, rfl⟩ | ⟨k, x, hlt, hx, rfl, rfl⟩
  · have NH := Lib.hid nh
    have hlt := lt_of_block nh
    clear hb1 nh
    obtain ⟨s0, s1, s2⟩ := set_three (a := .int .i32 0) (b := .int .i32 0) (c := .int .i64 0) NH.out
    have Hz : Hid ((((((w1.setCell ⟨w.heap.size, 0, none⟩ (.int .i32 0)).setCell ⟨w.heap.size, 1, none⟩ (.int .i32 0)).setCell ⟨w.heap.size, 2, none⟩ (.int .i64 0))).alloc (.cells #[.int .i32 0, .int .i32 0, .int .i64 0] 52)).cell? ⟨w.heap.size, 0, none⟩ = some (.int .i32 0) ∧ (((((w1.setCell ⟨w.heap.size, 0, none⟩ (.int .i32 0)).setCell ⟨w.heap.size, 1, none⟩ (.int .i32 0)).setCell ⟨w.heap.size, 2, none⟩ (.int .i64 0))).alloc (.cells #[.int .i32 0, .int .i32 0, .int .i64 0] 52)).cell? ⟨w.heap.size, 1, none⟩ = some (.int .i32 0) ∧ (((((w1.setCell ⟨w.heap.size, 0, none⟩ (.int .i32 0)).setCell ⟨w.heap.size, 1, none⟩ (.int .i32 0)).setCell ⟨w.heap.size, 2, none⟩ (.int .i64 0))).alloc (.cells #[.int .i32 0, .int .i32 0, .int .i64 0] 52)).cell? ⟨w.heap.size, 2, none⟩ = some (.int .i64 0)) := Lib.hid ⟨cell_below (below_alloc _ _) s0, cell_below (below_alloc _ _) s1, cell_below (below_alloc _ _) s2⟩
    clear s0 s1 s2
    go_wp2
    obtain ⟨s0, s1, s2⟩ := Hz.out
    exact bodyPost_ret (v := .tuple #[.agg #[.int .i32 0, .int .i32 0, .int .i64 0], .bool false]) (by simp [results, Tryz.results44, go_sem, s0, s1, s2]) rfl ⟨rfl, below_step (below_set3 HB1.out) (below_alloc _ _)⟩
  · obtain ⟨b1, o1, d1, e1, r1⟩ := HA.out.2.2 (by omega)
    obtain ⟨rfl, rfl⟩ : a = some ⟨b1, o1, none⟩ ∧ cp = d1 := by injection e1 with a1 a2 a3; exact ⟨a1, a3⟩
    obtain ⟨y0, y1, y2⟩ := kn_cells ((r1 k x hx).mono HB1.out)
    have k0 : (0 : Int) ≤ (k : Int) := by omega
    have kl : (k : Int) < (na : Int) := by have := Hna.out; omega
    have NH := Lib.hid nh
    clear hb1 nh r1 e1 hx hlt
    obtain ⟨s0, s1, s2⟩ := set_three (a := .int .i32 x.a) (b := .int .i32 x.b) (c := .int .i64 x.w) NH.out
    go_wp2
    exact bodyPost_ret (v := .tuple #[.agg #[.int .i32 x.a, .int .i32 x.b, .int .i64 x.w], .bool true]) (by simp [results, Tryz.results44, go_sem, s0, s1, s2]) rfl ⟨rfl, below_set3 HB1.out⟩


set_option maxHeartbeats 4000000 in
set_option maxRecDepth 100000 in
theorem idx_lg (g : Nat) (eg : ∀ args w, (callFunc g args).run Tryz.prog w = .ok (.enter g args) w) (p q : Nat) (P : Mt.Lg → Bool) (v : Value) (l : List Mt.Lg) (w0 w : World) (hb0 : Below w0.heap.size w0 w) (h : SlcAt lgC 3 w v l)
    (hclo : ∀ x : Mt.Lg, ∀ w1, Below w0.heap.size w0 w1 → Calls Tryz.prog g #[.agg #[.int .i32 x.a, .int .i32 x.b, .int .i32 x.to], .pointer (some ⟨p, 0, none⟩), .pointer (some ⟨q, 0, none⟩)] w1 (Ret (.bool (P x)) w1)) :
    Calls Tryz.prog 61 #[v, .func (.func g) #[] #[.pointer (some ⟨p, 0, none⟩), .pointer (some ⟨q, 0, none⟩)]] w (IdxPost l (l.find? P) w) := by
  have HA := Lib.hid h
  obtain ⟨⟨a, cp, rfl, _⟩, hm, _⟩ := h
  have hza : l.length ≤ 9223372036854775807 := by unfold maxLen at hm; omega
  obtain ⟨na, hna⟩ : ∃ n, n = l.length := ⟨_, rfl⟩
  have Hna := Lib.hid hna
  obtain ⟨r, hr⟩ : ∃ r, r = l.find? P := ⟨_, rfl⟩
  rw [← hna] at hza ⊢
  rw [← hr]
  have HM : Hid (r = (l.drop 0).find? P) := Lib.hid hr
  have HC := Lib.hid hclo
  have HB0 := Lib.hid hb0
  clear hm hna hr hclo hb0
  go_enter Tryz.func61, Tryz.ntmps61
  go_wp2_with fail
  go_loopw [8] (fun iv wr => ∃ k : Nat, k ≤ na ∧ iv = .int .i64 k ∧ Hid (Below w.heap.size w wr) ∧ Hid (r = (l.drop k).find? P)) (fun iv _ => na - (intOf iv).toNat)
  case atStart => exact ⟨0, Nat.zero_le _, rfl, Lib.hid (Below.refl _ _), HM⟩
  case round =>
    obtain ⟨k, hk, rfl, HB, HK⟩ := hrel
    clear HM
    by_cases hlt : k < na
    · obtain ⟨b1, o1, d1, e1, r1⟩ := HA.out.2.2 (by rw [← Hna.out]; omega)
      obtain ⟨rfl, rfl⟩ : a = some ⟨b1, o1, none⟩ ∧ cp = d1 := by injection e1 with a1 a2 a3; exact ⟨a1, a3⟩
      obtain ⟨x, hx⟩ : ∃ x, l[k]? = some x := ⟨_, List.getElem?_eq_getElem (by rw [← Hna.out]; exact hlt)⟩
      have Hx := Lib.hid hx
      have Hlt := Lib.hid (show k < l.length by rw [← Hna.out]; exact hlt)
      obtain ⟨y0, y1, y2⟩ := lg_cells ((r1 k x hx).mono HB.out)
      have k0 : (0 : Int) ≤ (k : Int) := by omega
      have kl : (k : Int) < (na : Int) := by omega
      have HCx := Lib.hid (fun w1 h => HC.out x w1 h)
      cases hq : P x with
      | true =>
        have HE := Lib.hid (HK.out.trans (find_here hx hq))
        rw [hq] at HCx
        clear r1 e1 hx hq
        go_wp2_with fail
        refine (HCx.out _ (below_step HB0.out HB.out)).mono ?_
        rintro e w1 ⟨rfl, hb1⟩
        have HB1 := Lib.hid (below_step HB.out hb1)
        clear hb1 y0 y1 y2 HCx
        go_wp2
        go_ret
        exact ⟨HB1.out, .inr ⟨k, x, Hlt.out, Hx.out, HE.out, rfl⟩⟩
      | false =>
        have HE := Lib.hid (HK.out.trans (find_on hx hq))
        rw [hq] at HCx
        clear r1 e1 hx hq
        go_wp2_with fail
        refine (HCx.out _ (below_step HB0.out HB.out)).mono ?_
        rintro e w1 ⟨rfl, hb1⟩
        have HB1 := Lib.hid (below_step HB.out hb1)
        clear hb1 y0 y1 y2 HCx
        go_wp2
        go_roundw
        case rel => exact ⟨k + 1, by omega, by go_num, HB1, HE⟩
        case measure => simp [intOf]; omega
    · have HE := Lib.hid (HK.out.trans (find_end (by rw [← Hna.out]; omega)))
      go_wp2
      go_ret
      exact ⟨HB.out, .inl ⟨HE.out, rfl⟩⟩


def opt_lg : Option Mt.Lg → Value
  | some x => .tuple #[.agg #[.int .i32 x.a, .int .i32 x.b, .int .i32 x.to], .bool true]
  | none => .tuple #[.agg #[.int .i32 0, .int .i32 0, .int .i32 0], .bool false]
set_option maxHeartbeats 4000000 in
set_option maxRecDepth 100000 in
theorem first_lg (g : Nat) (eg : ∀ args w, (callFunc g args).run Tryz.prog w = .ok (.enter g args) w) (p q : Nat) (P : Mt.Lg → Bool) (v : Value) (l : List Mt.Lg) (w0 w : World) (hb0 : Below w0.heap.size w0 w) (h : SlcAt lgC 3 w v l)
    (hclo : ∀ x : Mt.Lg, ∀ w1, Below w0.heap.size w0 w1 → Calls Tryz.prog g #[.agg #[.int .i32 x.a, .int .i32 x.b, .int .i32 x.to], .pointer (some ⟨p, 0, none⟩), .pointer (some ⟨q, 0, none⟩)] w1 (Ret (.bool (P x)) w1)) :
    Calls Tryz.prog 31 #[v, .func (.func g) #[] #[.pointer (some ⟨p, 0, none⟩), .pointer (some ⟨q, 0, none⟩)]] w (Ret (opt_lg (l.find? P)) w) := by
  have hb := below_alloc w (.cells #[.int .i32 0, .int .i32 0, .int .i32 0] 54)
  have HI := Lib.hid (idx_lg g eg p q P v l w0 _ (below_step hb0 hb) (h.mono hb) hclo)
  have HA := Lib.hid h
  have HB := Lib.hid hb
  obtain ⟨⟨a, cp, rfl, _⟩, hm, _⟩ := h
  have hza : l.length ≤ 9223372036854775807 := by unfold maxLen at hm; omega
  obtain ⟨na, hna⟩ : ∃ n, n = l.length := ⟨_, rfl⟩
  have Hna := Lib.hid hna
  obtain ⟨r, hr⟩ : ∃ r, r = l.find? P := ⟨_, rfl⟩
  rw [← hr] at HI ⊢
  rw [← hna] at hza HI ⊢
  clear hm hna hr hclo hb0 hb
  go_enter Tryz.func31, Tryz.ntmps31
  go_wp2_with fail
  refine HI.out.mono ?_
  rintro e w1 ⟨hb1, hcase⟩
  obtain ⟨nh, ⟨n0, n1, n2⟩, f0, f1, f2⟩ := new_three w w.heap.size rfl (.int .i32 0) (.int .i32 0) (.int .i32 0) 54 hb1
  have HB1 := Lib.hid (below_step HB.out hb1)
  rcases hcase with ⟨rfl, rfl⟩ | ⟨k, x, hlt, hx, rfl, rfl⟩
  · have NH := Lib.hid nh
    have hlt := lt_of_block nh
    clear hb1 nh
    obtain ⟨s0, s1, s2⟩ := set_three (a := .int .i32 0) (b := .int .i32 0) (c := .int .i32 0) NH.out
    have Hz : Hid ((((((w1.setCell ⟨w.heap.size, 0, none⟩ (.int .i32 0)).setCell ⟨w.heap.size, 1, none⟩ (.int .i32 0)).setCell ⟨w.heap.size, 2, none⟩ (.int .i32 0))).alloc (.cells #[.int .i32 0, .int .i32 0, .int .i32 0] 54)).cell? ⟨w.heap.size, 0, none⟩ = some (.int .i32 0) ∧ (((((w1.setCell ⟨w.heap.size, 0, none⟩ (.int .i32 0)).setCell ⟨w.heap.size, 1, none⟩ (.int .i32 0)).setCell ⟨w.heap.size, 2, none⟩ (.int .i32 0))).alloc (.cells #[.int .i32 0, .int .i32 0, .int .i32 0] 54)).cell? ⟨w.heap.size, 1, none⟩ = some (.int .i32 0) ∧ (((((w1.setCell ⟨w.heap.size, 0, none⟩ (.int .i32 0)).setCell ⟨w.heap.size, 1, none⟩ (.int .i32 0)).setCell ⟨w.heap.size, 2, none⟩ (.int .i32 0))).alloc (.cells #[.int .i32 0, .int .i32 0, .int .i32 0] 54)).cell? ⟨w.heap.size, 2, none⟩ = some (.int .i32 0)) := Lib.hid ⟨cell_below (below_alloc _ _) s0, cell_below (below_alloc _ _) s1, cell_below (below_alloc _ _) s2⟩
    clear s0 s1 s2
    go_wp2
    obtain ⟨s0, s1, s2⟩ := Hz.out
    exact bodyPost_ret (v := .tuple #[.agg #[.int .i32 0, .int .i32 0, .int .i32 0], .bool false]) (by simp [results, Tryz.results31, go_sem, s0, s1, s2]) rfl ⟨rfl, below_step (below_set3 HB1.out) (below_alloc _ _)⟩
  · obtain ⟨b1, o1, d1, e1, r1⟩ := HA.out.2.2 (by omega)
    obtain ⟨rfl, rfl⟩ : a = some ⟨b1, o1, none⟩ ∧ cp = d1 := by injection e1 with a1 a2 a3; exact ⟨a1, a3⟩
    obtain ⟨y0, y1, y2⟩ := lg_cells ((r1 k x hx).mono HB1.out)
    have k0 : (0 : Int) ≤ (k : Int) := by omega
    have kl : (k : Int) < (na : Int) := by have := Hna.out; omega
    have NH := Lib.hid nh
    clear hb1 nh r1 e1 hx hlt
    obtain ⟨s0, s1, s2⟩ := set_three (a := .int .i32 x.a) (b := .int .i32 x.b) (c := .int .i32 x.to) NH.out
    go_wp2
    exact bodyPost_ret (v := .tuple #[.agg #[.int .i32 x.a, .int .i32 x.b, .int .i32 x.to], .bool true]) (by simp [results, Tryz.results31, go_sem, s0, s1, s2]) rfl ⟨rfl, below_set3 HB1.out⟩

end Go.Proofs.YtmehldekebphfaaGreatDoor
