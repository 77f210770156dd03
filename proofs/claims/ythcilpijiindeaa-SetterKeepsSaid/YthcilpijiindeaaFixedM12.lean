/-
  Both Words, lists held against one another, and the answers that the document fixes (layer 12).
-/
import Derived.Test.YthcilpijiindeaaLines12
set_option linter.unusedVariables false
set_option linter.unusedSimpArgs false
namespace Go.Proofs.Ythcilpijiindeaa
open Go.RowKit

def wordsL (ls : List It.Lin) : List It.Plc := ls.flatMap (·.bs)
theorem wordsL_take {l : List It.Lin} {k : Nat} {x : It.Lin} (h : l[k]? = some x) : wordsL (l.take (k + 1)) = wordsL (l.take k) ++ x.bs := by
  unfold wordsL
  rw [It.take_snoc h, List.flatMap_append]
  simp
theorem wordsL_le (l : List It.Lin) (k : Nat) : (wordsL (l.take k)).length ≤ (wordsL l).length := by
  conv => rhs; rw [← List.take_append_drop k l]
  unfold wordsL
  rw [List.flatMap_append, List.length_append]
  omega
/-- lines in memory, one by one -/
theorem lins_parts {w : World} {v : Value} {ls : List It.Lin} (h : LinsAt w v ls) : ∃ a c, v = .slice a ls.length c ∧ ls.length ≤ maxLen ∧ ∀ wx, Below w.heap.size w wx → ∀ (k : Nat) (x : It.Lin), ls[k]? = some x → ∃ b o r, a = some ⟨b, o, none⟩ ∧ RecAt wx b (o + k * 6) (lrC r) ∧ LinAt wx r x := by
  obtain ⟨rs, h1, h2, h3⟩ := h
  obtain ⟨⟨a, c, e, hc⟩, hm, hk⟩ := h1
  refine ⟨a, c, by rw [e, h2], by omega, fun wx hb k x hx => ?_⟩
  have hlt := (List.getElem?_eq_some_iff.1 hx).1
  obtain ⟨b, o, c', e', hr⟩ := hk (by omega)
  obtain ⟨r, hr'⟩ : ∃ r, rs[k]? = some r := ⟨_, List.getElem?_eq_getElem (by omega)⟩
  rw [e] at e'
  injection e' with e1
  exact ⟨b, o, r, e1, (hr k r hr').mono hb, (h3 k r x hr' hx).mono hb⟩
set_option maxHeartbeats 8000000 in
set_option maxRecDepth 100000 in
theorem words_any (v : Value) (ls : List It.Lin) (w : World) (h : LinsAt w v ls) (hlen : (wordsL ls).length ≤ 100000) : Calls Try.prog 12 #[v] w fun e w' => ∃ u, e = .returned u ∧ OwnP w.heap.size u (wordsL ls) w' ∧ Below w.heap.size w w' := by
  obtain ⟨a, cp, rfl, hm, hx⟩ := lins_parts h
  have HX := Lib.hid hx
  have hza : ls.length ≤ 9223372036854775807 := by unfold maxLen at hm; omega
  obtain ⟨n, hn⟩ : ∃ n, n = ls.length := ⟨_, rfl⟩
  have Hn := Lib.hid hn
  have HL := Lib.hid hlen
  rw [← hn] at hza ⊢
  clear hn hm hx h hlen
  have HO0 : Hid (OwnP w.heap.size (.slice none 0 0) (wordsL (ls.take 0)) w) := Lib.hid (ownR_nil _ _ _ _ _)
  have HB0 := Lib.hid (Below.refl w.heap.size w)
  go_enter Try.func12, Try.ntmps12
  go_wp2_with fail
  go_loopw [3, 8] (fun ov iv wr => ∃ k : Nat, k ≤ n ∧ iv = .int .i64 k ∧ Hid (OwnP w.heap.size ov (wordsL (ls.take k)) wr) ∧ Hid (Below w.heap.size w wr)) (fun _ iv _ => n - (intOf iv).toNat)
  case atStart => exact ⟨0, Nat.zero_le _, rfl, HO0, HB0⟩
  case round =>
    obtain ⟨k, hk, rfl, HO, HB⟩ := hrel
    clear HO0 HB0
    by_cases hlt : k < n
    · obtain ⟨x, hx⟩ : ∃ x, ls[k]? = some x := ⟨_, List.getElem?_eq_getElem (by rw [← Hn.out]; exact hlt)⟩
      obtain ⟨b1, o1, r, rfl, hr, hl⟩ := HX.out wr HB.out k x hx
      obtain ⟨y0, y1, y2, y3, y4, y5⟩ := lr_cells hr
      have k0 : (0 : Int) ≤ (k : Int) := by omega
      have kl : (k : Int) < (n : Int) := by omega
      have HN := Lib.hid (wordsL_take hx)
      have HLe := Lib.hid (wordsL_le ls (k + 1))
      rw [HN.out, List.length_append] at HLe
      have HP := Lib.hid hl.bs
      clear hx hr hl
      have hb2 := below_alloc wr (.cells #[.int .i64 r.fr, .int .i64 r.en, .slice r.a r.n r.c, .bool r.hy, .int .i64 r.x, .int .i64 r.bad] 44)
      have HO2 := Lib.hid (OwnR.mono HO.out hb2)
      have HP2 := Lib.hid (SlcAt.mono HP.out hb2)
      have HB2 := Lib.hid (below_step HB.out hb2)
      have hq := Lib.cell_of_heap (obj_new wr _ rfl #[.int .i64 r.fr, .int .i64 r.en, .slice r.a r.n r.c, .bool r.hy, .int .i64 r.x, .int .i64 r.bad] 44) 2
      obtain ⟨W2, hW2⟩ : ∃ W2, W2 = wr.alloc (.cells #[.int .i64 r.fr, .int .i64 r.en, .slice r.a r.n r.c, .bool r.hy, .int .i64 r.x, .int .i64 r.bad] 44) := ⟨_, rfl⟩
      obtain ⟨Q, hQ⟩ : ∃ Q, Q = wr.heap.size := ⟨_, rfl⟩
      rw [← hW2] at hb2 HO2 HP2 HB2 hq
      rw [← hQ] at hq
      clear hb2
      go_upto_region 5 with fail
      rw [← hW2, ← hQ]
      clear hW2 hQ y0 y1 y2 y3 y4 y5
      have hz2 := HB2.out.size
      go_wp2_with (at_builtin; refine wpList_append_slc Try.underlying33 infoPc rfl (by decide) pcC_len pcC_cell rfl _ _ rfl w.heap.size _ _ (wordsL (ls.take k)) x.bs rfl HO2.out rfl HP2.out (by have := HLe.out; have := HL.out; omega) (by have := HLe.out; have := HL.out; unfold maxLen; omega) hz2 ?_; intro v9 w9 h9 hg9; have HO9 := Lib.hid h9; have HB9 := Lib.hid (below_app HB2.out hg9 HO2.out hz2); clear h9 hg9)
      go_roundw
      case rel => exact ⟨k + 1, by omega, by go_num, Lib.hid (by rw [HN.out]; exact HO9.out), HB9⟩
      case measure => simp [intOf]; omega
    · have HE : Hid (ls.take k = ls) := Lib.hid (List.take_of_length_le (by rw [← Hn.out]; omega))
      go_wp2
      go_ret
      exact ⟨_, rfl, by rw [HE.out] at HO; exact HO.out, HB.out⟩
set_option maxHeartbeats 8000000 in
set_option maxRecDepth 100000 in
theorem refWords_any (v : Value) (ls : List It.Lin) (w : World) (h : LinsAt w v ls) (hlen : (wordsL ls).length ≤ 100000) : Calls Try.prog 13 #[v] w fun e w' => ∃ u, e = .returned u ∧ OwnP w.heap.size u (wordsL ls) w' ∧ Below w.heap.size w w' := by
  obtain ⟨a, cp, rfl, hm, hx⟩ := lins_parts h
  have HX := Lib.hid hx
  have hza : ls.length ≤ 9223372036854775807 := by unfold maxLen at hm; omega
  obtain ⟨n, hn⟩ : ∃ n, n = ls.length := ⟨_, rfl⟩
  have Hn := Lib.hid hn
  have HL := Lib.hid hlen
  rw [← hn] at hza ⊢
  clear hn hm hx h hlen
  have HO0 : Hid (OwnP w.heap.size (.slice (some ⟨w.heap.size, 0, none⟩) 0 0) (wordsL (ls.take 0)) (w.alloc (.cells #[] 42))) := Lib.hid (own_empty _ _ _ w)
  have HB0 := Lib.hid (below_alloc w (.cells #[] 42))
  go_enter Try.func13, Try.ntmps13
  go_wp2_with fail
  go_loopw [3, 4] (fun ov iv wr => ∃ k : Nat, k ≤ n ∧ iv = .int .i64 k ∧ Hid (OwnP w.heap.size ov (wordsL (ls.take k)) wr) ∧ Hid (Below w.heap.size w wr)) (fun _ iv _ => n - (intOf iv).toNat)
  case atStart => exact ⟨0, Nat.zero_le _, rfl, HO0, HB0⟩
  case round =>
    obtain ⟨k, hk, rfl, HO, HB⟩ := hrel
    clear HO0 HB0
    by_cases hlt : k < n
    · obtain ⟨x, hx⟩ : ∃ x, ls[k]? = some x := ⟨_, List.getElem?_eq_getElem (by rw [← Hn.out]; exact hlt)⟩
      obtain ⟨b1, o1, r, rfl, hr, hl⟩ := HX.out wr HB.out k x hx
      obtain ⟨y0, y1, y2, y3, y4, y5⟩ := lr_cells hr
      have k0 : (0 : Int) ≤ (k : Int) := by omega
      have kl : (k : Int) < (n : Int) := by omega
      have HN := Lib.hid (wordsL_take hx)
      have HLe := Lib.hid (wordsL_le ls (k + 1))
      rw [HN.out, List.length_append] at HLe
      have HP := Lib.hid hl.bs
      clear hx hr hl
      have HO2 := HO
      have HP2 := HP
      have HB2 := HB
      have hz2 := HB2.out.size
      go_wp2_with (at_builtin; refine wpList_append_slc Try.underlying33 infoPc rfl (by decide) pcC_len pcC_cell rfl _ _ rfl w.heap.size _ _ (wordsL (ls.take k)) x.bs rfl HO2.out rfl HP2.out (by have := HLe.out; have := HL.out; omega) (by have := HLe.out; have := HL.out; unfold maxLen; omega) hz2 ?_; intro v9 w9 h9 hg9; have HO9 := Lib.hid h9; have HB9 := Lib.hid (below_app HB2.out hg9 HO2.out hz2); clear h9 hg9)
      go_roundw
      case rel => exact ⟨k + 1, by omega, by go_num, Lib.hid (by rw [HN.out]; exact HO9.out), HB9⟩
      case measure => simp [intOf]; omega
    · have HE : Hid (ls.take k = ls) := Lib.hid (List.take_of_length_le (by rw [← Hn.out]; omega))
      go_wp2
      go_ret
      exact ⟨_, rfl, by rw [HE.out] at HO; exact HO.out, HB.out⟩
theorem boxes_yes {l : List It.Itm} {k : Nat} {x : It.Itm} (h : l[k]? = some x) (hk : x.k = 0) : It.boxes (l.take (k + 1)) = It.boxes (l.take k) ++ [x] := by
  rw [It.take_snoc h, It.boxes_app]
  unfold It.boxes
  rw [List.filter_cons_of_pos (by simp [hk])]; rfl
theorem boxes_no {l : List It.Itm} {k : Nat} {x : It.Itm} (h : l[k]? = some x) (hk : x.k ≠ 0) : It.boxes (l.take (k + 1)) = It.boxes (l.take k) := by
  rw [It.take_snoc h, It.boxes_app]
  unfold It.boxes
  rw [List.filter_cons_of_neg (by simp [hk]), List.filter_nil, List.append_nil]
theorem boxes_len (l : List It.Itm) (k : Nat) : (It.boxes (l.take k)).length ≤ k := by
  have := List.length_filter_le (fun x : It.Itm => decide (x.k = 0)) (l.take k)
  have h2 := List.length_take_le k l
  unfold It.boxes
  omega

set_option maxHeartbeats 8000000 in
set_option maxRecDepth 100000 in
theorem refBoxes_any (v : Value) (l : List It.Itm) (w : World) (h : ItsAt w v l) (hlen : l.length * 72 ≤ 140737488355328) : Calls Try.prog 14 #[v] w fun e w' => ∃ u, e = .returned u ∧ OwnX w.heap.size u (It.boxes l) w' ∧ Below w.heap.size w w' := by
  have HA := Lib.hid h
  obtain ⟨⟨a, cp, rfl, hcap⟩, hm, _⟩ := h
  have hza : l.length ≤ 9223372036854775807 := by unfold maxLen at hm; omega
  obtain ⟨n, hn⟩ : ∃ n, n = l.length := ⟨_, rfl⟩
  have Hn := Lib.hid hn
  rw [← hn] at hza hlen ⊢
  have HL := Lib.hid hlen
  clear hn hm hcap hlen
  have HO0 : Hid (OwnX w.heap.size (.slice (some ⟨w.heap.size, 0, none⟩) 0 0) (It.boxes (l.take 0)) (w.alloc (.cells #[] 40))) := Lib.hid (own_empty _ _ _ w)
  have HB0 := Lib.hid (below_alloc w (.cells #[] 40))
  go_enter Try.func14, Try.ntmps14
  go_wp2_with fail
  go_loopw [3, 4] (fun ov iv wr => ∃ k : Nat, k ≤ n ∧ iv = .int .i64 k ∧ Hid (OwnX w.heap.size ov (It.boxes (l.take k)) wr) ∧ Hid (Below w.heap.size w wr)) (fun _ iv _ => n - (intOf iv).toNat)
  case atStart => exact ⟨0, Nat.zero_le _, rfl, HO0, HB0⟩
  case round =>
    obtain ⟨k, hk, rfl, HO, HB⟩ := hrel
    clear HO0 HB0
    by_cases hlt : k < n
    · obtain ⟨b1, o1, d1, e1, r1⟩ := HA.out.2.2 (by rw [← Hn.out]; omega)
      obtain ⟨rfl, rfl⟩ : a = some ⟨b1, o1, none⟩ ∧ cp = d1 := by injection e1 with a1 a2 a3; exact ⟨a1, a3⟩
      obtain ⟨x, hx⟩ : ∃ x, l[k]? = some x := ⟨_, List.getElem?_eq_getElem (by rw [← Hn.out]; exact hlt)⟩
      obtain ⟨y0, y1, y2, y3, y4, y5, y6, y7, y8⟩ := it_cells ((r1 k x hx).mono HB.out)
      have k0 : (0 : Int) ≤ (k : Int) := by omega
      have kl : (k : Int) < (n : Int) := by omega
      have HX := Lib.hid hx
      have HLt := Lib.hid hlt
      clear r1 e1 hx
      by_cases hx0 : x.k = 0
      · have HN := Lib.hid (boxes_yes HX.out hx0)
        have HX0 := Lib.hid hx0
        rw [hx0] at y0
        clear hx0
        have HO4 := Lib.hid (HO.out.mono (below_alloc wr (.cells #[.int .i64 0, .int .i64 x.g.w, .int .i64 x.g.st, .int .i64 x.g.sk, .int .i64 x.g.o, .int .i64 x.p, .bool x.f, .int .i64 x.n, .int .i64 x.q] 40)))
        have HS4 := Lib.hid (slc_new itC_len wr wr.heap.size rfl [x] 40 (by simp) #[.int .i64 0, .int .i64 x.g.w, .int .i64 x.g.st, .int .i64 x.g.sk, .int .i64 x.g.o, .int .i64 x.p, .bool x.f, .int .i64 x.n, .int .i64 x.q] (by simp [itC, HX0.out]))
        have HB4 := Lib.hid (below_step HB.out (below_alloc wr (.cells #[.int .i64 0, .int .i64 x.g.w, .int .i64 x.g.st, .int .i64 x.g.sk, .int .i64 x.g.o, .int .i64 x.p, .bool x.f, .int .i64 x.n, .int .i64 x.q] 40)))
        have hz4 := HB4.out.size
        go_wp2_with (at_builtin; refine wpList_append_slc Try.underlying22 infoIt rfl (by decide) itC_len itC_cell rfl _ _ rfl w.heap.size _ _ (It.boxes (l.take k)) [x] rfl HO4.out rfl HS4.out (by have := boxes_len l k; have := HL.out; have := HLt.out; simp; omega) (by have := boxes_len l k; have := HL.out; have := HLt.out; unfold maxLen; simp; omega) hz4 ?_; intro v9 w9 h9 hg9; have HO9 := Lib.hid h9; have HB9 := Lib.hid (below_app HB4.out hg9 HO4.out hz4); clear h9 hg9)
        go_roundw
        case rel => exact ⟨k + 1, by omega, by go_num, Lib.hid (by rw [HN.out]; exact HO9.out), HB9⟩
        case measure => simp [intOf]; omega
      · have HN := Lib.hid (boxes_no HX.out hx0)
        have xb : (x.k == 0) = false := beq_eq_false_iff_ne.2 hx0
        go_wp2
        go_roundw
        case rel => exact ⟨k + 1, by omega, by go_num, Lib.hid (by rw [HN.out]; exact HO.out), HB⟩
        case measure => simp [intOf]; omega
    · have HE : Hid (l.take k = l) := Lib.hid (List.take_of_length_le (by rw [← Hn.out]; omega))
      go_wp2
      go_ret
      exact ⟨_, rfl, by rw [HE.out] at HO; exact HO.out, HB.out⟩
end Go.Proofs.Ythcilpijiindeaa
namespace Go.Proofs.Ythcilpijiindeaa
open Go.RowKit

theorem same_next {α : Type} {xs ys : List α} {k : Nat} {s t : α} (hs : xs[k]? = some s) (ht : ys[k]? = some t) (h : s = t) (he : xs.take k = ys.take k) : xs.take (k + 1) = ys.take (k + 1) := by
  rw [It.take_snoc hs, It.take_snoc ht, he, h]
theorem same_bad {α : Type} [DecidableEq α] {xs ys : List α} {k : Nat} {s t : α} (hs : xs[k]? = some s) (ht : ys[k]? = some t) (h : s ≠ t) : decide (xs = ys) = false := decide_eq_false fun e => by
  subst e
  rw [hs] at ht
  exact h (Option.some.inj ht)
theorem fPc12 : (Try.prog.fieldsOf 42).toList.map (fun f => (f.name, f.type, f.offset)) = [("Word", 3, 0), ("Part", 3, 1), ("X", 2, 2), ("Width", 2, 3)] := by kernel_rfl
theorem uPc12 : Try.prog.underlying 42 = some (.struct (Try.prog.fieldsOf 42)) := by kernel_rfl
theorem hPc12 : Try.prog.stoodInHeld 42 = false := by kernel_rfl
theorem eqin_pc (d : Nat) (g h : It.Plc) (w : World) : (Op.equalIn (d + 3) 42 (pcV g) (pcV h)).run Try.prog w = .ok (decide (g = h)) w := by
  obtain ⟨a, b, c, e⟩ := g
  obtain ⟨a', b', c', e'⟩ := h
  unfold pcV
  simp only []
  rw [run_equalIn_agg w (d + 2) 42 _ _ uPc12 hPc12]
  obtain ⟨f1, h1, e1⟩ := eq_step (d + 2) #[.int .i64 a, .int .i64 b, .int .i64 c, .int .i64 e] #[.int .i64 a', .int .i64 b', .int .i64 c', .int .i64 e'] _ _ _ _ _ fPc12 (by decide) w (.int .i64 a) (.int .i64 a') (a == a') (by kernel_rfl) (by kernel_rfl) (run_equalIn_int w (d + 1) _ .i64 .i64 a a' Try.underlying3)
  obtain ⟨f2, h2, e2⟩ := eq_step (d + 2) #[.int .i64 a, .int .i64 b, .int .i64 c, .int .i64 e] #[.int .i64 a', .int .i64 b', .int .i64 c', .int .i64 e'] _ _ _ _ _ h1 (by decide) w (.int .i64 b) (.int .i64 b') (b == b') (by kernel_rfl) (by kernel_rfl) (run_equalIn_int w (d + 1) _ .i64 .i64 b b' Try.underlying3)
  obtain ⟨f3, h3, e3⟩ := eq_step (d + 2) #[.int .i64 a, .int .i64 b, .int .i64 c, .int .i64 e] #[.int .i64 a', .int .i64 b', .int .i64 c', .int .i64 e'] _ _ _ _ _ h2 (by decide) w (.int .i64 c) (.int .i64 c') (c == c') (by kernel_rfl) (by kernel_rfl) (run_equalIn_int w (d + 1) _ .i64 .i64 c c' Try.underlying2)
  obtain ⟨f4, h4, e4⟩ := eq_step (d + 2) #[.int .i64 a, .int .i64 b, .int .i64 c, .int .i64 e] #[.int .i64 a', .int .i64 b', .int .i64 c', .int .i64 e'] _ _ _ _ _ h3 (by decide) w (.int .i64 e) (.int .i64 e') (e == e') (by kernel_rfl) (by kernel_rfl) (run_equalIn_int w (d + 1) _ .i64 .i64 e e' Try.underlying2)
  rw [e1, e2, e3, e4, eq_done _ _ _ _ h4]
  by_cases q1 : a = a'
  · by_cases q2 : b = b'
    · by_cases q3 : c = c'
      · by_cases q4 : e = e' <;> simp [q1, q2, q3, q4]
      · simp [q1, q2, q3]
    · simp [q1, q2]
  · simp [q1]
theorem neq_pc (g h : It.Plc) (w : World) : (binOp .neq 42 (pcV g) (pcV h)).run Try.prog w = .ok (.bool (!decide (g = h))) w := by
  have e := eqin_pc 9997 g h w
  unfold pcV at e ⊢
  rw [run_neq_struct, e]
  rfl
set_option maxHeartbeats 8000000 in
set_option maxRecDepth 100000 in
theorem placed_any (v u : Value) (l m : List It.Plc) (w : World) (h : PcsAt w v l) (g : PcsAt w u m) : Calls Try.prog 11 #[v, u] w (Ret (.bool (decide (l = m))) w) := by
  have HA := Lib.hid h
  have HD := Lib.hid g
  obtain ⟨⟨a, cp, rfl, hcap⟩, hm, _⟩ := h
  obtain ⟨⟨d, dp, rfl, hdap⟩, hmd, _⟩ := g
  have hza : l.length ≤ 9223372036854775807 := by unfold maxLen at hm; omega
  have hzd : m.length ≤ 9223372036854775807 := by unfold maxLen at hmd; omega
  obtain ⟨n, hn⟩ : ∃ n, n = l.length := ⟨_, rfl⟩
  have Hn := Lib.hid hn
  obtain ⟨n2, hn2⟩ : ∃ n, n = m.length := ⟨_, rfl⟩
  have Hn2 := Lib.hid hn2
  obtain ⟨q, hq⟩ : ∃ q, q = decide (l = m) := ⟨_, rfl⟩
  have HQ := Lib.hid hq
  rw [← hn] at hza ⊢
  rw [← hn2] at hzd ⊢
  rw [← hq]
  clear hn hn2 hm hcap hmd hdap hq
  by_cases hne : n = n2
  · subst hne
    go_enter Try.func11, Try.ntmps11
    go_wp2_with fail
    go_loopw [5] (fun iv wr => ∃ k : Nat, k ≤ n ∧ iv = .int .i64 k ∧ Hid (Below w.heap.size w wr) ∧ Hid (l.take k = m.take k)) (fun iv _ => n - (intOf iv).toNat)
    case atStart => exact ⟨0, Nat.zero_le _, rfl, Lib.hid (Below.refl _ _), Lib.hid rfl⟩
    case round =>
      obtain ⟨k, hk, rfl, HB, HS⟩ := hrel
      by_cases hlt : k < n
      · obtain ⟨b1, o1, d1, e1, r1⟩ := HA.out.2.2 (by rw [← Hn.out]; omega)
        obtain ⟨rfl, rfl⟩ : a = some ⟨b1, o1, none⟩ ∧ cp = d1 := by injection e1 with a1 a2 a3; exact ⟨a1, a3⟩
        obtain ⟨b2, o2, d2, e2, r2⟩ := HD.out.2.2 (by rw [← Hn2.out]; omega)
        obtain ⟨rfl, rfl⟩ : d = some ⟨b2, o2, none⟩ ∧ dp = d2 := by injection e2 with a1 a2 a3; exact ⟨a1, a3⟩
        obtain ⟨x, hx⟩ : ∃ x, l[k]? = some x := ⟨_, List.getElem?_eq_getElem (by rw [← Hn.out]; exact hlt)⟩
        obtain ⟨y, hy⟩ : ∃ y, m[k]? = some y := ⟨_, List.getElem?_eq_getElem (by rw [← Hn2.out]; exact hlt)⟩
        obtain ⟨x0, x1, x2, x3⟩ := pc_cells ((r1 k x hx).mono HB.out)
        obtain ⟨y0, y1, y2, y3⟩ := pc_cells ((r2 k y hy).mono HB.out)
        have k0 : (0 : Int) ≤ (k : Int) := by omega
        have kl : (k : Int) < (n : Int) := by omega
        have HX := Lib.hid hx
        have HY := Lib.hid hy
        have hE := fun w => neq_pc x y w
        unfold pcV at hE
        clear r1 e1 hx r2 e2 hy
        by_cases he : x = y
        · have HN := Lib.hid (same_next HX.out HY.out he HS.out)
          rw [decide_eq_true he] at hE
          clear he
          go_wp2_with fail
          go_quiet (fail)
          go_wp2
          go_roundw
          case rel => exact ⟨k + 1, by omega, by go_num, Lib.hid (below_step HB.out (below_drew _ _)), HN⟩
          case measure => simp [intOf]; omega
        · have HN := Lib.hid (HQ.out.trans (same_bad HX.out HY.out he))
          rw [decide_eq_false he] at hE
          clear he
          go_wp2_with fail
          go_quiet (fail)
          go_wp2
          go_ret
          rw [HN.out]
          exact ⟨rfl, below_step HB.out (below_drew _ _)⟩
      · have HE : Hid (q = true) := Lib.hid (HQ.out.trans (decide_eq_true (by
          have h1 : l.take k = l := List.take_of_length_le (by rw [← Hn.out]; omega)
          have h2 : m.take k = m := List.take_of_length_le (by rw [← Hn2.out]; omega)
          have h3 := HS.out
          rw [h1, h2] at h3
          exact h3)))
        go_wp2
        go_ret
        rw [HE.out]
        exact ⟨rfl, HB.out⟩
  · have HE : Hid (q = false) := Lib.hid (HQ.out.trans (decide_eq_false fun e => hne (by rw [Hn.out, Hn2.out, e])))
    have h1 : ((n : Int) == (n2 : Int)) = false := beq_eq_false_iff_ne.2 (by omega)
    have h2 : ((n : Int) != (n2 : Int)) = true := bne_iff_ne.2 (by omega)
    clear hne
    go_enter Try.func11, Try.ntmps11
    go_wp2
    go_ret
    rw [HE.out]
    exact ⟨rfl, Below.refl _ _⟩
end Go.Proofs.Ythcilpijiindeaa
namespace Go.Proofs.Ythcilpijiindeaa
open Go.RowKit

theorem lin_ext {a b : It.Lin} (h1 : a.fr = b.fr) (h2 : a.en = b.en) (h3 : a.hy = b.hy) (h4 : a.x = b.x) (h5 : a.bad = b.bad) (h6 : a.bs = b.bs) : a = b := by
  obtain ⟨a1, a2, a3, a4, a5, a6⟩ := a
  obtain ⟨b1, b2, b3, b4, b5, b6⟩ := b
  simp only [] at h1 h2 h3 h4 h5 h6
  subst h1 h2 h3 h4 h5 h6
  rfl
set_option maxHeartbeats 16000000 in
set_option maxRecDepth 100000 in
theorem sameL_any (v u : Value) (l m : List It.Lin) (w : World) (h : LinsAt w v l) (g : LinsAt w u m) : Calls Try.prog 10 #[v, u] w (Ret (.bool (decide (l = m))) w) := by
  obtain ⟨a, cp, rfl, hm, hx⟩ := lins_parts h
  obtain ⟨d, dp, rfl, hmd, hy⟩ := lins_parts g
  have HA := Lib.hid hx
  have HD := Lib.hid hy
  have hza : l.length ≤ 9223372036854775807 := by unfold maxLen at hm; omega
  have hzd : m.length ≤ 9223372036854775807 := by unfold maxLen at hmd; omega
  obtain ⟨n, hn⟩ : ∃ n, n = l.length := ⟨_, rfl⟩
  have Hn := Lib.hid hn
  obtain ⟨n2, hn2⟩ : ∃ n, n = m.length := ⟨_, rfl⟩
  have Hn2 := Lib.hid hn2
  obtain ⟨q, hq⟩ : ∃ q, q = decide (l = m) := ⟨_, rfl⟩
  have HQ := Lib.hid hq
  rw [← hn] at hza ⊢
  rw [← hn2] at hzd ⊢
  rw [← hq]
  clear hn hn2 hm hmd hq hx hy h g
  by_cases hne : n = n2
  · subst hne
    go_enter Try.func10, Try.ntmps10
    go_wp2_with fail
    go_loopw [5] (fun iv wr => ∃ k : Nat, k ≤ n ∧ iv = .int .i64 k ∧ Hid (Below w.heap.size w wr) ∧ Hid (l.take k = m.take k)) (fun iv _ => n - (intOf iv).toNat)
    case atStart => exact ⟨0, Nat.zero_le _, rfl, Lib.hid (Below.refl _ _), Lib.hid rfl⟩
    case round =>
      obtain ⟨k, hk, rfl, HB, HS⟩ := hrel
      by_cases hlt : k < n
      · obtain ⟨x, hx⟩ : ∃ x, l[k]? = some x := ⟨_, List.getElem?_eq_getElem (by rw [← Hn.out]; exact hlt)⟩
        obtain ⟨y, hy⟩ : ∃ y, m[k]? = some y := ⟨_, List.getElem?_eq_getElem (by rw [← Hn2.out]; exact hlt)⟩
        obtain ⟨b1, o1, r, rfl, hr, hlr⟩ := HA.out wr HB.out k x hx
        obtain ⟨b2, o2, s, rfl, hs, hls⟩ := HD.out wr HB.out k y hy
        obtain ⟨x0, x1, x2, x3, x4, x5⟩ := lr_cells hr
        obtain ⟨y0, y1, y2, y3, y4, y5⟩ := lr_cells hs
        have k0 : (0 : Int) ≤ (k : Int) := by omega
        have kl : (k : Int) < (n : Int) := by omega
        have HX := Lib.hid hx
        have HY := Lib.hid hy
        have HLr := Lib.hid hlr
        have HLs := Lib.hid hls
        clear hx hy hlr hls
        have n1 := World.new_ne wr _ x0
        have n2 := World.new_ne wr _ y0
        simp only [] at n1 n2
        have m1 : wr.heap.size + 1 ≠ b1 := by have := block_lt_of_cell x0; simp only [] at this; omega
        have m2 : wr.heap.size + 1 ≠ b2 := by have := block_lt_of_cell y0; simp only [] at this; omega
        go_wp2_with fail
        go_region_held3 (fun w' => w'.cell? ⟨b1, o1 + k * 6, none⟩ = some (.int .i64 r.fr) ∧ w'.cell? ⟨b1, o1 + k * 6 + 1, none⟩ = some (.int .i64 r.en) ∧ w'.cell? ⟨b1, o1 + k * 6 + 2, none⟩ = some (.slice r.a r.n r.c) ∧ w'.cell? ⟨b1, o1 + k * 6 + 3, none⟩ = some (.bool r.hy) ∧ w'.cell? ⟨b1, o1 + k * 6 + 4, none⟩ = some (.int .i64 r.x) ∧ w'.cell? ⟨b1, o1 + k * 6 + 5, none⟩ = some (.int .i64 r.bad) ∧ w'.cell? ⟨b2, o2 + k * 6, none⟩ = some (.int .i64 s.fr) ∧ w'.cell? ⟨b2, o2 + k * 6 + 1, none⟩ = some (.int .i64 s.en) ∧ w'.cell? ⟨b2, o2 + k * 6 + 2, none⟩ = some (.slice s.a s.n s.c) ∧ w'.cell? ⟨b2, o2 + k * 6 + 3, none⟩ = some (.bool s.hy) ∧ w'.cell? ⟨b2, o2 + k * 6 + 4, none⟩ = some (.int .i64 s.x) ∧ w'.cell? ⟨b2, o2 + k * 6 + 5, none⟩ = some (.int .i64 s.bad)) (go_keep) (fail)
        · obtain ⟨WF, hWF⟩ : ∃ WF, WF = ((wr.alloc (.cells #[.int .i64 r.fr, .int .i64 r.en, .slice r.a r.n r.c, .bool r.hy, .int .i64 r.x, .int .i64 r.bad] 44)).alloc (.cells #[.int .i64 s.fr, .int .i64 s.en, .slice s.a s.n s.c, .bool s.hy, .int .i64 s.x, .int .i64 s.bad] 44)).drew := ⟨_, rfl⟩
          have HBF : Hid (Below wr.heap.size wr WF) := Lib.hid (by rw [hWF]; exact below_step (below_step (below_alloc _ _) (below_alloc _ _)) (below_drew10w _))
          have H6 : WF.heap[wr.heap.size]? = some (.cells #[.int .i64 r.fr, .int .i64 r.en, .slice r.a r.n r.c, .bool r.hy, .int .i64 r.x, .int .i64 r.bad] 44 (0, 0)) := by rw [hWF]; exact obj_kept (below_drew10w _) (obj_kept (below_alloc _ _) (obj_new wr _ rfl _ _))
          have H7 : WF.heap[wr.heap.size + 1]? = some (.cells #[.int .i64 s.fr, .int .i64 s.en, .slice s.a s.n s.c, .bool s.hy, .int .i64 s.x, .int .i64 s.bad] 44 (0, 0)) := by rw [hWF]; exact obj_kept (below_drew10w _) (obj_new (wr.alloc _) _ (World.size_alloc _ _) _ _)
          rw [← hWF]
          clear hWF x0 x1 x2 x3 x4 x5 y0 y1 y2 y3 y4 y5 n1 n2 m1 m2
          obtain ⟨P7, hP7⟩ : ∃ P, P = wr.heap.size + 1 := ⟨_, rfl⟩
          rw [← hP7] at H7 ⊢
          clear hP7
          obtain ⟨P6, hP6⟩ : ∃ P, P = wr.heap.size := ⟨_, rfl⟩
          rw [← hP6] at H6 ⊢
          clear hP6
          have c60 : WF.cell? ⟨P6, 0, none⟩ = some (.int .i64 r.fr) := Lib.cell_of_heap H6 0
          have c61 : WF.cell? ⟨P6, 1, none⟩ = some (.int .i64 r.en) := Lib.cell_of_heap H6 1
          have c62 : WF.cell? ⟨P6, 2, none⟩ = some (.slice r.a r.n r.c) := Lib.cell_of_heap H6 2
          have c63 : WF.cell? ⟨P6, 3, none⟩ = some (.bool r.hy) := Lib.cell_of_heap H6 3
          have c64 : WF.cell? ⟨P6, 4, none⟩ = some (.int .i64 r.x) := Lib.cell_of_heap H6 4
          have c65 : WF.cell? ⟨P6, 5, none⟩ = some (.int .i64 r.bad) := Lib.cell_of_heap H6 5
          have c70 : WF.cell? ⟨P7, 0, none⟩ = some (.int .i64 s.fr) := Lib.cell_of_heap H7 0
          have c71 : WF.cell? ⟨P7, 1, none⟩ = some (.int .i64 s.en) := Lib.cell_of_heap H7 1
          have c72 : WF.cell? ⟨P7, 2, none⟩ = some (.slice s.a s.n s.c) := Lib.cell_of_heap H7 2
          have c73 : WF.cell? ⟨P7, 3, none⟩ = some (.bool s.hy) := Lib.cell_of_heap H7 3
          have c74 : WF.cell? ⟨P7, 4, none⟩ = some (.int .i64 s.x) := Lib.cell_of_heap H7 4
          have c75 : WF.cell? ⟨P7, 5, none⟩ = some (.int .i64 s.bad) := Lib.cell_of_heap H7 5
          clear H6 H7
          by_cases e1 : r.fr = s.fr
          · by_cases e2 : r.en = s.en
            · by_cases e3 : r.hy = s.hy
              · by_cases e4 : r.x = s.x
                · by_cases e5 : r.bad = s.bad
                  · go_wp2_with fail
                    refine ((placed_any _ _ x.bs y.bs WF (SlcAt.mono HLr.out.bs HBF.out) (SlcAt.mono HLs.out.bs HBF.out))).mono ?_
                    rintro e w5 ⟨rfl, hb5⟩
                    have HB5 := Lib.hid (below_step HB.out (below_step HBF.out hb5))
                    clear hb5
                    by_cases e6 : x.bs = y.bs
                    · have hE : x = y := lin_ext (by rw [← HLr.out.fr, ← HLs.out.fr, e1]) (by rw [← HLr.out.en, ← HLs.out.en, e2]) (by rw [← HLr.out.hy, ← HLs.out.hy, e3]) (by rw [← HLr.out.x, ← HLs.out.x, e4]) (by rw [← HLr.out.bad, ← HLs.out.bad, e5]) e6
                      have HN := Lib.hid (same_next HX.out HY.out hE HS.out)
                      rw [decide_eq_true e6]
                      clear e1 e2 e3 e4 e5 e6 hE c60 c61 c62 c63 c64 c65 c70 c71 c72 c73 c74 c75
                      go_wp2
                      go_roundw
                      case rel => exact ⟨k + 1, by omega, by go_num, HB5, HN⟩
                      case measure => simp [intOf]; omega
                    · have hN : x ≠ y := fun e => e6 (by rw [e])
                      have HN := Lib.hid (HQ.out.trans (same_bad HX.out HY.out hN))
                      rw [decide_eq_false e6]
                      clear hN e1 e2 e3 e4 e5 e6
                      go_wp2
                      go_ret
                      rw [HN.out]
                      exact ⟨rfl, HB5.out⟩
                  · have hN : x ≠ y := fun e => e5 (by rw [HLr.out.bad, HLs.out.bad, e])
                    have HN := Lib.hid (HQ.out.trans (same_bad HX.out HY.out hN))
                    clear hN
                    go_wp2
                    go_ret
                    rw [HN.out]
                    exact ⟨rfl, below_step HB.out HBF.out⟩
                · have hN : x ≠ y := fun e => e4 (by rw [HLr.out.x, HLs.out.x, e])
                  have HN := Lib.hid (HQ.out.trans (same_bad HX.out HY.out hN))
                  clear hN
                  go_wp2
                  go_ret
                  rw [HN.out]
                  exact ⟨rfl, below_step HB.out HBF.out⟩
              · have hN : x ≠ y := fun e => e3 (by rw [HLr.out.hy, HLs.out.hy, e])
                have HN := Lib.hid (HQ.out.trans (same_bad HX.out HY.out hN))
                clear hN
                go_wp2
                go_ret
                rw [HN.out]
                exact ⟨rfl, below_step HB.out HBF.out⟩
            · have hN : x ≠ y := fun e => e2 (by rw [HLr.out.en, HLs.out.en, e])
              have HN := Lib.hid (HQ.out.trans (same_bad HX.out HY.out hN))
              clear hN
              go_wp2
              go_ret
              rw [HN.out]
              exact ⟨rfl, below_step HB.out HBF.out⟩
          · have hN : x ≠ y := fun e => e1 (by rw [HLr.out.fr, HLs.out.fr, e])
            have HN := Lib.hid (HQ.out.trans (same_bad HX.out HY.out hN))
            clear hN
            go_wp2
            go_ret
            rw [HN.out]
            exact ⟨rfl, below_step HB.out HBF.out⟩
        · obtain ⟨WF, hWF⟩ : ∃ WF, WF = ((wr.alloc (.cells #[.int .i64 s.fr, .int .i64 s.en, .slice s.a s.n s.c, .bool s.hy, .int .i64 s.x, .int .i64 s.bad] 44)).alloc (.cells #[.int .i64 r.fr, .int .i64 r.en, .slice r.a r.n r.c, .bool r.hy, .int .i64 r.x, .int .i64 r.bad] 44)).drew := ⟨_, rfl⟩
          have HBF : Hid (Below wr.heap.size wr WF) := Lib.hid (by rw [hWF]; exact below_step (below_step (below_alloc _ _) (below_alloc _ _)) (below_drew10w _))
          have H6 : WF.heap[wr.heap.size + 1]? = some (.cells #[.int .i64 r.fr, .int .i64 r.en, .slice r.a r.n r.c, .bool r.hy, .int .i64 r.x, .int .i64 r.bad] 44 (0, 0)) := by rw [hWF]; exact obj_kept (below_drew10w _) (obj_new (wr.alloc _) _ (World.size_alloc _ _) _ _)
          have H7 : WF.heap[wr.heap.size]? = some (.cells #[.int .i64 s.fr, .int .i64 s.en, .slice s.a s.n s.c, .bool s.hy, .int .i64 s.x, .int .i64 s.bad] 44 (0, 0)) := by rw [hWF]; exact obj_kept (below_drew10w _) (obj_kept (below_alloc _ _) (obj_new wr _ rfl _ _))
          rw [← hWF]
          clear hWF x0 x1 x2 x3 x4 x5 y0 y1 y2 y3 y4 y5 n1 n2 m1 m2
          obtain ⟨P6, hP6⟩ : ∃ P, P = wr.heap.size + 1 := ⟨_, rfl⟩
          rw [← hP6] at H6 ⊢
          clear hP6
          obtain ⟨P7, hP7⟩ : ∃ P, P = wr.heap.size := ⟨_, rfl⟩
          rw [← hP7] at H7 ⊢
          clear hP7
          have c60 : WF.cell? ⟨P6, 0, none⟩ = some (.int .i64 r.fr) := Lib.cell_of_heap H6 0
          have c61 : WF.cell? ⟨P6, 1, none⟩ = some (.int .i64 r.en) := Lib.cell_of_heap H6 1
          have c62 : WF.cell? ⟨P6, 2, none⟩ = some (.slice r.a r.n r.c) := Lib.cell_of_heap H6 2
          have c63 : WF.cell? ⟨P6, 3, none⟩ = some (.bool r.hy) := Lib.cell_of_heap H6 3
          have c64 : WF.cell? ⟨P6, 4, none⟩ = some (.int .i64 r.x) := Lib.cell_of_heap H6 4
          have c65 : WF.cell? ⟨P6, 5, none⟩ = some (.int .i64 r.bad) := Lib.cell_of_heap H6 5
          have c70 : WF.cell? ⟨P7, 0, none⟩ = some (.int .i64 s.fr) := Lib.cell_of_heap H7 0
          have c71 : WF.cell? ⟨P7, 1, none⟩ = some (.int .i64 s.en) := Lib.cell_of_heap H7 1
          have c72 : WF.cell? ⟨P7, 2, none⟩ = some (.slice s.a s.n s.c) := Lib.cell_of_heap H7 2
          have c73 : WF.cell? ⟨P7, 3, none⟩ = some (.bool s.hy) := Lib.cell_of_heap H7 3
          have c74 : WF.cell? ⟨P7, 4, none⟩ = some (.int .i64 s.x) := Lib.cell_of_heap H7 4
          have c75 : WF.cell? ⟨P7, 5, none⟩ = some (.int .i64 s.bad) := Lib.cell_of_heap H7 5
          clear H6 H7
          by_cases e1 : r.fr = s.fr
          · by_cases e2 : r.en = s.en
            · by_cases e3 : r.hy = s.hy
              · by_cases e4 : r.x = s.x
                · by_cases e5 : r.bad = s.bad
                  · go_wp2_with fail
                    refine ((placed_any _ _ x.bs y.bs WF (SlcAt.mono HLr.out.bs HBF.out) (SlcAt.mono HLs.out.bs HBF.out))).mono ?_
                    rintro e w5 ⟨rfl, hb5⟩
                    have HB5 := Lib.hid (below_step HB.out (below_step HBF.out hb5))
                    clear hb5
                    by_cases e6 : x.bs = y.bs
                    · have hE : x = y := lin_ext (by rw [← HLr.out.fr, ← HLs.out.fr, e1]) (by rw [← HLr.out.en, ← HLs.out.en, e2]) (by rw [← HLr.out.hy, ← HLs.out.hy, e3]) (by rw [← HLr.out.x, ← HLs.out.x, e4]) (by rw [← HLr.out.bad, ← HLs.out.bad, e5]) e6
                      have HN := Lib.hid (same_next HX.out HY.out hE HS.out)
                      rw [decide_eq_true e6]
                      clear e1 e2 e3 e4 e5 e6 hE c60 c61 c62 c63 c64 c65 c70 c71 c72 c73 c74 c75
                      go_wp2
                      go_roundw
                      case rel => exact ⟨k + 1, by omega, by go_num, HB5, HN⟩
                      case measure => simp [intOf]; omega
                    · have hN : x ≠ y := fun e => e6 (by rw [e])
                      have HN := Lib.hid (HQ.out.trans (same_bad HX.out HY.out hN))
                      rw [decide_eq_false e6]
                      clear hN e1 e2 e3 e4 e5 e6
                      go_wp2
                      go_ret
                      rw [HN.out]
                      exact ⟨rfl, HB5.out⟩
                  · have hN : x ≠ y := fun e => e5 (by rw [HLr.out.bad, HLs.out.bad, e])
                    have HN := Lib.hid (HQ.out.trans (same_bad HX.out HY.out hN))
                    clear hN
                    go_wp2
                    go_ret
                    rw [HN.out]
                    exact ⟨rfl, below_step HB.out HBF.out⟩
                · have hN : x ≠ y := fun e => e4 (by rw [HLr.out.x, HLs.out.x, e])
                  have HN := Lib.hid (HQ.out.trans (same_bad HX.out HY.out hN))
                  clear hN
                  go_wp2
                  go_ret
                  rw [HN.out]
                  exact ⟨rfl, below_step HB.out HBF.out⟩
              · have hN : x ≠ y := fun e => e3 (by rw [HLr.out.hy, HLs.out.hy, e])
                have HN := Lib.hid (HQ.out.trans (same_bad HX.out HY.out hN))
                clear hN
                go_wp2
                go_ret
                rw [HN.out]
                exact ⟨rfl, below_step HB.out HBF.out⟩
            · have hN : x ≠ y := fun e => e2 (by rw [HLr.out.en, HLs.out.en, e])
              have HN := Lib.hid (HQ.out.trans (same_bad HX.out HY.out hN))
              clear hN
              go_wp2
              go_ret
              rw [HN.out]
              exact ⟨rfl, below_step HB.out HBF.out⟩
          · have hN : x ≠ y := fun e => e1 (by rw [HLr.out.fr, HLs.out.fr, e])
            have HN := Lib.hid (HQ.out.trans (same_bad HX.out HY.out hN))
            clear hN
            go_wp2
            go_ret
            rw [HN.out]
            exact ⟨rfl, below_step HB.out HBF.out⟩
      · have HE : Hid (q = true) := Lib.hid (HQ.out.trans (decide_eq_true (by
          have h1 : l.take k = l := List.take_of_length_le (by rw [← Hn.out]; omega)
          have h2 : m.take k = m := List.take_of_length_le (by rw [← Hn2.out]; omega)
          have h3 := HS.out
          rw [h1, h2] at h3
          exact h3)))
        go_wp2
        go_ret
        rw [HE.out]
        exact ⟨rfl, HB.out⟩
  · have HE : Hid (q = false) := Lib.hid (HQ.out.trans (decide_eq_false fun e => hne (by rw [Hn.out, Hn2.out, e])))
    have h1 : ((n : Int) == (n2 : Int)) = false := beq_eq_false_iff_ne.2 (by omega)
    have h2 : ((n : Int) != (n2 : Int)) = true := bne_iff_ne.2 (by omega)
    clear hne
    go_enter Try.func10, Try.ntmps10
    go_wp2
    go_ret
    rw [HE.out]
    exact ⟨rfl, Below.refl _ _⟩
end Go.Proofs.Ythcilpijiindeaa
namespace Go.Proofs.Ythcilpijiindeaa
open Go.RowKit

/-! ### faults held against one another -/
theorem fFl12 : (Try.prog.fieldsOf 28).toList.map (fun f => (f.name, f.type, f.offset)) = [("Code", 26, 0), ("At", 3, 1)] := by kernel_rfl
theorem uFl12 : Try.prog.underlying 28 = some (.struct (Try.prog.fieldsOf 28)) := by kernel_rfl
theorem hFl12 : Try.prog.stoodInHeld 28 = false := by kernel_rfl
theorem eqin_fl (d : Nat) (a b a' b' : Int) (w : World) : (Op.equalIn (d + 3) 28 (.agg #[.int .i64 a, .int .i64 b]) (.agg #[.int .i64 a', .int .i64 b'])).run Try.prog w = .ok (decide (a = a' ∧ b = b')) w := by
  rw [run_equalIn_agg w (d + 2) 28 _ _ uFl12 hFl12]
  obtain ⟨f1, h1, e1⟩ := eq_step (d + 2) #[.int .i64 a, .int .i64 b] #[.int .i64 a', .int .i64 b'] _ _ _ _ _ fFl12 (by decide) w (.int .i64 a) (.int .i64 a') (a == a') (by kernel_rfl) (by kernel_rfl) (run_equalIn_int w (d + 1) _ .i64 .i64 a a' Try.underlying26)
  obtain ⟨f2, h2, e2⟩ := eq_step (d + 2) #[.int .i64 a, .int .i64 b] #[.int .i64 a', .int .i64 b'] _ _ _ _ _ h1 (by decide) w (.int .i64 b) (.int .i64 b') (b == b') (by kernel_rfl) (by kernel_rfl) (run_equalIn_int w (d + 1) _ .i64 .i64 b b' Try.underlying3)
  rw [e1, e2, eq_done _ _ _ _ h2]
  by_cases q1 : a = a'
  · by_cases q2 : b = b' <;> simp [q1, q2]
  · simp [q1]
theorem eq_fl (a b a' b' : Int) (w : World) : (binOp .eql 28 (.agg #[.int .i64 a, .int .i64 b]) (.agg #[.int .i64 a', .int .i64 b'])).run Try.prog w = .ok (.bool (decide (a = a' ∧ b = b'))) w := by
  have e := eqin_fl 9997 a b a' b' w
  rw [run_eql_struct, e]
  rfl

/-! ### two words -/
def twoL : List It.Itm := [⟨0, ⟨10, 0, 0, 0⟩, 0, false, 0, 0⟩, ⟨1, ⟨2, 1, 0, 0⟩, 0, false, 0, 0⟩, ⟨0, ⟨10, 0, 0, 0⟩, 0, false, 0, 0⟩, ⟨2, ⟨0, 0, 0, 0⟩, -10000, false, 0, 0⟩]
def twoP : List It.Plc := [⟨0, 0, 0, 10⟩, ⟨0, 0, 15, 10⟩]
def lin1 : It.Lin := ⟨0, 3, twoP, false, 25, 2698⟩
set_option maxHeartbeats 4000000 in
set_option maxRecDepth 100000 in
theorem two_any (w : World) : Calls Try.prog 17 #[] w fun e w' => ∃ u, e = .returned u ∧ ItsAt w' u twoL ∧ Below w.heap.size w w' := by
  obtain ⟨WA, hWA⟩ : ∃ WA, WA = w.alloc (.cells #[.int .i64 0, .int .i64 10, .int .i64 0, .int .i64 0, .int .i64 0, .int .i64 0, .bool false, .int .i64 0, .int .i64 0] 40) := ⟨_, rfl⟩
  have h0 : WA.heap[w.heap.size]? = some (.cells #[.int .i64 0, .int .i64 10, .int .i64 0, .int .i64 0, .int .i64 0, .int .i64 0, .bool false, .int .i64 0, .int .i64 0] 40 (0, 0)) := by rw [hWA]; exact obj_new w _ rfl _ _
  have HBA : Hid (Below w.heap.size w WA) := Lib.hid (by rw [hWA]; exact below_alloc _ _)
  have c0 : WA.cell? ⟨w.heap.size, 0, none⟩ = some (.int .i64 0) := Lib.cell_of_heap h0 0
  have c1 : WA.cell? ⟨w.heap.size, 1, none⟩ = some (.int .i64 10) := Lib.cell_of_heap h0 1
  have c2 : WA.cell? ⟨w.heap.size, 2, none⟩ = some (.int .i64 0) := Lib.cell_of_heap h0 2
  have c3 : WA.cell? ⟨w.heap.size, 3, none⟩ = some (.int .i64 0) := Lib.cell_of_heap h0 3
  have c4 : WA.cell? ⟨w.heap.size, 4, none⟩ = some (.int .i64 0) := Lib.cell_of_heap h0 4
  have c5 : WA.cell? ⟨w.heap.size, 5, none⟩ = some (.int .i64 0) := Lib.cell_of_heap h0 5
  have c6 : WA.cell? ⟨w.heap.size, 6, none⟩ = some (.bool false) := Lib.cell_of_heap h0 6
  have c7 : WA.cell? ⟨w.heap.size, 7, none⟩ = some (.int .i64 0) := Lib.cell_of_heap h0 7
  have c8 : WA.cell? ⟨w.heap.size, 8, none⟩ = some (.int .i64 0) := Lib.cell_of_heap h0 8
  clear h0
  go_enter Try.func17, Try.ntmps17
  go_upto_region 2 with fail
  rw [← hWA]
  clear hWA
  go_wp2
  go_ret
  exact ⟨_, rfl, slc_new itC_len WA _ rfl twoL 40 (by simp [twoL]) _ rfl, below_step HBA.out (below_alloc _ _)⟩
theorem fx12a : It.setR twoL [3] 25 = ([lin1], 0, 0) := by decide +kernel
theorem fx12b : It.setR twoL [] 25 = ([], 120, 0) := by decide +kernel
theorem fx12c : It.setR twoL [1, 1] 25 = ([], 120, 1) := by decide +kernel
set_option maxHeartbeats 8000000 in
set_option maxRecDepth 100000 in
theorem fixed12 (w : World) : Calls Try.prog 7 #[] w (Ret (.bool true) w) := by
  have HT := Lib.hid (fun w => two_any w)
  have HA : Hid (∀ v u w, ItsAt w v twoL → NumsAt w u [3] → Calls Try.prog 8 #[v, u, .int .i64 25] w (fun e w' => ∃ x, e = .returned (.tuple #[x, .agg #[.int .i64 0, .int .i64 0]]) ∧ LinsAt w' x [lin1] ∧ Below w.heap.size w w')) := Lib.hid (fun v u w h hn => by
    have := lines_any v u twoL [3] 25 w h hn (by simp)
    rw [fx12a] at this
    exact this)
  have HB : Hid (∀ v w, ItsAt w v twoL → Calls Try.prog 8 #[v, .slice none 0 0, .int .i64 25] w (fun e w' => ∃ x, e = .returned (.tuple #[x, .agg #[.int .i64 120, .int .i64 0]]) ∧ LinsAt w' x [] ∧ Below w.heap.size w w')) := Lib.hid (fun v w h => by
    have := lines_any v (.slice none 0 0) twoL [] 25 w h (slc_none _ _ _) (by simp)
    rw [fx12b] at this
    exact this)
  have HC : Hid (∀ v u w, ItsAt w v twoL → NumsAt w u [1, 1] → Calls Try.prog 8 #[v, u, .int .i64 25] w (fun e w' => ∃ x, e = .returned (.tuple #[x, .agg #[.int .i64 120, .int .i64 1]]) ∧ LinsAt w' x [] ∧ Below w.heap.size w w')) := Lib.hid (fun v u w h hn => by
    have := lines_any v u twoL [1, 1] 25 w h hn (by simp)
    rw [fx12c] at this
    exact this)
  have HP : Hid (∀ u v w, PcsAt w u twoP → PcsAt w v twoP → Calls Try.prog 11 #[u, v] w (Ret (.bool true) w)) := Lib.hid (fun u v w hu hv => by
    have := placed_any u v twoP twoP w hu hv
    rw [decide_eq_true rfl] at this
    exact this)
  have HW : Hid (∀ v w, LinsAt w v [lin1] → Calls Try.prog 12 #[v] w (fun e w' => ∃ a c, e = .returned (.slice a 2 c) ∧ Below w.heap.size w w')) := Lib.hid (fun v w h => by
    refine (words_any v [lin1] w h (by simp [wordsL, lin1, twoP])).mono ?_
    rintro e w' ⟨u, rfl, hu, hb⟩
    obtain ⟨⟨a, c, e, _⟩, _⟩ := OwnR.at hu pcC_len
    exact ⟨a, c, by rw [e]; rfl, hb⟩)
  have B0 := Lib.hid (Below.refl w.heap.size w)
  have hE1 := fun w => eq_fl 120 0 120 0 w
  have hE2 := fun w => eq_fl 120 1 120 1 w
  simp only [and_self, decide_true] at hE1 hE2
  go_enter Try.func7, Try.ntmps7
  go_wp2_with fail
  refine (HT.out _).mono ?_
  rintro e wa1 ⟨ua1, rfl, ia1, ba1⟩
  have hb1 := below_alloc wa1 (.cells #[.int .i64 3] 3)
  have IA1 := Lib.hid (SlcAt.mono ia1 hb1)
  have N1 := Lib.hid (slc_new inC_len wa1 _ rfl [3] 3 (by simp) #[.int .i64 3] rfl)
  have BA1 := Lib.hid (below_step B0.out (below_step ba1 hb1))
  clear ia1 ba1 hb1
  go_wp2_with fail
  refine (HA.out _ _ _ IA1.out N1.out).mono ?_
  rintro e wc1 ⟨x1, rfl, hl1, bc1⟩
  have hbA := below_alloc wc1 (.cells #[.int .i64 0, .int .i64 0] 28)
  have HXA := Lib.hid (obj_new wc1 _ rfl #[.int .i64 0, .int .i64 0] 28)
  obtain ⟨WA, hWA⟩ : ∃ WA, WA = wc1.alloc (.cells #[.int .i64 0, .int .i64 0] 28) := ⟨_, rfl⟩
  obtain ⟨P, hP⟩ : ∃ P, P = wc1.heap.size := ⟨_, rfl⟩
  rw [← hWA] at hbA HXA
  rw [← hP] at HXA
  have L1 := Lib.hid (LinsAt.mono hl1 hbA)
  have BC1 := Lib.hid (below_step BA1.out (below_step bc1 hbA))
  clear hl1 bc1 hbA
  go_upto_region 2 with fail
  rw [← hWA, ← hP]
  clear hWA hP
  go_wp2_with fail
  refine (HT.out _).mono ?_
  rintro e wa2 ⟨ua2, rfl, ia2, ba2⟩
  have IA2 := Lib.hid ia2
  have L2 := Lib.hid (LinsAt.mono L1.out ba2)
  have X2 := Lib.hid (obj_kept ba2 HXA.out)
  have BA2 := Lib.hid (below_step BC1.out ba2)
  clear ia2 ba2
  go_wp2_with fail
  refine (HB.out _ _ IA2.out).mono ?_
  rintro e wc2 ⟨x2, rfl, _, bc2⟩
  have hbB := below_step bc2 (below_alloc wc2 (.cells #[.int .i64 120, .int .i64 0] 28))
  have HXB := Lib.hid (obj_new wc2 _ rfl #[.int .i64 120, .int .i64 0] 28)
  obtain ⟨WB, hWB⟩ : ∃ WB, WB = wc2.alloc (.cells #[.int .i64 120, .int .i64 0] 28) := ⟨_, rfl⟩
  obtain ⟨R, hR⟩ : ∃ R, R = wc2.heap.size := ⟨_, rfl⟩
  rw [← hWB] at hbB HXB
  rw [← hR] at HXB
  have L3 := Lib.hid (LinsAt.mono L2.out hbB)
  have X3 := Lib.hid (obj_kept hbB X2.out)
  have BC2 := Lib.hid (below_step BA2.out hbB)
  clear bc2 hbB
  go_upto_region 3 with fail
  rw [← hWB, ← hR]
  clear hWB hR
  go_wp2_with fail
  refine (HT.out _).mono ?_
  rintro e wa3 ⟨ua3, rfl, ia3, ba3⟩
  have hb3 := below_alloc wa3 (.cells #[.int .i64 1, .int .i64 1] 3)
  have IA3 := Lib.hid (SlcAt.mono ia3 hb3)
  have N3 := Lib.hid (slc_new inC_len wa3 _ rfl [1, 1] 3 (by simp) #[.int .i64 1, .int .i64 1] rfl)
  have L4 := Lib.hid (LinsAt.mono L3.out (below_step ba3 hb3))
  have X4 := Lib.hid (obj_kept (below_step ba3 hb3) X3.out)
  have Y4 := Lib.hid (obj_kept (below_step ba3 hb3) HXB.out)
  have BA3 := Lib.hid (below_step BC2.out (below_step ba3 hb3))
  clear ia3 ba3 hb3
  go_wp2_with fail
  refine (HC.out _ _ _ IA3.out N3.out).mono ?_
  rintro e wc3 ⟨x3, rfl, _, bc3⟩
  have hbC := below_step bc3 (below_alloc wc3 (.cells #[.int .i64 120, .int .i64 1] 28))
  have HXC := Lib.hid (obj_new wc3 _ rfl #[.int .i64 120, .int .i64 1] 28)
  obtain ⟨WC, hWC⟩ : ∃ WC, WC = wc3.alloc (.cells #[.int .i64 120, .int .i64 1] 28) := ⟨_, rfl⟩
  obtain ⟨Q, hQ⟩ : ∃ Q, Q = wc3.heap.size := ⟨_, rfl⟩
  rw [← hWC] at hbC HXC
  rw [← hQ] at HXC
  have L5 := Lib.hid (LinsAt.mono L4.out hbC)
  have X5 := Lib.hid (obj_kept hbC X4.out)
  have Y5 := Lib.hid (obj_kept hbC Y4.out)
  have BC3 := Lib.hid (below_step BA3.out hbC)
  clear bc3 hbC
  obtain ⟨av, cv, e1, _, hpart⟩ := lins_parts L5.out
  have e1 : x1 = .slice av 1 cv := e1
  subst e1
  obtain ⟨b1, o1, r, rfl, hr, hl⟩ := hpart WC (Below.refl _ _) 0 lin1 rfl
  have HLr := Lib.hid hl
  have HRr := Lib.hid hr
  clear hpart hr hl
  go_upto_region 4 with fail
  rw [← hWC, ← hQ]
  clear hWC hQ
  have y2 : WC.cell? ⟨b1, o1 + 2, none⟩ = some (.slice r.a r.n r.c) := by have := (lr_cells HRr.out).2.2.1; simpa using this
  have p0 : WC.cell? ⟨P, 0, none⟩ = some (.int .i64 0) := Lib.cell_of_heap X5.out 0
  have hbD := below_alloc WC (.cells #[.int .i64 0, .int .i64 0, .int .i64 0, .int .i64 10, .int .i64 0, .int .i64 0, .int .i64 15, .int .i64 10] 42)
  have S6 := Lib.hid (slc_new pcC_len WC _ rfl twoP 42 (by simp [twoP]) #[.int .i64 0, .int .i64 0, .int .i64 0, .int .i64 10, .int .i64 0, .int .i64 0, .int .i64 15, .int .i64 10] rfl)
  have L6 := Lib.hid (HLr.out.mono hbD)
  have LL6 := Lib.hid (LinsAt.mono L5.out hbD)
  have R6 := Lib.hid (HRr.out.mono hbD)
  have Y6 := Lib.hid (obj_kept hbD Y5.out)
  have Z6 := Lib.hid (obj_kept hbD HXC.out)
  have B6 := Lib.hid (below_step BC3.out hbD)
  clear hbD
  go_wp2_with fail
  refine (HP.out _ _ _ L6.out.bs S6.out).mono ?_
  rintro e w7 ⟨rfl, b7⟩
  have y4 : w7.cell? ⟨b1, o1 + 4, none⟩ = some (.int .i64 25) := by
    have := (lr_cells (R6.out.mono b7)).2.2.2.2.1
    rw [L6.out.x, show lin1.x = 25 from rfl] at this
    simpa using this
  have LL7 := Lib.hid (LinsAt.mono LL6.out b7)
  have Y7 := Lib.hid (obj_kept b7 Y6.out)
  have Z7 := Lib.hid (obj_kept b7 Z6.out)
  have B7 := Lib.hid (below_step B6.out b7)
  clear b7 y2
  go_wp2_with fail
  refine (HW.out _ _ LL7.out).mono ?_
  rintro e w8 ⟨a8, c8, rfl, b8⟩
  have r0 : w8.cell? ⟨R, 0, none⟩ = some (.int .i64 120) := Lib.cell_of_heap (obj_kept b8 Y7.out) 0
  have r1 : w8.cell? ⟨R, 1, none⟩ = some (.int .i64 0) := Lib.cell_of_heap (obj_kept b8 Y7.out) 1
  have q0 : w8.cell? ⟨Q, 0, none⟩ = some (.int .i64 120) := Lib.cell_of_heap (obj_kept b8 Z7.out) 0
  have q1 : w8.cell? ⟨Q, 1, none⟩ = some (.int .i64 1) := Lib.cell_of_heap (obj_kept b8 Z7.out) 1
  have B8 := Lib.hid (below_step B7.out b8)
  clear b8
  go_wp2
  go_ret
  exact ⟨rfl, B8.out⟩
end Go.Proofs.Ythcilpijiindeaa
