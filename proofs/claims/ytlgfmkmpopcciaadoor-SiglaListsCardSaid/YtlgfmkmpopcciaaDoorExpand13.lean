/-
  The landed Expand: the keys that a list in short denotes.
-/
import Derived.Test.YtlgfmkmpopcciaaDoorExpI13
import Derived.Shelf.RegionOpen
set_option linter.unusedVariables false
set_option linter.unusedSimpArgs false
namespace Go.Proofs.YtlgfmkmpopcciaaDoor
open Go.RowKit Go.Maps Go.Shelf
attribute [local go_sem] Oper.semAt_some

theorem split_len (s : List UInt8) : ∀ x ∈ Mt.split 32 s, x.length ≤ s.length := by
  intro x hx
  obtain ⟨p, q, e⟩ := List.append_of_mem hx
  have h := Mt.join_split 32 s
  rw [e] at h
  have key : ∀ (p q : List (List UInt8)), x.length ≤ (Mt.join 32 (p ++ x :: q)).length := by
    intro p
    induction p with
    | nil =>
      intro q
      cases q with
      | nil => exact Nat.le_refl _
      | cons y r => rw [List.nil_append, Mt.join_cons 32 x (by simp), List.length_append]; omega
    | cons y r ih =>
      intro q
      rw [List.cons_append, Mt.join_cons 32 y (by simp), List.length_append, List.length_cons]
      have := ih q
      omega
  rw [← h]
  exact key p q
theorem split_count (c : UInt8) : ∀ s : List UInt8, (Mt.split c s).length ≤ s.length + 1
  | [] => by simp [Mt.split]
  | x :: r => by
    have ih := split_count c r
    have hn := Mt.split_ne c r
    rw [Mt.split]
    split
    · simp; omega
    · split
      · rename_i h; exact absurd h hn
      · rename_i h; rw [h] at ih; simp at ih ⊢; omega
theorem wr_to13 {j0 j1 : Nat} (h : j1 = j0 + 1) (hb : j0 ≤ 100000) : IntKind.i64.wrap ((j0 : Int) + 1) = (j1 : Int) ∧ wrap64 ((j0 : Int) + 1) = (j1 : Int) := by
  have e : (j0 : Int) + 1 = (j1 : Int) := by omega
  rw [e]
  exact ⟨IntWalk.i64_in _ (by omega), w64 (by omega) (by omega)⟩
theorem wr_len13 {p n : Nat} (h : p = n + 1) (hb : n ≤ 4294967296) : IntKind.i64.wrap ((n : Int) + 1) = (p : Int) ∧ wrap64 ((n : Int) + 1) = (p : Int) := by
  have e : (n : Int) + 1 = (p : Int) := by omega
  rw [e]
  exact ⟨IntWalk.i64_in _ (by omega), w64 (by omega) (by omega)⟩
theorem put_cell13 {w : World} {D p : Nat} {o o' : Obj} (h : w.heap[p]? = some o) (hne : p ≠ D) : (w.putObj D o').heap[p]? = some o := (World.putObj_heap_other hne).trans h
set_option maxHeartbeats 8000000 in
set_option maxRecDepth 100000 in
theorem expand_any (v : Value) (t : List Sg.Sig) (s : List UInt8) (m : Int) (w : World) (h : SgsAt w v t) (hs : SgSmall t) (hl : s.length < 4294967281) (hm : w.cell? ⟨0, 0, none⟩ = some (.int .i64 m)) : Calls Tryd.prog 21 #[v, .string (str s)] w (ExpPost (Sg.expand t s) w) := by
  obtain ⟨W0, hW0⟩ : ∃ W0, W0 = ((w.alloc (.cells #[v] 22)).alloc (.cells #[.slice none 0 0] 34)).alloc (.cells #[.int .i64 0, .int .i64 0] 26) := ⟨_, rfl⟩
  have hb0 : Below w.heap.size w W0 := by rw [hW0]; exact below_step (below_step (below_alloc _ _) (below_alloc _ _)) (below_alloc _ _)
  have hE0 : ExpB w.heap.size v W0 := by
    rw [hW0]
    refine ⟨obj_kept (below_alloc _ _) (obj_kept (below_alloc _ _) (obj_new w _ rfl _ _)), obj_kept (below_alloc _ _) (obj_new _ _ (by simp) _ _), obj_new _ _ (by simp) _ _⟩
  have HB0 := Lib.hid hb0
  have HE0 := Lib.hid hE0
  have HM := Lib.hid (may_any v t W0 (h.mono hb0) hs)
  have HA := Lib.hid h
  have HSm := Lib.hid hs
  obtain ⟨⟨a, cp, rfl, hcap⟩, hmm, _⟩ := h
  obtain ⟨R, hR⟩ : ∃ R, R = Sg.expand t s := ⟨_, rfl⟩
  have HR := Lib.hid hR
  rw [← hR]
  have HP := Lib.hid (fun wx (hx : SgsAt wx (.slice a t.length cp) t) (hl : t.length ≤ 100000) => places_any _ t wx hx hs hl)
  obtain ⟨n, hnn⟩ : ∃ n, n = t.length := ⟨_, rfl⟩
  have Hn := Lib.hid hnn
  rw [← hnn] at HA HM HP HE0 hcap hW0 ⊢
  clear hmm hR hnn hb0 hE0 hs
  obtain ⟨y0, y1, y2, y3⟩ := HE0.out.cells
  obtain ⟨f0, f1, f2⟩ := HE0.out.calm
  refine (callsIn_wide (n := 5)).1 ?_
  refine callsIn_of_wp_marks Tryd.func21 rfl trivial ?_ rfl
  simp only [Tryd.ntmps21, List.size_toArray, List.length_cons, List.length_nil, Nat.reduceAdd, Nat.reduceSub, Array.replicate_succ, Array.replicate_zero, List.push_toArray, List.append_toArray, List.nil_append, List.cons_append]
  gi_wp2
  rw [← hW0]
  refine ⟨trivial, (callsIn_wide.2 HM.out).mono ?_⟩
  rintro e w1 ⟨rfl, hb1⟩
  have HB1 := Lib.hid (below_step HB0.out hb1)
  have HE1 := Lib.hid (HE0.out.below hb1)
  clear hb1 y0 y1 y2 y3 f0 f1 f2 HB0 HE0 HM hW0
  cases hmay : Sg.may t with
  | false =>
    have HE : Hid (R = ([], 130, -1)) := Lib.hid (by rw [HR.out]; unfold Sg.expand; rw [if_pos hmay])
    clear hmay
    have HNt := Lib.hid (fun w => noTable_any w)
    gi_wp2
    refine ⟨trivial, (callsIn_wide.2 (HNt.out _)).mono ?_⟩
    rintro e w2 ⟨rfl, hb2⟩
    have HB2 := Lib.hid (below_step HB1.out hb2)
    have HE2 := Lib.hid (HE1.out.below hb2)
    obtain ⟨y0, y1, y2, y3⟩ := HE2.out.cells
    obtain ⟨f0, f1, f2⟩ := HE2.out.calm
    obtain ⟨g0, g1⟩ := HE2.out.results (v := .slice none 0 0) (x := .int .i64 130) (y := .int .i64 (-1))
    have z0 := one_cell13 g0
    obtain ⟨z1, z2⟩ := two_of13 g1
    clear hb2 HB1 HE1 g0 g1
    unfold flt
    gi_wp2
    refine ⟨.tuple #[.slice none 0 0, flt 130 (-1)], by simp [results, Tryd.f21, go_sem, z0, z1, z2, flt], _, by rw [HE.out], by rw [HE.out]; exact ownR_nil _ _ _ _ _, ?_⟩
    exact below_two13 (Nat.le_add_right _ 2) (HB2.out.setCell (p := ⟨w.heap.size + 1, 0, none⟩) (Nat.le_succ _) _)
  | true =>
    have HMay := Lib.hid hmay
    obtain ⟨hm1, hm2, hm3⟩ := Sg.may_yes hmay
    have HNd := Lib.hid hm3
    have hn100 : n ≤ 100 := by rw [Hn.out]; exact hm1
    clear hmay hm1 hm2 hm3
    by_cases hse : s = []
    · subst hse
      have he : (str ([] : List UInt8)).toList.isEmpty = true := by rw [Lib.toList_data]; rfl
      have HE : Hid (R = ([], 0, 0)) := Lib.hid (by rw [HR.out]; unfold Sg.expand; rw [if_neg (by rw [HMay.out]; decide), if_pos rfl])
      obtain ⟨y0, y1, y2, y3⟩ := HE1.out.cells
      obtain ⟨f0, f1, f2⟩ := HE1.out.calm
      obtain ⟨g0, g1⟩ := HE1.out.results (v := .slice none 0 0) (x := .int .i64 0) (y := .int .i64 0)
      have z0 := one_cell13 g0
      obtain ⟨z1, z2⟩ := two_of13 g1
      clear g0 g1
      gi_wp2
      refine ⟨.tuple #[.slice none 0 0, flt 0 0], by simp [results, Tryd.f21, go_sem, z0, z1, z2, flt], _, by rw [HE.out], by rw [HE.out]; exact ownR_nil _ _ _ _ _, ?_⟩
      exact below_two13 (Nat.le_add_right _ 2) (HB1.out.setCell (p := ⟨w.heap.size + 1, 0, none⟩) (Nat.le_succ _) _)
    · have he : (str s).toList.isEmpty = false := by rw [Lib.toList_data, str_data, List.isEmpty_eq_false_iff]; exact hse
      have HE : Hid (R = Sg.expandL t 0 [] (Mt.split 32 s)) := Lib.hid (by rw [HR.out]; unfold Sg.expand; rw [if_neg (by rw [HMay.out]; decide), if_neg hse])
      obtain ⟨y0, y1, y2, y3⟩ := HE1.out.cells
      have HSp := Lib.hid (fun w => splitSeq_any (str s) w)
      gi_wp2
      refine ⟨trivial, (callsIn_wide.2 (HP.out _ (SlcAt.mono HA.out HB1.out) (by omega))).mono ?_⟩
      rintro e w2 ⟨b, rfl, hbb, hma, hb2⟩
      have HB2 := Lib.hid (below_step HB1.out hb2)
      have HE2 := Lib.hid (HE1.out.below hb2)
      clear y0 y1 y2 y3
      gi_wp2
      refine ⟨trivial, (callsIn_wide.2 (HSp.out _)).mono ?_⟩
      rintro e w3 ⟨rfl, rfl⟩
      gi_wp2
      obtain ⟨M, hM⟩ : ∃ M, M = w2.heap.size := ⟨_, rfl⟩
      obtain ⟨W5, hW5⟩ : ∃ W5, W5 = ((w2.alloc (.cells #[.map (some b)] 66)).alloc (.cells #[.slice none 0 0] 34)).alloc (.cells #[.int .i64 0] 3) := ⟨_, rfl⟩
      obtain ⟨W6, hW6⟩ : ∃ W6, W6 = ((W5.alloc (.cells #[.string (str s)] 9)).alloc (.cells #[.string ⟨#[32]⟩] 9)).alloc (.cells #[.int .i64 0] 3) := ⟨_, rfl⟩
      have hs5 : W5.heap.size = M + 1 + 1 + 1 := by rw [hW5, hM]; simp
      have hs6 : W6.heap.size = M + 6 := by rw [hW6]; simp [hs5]
      have hb5 : Below w2.heap.size w2 W5 := by rw [hW5]; exact below_step (below_step (below_alloc _ _) (below_alloc _ _)) (below_alloc _ _)
      have hb6 : Below W5.heap.size W5 W6 := by rw [hW6]; exact below_step (below_step (below_alloc _ _) (below_alloc _ _)) (below_alloc _ _)
      have hbox : BoxS (M + 1 + 1 + 1) s W6 := by
        rw [hW6]
        refine ⟨obj_kept (below_alloc _ _) (obj_kept (below_alloc _ _) (obj_new _ _ hs5 _ _)), obj_kept (below_alloc _ _) (obj_new _ _ (by rw [World.size_alloc, hs5]) _ _), obj_new _ _ (by rw [World.size_alloc, World.size_alloc, hs5]) _ _⟩
      have hMB : w.heap.size + 1 + 1 < M := by rw [hM]; exact lt_of_obj HE2.out.fb
      have hbM : b < M := by
        obtain ⟨es0, cl0, hes0⟩ := hma.obj
        rw [hM]
        exact lt_of_obj hes0
      have hO6 : ExpO w (.slice a n cp) M b (Sg.keys t) 0 W6 := by
        refine ⟨(HE2.out.below hb5).below hb6, ?_, ?_, (hma.mono hb5).mono hb6, below_step (below_step HB2.out hb5) hb6, by rw [hs6]; exact Nat.le_refl _⟩
        · refine obj_kept hb6 ?_
          rw [hW5]
          exact obj_kept (below_alloc _ _) (obj_kept (below_alloc _ _) (obj_new _ _ hM.symm _ _))
        · refine obj_kept hb6 ?_
          rw [hW5]
          exact obj_new _ _ (by rw [World.size_alloc, World.size_alloc, ← hM]) _ _
      have hK6 : KeysAt M [] W6 := by
        refine ⟨none, 0, obj_kept hb6 ?_, ownR_nil _ _ _ _ _⟩
        rw [hW5]
        exact obj_kept (below_alloc _ _) (obj_new _ _ (by rw [World.size_alloc, ← hM]) _ _)
      have HMB := Lib.hid hMB
      have HbM := Lib.hid hbM
      have Hs6 := Lib.hid hs6
      have Hse := Lib.hid hse
      have HSl := Lib.hid (split_len s)
      have HSc := Lib.hid (split_count 32 s)
      obtain ⟨ws, hws⟩ : ∃ ws, ws = Mt.split 32 s := ⟨_, rfl⟩
      have hI6 : ExpI w (.slice a n cp) M b t R ws [] W6 := ⟨hO6, [], hK6, by simp, fun post hp => by rw [HE.out, ← hws, hp]; rfl⟩
      have hiter := splitIter_in (5 - 1) (M + 1 + 1 + 1) s (by omega) W6 hbox
      rw [← hws] at hiter HSl HSc
      rw [← hM, ← hW5, ← hW6]
      clear hM hW5 hW6 hb5 hb6 hbox hO6 hK6 hma hbb hb2 hse HSp HP HB2 HE2 HB1 HE1 he
      refine wpIn_range_box (gf := 60) (lb := #[.pointer (some ⟨M + 1 + 1 + 1 + 1, 0, none⟩), .pointer (some ⟨M + 1 + 1 + 1, 0, none⟩), .pointer (some ⟨M + 1 + 1 + 1 + 2, 0, none⟩)]) rfl (enters_of Tryd.func60 (by kernel_rfl) rfl) (encs := fun x : List UInt8 => #[Value.string (str x)]) (b := M + 1 + 1 + 1) (by rw [Hs6.out]; omega) hiter (fun _ => rfl)
        (ExpI w (.slice a n cp) M b t R ws) (ExpX w R) (by rw [Hs6.out]; exact expI_from HMB.out HbM.out) (by rw [Hs6.out]; exact expX_from HMB.out) (expI_out HMB.out HbM.out) (expX_out HMB.out) hI6
        (fun x => { tmps := #[.slice a n cp, .string (str s), .pointer (some ⟨w.heap.size, 0, none⟩), undef, .pointer (some ⟨w.heap.size + 1, 0, none⟩), .pointer (some ⟨w.heap.size + 1 + 1, 0, none⟩), .pointer (some ⟨M, 0, none⟩), .pointer (some ⟨M + 1, 0, none⟩), .pointer (some ⟨M + 1 + 1, 0, none⟩), .string (str x), undef, undef, undef, undef, undef, .slice a n cp, .bool true, .bool false, undef, .string (str s), .bool false, undef, .slice a n cp, .map (some b), .string (str s), .func (.func 60) #[] #[.pointer (some ⟨M + 1 + 1 + 1 + 1, 0, none⟩), .pointer (some ⟨M + 1 + 1 + 1, 0, none⟩), .pointer (some ⟨M + 1 + 1 + 1 + 2, 0, none⟩)], .string (str x), undef, undef, undef, undef, undef, undef, undef, undef, undef, undef, undef, undef, undef, undef, undef, undef, undef, undef, undef, undef, undef, undef, undef, undef, undef, undef, undef, undef, undef, undef, undef, undef], defers := [] }) ?assign ?body ?done ?stop
      case assign =>
        intro l x W K hK
        gi_wp2
        exact hK
      case done =>
        rintro D W hD ⟨hO, out, ⟨ka, kc, hkb, hown⟩, hlen, hnext⟩ hK
        rw [Hs6.out] at hD
        have HE2 : Hid (R = (out, 0, 0)) := Lib.hid (by rw [hnext [] (by simp)]; rfl)
        have y0 := one_cell13 hkb
        obtain ⟨x0, x1, x2, x3⟩ := hO.eb.cells
        obtain ⟨f0, f1, f2⟩ := hO.eb.calm
        obtain ⟨g0, g1⟩ := hO.eb.results (v := .slice ka out.length kc) (x := .int .i64 0) (y := .int .i64 0)
        have hMB' := HMB.out
        have HG0 := Lib.hid (put_cell13 (D := D) (o' := .deferred none) g0 (by omega))
        have HG1 := Lib.hid (put_cell13 (D := D) (o' := .deferred none) g1 (by omega))
        have HKd : Hid ((((W.setCell ⟨w.heap.size + 1, 0, none⟩ (.slice ka out.length kc)).setCell ⟨w.heap.size + 1 + 1, 0, none⟩ (.int .i64 0)).setCell ⟨w.heap.size + 1 + 1, 1, none⟩ (.int .i64 0)).heap[D]? = some (.deferred (some []))) := Lib.hid (obj_set (obj_set (obj_set hK (by omega)) (by omega)) (by omega))
        have HOw := Lib.hid ((((hown.set9 (p := w.heap.size + 1) (i := 0) (y := .slice ka out.length kc) (by omega)).set9 (p := w.heap.size + 1 + 1) (i := 0) (y := .int .i64 0) (by omega)).set9 (p := w.heap.size + 1 + 1) (i := 1) (y := .int .i64 0) (by omega)))
        have HBe := Lib.hid (below_two13 (a := .int .i64 0) (b := .int .i64 0) (Nat.le_add_right w.heap.size 2) (hO.be.setCell (p := ⟨w.heap.size + 1, 0, none⟩) (Nat.le_succ _) (.slice ka out.length kc)))
        clear g0 g1 hown hO hnext hlen hkb hK hI6 hiter hMB
        gi_wp2
        refine ⟨by simp, .inl ⟨_, _, rfl, run_takeDeferred HKd.out, ?_⟩⟩
        have z0 := one_cell13 HG0.out
        obtain ⟨z1, z2⟩ := two_of13 HG1.out
        refine ⟨.tuple #[.slice ka out.length kc, flt 0 0], by simp [results, Tryd.f21, go_sem, z0, z1, z2, flt], _, by rw [HE2.out], ?_, HBe.out.grown (grownBy_putObj' _ D _) HBe.out.size (fun k e => by cases e; omega)⟩
        rw [HE2.out]
        exact OwnR.down13 (show OwnTx (M + 6) _ out _ from ownsRow_putObj HOw.out _ HKd.out rfl) (by omega)
      case stop =>
        rintro D pre W hD ⟨j, hRj, h1, h2, h3⟩ hK
        rw [Hs6.out] at hD
        have HG0 := Lib.hid (put_cell13 (D := D) (o' := .deferred none) h1 (by have := HMB.out; omega))
        have HG1 := Lib.hid (put_cell13 (D := D) (o' := .deferred none) h2 (by have := HMB.out; omega))
        gi_wp2
        refine ⟨by simp, .inl ⟨_, _, rfl, run_takeDeferred hK, ?_⟩⟩
        have z0 := one_cell13 HG0.out
        obtain ⟨z1, z2⟩ := two_of13 HG1.out
        refine ⟨.tuple #[.slice none 0 0, flt 133 j], by simp [results, Tryd.f21, go_sem, z0, z1, z2, flt], _, by rw [hRj], ?_, h3.grown (grownBy_putObj' _ D _) h3.size (fun k e => by cases e; have := HMB.out; omega)⟩
        rw [hRj]
        exact ownR_nil _ _ _ _ _
      case body =>
        rintro l pre x post W hx ⟨hO, out, hKA, hlen, hnext⟩
        rw [Hs6.out]
        have hxl : x.length ≤ s.length := HSl.out x (by rw [hx]; simp)
        have hpre : pre.length ≤ s.length := by
          have := HSc.out
          rw [hx, List.length_append, List.length_cons] at this
          omega
        have HN0 : Hid (R = Sg.expandL t pre.length out (x :: post)) := Lib.hid (hnext _ hx)
        have HD := Lib.hid (denoted_any b t x m W hO.ma HNd.out (by rw [← Hn.out]; omega) (by omega) (cell_below hO.be hm))
        have HO := Lib.hid hO
        have HK := Lib.hid hKA
        have Hlen := Lib.hid hlen
        have Hpl := Lib.hid hpre
        have Hx := Lib.hid hx
        have x0 := one_cell13 hO.mb
        have HNk := Lib.hid (fun n w => noKey_any n w)
        clear hO hKA hlen hnext hx hxl hpre hI6 hiter
        gi_wp2
        refine ⟨trivial, (CallsIn.inRound l (callsIn_wide.2 HD.out)).mono ?_⟩
        rintro e w1 ⟨a1, c1, ok, rfl, hno, hyes, k, rfl⟩
        have hb1 := below_drew W k
        have HO1 := Lib.hid (HO.out.below hb1)
        have HK1 := Lib.hid (HK.out.below hb1)
        have HL1 := Lib.hid ((Left13.refl M W).below hb1 HO.out.sz)
        generalize W.drewN k = W1 at *
        clear hb1 HO HK HD x0
        cases ok with
        | false =>
          have HE3 : Hid (R = ([], 133, (pre.length : Int))) := Lib.hid (by
            rw [HN0.out]
            simp only [Sg.expandL]
            rw [hno rfl])
          have x2 := one_cell13 HO1.out.ib
          clear hno hyes HN0
          gi_wp2
          refine ⟨trivial, (CallsIn.inRound l (callsIn_wide.2 (HNk.out _ _))).mono ?_⟩
          rintro e w4 ⟨rfl, hb4⟩
          have HO4 := Lib.hid (HO1.out.below hb4)
          have HL4 := Lib.hid (HL1.out.below hb4 HO1.out.sz)
          obtain ⟨y0, y1, y2, y3⟩ := HO4.out.eb.cells
          obtain ⟨f0, f1, f2⟩ := HO4.out.eb.calm
          obtain ⟨g0, g1⟩ := HO4.out.eb.results (v := .slice none 0 0) (x := .int .i64 133) (y := .int .i64 (pre.length : Int))
          have HG0 := Lib.hid g0
          have HG1 := Lib.hid g1
          have hMB' := HMB.out
          have HL5 := Lib.hid (((HL4.out.set (p := w.heap.size + 1) (i := 0) (v := .slice none 0 0) (by omega)).set (p := w.heap.size + 1 + 1) (i := 0) (v := .int .i64 133) (by omega)).set (p := w.heap.size + 1 + 1) (i := 1) (v := .int .i64 (pre.length : Int)) (by omega))
          have HBe := Lib.hid (below_two13 (a := .int .i64 133) (b := .int .i64 (pre.length : Int)) (Nat.le_add_right w.heap.size 2) (HO4.out.be.setCell (p := ⟨w.heap.size + 1, 0, none⟩) (Nat.le_succ _) (.slice none 0 0)))
          clear hb4 HO1 HK1 HL1 x2 g0 g1 HL4
          unfold flt
          gi_wp2
          exact ⟨HL5.out.kf, (pre.length : Int), HE3.out, HG0.out, HG1.out, HBe.out⟩
        | true =>
          obtain ⟨hw, ha0, hac, hcn⟩ := hyes rfl
          obtain ⟨i0, rfl⟩ : ∃ i0 : Nat, a1 = (i0 : Int) := ⟨a1.toNat, by omega⟩
          obtain ⟨j0, rfl⟩ : ∃ j0 : Nat, c1 = (j0 : Int) := ⟨c1.toNat, by omega⟩
          rw [← Hn.out] at hcn
          have hn0 : 0 < n := by omega
          obtain ⟨b1, o1, d1, e1, r1⟩ := HA.out.2.2 (by rw [← Hn.out]; exact hn0)
          rw [← Hn.out] at e1
          obtain ⟨rfl, rfl⟩ : a = some ⟨b1, o1, none⟩ ∧ cp = d1 := by injection e1 with a1 a2 a3; exact ⟨a1, a3⟩
          obtain ⟨j1, hj1⟩ : ∃ j1, j1 = j0 + 1 := ⟨_, rfl⟩
          obtain ⟨P, hP⟩ : ∃ P, P = (t.take j1).drop i0 := ⟨_, rfl⟩
          have hPk : Sg.range t (i0 : Int) (j0 : Int) = Sg.keys P := by
            unfold Sg.range
            rw [hP, hj1, Int.toNat_natCast, Int.toNat_natCast]
            unfold Sg.keys
            rw [List.map_drop, List.map_take]
          have HN1 : Hid (R = Sg.expandL t (pre ++ [x]).length (out ++ Sg.keys P) post) := Lib.hid (by
            rw [HN0.out, ← hPk]
            simp only [Sg.expandL]
            rw [hw, List.length_append]
            rfl)
          have hPl : P.length = j1 - i0 := by rw [hP, List.length_drop, List.length_take, ← Hn.out]; omega
          have HPc : Hid (∀ W', Below w.heap.size w W' → SgsAt W' (.slice (some ⟨b1, o1 + i0 * 2, none⟩) (j1 - i0) (cp - i0)) P) := Lib.hid (fun W' hW' => by
            rw [hP]
            exact slc_cut sgC_len (HA.out.mono hW') (by omega) (by rw [← Hn.out]; omega) (by rw [← Hn.out]; exact hn0))
          have x3 := one_cell13 HO1.out.eb.tb
          have c1 : (0 : Int) ≤ (i0 : Int) := by omega
          have c2 : (i0 : Int) ≤ (j1 : Int) := by omega
          have c3 : (j1 : Int) ≤ (cp : Int) := by omega
          have c4 : (i0 : Int) < (cp : Int) := by omega
          have HPl := Lib.hid hPl
          have HPm : Hid (∀ y ∈ P, y ∈ t) := Lib.hid (fun y hy => by rw [hP] at hy; exact List.mem_of_mem_take (List.mem_of_mem_drop hy))
          have Hnn : Hid (j1 - i0 ≤ 100) := Lib.hid (by omega)
          have hkw := wr_to13 hj1 (by omega)
          clear hno hyes HN0 hw ha0 hac hcn hn0 e1 r1 hP hPk hPl hj1
          obtain ⟨kw, kw2⟩ := hkw
          gi_wp2
          have HK0 : Hid (KeysAt M (out ++ (Sg.keys P).take 0) W1) := Lib.hid (by rw [List.take_zero, List.append_nil]; exact HK1.out)
          obtain ⟨L, hL⟩ : ∃ L, L = j1 - i0 := ⟨_, rfl⟩
          rw [← hL] at HPc HPl Hnn ⊢
          clear hL
          gi_loopw [44] (fun iv wr => ∃ i : Nat, i ≤ L ∧ iv = .int .i64 i ∧ Hid (ExpO w (.slice (some ⟨b1, o1, none⟩) n cp) M b (Sg.keys t) pre.length wr) ∧ Hid (KeysAt M (out ++ (Sg.keys P).take i) wr) ∧ Hid (Left13 M W wr)) (fun iv _ => L - (intOf iv).toNat)
          case atStart => exact ⟨0, Nat.zero_le _, rfl, HO1, HK0, HL1⟩
          case round =>
            obtain ⟨i, hi, rfl, HOr, HKr, HLr⟩ := hrel
            clear HO1 HK0 HK1 HL1 x3
            by_cases hlt : i < L
            · have k0 : (0 : Int) ≤ (i : Int) := by omega
              have kl : (i : Int) < (L : Int) := by omega
              obtain ⟨b2, o2, d2, e2, r2⟩ := (HPc.out wr HOr.out.be).2.2 (by rw [HPl.out]; omega)
              rw [HPl.out] at e2
              injection e2 with q1 q2 q3
              injection q1 with q1
              injection q1 with q1 q4 q5
              subst q1 q4
              clear q2 q3 q5
              obtain ⟨y, hy⟩ : ∃ y, P[i]? = some y := ⟨_, List.getElem?_eq_getElem (by rw [HPl.out]; exact hlt)⟩
              obtain ⟨y0, y1⟩ := sg_cells (r2 i y hy)
              have hb3 := below_alloc wr (.cells #[.string (str y.k), .string (str y.n)] 45)
              obtain ⟨n0, n1⟩ := rec_two wr wr.heap.size rfl (.string (str y.k)) (.string (str y.n)) 45
              have hKs : (Sg.keys P).take (i + 1) = (Sg.keys P).take i ++ [y.k] := by
                unfold Sg.keys
                rw [← List.map_take, ← List.map_take, It.take_snoc hy, List.map_append]
                rfl
              have hKl : ((Sg.keys P).take i).length = i := by
                rw [List.length_take]
                unfold Sg.keys
                rw [List.length_map, HPl.out]
                omega
              obtain ⟨acc, hacc⟩ : ∃ acc, acc = out ++ (Sg.keys P).take i := ⟨_, rfl⟩
              have HAn : Hid (acc ++ [y.k] = out ++ (Sg.keys P).take (i + 1)) := Lib.hid (by rw [hKs, hacc, List.append_assoc])
              have hal : acc.length ≤ 1000000000000 := by
                have := Hlen.out
                have := Hpl.out
                have := Hnn.out
                rw [hacc, List.length_append, hKl]
                omega
              have hyk : y.k.length ≤ 281474976710656 := (HSm.out y (by
                have h9 := List.mem_of_getElem? hy
                exact HPm.out y h9)).1
              rw [← hacc] at HKr
              obtain ⟨qa, qc, h1, h2⟩ := HKr.out
              have HCl := Lib.hid (fun wx => clone_any (str y.k) (by rw [str_size13]; exact hyk) wx)
              have hd := below_drew9 (wr.alloc (.cells #[.string (str y.k), .string (str y.n)] 45))
              have hb4 := below_step hb3 hd
              have HOd := Lib.hid (HOr.out.below hb4)
              have HLd := Lib.hid (HLr.out.below hb4 HOr.out.sz)
              have Hh1 := Lib.hid (obj_kept hb4 h1)
              have Hh2 := Lib.hid (OwnR.mono h2 hb4)
              have z0 := one_cell13 Hh1.out
              have z1 := cell_below hd n0
              have hmix : Tryd.prog.follows .mixedOrders = true := by kernel_rfl
              have hMB' := HMB.out
              have hbM' := HbM.out
              have hLn := Hnn.out
              obtain ⟨al, hal2⟩ : ∃ al, al = acc.length := ⟨_, rfl⟩
              have Hal2 := Lib.hid hal2
              rw [← hal2] at z0
              clear r2 hKs hKl hacc hyk h1 h2 hb3 hd hb4 HKr HLr HOr hy hal2
              gi_wp2
              refine wpIn_region_any hmix ?_
              change wpAnyIn _ _ _ _ _ _ _ _ _ (World.drew _)
              refine wpAnyIn_ready (rs := [0, 1]) (by kernel_rfl) (by simp) ?_
              refine AllReadyIn.cons rfl (fun K hK => ?_) (AllReadyIn.cons rfl (fun K hK => ?_) AllReadyIn.nil)
              · go_simp
                refine hK _ _ ?_
                clear hK K
                refine wpAnyIn_ready (rs := [1]) (by kernel_rfl) (by simp) ?_
                refine AllReadyIn.cons rfl (fun K hK => ?_) AllReadyIn.nil
                go_simp
                refine hK _ _ ?_
                clear hK K
                refine wpAnyIn_ready (rs := [2]) (by kernel_rfl) (by simp) ?_
                refine AllReadyIn.cons rfl (fun K hK => ?_) AllReadyIn.nil
                go_simp
                refine hK _ _ ?_
                clear hK K
                refine wpAnyIn_ready (rs := [3]) (by kernel_rfl) (by simp) ?_
                refine AllReadyIn.cons rfl (fun K hK => ?_) AllReadyIn.nil
                go_simp
                gi_wp2_with (refine ⟨trivial, (CallsIn.inRound l (callsIn_wide.2 (HCl.out _))).mono ?_⟩; rintro e w5 ⟨rfl, hb5⟩; have z5 := cell_below hb5 z0; have z6 := cell_below (below_alloc w5 (.cells #[.string (str y.k)] 9)) z5; obtain ⟨g, cap, w6, hrun, ⟨qv, q0⟩, q1, HOn, HKn, HLn⟩ := exp_append (k := y.k) hMB' hbM' (HOd.out.below hb5) (obj_kept hb5 Hh1.out) (OwnR.mono Hh2.out hb5) (HLd.out.below hb5 HOd.out.sz) hal; rw [← Hal2.out] at hrun HOn HKn HLn)
                refine wpAnyIn_ready (rs := [4]) (by kernel_rfl) (by simp) ?_
                refine AllReadyIn.cons rfl (fun K hK => ?_) AllReadyIn.nil
                go_simp
                refine hK _ _ ?_
                clear hK K
                refine wpAnyIn_ready (rs := [5]) (by kernel_rfl) (by simp) ?_
                refine AllReadyIn.cons rfl (fun K hK => ?_) AllReadyIn.nil
                rw [if_pos (by rfl)]
                refine append_round rfl rfl rfl hrun ?_
                refine hK _ _ ?_
                clear hK K
                refine wpAnyIn_ready (rs := [6]) (by kernel_rfl) (by simp) ?_
                refine AllReadyIn.cons rfl (fun K hK => ?_) AllReadyIn.nil
                go_simp
                refine hK _ _ ?_
                clear hK K
                refine wpAnyIn_done (by kernel_rfl) ?_ _
                gi_wp2
                rw [HAn.out] at HKn
                go_roundw
                case rel => exact ⟨i + 1, by omega, by go_num, HOn, HKn, HLn⟩
                case measure => simp [intOf]; omega
              · go_simp
                refine hK _ _ ?_
                clear hK K
                refine wpAnyIn_ready (rs := [0, 2]) (by kernel_rfl) (by simp) ?_
                refine AllReadyIn.cons rfl (fun K hK => ?_) (AllReadyIn.cons rfl (fun K hK => ?_) AllReadyIn.nil)
                · go_simp
                  refine hK _ _ ?_
                  clear hK K
                  refine wpAnyIn_ready (rs := [2]) (by kernel_rfl) (by simp) ?_
                  refine AllReadyIn.cons rfl (fun K hK => ?_) AllReadyIn.nil
                  go_simp
                  refine hK _ _ ?_
                  clear hK K
                  refine wpAnyIn_ready (rs := [3]) (by kernel_rfl) (by simp) ?_
                  refine AllReadyIn.cons rfl (fun K hK => ?_) AllReadyIn.nil
                  go_simp
                  gi_wp2_with (refine ⟨trivial, (CallsIn.inRound l (callsIn_wide.2 (HCl.out _))).mono ?_⟩; rintro e w5 ⟨rfl, hb5⟩; have z5 := cell_below hb5 z0; have z6 := cell_below (below_alloc w5 (.cells #[.string (str y.k)] 9)) z5; obtain ⟨g, cap, w6, hrun, ⟨qv, q0⟩, q1, HOn, HKn, HLn⟩ := exp_append (k := y.k) hMB' hbM' (HOd.out.below hb5) (obj_kept hb5 Hh1.out) (OwnR.mono Hh2.out hb5) (HLd.out.below hb5 HOd.out.sz) hal; rw [← Hal2.out] at hrun HOn HKn HLn)
                  refine wpAnyIn_ready (rs := [4]) (by kernel_rfl) (by simp) ?_
                  refine AllReadyIn.cons rfl (fun K hK => ?_) AllReadyIn.nil
                  go_simp
                  refine hK _ _ ?_
                  clear hK K
                  refine wpAnyIn_ready (rs := [5]) (by kernel_rfl) (by simp) ?_
                  refine AllReadyIn.cons rfl (fun K hK => ?_) AllReadyIn.nil
                  rw [if_pos (by rfl)]
                  refine append_round rfl rfl rfl hrun ?_
                  refine hK _ _ ?_
                  clear hK K
                  refine wpAnyIn_ready (rs := [6]) (by kernel_rfl) (by simp) ?_
                  refine AllReadyIn.cons rfl (fun K hK => ?_) AllReadyIn.nil
                  go_simp
                  refine hK _ _ ?_
                  clear hK K
                  refine wpAnyIn_done (by kernel_rfl) ?_ _
                  gi_wp2
                  rw [HAn.out] at HKn
                  go_roundw
                  case rel => exact ⟨i + 1, by omega, by go_num, HOn, HKn, HLn⟩
                  case measure => simp [intOf]; omega
                · go_simp
                  refine hK _ _ ?_
                  clear hK K
                  refine wpAnyIn_ready (rs := [0, 3]) (by kernel_rfl) (by simp) ?_
                  refine AllReadyIn.cons rfl (fun K hK => ?_) (AllReadyIn.cons rfl (fun K hK => ?_) AllReadyIn.nil)
                  · go_simp
                    refine hK _ _ ?_
                    clear hK K
                    refine wpAnyIn_ready (rs := [3]) (by kernel_rfl) (by simp) ?_
                    refine AllReadyIn.cons rfl (fun K hK => ?_) AllReadyIn.nil
                    go_simp
                    gi_wp2_with (refine ⟨trivial, (CallsIn.inRound l (callsIn_wide.2 (HCl.out _))).mono ?_⟩; rintro e w5 ⟨rfl, hb5⟩; have z5 := cell_below hb5 z0; have z6 := cell_below (below_alloc w5 (.cells #[.string (str y.k)] 9)) z5; obtain ⟨g, cap, w6, hrun, ⟨qv, q0⟩, q1, HOn, HKn, HLn⟩ := exp_append (k := y.k) hMB' hbM' (HOd.out.below hb5) (obj_kept hb5 Hh1.out) (OwnR.mono Hh2.out hb5) (HLd.out.below hb5 HOd.out.sz) hal; rw [← Hal2.out] at hrun HOn HKn HLn)
                    refine wpAnyIn_ready (rs := [4]) (by kernel_rfl) (by simp) ?_
                    refine AllReadyIn.cons rfl (fun K hK => ?_) AllReadyIn.nil
                    go_simp
                    refine hK _ _ ?_
                    clear hK K
                    refine wpAnyIn_ready (rs := [5]) (by kernel_rfl) (by simp) ?_
                    refine AllReadyIn.cons rfl (fun K hK => ?_) AllReadyIn.nil
                    rw [if_pos (by rfl)]
                    refine append_round rfl rfl rfl hrun ?_
                    refine hK _ _ ?_
                    clear hK K
                    refine wpAnyIn_ready (rs := [6]) (by kernel_rfl) (by simp) ?_
                    refine AllReadyIn.cons rfl (fun K hK => ?_) AllReadyIn.nil
                    go_simp
                    refine hK _ _ ?_
                    clear hK K
                    refine wpAnyIn_done (by kernel_rfl) ?_ _
                    gi_wp2
                    rw [HAn.out] at HKn
                    go_roundw
                    case rel => exact ⟨i + 1, by omega, by go_num, HOn, HKn, HLn⟩
                    case measure => simp [intOf]; omega
                  · go_simp
                    gi_wp2_with (refine ⟨trivial, (CallsIn.inRound l (callsIn_wide.2 (HCl.out _))).mono ?_⟩; rintro e w5 ⟨rfl, hb5⟩; have z5 := cell_below hb5 z0; have z6 := cell_below (below_alloc w5 (.cells #[.string (str y.k)] 9)) z5; obtain ⟨g, cap, w6, hrun, ⟨qv, q0⟩, q1, HOn, HKn, HLn⟩ := exp_append (k := y.k) hMB' hbM' (HOd.out.below hb5) (obj_kept hb5 Hh1.out) (OwnR.mono Hh2.out hb5) (HLd.out.below hb5 HOd.out.sz) hal; rw [← Hal2.out] at hrun HOn HKn HLn)
                    refine wpAnyIn_ready (rs := [0, 4]) (by kernel_rfl) (by simp) ?_
                    refine AllReadyIn.cons rfl (fun K hK => ?_) (AllReadyIn.cons rfl (fun K hK => ?_) AllReadyIn.nil)
                    · go_simp
                      refine hK _ _ ?_
                      clear hK K
                      refine wpAnyIn_ready (rs := [4]) (by kernel_rfl) (by simp) ?_
                      refine AllReadyIn.cons rfl (fun K hK => ?_) AllReadyIn.nil
                      go_simp
                      refine hK _ _ ?_
                      clear hK K
                      refine wpAnyIn_ready (rs := [5]) (by kernel_rfl) (by simp) ?_
                      refine AllReadyIn.cons rfl (fun K hK => ?_) AllReadyIn.nil
                      rw [if_pos (by rfl)]
                      refine append_round rfl rfl rfl hrun ?_
                      refine hK _ _ ?_
                      clear hK K
                      refine wpAnyIn_ready (rs := [6]) (by kernel_rfl) (by simp) ?_
                      refine AllReadyIn.cons rfl (fun K hK => ?_) AllReadyIn.nil
                      go_simp
                      refine hK _ _ ?_
                      clear hK K
                      refine wpAnyIn_done (by kernel_rfl) ?_ _
                      gi_wp2
                      rw [HAn.out] at HKn
                      go_roundw
                      case rel => exact ⟨i + 1, by omega, by go_num, HOn, HKn, HLn⟩
                      case measure => simp [intOf]; omega
                    · go_simp
                      refine hK _ _ ?_
                      clear hK K
                      refine wpAnyIn_ready (rs := [0]) (by kernel_rfl) (by simp) ?_
                      refine AllReadyIn.cons rfl (fun K hK => ?_) AllReadyIn.nil
                      go_simp
                      refine hK _ _ ?_
                      clear hK K
                      refine wpAnyIn_ready (rs := [5]) (by kernel_rfl) (by simp) ?_
                      refine AllReadyIn.cons rfl (fun K hK => ?_) AllReadyIn.nil
                      rw [if_pos (by rfl)]
                      refine append_round rfl rfl rfl hrun ?_
                      refine hK _ _ ?_
                      clear hK K
                      refine wpAnyIn_ready (rs := [6]) (by kernel_rfl) (by simp) ?_
                      refine AllReadyIn.cons rfl (fun K hK => ?_) AllReadyIn.nil
                      go_simp
                      refine hK _ _ ?_
                      clear hK K
                      refine wpAnyIn_done (by kernel_rfl) ?_ _
                      gi_wp2
                      rw [HAn.out] at HKn
                      go_roundw
                      case rel => exact ⟨i + 1, by omega, by go_num, HOn, HKn, HLn⟩
                      case measure => simp [intOf]; omega
            · have HiL : Hid ((Sg.keys P).take i = Sg.keys P) := Lib.hid (List.take_of_length_le (by unfold Sg.keys; rw [List.length_map, HPl.out]; omega))
              rw [HiL.out] at HKr
              obtain ⟨p1, hp1⟩ : ∃ p1, p1 = pre.length + 1 := ⟨_, rfl⟩
              have hOi := HOr.out
              have x5 := one_cell13 hOi.ib
              have f5 := Lib.frozen_of_heap hOi.ib 0
              have hMB' := HMB.out
              have HO9 := Lib.hid (hOi.count hMB' HbM.out p1)
              have HK9 := Lib.hid (HKr.out.count (.int .i64 (p1 : Int)))
              have HL9 := Lib.hid (HLr.out.set (p := M + 1 + 1) (i := 0) (v := .int .i64 (p1 : Int)) (by omega))
              have HIn : Hid (ExpI w (.slice (some ⟨b1, o1, none⟩) n cp) M b t R ws (pre ++ [x]) (wr.setCell ⟨M + 1 + 1, 0, none⟩ (.int .i64 (p1 : Int)))) := Lib.hid (by
                have hle : (pre ++ [x]).length = p1 := by rw [List.length_append, hp1]; rfl
                refine ⟨by rw [hle]; exact HO9.out, out ++ Sg.keys P, HK9.out, ?_, fun post' hp => ?_⟩
                · have := Hlen.out
                  have h8 : (Sg.keys P).length ≤ 100 := by unfold Sg.keys; rw [List.length_map, HPl.out]; exact Hnn.out
                  rw [List.length_append, hle, hp1]
                  omega
                · have h8 : post' = post := by
                    have h7 := Hx.out
                    rw [hp, List.append_assoc] at h7
                    have h6 := List.append_cancel_left h7
                    simpa using h6
                  rw [h8]
                  exact HN1.out)
              have hkw := wr_len13 hp1 (by have := Hpl.out; omega)
              clear hOi HO9 HK9 HOr HKr HLr hp1
              obtain ⟨kw3, kw4⟩ := hkw
              gi_wp2
              exact ⟨HL9.out.kf, HL9.out.bk, HIn.out⟩
end Go.Proofs.YtlgfmkmpopcciaaDoor
