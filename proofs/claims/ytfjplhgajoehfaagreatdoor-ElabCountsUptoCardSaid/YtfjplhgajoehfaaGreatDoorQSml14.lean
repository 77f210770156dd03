/-
  The law's small: the document's example, in memory.
-/
import Derived.Test.YtfjplhgajoehfaaGreatDoorQSer14
set_option linter.unusedVariables false
set_option linter.unusedSimpArgs false
namespace Go.Proofs.YtfjplhgajoehfaaGreatDoor
open Go.RowKit

def Btw (L U b : Nat) : Prop := L ≤ b ∧ b < U
theorem NodesAt.anyK {w : World} {K K' : Nat → Prop} {v : Value} {l : List El.Nd} (h : NodesAt w K v l) (hK : ∀ b, K b → K' b) : NodesAt w K' v l := h.move (fun _ _ _ _ h => h) hK
theorem arg_one {w : World} {K K' : Nat → Prop} {v : Value} {g : List El.Nd} (h : NodesAt w K v g) (hK : ∀ b, K b → K' b) (p : Nat) (hp : w.heap.size = p) (hn : K' p) (T : TypeId) : ArgsAt (w.alloc (.cells #[v] T)) K' (.slice (some ⟨p, 0, none⟩) 1 1) [g] := by
  subst hp
  have hb := below_alloc w (.cells #[v] T)
  refine ⟨⟨_, _, rfl, Nat.le_refl _⟩, by unfold maxLen; simp, fun _ => ⟨w.heap.size, 0, 1, rfl, hn, RowA.of fun i g' hi => ?_⟩⟩
  match i, hi with
  | 0, hi =>
    simp at hi
    subst hi
    exact ⟨v, mcell (obj_new w _ rfl #[v] T) 0 rfl, (h.mono hb).anyK hK⟩
  | i + 1, hi => simp at hi
theorem arg_two {w : World} {K K' : Nat → Prop} {v v2 : Value} {g g2 : List El.Nd} (h : NodesAt w K v g) (h2 : NodesAt w K v2 g2) (hK : ∀ b, K b → K' b) (p : Nat) (hp : w.heap.size = p) (hn : K' p) (T : TypeId) : ArgsAt (w.alloc (.cells #[v, v2] T)) K' (.slice (some ⟨p, 0, none⟩) 2 2) [g, g2] := by
  subst hp
  have hb := below_alloc w (.cells #[v, v2] T)
  refine ⟨⟨_, _, rfl, Nat.le_refl _⟩, by unfold maxLen; simp, fun _ => ⟨w.heap.size, 0, 2, rfl, hn, RowA.of fun i g' hi => ?_⟩⟩
  match i, hi with
  | 0, hi =>
    simp at hi
    subst hi
    exact ⟨v, mcell (obj_new w _ rfl #[v, v2] T) 0 rfl, (h.mono hb).anyK hK⟩
  | 1, hi =>
    simp at hi
    subst hi
    exact ⟨v2, mcell (obj_new w _ rfl #[v, v2] T) 1 rfl, (h2.mono hb).anyK hK⟩
  | i + 2, hi => simp at hi
theorem node_one {w : World} {K K' : Nat → Prop} {va : Value} {x : List UInt8} {args : List (List El.Nd)} (h : ArgsAt w K va args) (hK : ∀ b, K b → K' b) (p : Nat) (hp : w.heap.size = p) (hn : K' p) (T : TypeId) : NodesAt (w.alloc (.cells #[.bool true, .string (str x), va, .int .i64 0] T)) K' (.slice (some ⟨p, 0, none⟩) 1 1) [.mk true x args 0] := by
  subst hp
  have hb := below_alloc w (.cells #[.bool true, .string (str x), va, .int .i64 0] T)
  have o := obj_new w _ rfl #[.bool true, .string (str x), va, .int .i64 0] T
  refine ⟨⟨_, _, rfl, Nat.le_refl _⟩, by unfold maxLen; simp, fun _ => ⟨w.heap.size, 0, 1, rfl, hn, RowN.of fun i g' hi => ?_⟩⟩
  match i, hi with
  | 0, hi =>
    simp at hi
    subst hi
    unfold NdAt
    exact ⟨va, mcell o 0 rfl, mcell o 1 rfl, mcell o 2 rfl, mcell o 3 rfl, ArgsAt.move (fun b _ => stays_below hb b) hK h⟩
  | i + 1, hi => simp at hi
theorem words_nodes {xs : List (List UInt8)} {B : Nat} {v : Value} {w : World} {K : Nat → Prop} (h : OwnNd B v (xs.map wordR) w) (hK : ∀ b, v.ownBlock = some b → K b) : NodesAt w K v (xs.map fun x => .mk false x [] 0) := by
  refine nodes_of_slc (h.slcK ndC_len hK) ⟨by simp, fun i r n hr hn => ?_⟩
  rw [List.getElem?_map] at hr hn
  cases hx : xs[i]? with
  | none => rw [hx] at hr; cases hr
  | some x =>
    rw [hx] at hr hn
    simp at hr hn
    subst hr hn
    exact word_is w K x
theorem own_down {B B' : Nat} {v : Value} {l : List RNd} {w : World} (h : OwnNd B v l w) (hB : B' ≤ B) : OwnNd B' v l w := by
  refine ⟨h.1, ?_⟩
  rcases h.2 with hn | ⟨g, cap, cur, hv, hb, rest⟩
  · exact .inl hn
  · exact .inr ⟨g, cap, cur, hv, by omega, rest⟩
theorem own_slice {B : Nat} {v : Value} {l : List RNd} {w : World} (n : Nat) (h : OwnNd B v l w) (hln : l.length = n) (hp : 0 < n) : ∃ g cap, v = .slice (some ⟨g, 0, none⟩) n cap ∧ B ≤ g ∧ g < w.heap.size := by
  subst hln
  rcases h.2 with ⟨rfl, hn⟩ | ⟨g, cap, cur, rfl, hb, hg, _⟩
  · omega
  · exact ⟨g, cap, rfl, hb, lt_of_obj hg⟩
set_option maxRecDepth 100000 in
/-- an append to nodes of the call's own: the row stands, or is new -/
theorem wpList_append_nd {w : World} {ops : Array Oper} {rest : List Oper} {o : Oper} {a : Act} {Q : Exit → Act → World → Prop} (hgd : o.guard = none) (s x : Operand)
    (ho : o.op = .call { callee := .builtin .append, args := #[s, x], argTypes := #[22, 22] })
    (B g n cap gx cx : Nat) (rs : List RNd) (r : RNd) (hs : a.eval s = .slice (some ⟨g, 0, none⟩) n cap) (hown : OwnNd B (.slice (some ⟨g, 0, none⟩) n cap) rs w) (hx : a.eval x = .slice (some ⟨gx, 0, none⟩) 1 cx)
    (hsrc : ∀ j u, (ndC r)[j]? = some u → w.cell? ⟨gx, j, none⟩ = some u) (hn : rs.length ≤ 1000) (hbase : B ≤ w.heap.size)
    (h : ∀ g' cap' w', OwnNd B (.slice (some ⟨g', 0, none⟩) (n + 1) cap') (rs ++ [r]) w' → w.grownBy w' (some g) → (g' = g ∨ g' = w.heap.size) → wpList Tryz.prog ops Q rest (a.put o.dst (.slice (some ⟨g', 0, none⟩) (n + 1) cap')) w') : wpList Tryz.prog ops Q (o :: rest) a w := by
  obtain ⟨i0, hi, hz0, hz1, hz2⟩ := info_parts infoNd14
  have hnn : n = rs.length := by
    have h0 := hown
    rcases h0.2 with ⟨e, h2⟩ | ⟨g2, cap2, cur, e, _⟩
    · cases e
    · injection e
  refine wpList_append_lies w hgd s x 22 ho B 89 i0 _ 4 56 Tryz.underlying22 hi hz0 hz1 hz2 rfl (by decide) _ rs.length _ hs hown ⟨gx, 0, none⟩ 1 cx (ndC r) hx rfl (fun j u hj => by rw [add_none, Nat.zero_add]; exact hsrc j u hj) (by have := ndC_cell [r]; simpa using this) (by omega) (by unfold maxLen; omega) (by omega) hbase w.heap.size rfl ?_
  intro g' cap' w' h3 h4 h5 h6
  rw [← hnn] at h3 ⊢
  refine h g' cap' w' ?_ h4 (h5.elim (fun e => .inl (by simp [Value.ownBlock] at e; exact e.symm)) .inr)
  unfold OwnNd OwnR
  rw [List.length_append, List.flatMap_append, List.length_singleton, ← hnn]
  simpa using h3
def tA : List UInt8 := [65]
def edL : El.Nd := .mk true El.tEd [[.mk false [98] [] 0, .mk false [99] [] 0], [.mk true tA [[.mk false [100] [] 0]] 0]] 0
def textL : List El.Nd := [.mk false [97] [] 0, edL, .mk false [101] [] 0]
def smallL : List El.Nd := [.mk true El.tText [[.mk true El.tChunk [[.mk true El.tP [textL] 0]] 0]] 0]
def SmallPost (w : World) (e : Ending) (w' : World) : Prop := ∃ v, e = .returned v ∧ Below w.heap.size w w' ∧ NodesAt w' (fun _ => True) v smallL
set_option maxHeartbeats 4000000 in
set_option maxRecDepth 100000 in
theorem small_any (w : World) : Calls Tryz.prog 26 #[] w (SmallPost w) := by
  have tx1 := fun (w : World) (x : List UInt8) => slc_new txC_len w w.heap.size rfl [x] 9 (by simp) #[.string (str x)] rfl
  have tx2 := fun (w : World) (x y : List UInt8) => slc_new txC_len w w.heap.size rfl [x, y] 9 (by simp) #[.string (str x), .string (str y)] rfl
  have HT1 := Lib.hid tx1
  have HT2 := Lib.hid tx2
  clear tx1 tx2
  have hb0 := Lib.hid (below_alloc w (.cells #[.string (str [97])] 9))
  have C1 := Lib.hid (words14_any _ [[97]] _ (HT1.out w [97]) (by simp))
  go_enter Tryz.func26, Tryz.ntmps26
  go_wp2_with fail
  refine C1.out.mono ?_
  rintro e w1 ⟨v, rfl, hb, ho⟩
  obtain ⟨g1, c1, rfl, hg0, hg1⟩ := own_slice 1 ho rfl (by omega)
  have HB1 := Lib.hid (below_step hb0.out hb)
  have HO1 := Lib.hid (own_down ho (hb0.out.size))
  have HG1 := Lib.hid hg1
  clear hb ho hg0 hg1 C1 hb0
  have bx := Lib.hid (below_alloc w1 (.cells #[.string (str [98]), .string (str [99])] 9))
  have C2 := Lib.hid (words14_any _ [[98], [99]] _ (HT2.out w1 [98] [99]) (by simp))
  go_wp2_with fail
  refine C2.out.mono ?_
  rintro e w2 ⟨v, rfl, hb, ho⟩
  obtain ⟨g2, c2, rfl, hg0, hg1⟩ := own_slice 2 ho rfl (by omega)
  have N2 := Lib.hid (words_nodes (xs := [[98], [99]]) (K := Btw w1.heap.size w2.heap.size) ho (fun b hb9 => by
    have e9 : g2 = b := by simpa [Value.ownBlock] using hb9
    have := bx.out.size
    exact ⟨by omega, by omega⟩))
  have HB2 := Lib.hid (below_step bx.out hb)
  clear hb ho hg0 hg1 C2 bx
  have bx := Lib.hid (below_alloc w2 (.cells #[.string (str [100])] 9))
  have C3 := Lib.hid (words14_any _ [[100]] _ (HT1.out w2 [100]) (by simp))
  go_wp2_with fail
  refine C3.out.mono ?_
  rintro e w3 ⟨v, rfl, hb, ho⟩
  obtain ⟨g3, c3, rfl, hg0, hg1⟩ := own_slice 1 ho rfl (by omega)
  have HB3 := Lib.hid (below_step bx.out hb)
  have N3 := Lib.hid (words_nodes (xs := [[100]]) (K := Btw w1.heap.size w3.heap.size) ho (fun b hb9 => by
    have e9 : g3 = b := by simpa [Value.ownBlock] using hb9
    have := bx.out.size
    have := HB2.out.size
    exact ⟨by omega, by omega⟩))
  clear hb ho hg0 hg1 C3 bx
  have A9 := Lib.hid (arg_one (K' := Btw w1.heap.size (w3.heap.size + 1)) N3.out (fun b hb => ⟨hb.1, Nat.lt_succ_of_lt hb.2⟩) w3.heap.size rfl ⟨Nat.le_trans HB2.out.size HB3.out.size, Nat.lt_succ_self _⟩ 22)
  have bx := Lib.hid (below_alloc w3 (.cells #[.slice (some ⟨g3, 0, none⟩) 1 c3] 22))
  have C4 := Lib.hid (command14_any tA (some ⟨w3.heap.size, 0, none⟩) 1 1 (w3.alloc (.cells #[.slice (some ⟨g3, 0, none⟩) 1 c3] 22)))
  have by9 := Lib.hid (below_alloc w3 (.cells #[.slice (some ⟨g3, 0, none⟩) 1 c3] 22))
  go_wp2_with fail
  refine C4.out.mono ?_
  rintro e w4 ⟨rfl, hb⟩
  have HB4 := Lib.hid (below_step by9.out hb)
  have hs4 : w3.heap.size + 1 ≤ w4.heap.size := by have := hb.size; simp only [World.size_alloc] at this; exact this
  have HS4 := Lib.hid hs4
  have h134 := Nat.le_trans HB2.out.size HB3.out.size
  have H134 := Lib.hid h134
  have N11 := Lib.hid (node_one (K' := Btw w1.heap.size (w4.heap.size + 1)) (x := tA) (A9.out.move (fun b _ => stays_below hb b) (fun _ h => h)) (fun b hb => ⟨hb.1, by have := hb.2; omega⟩) w4.heap.size rfl ⟨by omega, Nat.lt_succ_self _⟩ 89)
  have bz := below_alloc w4 (.cells #[.bool true, .string (str tA), .slice (some ⟨w3.heap.size, 0, none⟩) 1 1, .int .i64 0] 89)
  have HBZ := Lib.hid bz
  have N2b := N2.out.mono (below_step HB3.out (below_step HB4.out bz))
  have A12 := Lib.hid (arg_two (K' := Btw w1.heap.size (w4.heap.size + 2)) (N2b.anyK (K' := Btw w1.heap.size (w4.heap.size + 1)) (fun b hb => ⟨hb.1, by have := hb.2; have := HB3.out.size; omega⟩)) N11.out (fun b hb => ⟨hb.1, by have := hb.2; omega⟩) (w4.heap.size + 1) (by simp) ⟨by omega, by omega⟩ 22)
  have C5 := Lib.hid (command14_any El.tEd (some ⟨w4.heap.size + 1, 0, none⟩) 2 2 ((w4.alloc (.cells #[.bool true, .string (str tA), .slice (some ⟨w3.heap.size, 0, none⟩) 1 1, .int .i64 0] 89)).alloc (.cells #[.slice (some ⟨g2, 0, none⟩) 2 c2, .slice (some ⟨w4.heap.size, 0, none⟩) 1 1] 22)))
  have bv := Lib.hid (below_alloc (w4.alloc (.cells #[.bool true, .string (str tA), .slice (some ⟨w3.heap.size, 0, none⟩) 1 1, .int .i64 0] 89)) (.cells #[.slice (some ⟨g2, 0, none⟩) 2 c2, .slice (some ⟨w4.heap.size, 0, none⟩) 1 1] 22))
  clear hb hs4 h134 bz N2b C4 by9 A9 N3
  go_wp2_with fail
  refine C5.out.mono ?_
  rintro e w5 ⟨rfl, hb⟩
  have hs5 : w4.heap.size + 2 ≤ w5.heap.size := by have := hb.size; simp only [World.size_alloc] at this; exact this
  have HB5 := Lib.hid (below_step HBZ.out (below_step bv.out hb))
  have bz := below_alloc w5 (.cells #[.bool true, .string (str El.tEd), .slice (some ⟨w4.heap.size + 1, 0, none⟩) 2 2, .int .i64 0] 89)
  obtain ⟨W5, hW5⟩ : ∃ W5, W5 = w5.alloc (.cells #[.bool true, .string (str El.tEd), .slice (some ⟨w4.heap.size + 1, 0, none⟩) 2 2, .int .i64 0] 89) := ⟨_, rfl⟩
  have o5 := obj_new w5 _ rfl #[.bool true, .string (str El.tEd), .slice (some ⟨w4.heap.size + 1, 0, none⟩) 2 2, .int .i64 0] 89
  have z5 : W5.heap.size = w5.heap.size + 1 := by rw [hW5]; simp
  rw [← hW5] at bz o5
  have AE := Lib.hid (A12.out.move (K' := Btw w1.heap.size W5.heap.size) (fun b _ => stays_below (below_step hb bz) b) (fun b hb => ⟨hb.1, by have := hb.2; omega⟩))
  have HO5 := Lib.hid (OwnR.mono HO1.out (below_step (below_step HB2.out HB3.out) (below_step HB4.out (below_step HB5.out bz))))
  have HL5 := Lib.hid (show w1.heap.size ≤ W5.heap.size by have := H134.out; have := HS4.out; omega)
  have HBW5 := Lib.hid (below_step (below_step HB1.out (below_step HB2.out HB3.out)) (below_step HB4.out (below_step HB5.out bz)))
  have HC5 : Hid (∀ j u, (ndC ⟨true, El.tEd, ⟨some ⟨w4.heap.size + 1, 0, none⟩, 2, 2⟩, 0⟩)[j]? = some u → W5.cell? ⟨w5.heap.size, j, none⟩ = some u) := Lib.hid (fun j u hj => mcell o5 j (by rw [← Array.getElem?_toList]; exact hj))
  clear hb hs5 bz z5 o5 C5 bv A12 HBZ N11 HB2 HB3 HB4 HB5 HS4 H134 N2 HB1 HO1
  go_wp2_with (first
    | (at_builtin; rw [← hW5]; refine wpList_append_nd rfl _ _ rfl w.heap.size g1 1 c1 w5.heap.size 1 [wordR [97]] ⟨true, El.tEd, ⟨some ⟨w4.heap.size + 1, 0, none⟩, 2, 2⟩, 0⟩ rfl HO5.out rfl HC5.out (by simp) HBW5.out.size ?_; intro g6 c6 w6 ho6 hg6 hn6; have HO6 := Lib.hid ho6; have HN6 := Lib.hid hn6; have HG6 := Lib.hid hg6; clear ho6 hg6 hn6)
    | fail)
  have bx := below_alloc w6 (.cells #[.string (str [101])] 9)
  have C7 := Lib.hid (words14_any _ [[101]] _ (HT1.out w6 [101]) (by simp))
  have HX6 := Lib.hid bx
  clear bx hW5
  refine C7.out.mono ?_
  rintro e w7 ⟨v, rfl, hb, ho⟩
  obtain ⟨g7, c7, rfl, hg0, hg1⟩ := own_slice 1 ho rfl (by omega)
  have b67 := below_step HX6.out hb
  have HB67 := Lib.hid b67
  have HC7 : Hid (∀ j u, (ndC (wordR [101]))[j]? = some u → w7.cell? ⟨g7, j, none⟩ = some u) := Lib.hid (fun j u hj => by
    obtain ⟨_, _, h3⟩ := OwnR.at ho ndC_len
    obtain ⟨b, o, cap, e, hr⟩ := h3 (by simp)
    injection e with e1 e2 e3
    injection e1 with e1
    injection e1 with e4 e5 e6
    subst e4 e5
    have := hr 0 (wordR [101]) rfl j u hj
    simpa using this)
  have HW6 := Lib.hid (HBW5.out.grown HG6.out HBW5.out.size (fun j hj => by
    cases hj
    exact (World.ownsRow.lt HO5.out _ rfl).1))
  have HW7 := Lib.hid (HW6.out.trans (b67.mono HW6.out.size))
  have HO7 := Lib.hid (OwnR.mono HO6.out b67)
  have AE6 := Lib.hid (AE.out.move (K' := Btw w1.heap.size W5.heap.size) (fun b hb => stays_block (HG6.out.block b hb.2 (fun e => by
    have e9 := Option.some.inj e
    have := hb.1
    have := HG1.out
    omega))) (fun _ h => h))
  have AE7 := Lib.hid (AE6.out.move (K' := Btw w1.heap.size W5.heap.size) (fun b _ => stays_below b67 b) (fun _ h => h))
  clear hb ho hg0 hg1 C7 b67 AE AE6
  go_wp2_with (first
    | (at_builtin; refine wpList_append_nd rfl _ _ rfl w.heap.size g6 2 c6 g7 c7 [wordR [97], ⟨true, El.tEd, ⟨some ⟨w4.heap.size + 1, 0, none⟩, 2, 2⟩, 0⟩] (wordR [101]) rfl HO7.out rfl HC7.out (by simp) HW7.out.size ?_; intro g8 c8 w8 ho8 hg8 hn8; have HO8 := Lib.hid ho8; have HN8 := Lib.hid hn8; have HG8 := Lib.hid hg8; clear ho8 hg8 hn8)
    | fail)
  have AE8 := AE7.out.move (K' := fun _ => True) (fun b hb => stays_block (HG8.out.block b (by have := hb.2; have := HG6.out.size; have := HB67.out.size; omega) (fun e => by
    have e9 := Option.some.inj e
    have := hb.1
    have := hb.2
    have := HG1.out
    have := HN6.out
    omega))) (fun _ _ => trivial)
  have HW8 := Lib.hid (HW7.out.grown HG8.out HW7.out.size (fun j hj => by
    cases hj
    exact (World.ownsRow.lt HO7.out _ rfl).1))
  have N8 := Lib.hid (nodes_of_slc (l := textL) (HO8.out.slcK (K := fun _ => True) ndC_len (fun _ _ => trivial)) ⟨rfl, fun i r n hr hn => by
    match i, hr, hn with
    | 0, hr, hn =>
      cases Option.some.inj hr
      cases Option.some.inj hn
      exact word_is _ _ _
    | 1, hr, hn =>
      cases Option.some.inj hr
      cases Option.some.inj hn
      exact ⟨rfl, AE8⟩
    | 2, hr, hn =>
      cases Option.some.inj hr
      cases Option.some.inj hn
      exact word_is _ _ _
    | k + 3, hr, hn => simp at hr⟩)
  clear AE8
  have A21 := Lib.hid (arg_one (K' := fun _ => True) N8.out (fun _ _ => trivial) w8.heap.size rfl trivial 22)
  have b21 := Lib.hid (below_alloc w8 (.cells #[.slice (some ⟨g8, 0, none⟩) 3 c8] 22))
  have C9 := Lib.hid (command14_any El.tP (some ⟨w8.heap.size, 0, none⟩) 1 1 (w8.alloc (.cells #[.slice (some ⟨g8, 0, none⟩) 3 c8] 22)))
  clear AE7 HO8 HN8 HG8 HC7 HO7 HW7 HN6 HG6 HO6 HB67
  refine C9.out.mono ?_
  rintro e w9 ⟨rfl, hb⟩
  have HB9 := Lib.hid (below_step b21.out hb)
  have N23 := Lib.hid (node_one (K' := fun _ => True) (x := El.tP) (A21.out.move (fun b _ => stays_below hb b) (fun _ h => h)) (fun _ _ => trivial) w9.heap.size rfl trivial 89)
  have b23 := below_alloc w9 (.cells #[.bool true, .string (str El.tP), .slice (some ⟨w8.heap.size, 0, none⟩) 1 1, .int .i64 0] 89)
  have A24 := Lib.hid (arg_one (K' := fun _ => True) N23.out (fun _ _ => trivial) (w9.heap.size + 1) (by simp) trivial 22)
  have B24 := Lib.hid (below_step b23 (below_alloc _ (.cells #[.slice (some ⟨w9.heap.size, 0, none⟩) 1 1] 22)))
  have C10 := Lib.hid (command14_any El.tChunk (some ⟨w9.heap.size + 1, 0, none⟩) 1 1 ((w9.alloc (.cells #[.bool true, .string (str El.tP), .slice (some ⟨w8.heap.size, 0, none⟩) 1 1, .int .i64 0] 89)).alloc (.cells #[.slice (some ⟨w9.heap.size, 0, none⟩) 1 1] 22)))
  clear hb b23 C9 b21 A21 N23
  go_wp2_with fail
  refine C10.out.mono ?_
  rintro e w10 ⟨rfl, hb⟩
  have HB10 := Lib.hid (below_step B24.out hb)
  have N26 := Lib.hid (node_one (K' := fun _ => True) (x := El.tChunk) (A24.out.move (fun b _ => stays_below hb b) (fun _ h => h)) (fun _ _ => trivial) w10.heap.size rfl trivial 89)
  have b26 := below_alloc w10 (.cells #[.bool true, .string (str El.tChunk), .slice (some ⟨w9.heap.size + 1, 0, none⟩) 1 1, .int .i64 0] 89)
  have A27 := Lib.hid (arg_one (K' := fun _ => True) N26.out (fun _ _ => trivial) (w10.heap.size + 1) (by simp) trivial 22)
  have B27 := Lib.hid (below_step b26 (below_alloc _ (.cells #[.slice (some ⟨w10.heap.size, 0, none⟩) 1 1] 22)))
  have C11 := Lib.hid (command14_any El.tText (some ⟨w10.heap.size + 1, 0, none⟩) 1 1 ((w10.alloc (.cells #[.bool true, .string (str El.tChunk), .slice (some ⟨w9.heap.size + 1, 0, none⟩) 1 1, .int .i64 0] 89)).alloc (.cells #[.slice (some ⟨w10.heap.size, 0, none⟩) 1 1] 22)))
  clear hb b26 C10 B24 A24 N26
  go_wp2_with fail
  refine C11.out.mono ?_
  rintro e w11 ⟨rfl, hb⟩
  have HB11 := Lib.hid (below_step B27.out hb)
  have N29 := Lib.hid (node_one (K' := fun _ => True) (x := El.tText) (A27.out.move (fun b _ => stays_below hb b) (fun _ h => h)) (fun _ _ => trivial) w11.heap.size rfl trivial 89)
  have B29 := Lib.hid (below_alloc w11 (.cells #[.bool true, .string (str El.tText), .slice (some ⟨w10.heap.size + 1, 0, none⟩) 1 1, .int .i64 0] 89))
  clear hb C11 B27 A27
  go_wp2_with fail
  go_ret
  exact ⟨_, rfl, below_step (below_step (below_step (below_step HW8.out HB9.out) HB10.out) HB11.out) B29.out, N29.out⟩
end Go.Proofs.YtfjplhgajoehfaaGreatDoor
