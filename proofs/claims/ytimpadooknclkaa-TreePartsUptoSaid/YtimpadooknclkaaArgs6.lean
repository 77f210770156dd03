/-
  The landed 'arguments': those of all nodes of a level, each list once.
-/
import Derived.Test.YtimpadooknclkaaPlace6
import Derived.Test.YtimpadooknclkaaRefNodes6
set_option linter.unusedVariables false
set_option linter.unusedSimpArgs false
namespace Go.Proofs.Ytimpadooknclkaa
open Go.RowKit

def ndArgs : Nd → List (List Nd)
  | .mk _ _ args _ => args
def nodesArgs (l : List Nd) : List (List Nd) := l.flatMap ndArgs
def argsOf (L : List (List Nd)) : List (List Nd) := L.flatMap nodesArgs
theorem nodesArgs_size (l : List Nd) : Tr.sizeA (nodesArgs l) ≤ Tr.sizeL l := by
  induction l with
  | nil => simp [nodesArgs, Tr.sizeA, Tr.sizeL]
  | cons n r ih =>
    obtain ⟨c, x, args, a⟩ := n
    have e : nodesArgs (.mk c x args a :: r) = args ++ nodesArgs r := rfl
    rw [e, Tr.sizeA_append]
    simp only [Tr.sizeL, Tr.sizeN]
    omega
theorem argsOf_size (L : List (List Nd)) : Tr.sizeA (argsOf L) ≤ Tr.sizeA L := by
  induction L with
  | nil => simp [argsOf, Tr.sizeA]
  | cons g r ih =>
    have e : argsOf (g :: r) = nodesArgs g ++ argsOf r := rfl
    have := nodesArgs_size g
    rw [e, Tr.sizeA_append]
    simp only [Tr.sizeA]
    omega
theorem argsOf_take {L : List (List Nd)} {i : Nat} {g : List Nd} (h : L[i]? = some g) : argsOf (L.take (i + 1)) = argsOf (L.take i) ++ nodesArgs g := by
  rw [List.take_add_one, h]; simp [argsOf]
theorem nodesArgs_take {l : List Nd} {i : Nat} {n : Nd} (h : l[i]? = some n) : nodesArgs (l.take (i + 1)) = nodesArgs (l.take i) ++ ndArgs n := by
  rw [List.take_add_one, h]; simp [nodesArgs]
theorem take_snoc {α : Type} {l : List α} {i : Nat} {x : α} (h : l[i]? = some x) : l.take (i + 1) = l.take i ++ [x] := by
  rw [List.take_add_one, h]; rfl
theorem argsOf_pre (L : List (List Nd)) (i : Nat) : (argsOf (L.take i)).length ≤ (argsOf L).length := by
  have e : argsOf L = argsOf (L.take i) ++ argsOf (L.drop i) := by rw [argsOf, argsOf, argsOf, ← List.flatMap_append, List.take_append_drop]
  rw [e, List.length_append]; omega
theorem sizeA_sub {a b : List (List Nd)} (h : a.Sublist b) : Tr.sizeA a ≤ Tr.sizeA b := by
  induction h with
  | slnil => exact Nat.le_refl _
  | cons x h ih => simp only [Tr.sizeA]; omega
  | cons_cons x h ih => simp only [Tr.sizeA]; omega

theorem plOk_of {w : World} {K : Nat → Prop} {v : Value} {l : List Nd} (h : NodesAt w K v l) (hK : ∀ b, K b → Clear w b) : PlOk w (plOf v) := by
  obtain ⟨⟨p, c, rfl, _⟩, _, hr⟩ := h
  intro a ha
  have e' : (if l.length = 0 then ((none, 0) : Pl) else (p, l.length)).1 = some a := ha
  by_cases h0 : l.length = 0
  · rw [if_pos h0] at e'; cases e'
  · rw [if_neg h0] at e'
    obtain ⟨b, o, d, e, hb, _⟩ := hr (by omega)
    injection e with e1 _ _
    have e2 : p = some a := e'
    rw [e1] at e2
    injection e2 with e2
    subst e2
    exact hK b hb
/-- what has been met: the lists Ms are those of P, each at least once; the map has the places of them -/
structure Acc (B mb : Nat) (K : Nat → Prop) (w : World) (av : Value) (P Ms : List (List Nd)) (ks : List Pl) : Prop where
  own : OwnA B K av Ms w
  set : SetOf w mb ks
  sub : Ms.Sublist P
  all : ∀ x ∈ P, x ∈ Ms
  keys : ∀ k ∈ ks, ∃ v x, x ∈ Ms ∧ NodesAt w K v x ∧ plOf v = k
theorem Acc.mono {B mb : Nat} {K : Nat → Prop} {w w' : World} {av : Value} {P Ms : List (List Nd)} {ks : List Pl} (h : Acc B mb K w av P Ms ks) (hb : Below w.heap.size w w') : Acc B mb K w' av P Ms ks :=
  ⟨h.own.mono hb, h.set.mono hb, h.sub, h.all, fun k hk => by
    obtain ⟨v, x, h1, h2, h3⟩ := h.keys k hk
    exact ⟨v, x, h1, h2.mono hb, h3⟩⟩
theorem Acc.ok {B mb : Nat} {K : Nat → Prop} {w : World} {av : Value} {P Ms : List (List Nd)} {ks : List Pl} (h : Acc B mb K w av P Ms ks) (hK : ∀ b, K b → Clear w b) : ∀ k ∈ ks, PlOk w k := fun k hk => by
  obtain ⟨v, x, _, h2, rfl⟩ := h.keys k hk
  exact plOk_of h2 hK
/-- a list that was met -/
theorem Acc.old {B mb : Nat} {K : Nat → Prop} {w : World} {av : Value} {P Ms : List (List Nd)} {ks : List Pl} (h : Acc B mb K w av P Ms ks) {vg : Value} {g : List Nd} (hg : NodesAt w K vg g) (hin : plOf vg ∈ ks) : Acc B mb K w av (P ++ [g]) Ms ks := by
  obtain ⟨v, x, h1, h2, h3⟩ := h.keys _ hin
  have e := place_det h2 hg h3
  subst e
  refine ⟨h.own, h.set, h.sub.trans (List.sublist_append_left _ _), fun y hy => ?_, h.keys⟩
  rcases List.mem_append.1 hy with hy | hy
  · exact h.all y hy
  · rw [List.mem_singleton.1 hy]; exact h1
/-- a new one -/
theorem Acc.new {B mb : Nat} {K : Nat → Prop} {w w1 w2 w9 : World} {av : Value} {P Ms : List (List Nd)} {ks : List Pl} (h : Acc B mb K w av P Ms ks) (hmb : mb < B) (hKB : ∀ b, K b → b ≠ mb) {vg : Value} {g : List Nd} (hg : NodesAt w K vg g)
    (hs : SetOf w1 mb (ks ++ [plOf vg])) (h1 : w.grownBy w1 (some mb)) (h2 : Below w1.heap.size w1 w2) {vs : List Value} (hvs : ArgCells w K Ms vs) {g9 cap9 : Nat}
    (hr : w9.ownsRow B 23 1 (.slice (some ⟨g9, 0, none⟩) (Ms.length + 1) cap9) (Ms.length + 1) (vs ++ [vg])) (hgr : w2.grownBy w9 av.ownBlock) (hat : av.ownBlock = some g9 ∨ w2.heap.size ≤ g9) :
    Acc B mb K w9 (.slice (some ⟨g9, 0, none⟩) (Ms.length + 1) cap9) (P ++ [g]) (Ms ++ [g]) (ks ++ [plOf vg]) := by
  have hAl : ∀ k, av.ownBlock = some k → B ≤ k ∧ k < w.heap.size := by
    obtain ⟨vs0, r0, _⟩ := h.own.row
    exact World.ownsRow.lt r0
  have hst : ∀ b, K b → Stays w w2 b := fun b hb o v hv => stays_below h2 b o v (stays_block (h1.block b (h.own.lt b hb) (fun e => hKB b hb (Option.some.inj e))) o v hv)
  have hl2 : ∀ b, K b → b < w2.heap.size := fun b hb => Nat.lt_of_lt_of_le (h.own.lt b hb) (Nat.le_trans h1.size h2.size)
  have hmb2 : mb < w1.heap.size := hs.lt
  refine ⟨ownA_push (hvs.move hst (fun _ h => h)) (hg.move hst (fun _ h => h)) h.own.ne hl2 hr hgr hat, ?_, List.Sublist.append h.sub (List.Sublist.refl _), fun y hy => ?_, fun k hk => ?_⟩
  · refine (hs.mono h2).same (hgr.block mb (Nat.lt_of_lt_of_le hmb2 h2.size) (fun e => ?_))
    have := (hAl mb e.symm).1
    omega
  · rcases List.mem_append.1 hy with hy | hy
    · exact List.mem_append_left _ (h.all y hy)
    · exact List.mem_append_right _ hy
  · have hst9 : ∀ b, K b → Stays w w9 b := fun b hb o v hv => stays_block (hgr.block b (hl2 b hb) (fun e => h.own.ne b hb e.symm)) o v (hst b hb o v hv)
    rcases List.mem_append.1 hk with hk | hk
    · obtain ⟨v, x, e1, e2, e3⟩ := h.keys k hk
      exact ⟨v, x, List.mem_append_left _ e1, e2.move hst9 (fun _ h => h), e3⟩
    · exact ⟨vg, g, List.mem_append_right _ (List.mem_singleton.2 rfl), hg.move hst9 (fun _ h => h), (List.mem_singleton.1 hk).symm⟩
theorem OwnA.base6 {B B' : Nat} {K : Nat → Prop} {v : Value} {l : List (List Nd)} {w : World} (h : OwnA B K v l w) (hB : B' ≤ B) : OwnA B' K v l w := by
  obtain ⟨cs, h1, h2⟩ := h.row
  exact ⟨⟨cs, Go.Joins.ownsRow_le h1 hB, h2⟩, h.ne, h.lt⟩
/-- what 'arguments' answers -/
def ArgsPost (K : Nat → Prop) (Ls : List (List Nd)) (w : World) (e : Ending) (w' : World) : Prop :=
  ∃ v Ms, e = .returned v ∧ OwnA w.heap.size K v Ms w' ∧ Ms.Sublist (argsOf Ls) ∧ (∀ x ∈ argsOf Ls, x ∈ Ms) ∧ Below w.heap.size w w'

set_option maxHeartbeats 8000000 in
set_option maxRecDepth 100000 in
theorem arguments_any (v : Value) (Ls : List (List Nd)) (K : Nat → Prop) (hn : Tr.sizeA Ls ≤ 4294967296) (w : World) (h : ArgsAt w K v Ls) (hlt : ∀ b, K b → b < w.heap.size) (hcl : ∀ b, K b → Clear w b) :
    Calls Try.prog 40 #[v] w (ArgsPost K Ls w) := by
  have hmm := @run_makeMap Try.prog
  have hin := h
  obtain ⟨⟨p1, c1, rfl, hc1⟩, m1, _⟩ := hin
  have hz : Ls.length ≤ 9223372036854775807 := by unfold maxLen at m1; omega
  have HL := Lib.hid h
  have HKlt := Lib.hid hlt
  have HCl := Lib.hid hcl
  have HSz : Hid ((argsOf Ls).length ≤ 4294967296) := Lib.hid (by have h1 := Tr.lenA_le (argsOf Ls); have h2 := argsOf_size Ls; omega)
  have HB0 : Hid (Below w.heap.size w (w.alloc (.map #[] 0))) := Lib.hid (below_alloc _ _)
  have HA0 : Hid (Acc (w.heap.size + 1) w.heap.size K (w.alloc (.map #[] 0)) (.slice none 0 0) [] [] []) := Lib.hid ⟨⟨⟨[], World.ownsRow_nil _ _ _ _, rfl⟩, (fun b _ e => nomatch e), (fun b hb => by rw [World.size_alloc]; have := hlt b hb; omega)⟩, setOf_new w, List.Sublist.refl _, fun x hx => (by cases hx), fun k hk => (by cases hk)⟩
  clear h hlt hcl m1
  go_enter Try.func40, Try.ntmps40
  go_wp2_with fail
  go_loopw [3, 17] (fun av iv wr => ∃ (i : Nat) (Ms : List (List Nd)) (ks : List Pl), i ≤ Ls.length ∧ iv = .int .i64 i ∧ Hid (Acc (w.heap.size + 1) w.heap.size K wr av (argsOf (Ls.take i)) Ms ks) ∧ Hid (Below w.heap.size w wr)) (fun _ iv _ => Ls.length - (intOf iv).toNat)
  case atStart => exact ⟨0, [], [], Nat.zero_le _, rfl, HA0, HB0⟩
  case round =>
    obtain ⟨i, Ms, ks, hi, rfl, HA, HB⟩ := hrel
    obtain ⟨wo, hwo⟩ : ∃ wo, wo = wr := ⟨_, rfl⟩
    subst hwo
    clear HA0 HB0
    by_cases hil : i < Ls.length
    · obtain ⟨b1, o1, d1, e1, _, q1⟩ := HL.out.2.2 (by omega)
      obtain ⟨rfl, rfl⟩ : p1 = some ⟨b1, o1, none⟩ ∧ c1 = d1 := by injection e1 with a1 a2 a3; exact ⟨a1, a3⟩
      obtain ⟨l, hl⟩ : ∃ l, Ls[i]? = some l := ⟨_, List.getElem?_eq_getElem hil⟩
      obtain ⟨vl, z0, n1⟩ := q1.at hl
      have z1 := cell_below HB.out z0
      have n2 := n1
      obtain ⟨⟨p2, c2, rfl, hc2⟩, m2, _⟩ := n2
      have HN1 : Hid (NodesAt w K (.slice p2 l.length c2) l) := Lib.hid n1
      have HTi := Lib.hid (argsOf_take hl)
      have k0 : (0 : Int) ≤ (i : Int) := by omega
      have kl : (i : Int) < (Ls.length : Int) := by omega
      have hz2 : l.length ≤ 9223372036854775807 := by unfold maxLen at m2; omega
      clear q1 e1 hl n1 m2 z0
      go_wp2_with fail
      go_loopw [3, 23] (fun av jv wr => ∃ (j : Nat) (Ms : List (List Nd)) (ks : List Pl), j ≤ l.length ∧ jv = .int .i64 j ∧ Hid (Acc (w.heap.size + 1) w.heap.size K wr av (argsOf (Ls.take i) ++ nodesArgs (l.take j)) Ms ks) ∧ Hid (Below w.heap.size w wr)) (fun _ jv _ => l.length - (intOf jv).toNat)
      case atStart => exact ⟨0, Ms, ks, Nat.zero_le _, rfl, Lib.hid (by have h := HA.out; simpa [nodesArgs] using h), HB⟩
      case round =>
        obtain ⟨j, Ms2, ks2, hj, rfl, HA2, HB2⟩ := hrel
        obtain ⟨wm, hwm⟩ : ∃ wm, wm = wr := ⟨_, rfl⟩
        subst hwm
        by_cases hjl : j < l.length
        · obtain ⟨b3, o3, d3, e3, _, q3⟩ := HN1.out.2.2 (by omega)
          obtain ⟨rfl, rfl⟩ : p2 = some ⟨b3, o3, none⟩ ∧ c2 = d3 := by injection e3 with a1 a2 a3; exact ⟨a1, a3⟩
          obtain ⟨⟨c, x, args, a⟩, hs⟩ : ∃ s, l[j]? = some s := ⟨_, List.getElem?_eq_getElem hjl⟩
          have y1 := q3.at hs
          unfold NdAt at y1
          obtain ⟨va, y0, y1, y2, y3, hA⟩ := y1
          have y10 := cell_below HB2.out y0
          have y11 := cell_below HB2.out y1
          have y12 := cell_below HB2.out y2
          have y13 := cell_below HB2.out y3
          have HA4 : Hid (ArgsAt w K va args) := Lib.hid hA
          obtain ⟨⟨pa, ca, rfl, hca⟩, ma, _⟩ := hA
          have j0 : (0 : Int) ≤ (j : Int) := by omega
          have jl : (j : Int) < (l.length : Int) := by omega
          have hz3 : args.length ≤ 9223372036854775807 := by unfold maxLen at ma; omega
          have HTj := Lib.hid (nodesArgs_take hs)
          obtain ⟨W1, hW1⟩ : ∃ W1, W1 = wm.alloc (.cells #[.bool c, .string (str x), .slice pa args.length ca, .int .i64 a] 43) := ⟨_, rfl⟩
          have hb1 : Below wm.heap.size wm W1 := by rw [hW1]; exact below_alloc _ _
          have HB3 := Lib.hid (HB2.out.trans (hb1.mono HB2.out.size))
          have HAc := Lib.hid (HA2.out.mono hb1)
          clear q3 e3 hs hb1 ma y0 y1 y2 y3
          go_wp2_with fail
          rw [← hW1]
          clear hW1 y10 y11 y12 y13
          go_loopw [3, 30] (fun av kv wr => ∃ (k : Nat) (Ms : List (List Nd)) (ks : List Pl), k ≤ args.length ∧ kv = .int .i64 k ∧ Hid (Acc (w.heap.size + 1) w.heap.size K wr av (argsOf (Ls.take i) ++ nodesArgs (l.take j) ++ args.take k) Ms ks) ∧ Hid (Below w.heap.size w wr)) (fun _ kv _ => args.length - (intOf kv).toNat)
          case atStart => exact ⟨0, Ms2, ks2, Nat.zero_le _, rfl, Lib.hid (by have h := HAc.out; simpa using h), HB3⟩
          case round =>
            obtain ⟨k, Ms3, ks3, hk, rfl, HA5, HB5⟩ := hrel
            by_cases hkl : k < args.length
            · obtain ⟨b4, o4, d4, e4, _, q4⟩ := HA4.out.2.2 (by omega)
              obtain ⟨rfl, rfl⟩ : pa = some ⟨b4, o4, none⟩ ∧ ca = d4 := by injection e4 with a1 a2 a3; exact ⟨a1, a3⟩
              obtain ⟨g, hg⟩ : ∃ g, args[k]? = some g := ⟨_, List.getElem?_eq_getElem hkl⟩
              obtain ⟨vg, x0, ng⟩ := q4.at hg
              obtain ⟨⟨pg, cg, rfl, hcg⟩, _, _⟩ := (⟨ng.1, ng.2⟩ : NodesAt w K vg g)
              have x1 := cell_below HB5.out x0
              have k0' : (0 : Int) ≤ (k : Int) := by omega
              have kl' : (k : Int) < (args.length : Int) := by omega
              have HG := Lib.hid (ng.move (w' := wr) (fun b _ => stays_below HB5.out b) (fun _ h => h))
              have HTk := Lib.hid (take_snoc hg)
              have HC5 : Hid (∀ b, K b → Clear wr b) := Lib.hid (fun b hb => (HCl.out b hb).same (HB5.out.block b (HKlt.out b hb)))
              have cP := Lib.hid (place_any (.slice pg g.length cg) g K wr HG.out)
              obtain ⟨pa', pn, hpl⟩ : ∃ pa' pn, plOf (.slice pg g.length cg) = (pa', pn) := ⟨_, _, rfl⟩
              rw [hpl] at cP
              unfold plV at cP
              have HPl := Lib.hid hpl
              clear q4 e4 hg x0 ng hpl
              go_wp2_with fail
              refine cP.out.mono ?_
              rintro e w2 ⟨rfl, hb2⟩
              have hb3 : Below wr.heap.size wr (w2.alloc (.cells #[.pointer pa', .int .i64 (pn : Int)] 65)) := below_step hb2 (below_alloc _ _)
              have hb4 : Below wr.heap.size wr ((w2.alloc (.cells #[.pointer pa', .int .i64 (pn : Int)] 65)).alloc (.cells #[] 68)) := below_step hb3 (below_alloc _ _)
              have hA3 := HA5.out.mono hb3
              have hA4 := HA5.out.mono hb4
              have hC3 : ∀ b, K b → Clear (w2.alloc (.cells #[.pointer pa', .int .i64 (pn : Int)] 65)) b := fun b hb => (HC5.out b hb).mono hb3
              have hC4 : ∀ b, K b → Clear ((w2.alloc (.cells #[.pointer pa', .int .i64 (pn : Int)] 65)).alloc (.cells #[] 68)) b := fun b hb => (HC5.out b hb).mono hb4
              have hset3 := hA3.set
              have hset4 := hA4.set
              have hok3 := hA3.ok hC3
              have hok4 := hA4.ok hC4
              have hG3 := HG.out.mono hb3
              have hG4 := HG.out.mono hb4
              have hp3 : PlOk (w2.alloc (.cells #[.pointer pa', .int .i64 (pn : Int)] 65)) (pa', pn) := by rw [← HPl.out]; exact plOk_of hG3 hC3
              have hp4 : PlOk ((w2.alloc (.cells #[.pointer pa', .int .i64 (pn : Int)] 65)).alloc (.cells #[] 68)) (pa', pn) := by rw [← HPl.out]; exact plOk_of hG4 hC4
              have HB8 := Lib.hid (HB5.out.trans (hb4.mono HB5.out.size))
              have HA8 := Lib.hid hA4
              have HG8 := Lib.hid hG4
              have HPL : Hid (((argsOf (Ls.take i) ++ nodesArgs (l.take j)) ++ args.take k).length ≤ 4294967296) := Lib.hid (by
                have h1 := HSz.out
                have h2 := argsOf_pre Ls (i + 1)
                rw [HTi.out] at h2
                have h3 : (nodesArgs (l.take (j + 1))).length ≤ (nodesArgs l).length := by
                  have e : nodesArgs l = nodesArgs (l.take (j + 1)) ++ nodesArgs (l.drop (j + 1)) := by rw [nodesArgs, nodesArgs, nodesArgs, ← List.flatMap_append, List.take_append_drop]
                  rw [e, List.length_append]; omega
                rw [HTj.out] at h3
                have h4 : (args.take k).length ≤ args.length := by rw [List.length_take]; omega
                simp only [List.length_append, ndArgs] at h2 h3 ⊢
                omega)
              by_cases hin : (pa', pn) ∈ ks3
              · have hd := decide_eq_true hin
                have HIn : Hid (plOf (.slice pg g.length cg) ∈ ks3) := Lib.hid (by rw [HPl.out]; exact hin)
                clear hb2 hb3 hb4 hA3 hA4 hC3 hC4 hset4 hok4 hG3 hG4 hp4
                go_wp2_with (at_lookup; go_loud (refine wpList_lookup_set rfl _ _ 80 68 rfl (by kernel_rfl) (fun w => by kernel_rfl) w.heap.size ks3 rfl hset3 hok3 (pa', pn) hp3 rfl true hd ?_))
                go_roundw
                case rel => exact ⟨k + 1, Ms3, ks3, by omega, by go_num, Lib.hid (by rw [HTk.out, ← List.append_assoc]; exact HA8.out.old HG8.out HIn.out), HB8⟩
                case measure => simp [intOf]; omega
              · have hd := decide_eq_false hin
                obtain ⟨vs, hvr, hvc⟩ := hA4.own.row
                have hval := World.ownsRow.lt hvr
                have hmx : Ms3.length ≤ 4294967296 := by have h1 := HA5.out.sub.length_le; have h2 := HPL.out; omega
                have HVC := Lib.hid hvc
                obtain ⟨iA, hiA, hA0, hA1, hA2⟩ := info_parts infoArg
                have HKm : Hid (∀ b, K b → b ≠ w.heap.size) := Lib.hid (fun b hb => by have := HKlt.out b hb; omega)
                have hsz8 := HB8.out.size
                clear hb2 hb3 hb4 hA3 hA4 hC3 hC4 hG3 hG4 hvc
                go_wp2_with (first
                  | (at_lookup; go_loud (refine wpList_lookup_set rfl _ _ 80 68 rfl (by kernel_rfl) (fun w => by kernel_rfl) w.heap.size ks3 rfl hset3 hok3 (pa', pn) hp3 rfl false hd ?_))
                  | (at_mapUpdate; refine wpList_update_set rfl _ _ _ 80 68 rfl (by kernel_rfl) w.heap.size ks3 rfl hset4 hok4 (pa', pn) hp4 hin rfl rfl ?_; intro w5 hs5 hg5; have hvr6 := World.ownsRow.alloc (World.ownsRow.kept hvr hg5 (.inr (fun e => by have := (hval _ e).1; omega))) (.cells #[.slice pg g.length cg] 23))
                  | (at_builtin; refine wpList_append_lies _ rfl _ _ 41 rfl (w.heap.size + 1) 23 iA _ 1 24 Try.underlying41 hiA hA0 hA1 hA2 rfl (by decide) _ _ vs rfl hvr6 ⟨w5.heap.size, 0, none⟩ 1 1 [.slice pg g.length cg] rfl rfl (cell_val_new _ _ _) (fun z hz => by simp at hz; subst hz; rfl) (by omega) (by unfold maxLen; omega) (by omega) (by rw [World.size_alloc]; have := hg5.size; omega) _ rfl ?_; intro g9 cap9 w9 hown9 hgrow9 hat9 hlt9))
                go_roundw
                case rel =>
                  have hN := Acc.new HA8.out (Nat.lt_succ_self _) HKm.out HG8.out (by rw [HPl.out]; exact hs5) hg5 (below_alloc w5 _) HVC.out hown9 hgrow9 (hat9.imp id (fun h => by rw [h]; exact Nat.le_refl _))
                  exact ⟨k + 1, Ms3 ++ [g], _, by omega, by go_num, Lib.hid (by rw [HTk.out, ← List.append_assoc]; exact hN), Lib.hid (((HB8.out.grown hg5 hsz8 (fun q hq => by have := Option.some.inj hq; omega)).alloc (Nat.le_trans hsz8 hg5.size) _).grown hgrow9 (by rw [World.size_alloc]; have := hg5.size; omega) (fun q hq => by have := (hval _ hq).1; omega))⟩
                case measure => simp [intOf]; omega
            · have HT : Hid (args.take k = args) := Lib.hid (List.take_of_length_le (by omega))
              go_wp2
              go_roundw
              case rel => exact ⟨j + 1, Ms3, ks3, by omega, by go_num, Lib.hid (by have h := HA5.out; rw [HT.out] at h; rw [HTj.out, ← List.append_assoc]; exact h), HB5⟩
              case measure => simp [intOf]; omega
        · have HT : Hid (l.take j = l) := Lib.hid (List.take_of_length_le (by omega))
          go_wp2
          go_roundw
          case rel => exact ⟨i + 1, Ms2, ks2, by omega, by go_num, Lib.hid (by rw [HTi.out]; have h := HA2.out; rw [HT.out] at h; exact h), HB2⟩
          case measure => simp [intOf]; omega
    · have HT : Hid (Ls.take i = Ls) := Lib.hid (List.take_of_length_le (by omega))
      go_wp2
      go_ret
      exact ⟨_, Ms, rfl, OwnA.base6 HA.out.own (Nat.le_succ _), by have h := HA.out.sub; rw [HT.out] at h; exact h, by have h := HA.out.all; rw [HT.out] at h; exact h, HB.out⟩
end Go.Proofs.Ytimpadooknclkaa
