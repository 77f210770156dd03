/-
  The reference's nodes and Parse (layer 6): the nodes that tokens form.
-/
import Derived.Test.YtimpadooknclkaaGInv
import Derived.Test.YtimpadooknclkaaRefFault6
import Derived.Test.YtimpadooknclkaaOwnArgs
import Derived.Deep.RegionLaw
set_option linter.unusedVariables false
set_option linter.unusedSimpArgs false
namespace Go.Proofs.Ytimpadooknclkaa
open Go.RowKit

def NodesPost (ns : List Nd) (w : World) (e : Ending) (w' : World) : Prop := ∃ v K, e = .returned v ∧ OwnN w.heap.size K v ns w' ∧ (∀ b, K b → w.heap.size ≤ b) ∧ Below w.heap.size w w'
theorem infoNode : (Try.prog.info? 43).map (fun i => (i.zero, i.size, i.bytes)) = some (some (.agg #[.bool false, .string ByteArray.empty, .slice none 0 0, .int .i64 0]), 4, 56) := by kernel_rfl
theorem infoArg : (Try.prog.info? 23).map (fun i => (i.zero, i.size, i.bytes)) = some (some (.slice none 0 0), 1, 24) := by kernel_rfl

theorem elemToks : Try.prog.elem 22 = 36 := by kernel_rfl
theorem sizeToks (wx : World) : (sizeOf 36).run Try.prog wx = .ok 3 wx := by kernel_rfl
theorem part_toks {W : World} {b o c l : Nat} {bt : List Tok} (hlc : l + bt.length ≤ c) (hm : bt.length ≤ maxLen) (hc : ∀ i t, bt[i]? = some t → TokAt W b (o + (l + i) * 3) t) : ToksAt W (.slice (if c = l then some ⟨b, o, none⟩ else some ⟨b, o + l * 3, none⟩) bt.length (c - l)) bt := by
  refine ⟨⟨_, _, rfl, by omega⟩, hm, fun hp => ?_⟩
  rw [if_neg (by omega)]
  refine ⟨b, o + l * 3, c - l, rfl, fun i t hi => ?_⟩
  have h := hc i t hi
  rw [show o + (l + i) * 3 = o + l * 3 + i * 3 by omega] at h
  exact h

theorem set_grown (w : World) (p i : Nat) (v : Value) : w.grownBy (w.setCell ⟨p, i, none⟩ v) (some p) := by
  have hb : Below 0 w (w.setCell ⟨p, i, none⟩ v) := (Below.refl 0 w).setCell (p := ⟨p, i, none⟩) (Nat.zero_le _) v
  exact ⟨hb.os, hb.tape, hb.output, hb.size, fun k _ hk => Below.heap_setCell w ⟨p, i, none⟩ v k (fun e => hk (by rw [e]))⟩
theorem node_kept {wr w7 w9 : World} {p : Nat} {o1 o2 : Obj} {row : Option Nat} (hp : wr.heap[p]? = some o1) (hb7 : Below wr.drew.heap.size wr.drew w7) (hg : (w7.alloc o2).grownBy w9 row) (hne : some p ≠ row) : w9.heap[p]? = some o1 := by
  have hl := lt_of_block hp
  have h1 : w7.heap[p]? = some o1 := by rw [hb7.block p hl]; exact hp
  have hl7 := lt_of_block h1
  rw [hg.block p (by simp; omega) hne, Lib.alloc_old w7 _ p hl7]
  exact h1
/-- one argument more: what lies in memory behind 'n.Args = append(n.Args, nodes(..))' -/
theorem args_step {wo wr w7 w9 : World} {p : Nat} {av : Value} {dargs : List (List Nd)} {Ka K7 : Nat → Prop} {v7 : Value} {g : List Nd} {g9 cap9 : Nat} {vs : List Value} {x : ByteArray} {A : Int} {o : Obj}
    (hAb : wr.heap[p]? = some (.cells #[.bool true, .string x, av, .int .i64 A] 43 (0, 0))) (hvc : ArgCells wr Ka dargs vs) (hne : ∀ b, Ka b → av.ownBlock ≠ some b) (hlt : ∀ b, Ka b → b < wr.heap.size) (hge : ∀ b, Ka b → p + 1 ≤ b)
    (hvl : ∀ k, av.ownBlock = some k → p + 1 ≤ k ∧ k < wr.heap.size) (h7 : OwnN wr.drew.heap.size K7 v7 g w7) (hk7 : ∀ b, K7 b → wr.drew.heap.size ≤ b) (hb7 : Below wr.drew.heap.size wr.drew w7)
    (hown9 : w9.ownsRow (p + 1) 23 1 (.slice (some ⟨g9, 0, none⟩) (dargs.length + 1) cap9) (dargs.length + 1) (vs ++ [v7])) (hgrow9 : (w7.alloc o).grownBy w9 av.ownBlock) (hat9 : av.ownBlock = some g9 ∨ g9 = (w7.alloc o).heap.size) (hAw : Below p wo wr) (hpw : p ≤ wo.heap.size) :
    (w9.setCell ⟨p, 2, none⟩ (.slice (some ⟨g9, 0, none⟩) (dargs.length + 1) cap9)).heap[p]? = some (.cells #[.bool true, .string x, .slice (some ⟨g9, 0, none⟩) (dargs.length + 1) cap9, .int .i64 A] 43 (0, 0)) ∧
    OwnA (p + 1) (fun b => Ka b ∨ Own K7 v7 b) (.slice (some ⟨g9, 0, none⟩) (dargs.length + 1) cap9) (dargs ++ [g]) (w9.setCell ⟨p, 2, none⟩ (.slice (some ⟨g9, 0, none⟩) (dargs.length + 1) cap9)) ∧
    (∀ b, (Ka b ∨ Own K7 v7 b) → p + 1 ≤ b) ∧ Below p wo (w9.setCell ⟨p, 2, none⟩ (.slice (some ⟨g9, 0, none⟩) (dargs.length + 1) cap9)) := by
  have hpl := lt_of_block hAb
  have hs7 : wr.heap.size ≤ w7.heap.size := hb7.size
  have hBr : Below wr.heap.size wr w7 := ⟨hb7.os, hb7.tape, hb7.output, hb7.size, fun i hi => hb7.block i hi⟩
  have hBa : Below wr.heap.size wr (w7.alloc o) := below_step hBr (below_alloc _ _)
  have hge7 : ∀ b, Own K7 v7 b → wr.heap.size ≤ b := h7.own_ge hk7
  have hlt7 := h7.own_lt
  have hK : ∀ b, (Ka b ∨ Own K7 v7 b) → p + 1 ≤ b := fun b hb => hb.elim (hge b) (fun h => by have := hge7 b h; omega)
  have h9 := node_kept hAb hb7 hgrow9 (fun e => by have := (hvl _ e.symm).1; omega)
  have hP := ownA_push (K := fun b => Ka b ∨ Own K7 v7 b) (hvc.move (fun b _ => stays_below hBa b) (fun _ h => .inl h)) (h7.at.move (fun b _ => stays_below (below_alloc w7 o) b) (fun _ h => .inr h))
    (fun b hb => hb.elim (hne b) (fun h e => by have := hge7 b h; have := (hvl b e).2; omega)) (fun b hb => by
      rw [World.size_alloc]
      rcases hb with h | h
      · have := hlt b h; omega
      · have := hlt7 b h; omega) hown9 hgrow9 (hat9.imp id (fun h => by rw [h]; exact Nat.le_refl _))
  refine ⟨?_, ?_, hK, ?_⟩
  · have h := heap_setCell_same w9 p 2 #[.bool true, .string x, av, .int .i64 A] 43 (.slice (some ⟨g9, 0, none⟩) (dargs.length + 1) cap9) h9
    rw [h]
    rfl
  · refine hP.kept (set_grown _ _ _ _) (.inr ?_) (fun b hb e => ?_)
    · intro e
      have e1 : g9 = p := Option.some.inj e
      rcases hat9 with h | h
      · have := (hvl _ h).1; omega
      · rw [World.size_alloc] at h; omega
    · have := hK b hb
      have := Option.some.inj e
      omega
  · have hBB : Below p wo w9 := Below.grown (((hAw.trans (hBr.mono (by omega))).alloc (by omega) o)) hgrow9 (by rw [World.size_alloc]; omega) (fun q hq => by have := (hvl q hq).1; omega)
    exact hBB.setCell (p := ⟨p, 2, none⟩) (Nat.le_refl _) _

set_option maxHeartbeats 3000000 in
set_option maxRecDepth 100000 in
theorem nodes_ind : ∀ (n : Nat) (ts : List Tok), ts.length < n → ts.length ≤ 1099511627776 → ∀ (d : Nat) (ns : List Nd), Tr.G d ts ns → ∀ (v : Value) (w : World), ToksAt w v ts → Calls Try.prog 24 #[v] w (NodesPost ns w) := by
  intro n
  induction n with
  | zero => intro ts h; omega
  | succ n ih =>
    intro ts hsz hbig d ns hG v w hv
    obtain ⟨⟨p1, c1, rfl, hc1⟩, m1, k1⟩ := hv
    obtain ⟨iN, hiN, hN0, hN1, hN2⟩ := info_parts infoNode
    obtain ⟨iA, hiA, hA0, hA1, hA2⟩ := info_parts infoArg
    have hn : ts.length ≤ 9223372036854775807 := by omega
    have HT := Lib.hid k1
    have HI := Lib.hid ih
    have HG0 := Lib.hid hG
    have HO0 := Lib.hid (ownN_made w)
    have HB0 := Lib.hid (below_alloc w (.cells #[] 43))
    clear k1 m1 ih hG
    go_enter Try.func24, Try.ntmps24
    go_wp2
    go_loopw [3, 4] (fun ov iv wr => ∃ (k : Nat) (done rest : List Nd) (K : Nat → Prop), k ≤ ts.length ∧ iv = .int .i64 k ∧ done.length ≤ k ∧ Hid (ns = done ++ rest) ∧ Hid (Tr.G d (ts.drop k) rest) ∧ Hid (OwnN w.heap.size K ov done wr) ∧ Hid (∀ b, K b → w.heap.size ≤ b) ∧ Hid (Below w.heap.size w wr)) (fun _ iv _ => ts.length - (intOf iv).toNat)
    case atStart => exact ⟨0, [], ns, _, Nat.zero_le _, rfl, Nat.zero_le _, Lib.hid rfl, HG0, HO0, Lib.hid (fun b h => h.elim), HB0⟩
    case round =>
      obtain ⟨k, done, rest, K, hk, rfl, hdl, HE, HG, HO, HK, HB⟩ := hrel
      clear HO0 HB0 HG0
      by_cases hlt : k < ts.length
      · obtain ⟨⟨Kd, S, A⟩, ht⟩ : ∃ t, ts[k]? = some t := ⟨_, List.getElem?_eq_getElem hlt⟩
        obtain ⟨b, o, cp, ec, hq⟩ := HT.out (by omega)
        obtain ⟨rfl, rfl⟩ : p1 = some ⟨b, o, none⟩ ∧ c1 = cp := by injection ec with a1 a2 a3; exact ⟨a1, a3⟩
        have DT := hq k _ ht
        have HQ := Lib.hid hq
        have d1 := cell_below HB.out DT.k
        have d2 := cell_below HB.out DT.s
        have d3 := cell_below HB.out DT.a
        simp only [] at d1 d2 d3
        have hba := below_alloc wr (.cells #[.bool false, .string ⟨#[]⟩, .slice none 0 0, .int .i64 0] 43)
        have f1 := cell_below hba d1
        have f2 := cell_below hba d2
        have f3 := cell_below hba d3
        have k0 : (0 : Int) ≤ (k : Int) := by omega
        have kl : (k : Int) < (ts.length : Int) := by omega
        have hd := drop_tok ht
        have HGd := HG.out
        rw [hd] at HGd
        have HD := Lib.hid HGd
        have hkd := HGd.inv_head
        simp only [] at hkd
        clear hq ec DT ht hd HGd
        rcases hkd with rfl | rfl
        · obtain ⟨rest', hr1, hr2⟩ := HD.out.inv_word rfl
          simp only [] at hr1
          go_wp2_with fail
          have HW1 : Hid (Below wr.heap.size wr (wr.alloc (.cells #[.bool false, .string (str S), .slice none 0 0, .int .i64 A] 43)).drew) := Lib.hid (below_alloc _ _).drew
          go_region
          clear f1 f2 f3 d1 d2 d3 hba
          go_wp2
          refine wp_loop_rounds 1 ?_
          rw [rounds_succ]
          obtain ⟨cs, hown, hcs⟩ := (HO.out.mono HW1.out).row
          have HCS := Lib.hid hcs
          have hown2 := World.ownsRow.alloc hown (.cells #[.bool false, .string (str S), .slice none 0 0, .int .i64 A] 43)
          clear hown hcs
          go_wp2_with (at_builtin; refine wpList_append_lies _ rfl _ _ 23 rfl w.heap.size 43 iN _ 4 56 Try.underlying23 hiN hN0 hN1 hN2 rfl (by decide) _ _ _ rfl hown2 ⟨wr.heap.size + 1, 0, none⟩ 1 1 (ndCells false S (.slice none 0 0) A) rfl rfl (by have h := cell_nd_new (wr.alloc (.cells #[.bool false, .string (str S), .slice none 0 0, .int .i64 A] 43)).drew false (str S) (.slice none 0 0) A 43; simp only [World.size_alloc, World.drew] at h ⊢; exact h) (fun z hz => by simp [ndCells] at hz; rcases hz with rfl | rfl | rfl | rfl <;> rfl) (by omega) (by unfold maxLen; omega) (by omega) (by have := HB.out.size; simp; omega) _ rfl ?_; intro g9 cap9 w9 hown9 hgrow9 hat9 hlt9; have HP9 := Lib.hid (ownN_push (K := K) (HCS.out.move (fun b _ => stays_below (below_alloc _ _) b) (fun _ h => h)) (args_none _ _) HO.out.ne (fun b hb => by have := HO.out.lt b hb; simp; omega) hown9 hgrow9 (hat9.imp id (fun h => by rw [h]; exact Nat.le_refl _))); have HB9 := Lib.hid (((HB.out.trans (HW1.out.mono HB.out.size)).alloc (by have := HB.out.size; simp; omega) (.cells #[.bool false, .string (str S), .slice none 0 0, .int .i64 A] 43)).grown hgrow9 (by have := HB.out.size; simp; omega) (fun q hq => (World.ownsRow.lt hown2 q hq).1)); clear hown2 hown9 hgrow9 hat9 hlt9)
          go_roundw
          case rel => exact ⟨k + 1, done ++ [.mk false S [] A], rest', K, by omega, by go_num, by rw [List.length_append, List.length_singleton]; omega, Lib.hid (by rw [HE.out, hr1, List.append_assoc]; rfl), Lib.hid hr2, HP9, HK, HB9⟩
          case measure => simp [intOf]; omega
        · obtain ⟨args, rest', hr1⟩ := HD.out.inv_cmd rfl
          obtain ⟨wo, hwo⟩ : ∃ wo, wo = wr := ⟨_, rfl⟩
          subst hwo
          simp only [] at hr1
          have HR1 := Lib.hid hr1
          have HDc := Lib.hid (show Tr.G d (⟨1, S, A⟩ :: ts.drop (k + 1)) (.mk true S args A :: rest') by rw [← hr1]; exact HD.out)
          clear hr1
          go_wp2_with fail
          have HW1 : Hid (Below wo.heap.size wo (wo.alloc (.cells #[.bool true, .string (str S), .slice none 0 0, .int .i64 A] 43)).drew) := Lib.hid (below_alloc _ _).drew
          go_region
          clear f1 f2 f3 d1 d2 d3 hba
          go_wp2
          obtain ⟨W1, hW1⟩ : ∃ W1, W1 = (wo.alloc (.cells #[.bool true, .string (str S), .slice none 0 0, .int .i64 A] 43)).drew := ⟨_, rfl⟩
          rw [← hW1] at HW1 ⊢
          have HZ1 : Hid (W1.heap[wo.heap.size]? = some (.cells #[.bool true, .string (str S), .slice none 0 0, .int .i64 A] 43 (0, 0)) ∧ W1.heap.size = wo.heap.size + 1) := Lib.hid (by rw [hW1]; exact ⟨heap_alloc_new _ _, World.size_alloc _ _⟩)
          clear hW1
          go_loopw [4] (fun iv wr => ∃ (k2 : Nat) (dargs rargs : List (List Nd)) (av : Value) (Ka : Nat → Prop), k < k2 ∧ k2 ≤ ts.length ∧ iv = .int .i64 k2 ∧ dargs.length ≤ k2 ∧ Hid (args = dargs ++ rargs) ∧ Hid (Tr.G d (⟨1, S, A⟩ :: ts.drop k2) (.mk true S rargs A :: rest')) ∧ Hid (wr.heap[wo.heap.size]? = some (.cells #[.bool true, .string (str S), av, .int .i64 A] 43 (0, 0))) ∧ Hid (OwnA (wo.heap.size + 1) Ka av dargs wr) ∧ Hid (∀ b, Ka b → wo.heap.size + 1 ≤ b) ∧ Hid (Below wo.heap.size wo wr)) (fun iv _ => ts.length - (intOf iv).toNat)
          case atStart => exact ⟨k + 1, [], args, .slice none 0 0, fun _ => False, Nat.lt_succ_self _, by omega, by go_num, Nat.zero_le _, Lib.hid rfl, HDc, Lib.hid HZ1.out.1, Lib.hid (ownA_nil _ _), Lib.hid (fun b h => h.elim), HW1⟩
          case round =>
            obtain ⟨k2, dargs, rargs, av, Ka, hk2, hk2l, rfl, hdal, HAe, HAg, HAb, HAo, HAk, HAw⟩ := hrel
            clear HZ1 HW1 HDc
            have hfin : Hid (rargs = [] ∧ Tr.G d (ts.drop k2) rest' ∨ True) := Lib.hid (.inr trivial)
            have c0 : wr.cell? ⟨wo.heap.size, 0, none⟩ = some (.bool true) := by rw [Lib.cell_of_heap HAb.out]; rfl
            have c1' : wr.cell? ⟨wo.heap.size, 1, none⟩ = some (.string (str S)) := by rw [Lib.cell_of_heap HAb.out]; rfl
            have c2 : wr.cell? ⟨wo.heap.size, 2, none⟩ = some av := by rw [Lib.cell_of_heap HAb.out]; rfl
            have c3 : wr.cell? ⟨wo.heap.size, 3, none⟩ = some (.int .i64 A) := by rw [Lib.cell_of_heap HAb.out]; rfl
            rcases HAg.out.inv_args rfl with ⟨hr0, hg0, hstop⟩ | ⟨to, bt, tc, qt, g, rargs', hdq, hto, htc, hgb, hra, hgq⟩
            · have HEa : Hid (args = dargs) := Lib.hid (by rw [HAe.out, hr0, List.append_nil])
              have HGr := Lib.hid hg0
              have hO1 := HO.out.mono HAw.out
              obtain ⟨cs, hown, hcs⟩ := hO1.row
              have hA1 := HAo.out.at
              obtain ⟨⟨pav, pcap, rfl, hpc⟩, hmv, _⟩ := HAo.out.at
              have hown2 := World.ownsRow.alloc hown (.cells #[.bool true, .string (str S), .slice pav dargs.length pcap, .int .i64 A] 43)
              have HAl := Lib.hid (below_alloc wr (.cells #[.bool true, .string (str S), .slice pav dargs.length pcap, .int .i64 A] 43))
              have HNc : Hid (NdsCells (wr.alloc (.cells #[.bool true, .string (str S), .slice pav dargs.length pcap, .int .i64 A] 43)) (fun b => K b ∨ Own Ka (.slice pav dargs.length pcap) b) done cs) := Lib.hid (hcs.move (fun b _ => stays_below HAl.out b) (fun _ h => .inl h))
              have HAa : Hid (ArgsAt (wr.alloc (.cells #[.bool true, .string (str S), .slice pav dargs.length pcap, .int .i64 A] 43)) (fun b => K b ∨ Own Ka (.slice pav dargs.length pcap) b) (.slice pav dargs.length pcap) dargs) := Lib.hid (hA1.move (fun b _ => stays_below HAl.out b) (fun _ h => .inr h))
              have hge := HAo.out.own_ge HAk.out
              have hol : ∀ q, u3.ownBlock = some q → q < wo.heap.size := fun q hq => by
                obtain ⟨cs0, h0, _⟩ := HO.out.row
                exact (World.ownsRow.lt h0 q hq).2
              have HNe : Hid (∀ b, (K b ∨ Own Ka (.slice pav dargs.length pcap) b) → u3.ownBlock ≠ some b) := Lib.hid (fun b hb e => by
                rcases hb with hb | hb
                · exact HO.out.ne b hb e
                · have := hge b hb; have := hol b e; omega)
              have HNl : Hid (∀ b, (K b ∨ Own Ka (.slice pav dargs.length pcap) b) → b < (wr.alloc (.cells #[.bool true, .string (str S), .slice pav dargs.length pcap, .int .i64 A] 43)).heap.size) := Lib.hid (fun b hb => by
                rw [World.size_alloc]
                rcases hb with hb | hb
                · have := hO1.lt b hb; omega
                · have := HAo.out.own_lt b hb; omega)
              have HNk : Hid (∀ b, (K b ∨ Own Ka (.slice pav dargs.length pcap) b) → w.heap.size ≤ b) := Lib.hid (fun b hb => by
                rcases hb with hb | hb
                · exact HK.out b hb
                · have := hge b hb; have := HB.out.size; omega)
              have HB1 := Lib.hid (HB.out.trans (HAw.out.mono HB.out.size))
              have hbs := HB1.out.size
              have k20 : (0 : Int) ≤ (k2 : Int) := by omega
              have hE2 : Hid (ns = (done ++ [.mk true S dargs A]) ++ rest') := Lib.hid (by rw [HE.out, HR1.out, HEa.out, List.append_assoc]; rfl)
              have key : ∀ z, z = 0 → True := fun _ _ => trivial
              clear hr0 hg0 hO1 hown hcs hA1 hge hol hmv hpc key
              rcases hstop with hst | ⟨u, q, hst, hu⟩
              · have hk2e : ¬ (k2 : Int) < (ts.length : Int) := by
                  have h := congrArg List.length hst
                  rw [List.length_drop] at h
                  simp at h
                  omega
                clear hst
                go_wp2_with (at_builtin; refine wpList_append_lies _ rfl _ _ 23 rfl w.heap.size 43 iN _ 4 56 Try.underlying23 hiN hN0 hN1 hN2 rfl (by decide) _ _ _ rfl hown2 ⟨wr.heap.size, 0, none⟩ 1 1 (ndCells true S (.slice pav dargs.length pcap) A) rfl rfl (cell_nd_new _ _ _ _ _ _) (fun z hz => by simp [ndCells] at hz; rcases hz with rfl | rfl | rfl | rfl <;> rfl) (by omega) (by unfold maxLen; omega) (by omega) (by simp; omega) _ rfl ?_; intro g9 cap9 w9 hown9 hgrow9 hat9 hlt9; have HP9 := Lib.hid (ownN_push HNc.out HAa.out HNe.out HNl.out hown9 hgrow9 (hat9.imp id (fun h => by rw [h]; exact Nat.le_refl _))); have HB9 := Lib.hid ((HB1.out.alloc hbs (.cells #[.bool true, .string (str S), .slice pav dargs.length pcap, .int .i64 A] 43)).grown hgrow9 (by simp; omega) (fun q hq => (World.ownsRow.lt hown2 q hq).1)); clear hown2 hown9 hgrow9 hat9 hlt9)
                go_roundw
                case rel => exact ⟨k2, done ++ [.mk true S dargs A], rest', _, hk2l, rfl, by rw [List.length_append, List.length_singleton]; omega, hE2, HGr, HP9, HNk, HB9⟩
                case measure => simp [intOf]; omega
              · have hk2lt : k2 < ts.length := by
                  rcases Nat.lt_or_ge k2 ts.length with h | h
                  · exact h
                  · rw [List.drop_eq_nil_of_le h] at hst; cases hst
                have hget : ts[k2]? = some u := by
                  have h := congrArg List.head? hst
                  rw [List.head?_drop] at h
                  exact h
                have e2 := cell_below HB1.out (HQ.out k2 u hget).k
                have hu2 : (u.kind == 2) = false := tk_bne0 hu
                have k21 : (k2 : Int) < (ts.length : Int) := by omega
                clear hst hget hu
                go_wp2_with (at_builtin; refine wpList_append_lies _ rfl _ _ 23 rfl w.heap.size 43 iN _ 4 56 Try.underlying23 hiN hN0 hN1 hN2 rfl (by decide) _ _ _ rfl hown2 ⟨wr.heap.size, 0, none⟩ 1 1 (ndCells true S (.slice pav dargs.length pcap) A) rfl rfl (cell_nd_new _ _ _ _ _ _) (fun z hz => by simp [ndCells] at hz; rcases hz with rfl | rfl | rfl | rfl <;> rfl) (by omega) (by unfold maxLen; omega) (by omega) (by simp; omega) _ rfl ?_; intro g9 cap9 w9 hown9 hgrow9 hat9 hlt9; have HP9 := Lib.hid (ownN_push HNc.out HAa.out HNe.out HNl.out hown9 hgrow9 (hat9.imp id (fun h => by rw [h]; exact Nat.le_refl _))); have HB9 := Lib.hid ((HB1.out.alloc hbs (.cells #[.bool true, .string (str S), .slice pav dargs.length pcap, .int .i64 A] 43)).grown hgrow9 (by simp; omega) (fun q hq => (World.ownsRow.lt hown2 q hq).1)); clear hown2 hown9 hgrow9 hat9 hlt9)
                go_roundw
                case rel => exact ⟨k2, done ++ [.mk true S dargs A], rest', _, hk2l, rfl, by rw [List.length_append, List.length_singleton]; omega, hE2, HGr, HP9, HNk, HB9⟩
                case measure => simp [intOf]; omega
            · have hk2lt : k2 < ts.length := by
                rcases Nat.lt_or_ge k2 ts.length with h | h
                · exact h
                · rw [List.drop_eq_nil_of_le h] at hdq; cases hdq
              have hget : ts[k2]? = some to := by
                have h := congrArg List.head? hdq
                rw [List.head?_drop] at h
                exact h
              have hbl : k2 + (bt.length + 2) ≤ ts.length := by
                have h := congrArg List.length hdq
                rw [List.length_drop] at h
                simp at h
                omega
              have hb2 := HB.out.trans (HAw.out.mono HB.out.size)
              have e2 := cell_below hb2 (HQ.out k2 to hget).k
              rw [hto] at e2
              have cE := Lib.hid (fun W (hb : Below w.heap.size w W) => end_any b o c1 ts (by omega) k2 (bt.length + 1) to hget hto (by rw [hdq]; exact Tr.ends_group hto htc hgb) W (fun i t hi => (HQ.out i t hi).mono hb))
              have HB2 := Lib.hid hb2
              have k20 : (0 : Int) ≤ (k2 : Int) := by omega
              have k21 : (k2 : Int) < (ts.length : Int) := by omega
              have f0 : (0 : Int) ≤ (k2 : Int) + 1 := by omega
              have f1 : (k2 : Int) + 1 ≤ (k2 : Int) + ((bt.length : Int) + 1) := by omega
              have f2 : (k2 : Int) + ((bt.length : Int) + 1) ≤ (c1 : Int) := by omega
              have f3 : (0 : Int) ≤ (k2 : Int) + ((bt.length : Int) + 1) := by omega
              have f4 : ((k2 : Int) + ((bt.length : Int) + 1)).toNat = k2 + 1 + bt.length := by omega
              have hbt : ∀ i t, bt[i]? = some t → ts[k2 + 1 + i]? = some t := fun i t hi => by
                have h : (ts.drop k2)[1 + i]? = some t := by
                  rw [hdq, show 1 + i = i + 1 by omega, List.getElem?_cons_succ, List.getElem?_append_left (List.getElem?_eq_some_iff.1 hi).1]
                  exact hi
                rw [List.getElem?_drop] at h
                rw [show k2 + 1 + i = k2 + (1 + i) by omega]
                exact h
              have cN := Lib.hid (fun W (hb : Below w.heap.size w W) => HI.out bt (by omega) (by omega) (d + 1) g hgb (.slice (if c1 = k2 + 1 then some ⟨b, o, none⟩ else some ⟨b, o + (k2 + 1) * 3, none⟩) bt.length (c1 - (k2 + 1))) W (part_toks (by omega) (by unfold maxLen; omega) (fun i t hi => (HQ.out _ t (hbt i t hi)).mono hb)))
              have HD0 : Hid (Below wr.heap.size wr wr.drew) := Lib.hid (Below.refl _ _).drew
              have HBd := Lib.hid (HB2.out.trans (HD0.out.mono HB2.out.size))
              have c2d : wr.drew.cell? ⟨wo.heap.size, 2, none⟩ = some av := c2
              obtain ⟨vs, hvr, hvc⟩ := HAo.out.row
              have HVR := Lib.hid (fun W (hb : Below wr.heap.size wr W) => World.ownsRow.kept hvr (below_grown hb) (by cases av.ownBlock <;> simp))
              have HVC := Lib.hid hvc
              have HVL := Lib.hid (World.ownsRow.lt hvr)
              have HWS : Hid (wo.heap.size < wr.heap.size) := Lib.hid (lt_of_block HAb.out)
              have hw1 : IntKind.i64.wrap ((k2 : Int) + 1) = (k2 : Int) + 1 := IntWalk.i64_in _ (by omega)
              clear hb2
              go_wp2_with fail
              refine (cE.out _ HB2.out).mono ?_
              rintro e w5 ⟨rfl, rfl⟩
              go_wp2_with fail
              have HNa : Hid (args = (dargs ++ [g]) ++ rargs') := Lib.hid (by rw [HAe.out, hra, List.append_assoc]; rfl)
              have HNg : Hid (Tr.G d (⟨1, S, A⟩ :: ts.drop (k2 + (bt.length + 2))) (.mk true S rargs' A :: rest')) := Lib.hid (by
                have h : ts.drop (k2 + (bt.length + 2)) = qt := by
                  rw [← List.drop_drop, hdq, show bt.length + 2 = (bt.length + 1) + 1 by omega, List.drop_succ_cons, ← List.drop_drop, List.drop_left]
                  rfl
                rw [h]; exact hgq)
              clear hdq hget hgb hbt hgq hvr hvc hto htc
              go_region_law (first
                | (go_simp; go_at_call 24; refine (cN.out _ HBd.out).mono ?_; rintro e w7 ⟨v7, K7, rfl, h7, hk7, hb7⟩; obtain ⟨⟨p7, cap7, rfl, hcap7⟩, hm7, _⟩ := h7.at; have c27 := cell_below hb7 c2d; have c28 := cell_below (below_alloc w7 (.cells #[.slice p7 g.length cap7] 23)) c27)
                | (refine step_append_lies _ (by rfl) _ _ _ (by rfl) (wo.heap.size + 1) 23 iA _ 1 24 Try.underlying41 hiA hA0 hA1 hA2 rfl (by decide) av _ vs (by rfl) (HVR.out _ (below_step HD0.out (below_step hb7 (below_alloc _ _)))) ⟨w7.heap.size, 0, none⟩ 1 1 [.slice p7 g.length cap7] (by rfl) (by rfl) (cell_val_new _ _ _) (fun z hz => by simp at hz; subst hz; rfl) (by omega) (by unfold maxLen; omega) (by omega) (by have := HWS.out; have := hb7.size; simp at this ⊢; omega) _ rfl ?_; intro g9 cap9 w9 hown9 hgrow9 hat9 hlt9; have hn9 := node_kept HAb.out hb7 hgrow9 (fun e => by have := (HVL.out _ e.symm).1; omega); have r2 : w9.cell? ⟨wo.heap.size, 2, none⟩ = some av := (by rw [Lib.cell_of_heap hn9]; rfl); have rf : w9.frozen? ⟨wo.heap.size, 2, none⟩ = false := Lib.frozen_of_heap hn9 2))
              all_goals (
                have HX := Lib.hid (args_step HAb.out HVC.out HAo.out.ne HAo.out.lt HAk.out HVL.out h7 hk7 hb7 hown9 hgrow9 hat9 HAw.out (Nat.le_refl _))
                clear h7 hk7 hb7 hown9 hgrow9 hat9 hlt9 hn9 r2 rf c27 c28
                go_wp2
                go_roundw
                case rel => exact ⟨k2 + (bt.length + 2), dargs ++ [g], rargs', _, _, by omega, hbl, by go_num, by rw [List.length_append, List.length_singleton]; omega, HNa, HNg, Lib.hid HX.out.1, Lib.hid HX.out.2.1, Lib.hid HX.out.2.2.1, Lib.hid HX.out.2.2.2⟩
                case measure => simp [intOf]; omega)
      · have hd : ts.drop k = [] := List.drop_eq_nil_of_le (by omega)
        have HR : Hid (ns = done) := Lib.hid (by
          have h := HG.out
          rw [hd] at h
          rw [HE.out, h.inv_nil, List.append_nil])
        clear hd
        go_wp2
        go_ret
        exact ⟨_, K, rfl, by rw [HR.out]; exact HO.out, HK.out, HB.out⟩
/-- The reference's nodes, at every slice of tokens that form nodes. -/
theorem nodes_any (v : Value) (ts : List Tok) (hbig : ts.length ≤ 1099511627776) (d : Nat) (ns : List Nd) (hG : Tr.G d ts ns) (w : World) (h : ToksAt w v ts) : Calls Try.prog 24 #[v] w (NodesPost ns w) := nodes_ind _ ts (Nat.lt_succ_self _) hbig d ns hG v w h
end Go.Proofs.Ytimpadooknclkaa
