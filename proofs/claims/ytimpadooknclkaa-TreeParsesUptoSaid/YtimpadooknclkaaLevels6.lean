/-
  The landed 'levels': the nodes are visited level by level, until a visit answers false.
-/
import Derived.Test.YtimpadooknclkaaArgs6
set_option linter.unusedVariables false
set_option linter.unusedSimpArgs false
namespace Go.Proofs.Ytimpadooknclkaa
open Go.RowKit

/-- the lists at a depth -/
def Lv : Nat → List Nd → List (List Nd)
  | 0, l => [l]
  | k + 1, l => argsOf (Lv k l)
theorem mem_nodesArgs {l : List Nd} {g : List Nd} : g ∈ nodesArgs l ↔ ∃ n ∈ l, g ∈ ndArgs n := by simp [nodesArgs]
theorem mem_argsOf {L : List (List Nd)} {g : List Nd} : g ∈ argsOf L ↔ ∃ l ∈ L, g ∈ nodesArgs l := by simp [argsOf]
theorem depthA_mem : ∀ {l : List (List Nd)} {g : List Nd}, g ∈ l → Tr.depthL g + 1 ≤ Tr.depthA l
  | h :: r, g, hg => by
    rcases List.mem_cons.1 hg with rfl | hg
    · simp only [Tr.depthA]; omega
    · have := depthA_mem hg; simp only [Tr.depthA]; omega
theorem depthL_mem : ∀ {l : List Nd} {n : Nd}, n ∈ l → Tr.depthN n ≤ Tr.depthL l
  | h :: r, g, hg => by
    rcases List.mem_cons.1 hg with rfl | hg
    · simp only [Tr.depthL]; omega
    · have := depthL_mem hg; simp only [Tr.depthL]; omega
theorem nodesArgs_depth {l : List Nd} {g : List Nd} (h : g ∈ nodesArgs l) : Tr.depthL g + 1 ≤ Tr.depthL l := by
  obtain ⟨n, hn, hg⟩ := mem_nodesArgs.1 h
  obtain ⟨c, x, args, a⟩ := n
  have h1 := depthA_mem (l := args) hg
  have h2 := depthL_mem hn
  simp only [Tr.depthN] at h2
  omega
theorem lv_depth : ∀ (k : Nat) (l g : List Nd), g ∈ Lv k l → Tr.depthL g + k ≤ Tr.depthL l
  | 0, l, g, h => by
    rw [List.mem_singleton.1 h]; omega
  | k + 1, l, g, h => by
    obtain ⟨l', h1, h2⟩ := mem_argsOf.1 h
    have := lv_depth k l l' h1
    have := nodesArgs_depth h2
    omega
theorem argsOf_same {A B : List (List Nd)} (h : ∀ x, x ∈ A ↔ x ∈ B) : ∀ x, x ∈ argsOf A ↔ x ∈ argsOf B := fun x => by
  rw [mem_argsOf, mem_argsOf]
  exact ⟨fun ⟨l, h1, h2⟩ => ⟨l, (h l).1 h1, h2⟩, fun ⟨l, h1, h2⟩ => ⟨l, (h l).2 h1, h2⟩⟩
theorem grown_below {w w' : World} {row : Option Nat} (hb : Below w.heap.size w w') : w.grownBy w' row := ⟨hb.os, hb.tape, hb.output, hb.size, fun i hi _ => hb.block i hi⟩
theorem grown_trans {a b c : World} {row : Option Nat} (h : a.grownBy b row) (k : b.grownBy c row) : a.grownBy c row :=
  ⟨k.os.trans h.os, k.tape.trans h.tape, k.output.trans h.output, Nat.le_trans h.size k.size, fun i hi hn => (k.block i (Nat.lt_of_lt_of_le hi h.size) hn).trans (h.block i hi hn)⟩
/-- blocks that are read while block p alone is written -/
def KOk (p : Nat) (K : Nat → Prop) (w : World) : Prop := ∀ b, K b → b < w.heap.size ∧ Clear w b ∧ b ≠ p
theorem KOk.grown {p : Nat} {K : Nat → Prop} {w w' : World} (h : KOk p K w) (hg : w.grownBy w' (some p)) : KOk p K w' := fun b hb =>
  ⟨Nat.lt_of_lt_of_le (h b hb).1 hg.size, (h b hb).2.1.same (hg.block b (h b hb).1 (fun e => (h b hb).2.2 (Option.some.inj e))), (h b hb).2.2⟩
theorem KOk.stays {p : Nat} {K : Nat → Prop} {w w' : World} (h : KOk p K w) (hg : w.grownBy w' (some p)) : ∀ b, K b → Stays w w' b := fun b hb => stays_block (hg.block b (h b hb).1 (fun e => (h b hb).2.2 (Option.some.inj e)))

mutual
theorem depthN_size : ∀ n : Nd, Tr.depthN n ≤ Tr.sizeN n
  | .mk c x args a => by have := depthA_size args; simp only [Tr.depthN, Tr.sizeN]; omega
theorem depthA_size : ∀ l : List (List Nd), Tr.depthA l ≤ Tr.sizeA l
  | [] => by simp [Tr.depthA, Tr.sizeA]
  | g :: gs => by have h1 := depthL_size g; have h2 := depthA_size gs; simp only [Tr.depthA, Tr.sizeA]; omega
theorem depthL_size : ∀ l : List Nd, Tr.depthL l ≤ Tr.sizeL l
  | [] => by simp [Tr.depthL, Tr.sizeL]
  | n :: r => by have h1 := depthN_size n; have h2 := depthL_size r; simp only [Tr.depthL, Tr.sizeL]; omega
end
def LevPost {σ : Type} (p : Nat) (I : σ → World → Prop) (Fin : σ → Prop) (w : World) (e : Ending) (w' : World) : Prop := e = .returned (.tuple #[]) ∧ ∃ s, Fin s ∧ I s w' ∧ w.grownBy w' (some p)
def lvNodes (k : Nat) (l : List Nd) : List Nd := (Lv k l).flatten

set_option maxHeartbeats 8000000 in
set_option maxRecDepth 100000 in
theorem levels_any {σ : Type} (g : Nat) (eg : ∀ args w, (callFunc g args).run Try.prog w = .ok (.enter g args) w) (p : Nat) (I : σ → World → Prop) (step : σ → Nd → Nat → σ × Bool)
    (hmono : ∀ s w1 w2, I s w1 → Below w1.heap.size w1 w2 → I s w2) (hIp : ∀ s w, I s w → p < w.heap.size)
    (hclo : ∀ (s : σ) (c : Bool) (x : List UInt8) (pa : Option Addr) (args : List (List Nd)) (ca : Nat) (a : Int) (k : Nat) (w : World), I s w → k ≤ 4294967296 → args.length ≤ 4294967296 →
      Calls Try.prog g #[.agg #[.bool c, .string (str x), .slice pa args.length ca, .int .i64 a], .int .i64 (k : Int), .pointer (some ⟨p, 0, none⟩)] w
        (fun e w' => e = .returned (.bool (step s (.mk c x args a) k).2) ∧ I (step s (.mk c x args a) k).1 w' ∧ w.grownBy w' (some p)))
    (l : List Nd) (J : Nat → σ → Prop) (Q : Nat → List Nd → σ → Prop) (Fin : σ → Prop) (hQ0 : ∀ k s, J k s → Q k [] s)
    (hQ1 : ∀ k V s n, Q k V s → n ∈ lvNodes k l → (step s n k).2 = true → Q k (V ++ [n]) (step s n k).1) (hQ2 : ∀ k V s n, Q k V s → n ∈ lvNodes k l → (step s n k).2 = false → Fin (step s n k).1)
    (hJ : ∀ k V s, Q k V s → (∀ n, n ∈ V ↔ n ∈ lvNodes k l) → J (k + 1) s) (hF : ∀ k s, J k s → Lv k l = [] → Fin s)
    (v : Value) (K : Nat → Prop) (s0 : σ) (w : World) (hn : Tr.sizeL l ≤ 1073741824) (h : NodesAt w K v l) (hK : KOk p K w) (hI : I s0 w) (hJ0 : J 0 s0) :
    Calls Try.prog 30 #[v, .func (.func g) #[] #[.pointer (some ⟨p, 0, none⟩)]] w (LevPost p I Fin w) := by
  have hv := h
  obtain ⟨⟨p0, c0, rfl, hc0⟩, m0, _⟩ := hv
  obtain ⟨W0, hW0⟩ : ∃ W0, W0 = w.alloc (.cells #[.slice p0 l.length c0] 23) := ⟨_, rfl⟩
  have hb0 : Below w.heap.size w W0 := by rw [hW0]; exact below_alloc _ _
  have hA0 : ArgsAt W0 (fun b => K b ∨ b = w.heap.size) (.slice (some ⟨w.heap.size, 0, none⟩) 1 1) [l] := by
    refine ⟨⟨_, _, rfl, Nat.le_refl _⟩, by unfold maxLen; simp, fun _ => ⟨w.heap.size, 0, 1, rfl, .inr rfl, ?_⟩⟩
    unfold RowA
    refine ⟨⟨.slice p0 l.length c0, by rw [hW0]; simp, h.move (fun b _ => stays_below hb0 b) (fun _ h => .inl h)⟩, ?_⟩
    unfold RowA; trivial
  have hp := hIp _ _ hI
  have hK0 : KOk p (fun b => K b ∨ b = w.heap.size) W0 := fun b hb => by
    rcases hb with hb | rfl
    · exact (hK.grown (grown_below hb0)) b hb
    · refine ⟨by rw [hW0, World.size_alloc]; omega, ⟨_, _, by rw [hW0]; exact heap_alloc_new _ _⟩, by omega⟩
  have HA0 := Lib.hid hA0
  have HK0 := Lib.hid hK0
  have HI0 := Lib.hid (hmono _ _ _ hI hb0)
  have HG0 : Hid (w.grownBy W0 (some p)) := Lib.hid (grown_below hb0)
  have HJ0 := Lib.hid hJ0
  have Hmono := Lib.hid hmono
  have HIp := Lib.hid hIp
  have Hclo := Lib.hid hclo
  have HQ0 := Lib.hid hQ0
  have HQ1 := Lib.hid hQ1
  have HQ2 := Lib.hid hQ2
  have HJ := Lib.hid hJ
  have HF := Lib.hid hF
  have Hn : Hid (Tr.sizeA [l] ≤ 1073741825) := Lib.hid (by simp only [Tr.sizeA]; omega)
  obtain ⟨D, hD⟩ : ∃ D, D = Tr.depthL l := ⟨_, rfl⟩
  have hDl : D ≤ 1073741824 := by rw [hD]; exact Nat.le_trans (depthL_size l) hn
  have HD := Lib.hid hD
  clear h m0 hb0 hA0 hK0 hI hJ0 hmono hIp hclo hQ0 hQ1 hQ2 hJ hF hK hp hD hn
  go_enter Try.func30, Try.ntmps30
  go_wp2_with fail
  rw [← hW0]
  clear hW0
  go_loopw [4, 5] (fun lv dv wr => ∃ (k : Nat) (Ms : List (List Nd)) (Kx : Nat → Prop) (s : σ), dv = .int .i64 k ∧ k ≤ D + 1 ∧ Hid (ArgsAt wr Kx lv Ms) ∧ Hid (KOk p Kx wr) ∧ Hid (∀ x, x ∈ Ms ↔ x ∈ Lv k l) ∧ Hid (Tr.sizeA Ms ≤ 1073741825) ∧ Hid (I s wr) ∧ Hid (J k s) ∧ Hid (w.grownBy wr (some p))) (fun _ dv _ => D + 2 - (intOf dv).toNat)
  case atStart => exact ⟨0, [l], _, s0, rfl, Nat.zero_le _, HA0, HK0, Lib.hid (fun x => Iff.rfl), Hn, HI0, HJ0, HG0⟩
  case round =>
    obtain ⟨k, Ms, Kx, s, rfl, hk, HA, HK, HM, HSz, HI, HJk, HG⟩ := hrel
    obtain ⟨wo, hwo⟩ : ∃ wo, wo = wr := ⟨_, rfl⟩
    subst hwo
    clear HA0 HK0 HI0 HG0 HJ0
    obtain ⟨⟨p1, c1, rfl, hc1⟩, m1, _⟩ := (⟨HA.out.1, HA.out.2⟩ : ArgsAt wo Kx u4 Ms)
    have hz : Ms.length ≤ 9223372036854775807 := by unfold maxLen at m1; omega
    rcases Nat.eq_zero_or_pos Ms.length with hMs | hpos
    · obtain rfl : Ms = [] := List.eq_nil_of_length_eq_zero hMs
      have HFin : Hid (Fin s) := Lib.hid (HF.out k s HJk.out (List.eq_nil_iff_forall_not_mem.2 (fun x hx => by have := (HM.out x).2 hx; cases this)))
      clear m1 hz hc1 hMs
      go_wp2
      go_end0
      exact ⟨rfl, s, HFin.out, HI.out, HG.out⟩
    · have hkD : k ≤ D := by
        obtain ⟨x0, hx0⟩ := List.exists_mem_of_length_pos hpos
        have h1 := lv_depth k l x0 ((HM.out x0).1 hx0)
        rw [HD.out]
        omega
      have hpos' : (0 : Int) < (Ms.length : Int) := by omega
      have HQs := Lib.hid (HQ0.out k s HJk.out)
      go_wp2_with fail
      go_loopw [19] (fun iv wr => ∃ (i : Nat) (s : σ), i ≤ Ms.length ∧ iv = .int .i64 i ∧ Hid (Q k (Ms.take i).flatten s) ∧ Hid (I s wr) ∧ Hid (wo.grownBy wr (some p))) (fun iv _ => Ms.length - (intOf iv).toNat)
      case atStart => exact ⟨0, s, Nat.zero_le _, rfl, Lib.hid (by simpa using HQs.out), HI, Lib.hid (grown_below (Below.refl _ _))⟩
      case round =>
        obtain ⟨i, s1, hi, rfl, HQi, HI1, HG1⟩ := hrel
        obtain ⟨wm, hwm⟩ : ∃ wm, wm = wr := ⟨_, rfl⟩
        subst hwm
        by_cases hil : i < Ms.length
        · obtain ⟨b1, o1, d1, e1, kb1, q1⟩ := HA.out.2.2 hpos
          obtain ⟨rfl, rfl⟩ : p1 = some ⟨b1, o1, none⟩ ∧ c1 = d1 := by injection e1 with a1 a2 a3; exact ⟨a1, a3⟩
          obtain ⟨x, hx⟩ : ∃ x, Ms[i]? = some x := ⟨_, List.getElem?_eq_getElem hil⟩
          obtain ⟨vl, z0, nl⟩ := q1.at hx
          have z1 := HK.out.stays HG1.out b1 kb1 _ _ z0
          obtain ⟨⟨p2, c2, rfl, hc2⟩, m2, _⟩ := (⟨nl.1, nl.2⟩ : NodesAt wo Kx vl x)
          have HNl : Hid (NodesAt wo Kx (.slice p2 x.length c2) x) := Lib.hid nl
          have HXm := Lib.hid (List.mem_of_getElem? hx)
          have HTi := Lib.hid (take_snoc hx)
          have k0 : (0 : Int) ≤ (i : Int) := by omega
          have kl : (i : Int) < (Ms.length : Int) := by omega
          have hz2 : x.length ≤ 9223372036854775807 := by unfold maxLen at m2; omega
          clear q1 e1 hx nl m2 z0
          go_wp2_with fail
          go_loopw [25] (fun jv wr => ∃ (j : Nat) (s : σ), j ≤ x.length ∧ jv = .int .i64 j ∧ Hid (Q k ((Ms.take i).flatten ++ x.take j) s) ∧ Hid (I s wr) ∧ Hid (wo.grownBy wr (some p))) (fun jv _ => x.length - (intOf jv).toNat)
          case atStart => exact ⟨0, s1, Nat.zero_le _, rfl, Lib.hid (by simpa using HQi.out), HI1, HG1⟩
          case round =>
            obtain ⟨j, s2, hj, rfl, HQj, HI2, HG2⟩ := hrel
            by_cases hjl : j < x.length
            · obtain ⟨b3, o3, d3, e3, kb3, q3⟩ := HNl.out.2.2 (by omega)
              obtain ⟨rfl, rfl⟩ : p2 = some ⟨b3, o3, none⟩ ∧ c2 = d3 := by injection e3 with a1 a2 a3; exact ⟨a1, a3⟩
              obtain ⟨⟨c, t, args, a⟩, hs⟩ : ∃ s, x[j]? = some s := ⟨_, List.getElem?_eq_getElem hjl⟩
              have y1 := q3.at hs
              unfold NdAt at y1
              obtain ⟨va, y0, y1, y2, y3, hA⟩ := y1
              have hst := HK.out.stays HG2.out b3 kb3
              have y10 := hst _ _ y0
              have y11 := hst _ _ y1
              have y12 := hst _ _ y2
              have y13 := hst _ _ y3
              obtain ⟨⟨pa, ca, rfl, hca⟩, ma, _⟩ := hA
              have j0 : (0 : Int) ≤ (j : Int) := by omega
              have jl : (j : Int) < (x.length : Int) := by omega
              have hnm := List.mem_of_getElem? hs
              have HTj := Lib.hid (take_snoc hs)
              have HNm : Hid (Tr.Nd.mk c t args a ∈ lvNodes k l) := Lib.hid (List.mem_flatten.2 ⟨x, (HM.out x).1 HXm.out, hnm⟩)
              have hal : args.length ≤ 4294967296 := by
                have h1 := Tr.sizeA_mem Ms x HXm.out
                have h2 := Tr.sizeL_mem x _ hnm
                have h3 := Tr.lenA_le args
                have h4 := HSz.out
                simp only [Tr.sizeN] at h2
                omega
              obtain ⟨W1, hW1⟩ : ∃ W1, W1 = wr.alloc (.cells #[.bool c, .string (str t), .slice pa args.length ca, .int .i64 a] 43) := ⟨_, rfl⟩
              have hb1 : Below wr.heap.size wr W1 := by rw [hW1]; exact below_alloc _ _
              have cG := Lib.hid (Hclo.out s2 c t pa args ca a k W1 (Hmono.out _ _ _ HI2.out hb1) (by omega) hal)
              have HG3 := Lib.hid (grown_trans HG2.out (grown_below (row := some p) hb1))
              obtain ⟨sb, hsb⟩ : ∃ sb, sb = (step s2 (.mk c t args a) k).2 := ⟨_, rfl⟩
              rw [← hsb] at cG
              have HSB : Hid ((step s2 (.mk c t args a) k).2 = sb) := Lib.hid hsb.symm
              clear q3 e3 hs hb1 ma y0 y1 y2 y3 hst hnm hsb
              go_wp2_with fail
              rw [← hW1]
              clear hW1 y10 y11 y12 y13
              refine cG.out.mono ?_
              rintro e w2 ⟨rfl, hi2, hg2⟩
              have HI4 := Lib.hid hi2
              have HG4 := Lib.hid (grown_trans HG3.out hg2)
              clear hi2 hg2
              cases sb with
              | true =>
                have HQ4 := Lib.hid (HQ1.out k _ s2 _ HQj.out HNm.out HSB.out)
                go_wp2
                go_roundw
                case rel => exact ⟨j + 1, _, by omega, by go_num, Lib.hid (by rw [HTj.out, ← List.append_assoc]; exact HQ4.out), HI4, HG4⟩
                case measure => simp [intOf]; omega
              | false =>
                have HF4 := Lib.hid (HQ2.out k _ s2 _ HQj.out HNm.out HSB.out)
                go_wp2
                go_end0
                exact ⟨rfl, _, HF4.out, HI4.out, grown_trans HG.out HG4.out⟩
            · have HT : Hid (x.take j = x) := Lib.hid (List.take_of_length_le (by omega))
              go_wp2
              go_roundw
              case rel => exact ⟨i + 1, s2, by omega, by go_num, Lib.hid (by have h := HQj.out; rw [HT.out] at h; rw [HTi.out, List.flatten_append]; simpa using h), HI2, HG2⟩
              case measure => simp [intOf]; omega
        · have HT : Hid (Ms.take i = Ms) := Lib.hid (List.take_of_length_le (by omega))
          have HQe : Hid (J (k + 1) s1) := Lib.hid (HJ.out k _ s1 HQi.out (fun n => by
            rw [HT.out]
            unfold lvNodes
            rw [List.mem_flatten, List.mem_flatten]
            exact ⟨fun ⟨x, h1, h2⟩ => ⟨x, (HM.out x).1 h1, h2⟩, fun ⟨x, h1, h2⟩ => ⟨x, (HM.out x).2 h1, h2⟩⟩))
          have hKm := HK.out.grown HG1.out
          have cA := Lib.hid (arguments_any (.slice p1 Ms.length c1) Ms Kx (by have := HSz.out; omega) wm (HA.out.move (HK.out.stays HG1.out) (fun _ h => h)) (fun b hb => (hKm b hb).1) (fun b hb => (hKm b hb).2.1))
          have HKm := Lib.hid hKm
          have hk1 : IntKind.i64.wrap ((k : Int) + 1) = (k : Int) + 1 := IntWalk.i64_in _ (by omega)
          clear hKm
          go_wp2_with fail
          refine cA.out.mono ?_
          rintro e w2 ⟨v2, Ms2, rfl, hO, hS, hall, hb2⟩
          have hat := hO.at
          have hKn : KOk p (Own Kx v2) w2 := fun b hb => by
            rcases hb with hb | hb
            · exact HKm.out.grown (grown_below hb2) b hb
            · obtain ⟨cs2, r2, _⟩ := hO.row
              have h1 := row_clear r2 hb
              have h2 := HIp.out _ _ HI1.out
              exact ⟨h1.2.lt, h1.2, by omega⟩
          have HA2 := Lib.hid hat
          have HK2 := Lib.hid hKn
          have HM2 : Hid (∀ x, x ∈ Ms2 ↔ x ∈ Lv (k + 1) l) := Lib.hid (fun x => by
            rw [Lv, ← argsOf_same HM.out x]
            exact ⟨fun h => hS.subset h, hall x⟩)
          have HS2 : Hid (Tr.sizeA Ms2 ≤ 1073741825) := Lib.hid (by have h1 := sizeA_sub hS; have h2 := argsOf_size Ms; have := HSz.out; omega)
          have HI2 := Lib.hid (Hmono.out _ _ _ HI1.out hb2)
          have HG2 := Lib.hid (grown_trans HG.out (grown_trans HG1.out (grown_below hb2)))
          clear hO hS hall hb2 hat hKn
          go_wp2
          go_roundw
          case rel => exact ⟨k + 1, Ms2, _, s1, by go_num, by omega, HA2, HK2, HM2, HS2, HI2, HQe, HG2⟩
          case measure => simp [intOf]; omega
end Go.Proofs.Ytimpadooknclkaa
