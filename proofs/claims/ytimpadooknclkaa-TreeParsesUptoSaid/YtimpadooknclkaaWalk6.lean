/-
  The landed walk over nodes: it visits their tokens in order, down to a depth, whatever the function is that it is handed.
-/
import Derived.Test.YtimpadooknclkaaNodes
import Derived.Test.YtimpadooknclkaaRefSame6
set_option linter.unusedVariables false
set_option linter.unusedSimpArgs false
namespace Go.Proofs.Ytimpadooknclkaa
open Go.RowKit

/-- only blocks of Z, and new ones, are turned; those of Z' are of Z, or new -/
structure Kept (Z Z' : Nat → Prop) (w w' : World) : Prop where
  os : w'.os = w.os
  tape : w'.tape = w.tape
  output : w'.output = w.output
  size : w.heap.size ≤ w'.heap.size
  block : ∀ b, b < w.heap.size → ¬ Z b → w'.heap[b]? = w.heap[b]?
  own : ∀ b, Z' b → Z b ∨ w.heap.size ≤ b
theorem Kept.refl (Z : Nat → Prop) (w : World) : Kept Z Z w w := ⟨rfl, rfl, rfl, Nat.le_refl _, fun _ _ _ => rfl, fun _ h => .inl h⟩
theorem Kept.trans {Z Z' Z'' : Nat → Prop} {a b c : World} (h : Kept Z Z' a b) (k : Kept Z' Z'' b c) : Kept Z Z'' a c :=
  ⟨k.os.trans h.os, k.tape.trans h.tape, k.output.trans h.output, Nat.le_trans h.size k.size,
    fun i hi hn => (k.block i (Nat.lt_of_lt_of_le hi h.size) (fun hz => (h.own i hz).elim hn (fun e => by omega))).trans (h.block i hi hn),
    fun i hz => (k.own i hz).elim (h.own i) (fun e => .inr (Nat.le_trans h.size e))⟩
theorem Kept.of_below {Z : Nat → Prop} {w w' : World} (h : Below w.heap.size w w') : Kept Z Z w w' := ⟨h.os, h.tape, h.output, h.size, fun b hb _ => h.block b hb, fun _ h => .inl h⟩
theorem Kept.below {Z Z' : Nat → Prop} {w w' : World} (h : Kept Z Z' w w') {B : Nat} (hB : B ≤ w.heap.size) (hz : ∀ b, Z b → B ≤ b) : Below B w w' :=
  ⟨h.os, h.tape, h.output, h.size, fun b hb => h.block b (by omega) (fun e => by have := hz b e; omega)⟩
theorem Kept.nodes {Z Z' : Nat → Prop} {w w' : World} {K : Nat → Prop} {v : Value} {l : List Nd} (h : Kept Z Z' w w') (hN : NodesAt w K v l) (hK : ∀ b, K b → b < w.heap.size ∧ ¬ Z b) : NodesAt w' K v l ∧ ∀ b, K b → b < w'.heap.size ∧ ¬ Z' b :=
  ⟨hN.move (fun b hb => stays_block (h.block b (hK b hb).1 (hK b hb).2)) (fun _ h => h), fun b hb => ⟨Nat.lt_of_lt_of_le (hK b hb).1 h.size, fun hz => (h.own b hz).elim (hK b hb).2 (fun e => by have := (hK b hb).1; omega)⟩⟩
theorem Kept.args {Z Z' : Nat → Prop} {w w' : World} {K : Nat → Prop} {v : Value} {l : List (List Nd)} (h : Kept Z Z' w w') (hN : ArgsAt w K v l) (hK : ∀ b, K b → b < w.heap.size ∧ ¬ Z b) : ArgsAt w' K v l :=
  hN.move (fun b hb => stays_block (h.block b (hK b hb).1 (hK b hb).2)) (fun _ h => h)
theorem Kept.cell {Z Z' : Nat → Prop} {w w' : World} (h : Kept Z Z' w w') {q i : Nat} {v : Value} (hl : q < w.heap.size) (hn : ¬ Z q) (hc : w.cell? ⟨q, i, none⟩ = some v) : w'.cell? ⟨q, i, none⟩ = some v :=
  (World.cell?_of_block (a := ⟨q, i, none⟩) (h.block q hl hn)).trans hc

theorem flatA_zero (l : List (List Nd)) (a : Int) : Tr.flatA l 0 a = [] := by cases l <;> rfl
theorem flatA_snoc : ∀ (l : List (List Nd)) (g : List Nd) (k : Nat) (a : Int), Tr.flatA (l ++ [g]) (k + 1) a = Tr.flatA l (k + 1) a ++ (⟨2, [], a⟩ :: (Tr.flatL g k ++ [⟨3, [], a⟩]))
  | [], g, k, a => by simp [Tr.flatA]
  | h :: l, g, k, a => by simp only [List.cons_append, Tr.flatA, flatA_snoc l g k a, List.append_assoc]
theorem flatL_take {l : List Nd} {i : Nat} {n : Nd} (h : l[i]? = some n) (k : Nat) : Tr.flatL (l.take (i + 1)) k = Tr.flatL (l.take i) k ++ Tr.flatN n k := by
  rw [List.take_add_one, h, Tr.flatL_append]
  simp [Tr.flatL]
theorem flatA_take {l : List (List Nd)} {i : Nat} {g : List Nd} (h : l[i]? = some g) (k : Nat) (a : Int) : Tr.flatA (l.take (i + 1)) (k + 1) a = Tr.flatA (l.take i) (k + 1) a ++ (⟨2, [], a⟩ :: (Tr.flatL g k ++ [⟨3, [], a⟩])) := by
  rw [List.take_add_one, h]
  exact flatA_snoc _ _ _ _
theorem flatL_part {l : List Nd} {i : Nat} {n : Nd} (h : l[i]? = some n) (k : Nat) : (Tr.flatL (l.take i) k).length + (Tr.flatN n k).length ≤ (Tr.flatL l k).length := by
  have e := flatL_take h k
  have h2 : Tr.flatL l k = Tr.flatL (l.take (i + 1)) k ++ Tr.flatL (l.drop (i + 1)) k := by rw [← Tr.flatL_append, List.take_append_drop]
  rw [h2, e, List.length_append, List.length_append]
  omega
theorem flatA_append : ∀ (l m : List (List Nd)) (k : Nat) (a : Int), Tr.flatA (l ++ m) k a = Tr.flatA l k a ++ Tr.flatA m k a
  | [], m, k, a => by simp [Tr.flatA]
  | g :: l, m, 0, a => by simp [Tr.flatA, flatA_zero]
  | g :: l, m, k + 1, a => by simp only [List.cons_append, Tr.flatA, flatA_append l m, List.append_assoc]
theorem flatA_part {l : List (List Nd)} {i : Nat} {g : List Nd} (h : l[i]? = some g) (k : Nat) (a : Int) : (Tr.flatA (l.take i) (k + 1) a).length + ((Tr.flatL g k).length + 2) ≤ (Tr.flatA l (k + 1) a).length := by
  have e := flatA_take h k a
  have h2 : Tr.flatA l (k + 1) a = Tr.flatA (l.take (i + 1)) (k + 1) a ++ Tr.flatA (l.drop (i + 1)) (k + 1) a := by rw [← flatA_append, List.take_append_drop]
  rw [h2, e, List.length_append, List.length_append, List.length_cons, List.length_append, List.length_singleton]
  omega

def WalkedT (I : List Tok → (Nat → Prop) → World → Prop) (Z : Nat → Prop) (l : List Tok) (w : World) (e : Ending) (w' : World) : Prop :=
  e = .returned (.tuple #[]) ∧ ∃ Z', I l Z' w' ∧ Kept Z Z' w w'

set_option maxHeartbeats 4000000 in
set_option maxRecDepth 100000 in
theorem walkT_ind (g : Nat) (eg : ∀ args w, (callFunc g args).run Try.prog w = .ok (.enter g args) w) (p N : Nat) (I : List Tok → (Nat → Prop) → World → Prop) (hlt : ∀ l Z w, I l Z w → ∀ b, Z b → b < w.heap.size)
    (hmono : ∀ l Z w1 w2, I l Z w1 → Below w1.heap.size w1 w2 → I l Z w2)
    (hclo : ∀ (l : List Tok) (t : Tok) (Z : Nat → Prop) (w1 : World), I l Z w1 → l.length < N → Calls Try.prog g #[tokV t, .pointer (some ⟨p, 0, none⟩)] w1 (WalkedT I Z (l ++ [t]) w1)) :
    ∀ (n : Nat) (ns : List Nd), Tr.sizeL ns < n → ∀ (d k : Nat), d + k = 100 → ∀ (v : Value) (K Z : Nat → Prop) (l : List Tok) (w : World), NodesAt w K v ns → (∀ b, K b → b < w.heap.size ∧ ¬ Z b) → I l Z w → l.length + (Tr.flatL ns k).length ≤ N →
      Calls Try.prog 28 #[v, .int .i64 (d : Int), .func (.func g) #[] #[.pointer (some ⟨p, 0, none⟩)]] w (WalkedT I Z (l ++ Tr.flatL ns k) w) := by
  intro n
  induction n with
  | zero => intro ns h; omega
  | succ n ih =>
    intro ns hsz d k hdk v K Z l w hN hK hI hNl
    obtain ⟨⟨p1, c1, rfl, hc1⟩, m1, k1⟩ := hN
    have hz : ns.length ≤ 9223372036854775807 := by unfold maxLen at m1; omega
    have HN : Hid (NodesAt w K (.slice p1 ns.length c1) ns) := Lib.hid ⟨⟨p1, c1, rfl, hc1⟩, m1, k1⟩
    have HK := Lib.hid hK
    have HI := Lib.hid hI
    have HNl := Lib.hid hNl
    have Hlt := Lib.hid hlt
    have Hmono := Lib.hid hmono
    have Hclo := Lib.hid hclo
    have Hih := Lib.hid ih
    have HSz := Lib.hid hsz
    clear hK hI hNl hlt hmono hclo ih hsz k1 m1
    go_enter Try.func28, Try.ntmps28
    go_wp2_with fail
    go_loopw [12] (fun iv wr => ∃ (i : Nat) (Z1 : Nat → Prop), i ≤ ns.length ∧ iv = .int .i64 i ∧ Hid (I (l ++ Tr.flatL (ns.take i) k) Z1 wr) ∧ Hid (Kept Z Z1 w wr)) (fun iv _ => ns.length - (intOf iv).toNat)
    case atStart => exact ⟨0, Z, Nat.zero_le _, rfl, Lib.hid (by simpa [Tr.flatL] using HI.out), Lib.hid (Kept.refl _ _)⟩
    case round =>
      obtain ⟨i, Z1, hi, rfl, HI1, HK1⟩ := hrel
      obtain ⟨wo, hwo⟩ : ∃ wo, wo = wr := ⟨_, rfl⟩
      subst hwo
      by_cases hil : i < ns.length
      · obtain ⟨hN1, hK1⟩ := HK1.out.nodes HN.out HK.out
        obtain ⟨b1, o1, d1, e1, _, q1⟩ := hN1.2.2 (by omega)
        obtain ⟨rfl, rfl⟩ : p1 = some ⟨b1, o1, none⟩ ∧ c1 = d1 := by injection e1 with a1 a2 a3; exact ⟨a1, a3⟩
        obtain ⟨⟨c, x, args, a⟩, hs⟩ : ∃ s, ns[i]? = some s := ⟨_, List.getElem?_eq_getElem hil⟩
        have y1 := q1.at hs
        unfold NdAt at y1
        obtain ⟨va, y10, y11, y12, y13, hA⟩ := y1
        have HA1 : Hid (ArgsAt wo K va args) := Lib.hid hA
        obtain ⟨⟨pa, ca, rfl, hca⟩, ma, _⟩ := hA
        have k0 : (0 : Int) ≤ (i : Int) := by omega
        have kl : (i : Int) < (ns.length : Int) := by omega
        have HS := Lib.hid hs
        have HK1' := Lib.hid hK1
        have HMem := Lib.hid (List.mem_of_getElem? hs)
        have HPt := Lib.hid (flatL_part hs k)
        have HTk := Lib.hid (flatL_take hs k)
        clear q1 e1 hs hN1 hK1
        obtain ⟨W1, hW1⟩ : ∃ W1, W1 = wo.alloc (.cells #[.bool c, .string (str x), .slice pa args.length ca, .int .i64 a] 43) := ⟨_, rfl⟩
        have hb1 : Below wo.heap.size wo W1 := by rw [hW1]; exact below_alloc _ _
        have hq1 : W1.cell? ⟨wo.heap.size, 0, none⟩ = some (.bool c) ∧ W1.cell? ⟨wo.heap.size, 1, none⟩ = some (.string (str x)) ∧ W1.cell? ⟨wo.heap.size, 2, none⟩ = some (.slice pa args.length ca) ∧ W1.cell? ⟨wo.heap.size, 3, none⟩ = some (.int .i64 a) ∧ wo.heap.size < W1.heap.size := by
          rw [hW1]
          refine ⟨?_, ?_, ?_, ?_, ?_⟩ <;> simp
        have HQ1 := Lib.hid hq1
        have HI2 := Lib.hid (Hmono.out _ _ _ _ HI1.out hb1)
        have HK2 : Hid (Kept Z Z1 w W1) := Lib.hid (HK1.out.trans (Kept.of_below hb1))
        have HnZ : Hid (¬ Z1 wo.heap.size) := Lib.hid (fun h => by have := Hlt.out _ _ _ HI1.out _ h; omega)
        have HA2 := Lib.hid (HA1.out.move (fun b _ => stays_below hb1 b) (fun _ h => h))
        have HKz : Hid (∀ b, K b → b < W1.heap.size ∧ ¬ Z1 b) := Lib.hid (fun b hb => ⟨Nat.lt_of_lt_of_le (HK1'.out b hb).1 hb1.size, (HK1'.out b hb).2⟩)
        clear HA1 hb1
        cases c with
        | false =>
          have HC1 := Lib.hid (Hclo.out _ ⟨0, x, a⟩ _ _ HI2.out (by have h1 := HPt.out; have h2 := HNl.out; simp only [Tr.flatN, Bool.false_eq_true, if_false, List.length_singleton, List.length_append] at h1 h2 ⊢; omega))
          unfold tokV at HC1
          obtain ⟨q0, q1, q2, q3, _⟩ := hq1
          go_wp2_with fail
          rw [← hW1]
          refine HC1.out.mono ?_
          rintro e w3 ⟨rfl, Z3, hi3, hk3⟩
          have HI3 := Lib.hid hi3
          have HK3 := Lib.hid (HK2.out.trans hk3)
          clear hi3 hk3 hW1 q0 q1 q2 q3
          go_wp2
          go_roundw
          case rel => exact ⟨i + 1, Z3, by omega, by go_num, Lib.hid (by rw [HTk.out, ← List.append_assoc]; simpa [Tr.flatN] using HI3.out), HK3⟩
          case measure => simp [intOf]; omega
        | true =>
          have HC1 := Lib.hid (Hclo.out _ ⟨1, x, a⟩ _ _ HI2.out (by have h1 := HPt.out; have h2 := HNl.out; simp only [Tr.flatN, if_true, List.length_cons, List.length_append] at h1 h2 ⊢; omega))
          unfold tokV at HC1
          obtain ⟨q0, q1, q2, q3, _⟩ := hq1
          go_wp2_with fail
          rw [← hW1]
          refine HC1.out.mono ?_
          rintro e w3 ⟨rfl, Z3, hi3, hk3⟩
          have HI3 := Lib.hid hi3
          have HK3 := Lib.hid (HK2.out.trans hk3)
          have HQ3 : Hid (wo.heap.size < w3.heap.size ∧ ¬ Z3 wo.heap.size) := Lib.hid ⟨Nat.lt_of_lt_of_le HQ1.out.2.2.2.2 hk3.size, fun hz => (hk3.own _ hz).elim HnZ.out (fun e => by have := HQ1.out.2.2.2.2; omega)⟩
          have hblk3 := hk3.block wo.heap.size HQ1.out.2.2.2.2 HnZ.out
          have HA3 := Lib.hid (hk3.args HA2.out HKz.out)
          have HKz3 : Hid (∀ b, K b → b < w3.heap.size ∧ ¬ Z3 b) := Lib.hid (fun b hb => ⟨Nat.lt_of_lt_of_le (HKz.out b hb).1 hk3.size, fun hz => (hk3.own b hz).elim (HKz.out b hb).2 (fun e => by have := (HKz.out b hb).1; omega)⟩)
          have z2 : w3.cell? ⟨wo.heap.size, 2, none⟩ = some (.slice pa args.length ca) := (World.cell?_of_block (a := ⟨wo.heap.size, 2, none⟩) hblk3).trans HQ1.out.2.2.1
          have z3 : w3.cell? ⟨wo.heap.size, 3, none⟩ = some (.int .i64 a) := (World.cell?_of_block (a := ⟨wo.heap.size, 3, none⟩) hblk3).trans HQ1.out.2.2.2.1
          have HZ3 := Lib.hid z3
          clear hi3 hk3 hW1 q0 q1 q2 q3 hblk3
          cases k with
          | zero =>
            have g1 : ((d : Int) == 100) = true := by rw [beq_iff_eq]; omega
            go_wp2
            go_roundw
            case rel => exact ⟨i + 1, Z3, by omega, by go_num, Lib.hid (by rw [HTk.out, ← List.append_assoc]; simpa [Tr.flatN, flatA_zero] using HI3.out), HK3⟩
            case measure => simp [intOf]; omega
          | succ k =>
            have g1 : ((d : Int) == 100) = false := by rw [beq_eq_false_iff_ne]; omega
            have hna : args.length ≤ 9223372036854775807 := by unfold maxLen at ma; omega
            go_wp2_with fail
            go_loopw [38] (fun jv wr => ∃ (j : Nat) (Z4 : Nat → Prop), j ≤ args.length ∧ jv = .int .i64 j ∧ Hid (I ((l ++ Tr.flatL (ns.take i) (k + 1)) ++ [⟨1, x, a⟩] ++ Tr.flatA (args.take j) (k + 1) a) Z4 wr) ∧ Hid (Kept Z3 Z4 w3 wr)) (fun jv _ => args.length - (intOf jv).toNat)
            case atStart => exact ⟨0, Z3, Nat.zero_le _, rfl, Lib.hid (by simpa [Tr.flatA] using HI3.out), Lib.hid (Kept.refl _ _)⟩
            case round =>
              obtain ⟨j, Z4, hj, rfl, HI4, HK4⟩ := hrel
              by_cases hjl : j < args.length
              · obtain ⟨wi, hwi⟩ : ∃ wi, wi = wr := ⟨_, rfl⟩
                subst hwi
                have hA4 := HK4.out.args HA3.out HKz3.out
                obtain ⟨ab, ao, ad, ae, _, aq⟩ := hA4.2.2 (by omega)
                obtain ⟨rfl, rfl⟩ : pa = some ⟨ab, ao, none⟩ ∧ ca = ad := by injection ae with a1 a2 a3; exact ⟨a1, a3⟩
                obtain ⟨gr, hg⟩ : ∃ g, args[j]? = some g := ⟨_, List.getElem?_eq_getElem hjl⟩
                obtain ⟨vg, zg, wg⟩ := aq.at hg
                have HG := Lib.hid wg
                have HKz4 : Hid (∀ b, K b → b < wi.heap.size ∧ ¬ Z4 b) := Lib.hid (fun b hb => ⟨Nat.lt_of_lt_of_le (HKz3.out b hb).1 HK4.out.size, fun hz => (HK4.out.own b hz).elim (HKz3.out b hb).2 (fun e => by have := (HKz3.out b hb).1; omega)⟩)
                have j0 : (0 : Int) ≤ (j : Int) := by omega
                have jl : (j : Int) < (args.length : Int) := by omega
                have hsm := Tr.size_arg HMem.out (List.mem_of_getElem? hg)
                have HAp := Lib.hid (flatA_part hg k a)
                have HAt := Lib.hid (flatA_take hg k a)
                have e3 := HK4.out.cell HQ3.out.1 HQ3.out.2 HZ3.out
                have hd1 : IntKind.i64.wrap ((d : Int) + 1) = (d : Int) + 1 := IntWalk.i64_in _ (by omega)
                have HLen : Hid ((l ++ Tr.flatL (ns.take i) (k + 1) ++ [(⟨1, x, a⟩ : Tok)] ++ Tr.flatA (args.take j) (k + 1) a).length + ((Tr.flatL gr k).length + 2) ≤ N) := Lib.hid (by
                  have h1 := HPt.out
                  have h2 := HNl.out
                  have h3 := HAp.out
                  simp only [Tr.flatN, if_true, List.length_cons, List.length_append, List.length_nil] at h1 h2 h3 ⊢
                  omega)
                have HC4 := Lib.hid (Hclo.out _ ⟨2, [], a⟩ _ _ HI4.out (by have := HLen.out; omega))
                unfold tokV at HC4
                clear aq ae hg wg hA4
                go_wp2_with fail
                refine HC4.out.mono ?_
                rintro e w5 ⟨rfl, Z5, hi5, hk5⟩
                have HI5 := Lib.hid hi5
                have HK5 := Lib.hid (HK4.out.trans hk5)
                obtain ⟨hn5, hkz5⟩ := hk5.nodes HG.out HKz4.out
                have HR5 := Lib.hid (Hih.out gr (by have := HSz.out; omega) (d + 1) k (by omega) vg K Z5 _ w5 hn5 hkz5 hi5 (by have := HLen.out; simp only [List.length_append, List.length_singleton] at this ⊢; omega))
                rw [show (((d + 1 : Nat) : Nat) : Int) = (d : Int) + 1 by omega] at HR5
                clear hi5 hk5 hn5 hkz5 HC4
                go_wp2_with fail
                refine HR5.out.mono ?_
                rintro e w6 ⟨rfl, Z6, hi6, hk6⟩
                have HK6 := Lib.hid (HK5.out.trans hk6)
                have e6 := HK6.out.cell HQ3.out.1 HQ3.out.2 HZ3.out
                have HC6 := Lib.hid (Hclo.out _ ⟨3, [], a⟩ _ _ hi6 (by have := HLen.out; simp only [List.length_append, List.length_singleton] at this ⊢; omega))
                unfold tokV at HC6
                clear hi6 hk6 HR5
                go_wp2_with fail
                refine HC6.out.mono ?_
                rintro e w7 ⟨rfl, Z7, hi7, hk7⟩
                have HI7 := Lib.hid hi7
                have HK7 := Lib.hid (HK6.out.trans hk7)
                clear hi7 hk7 HC6
                go_wp2
                go_roundw
                case rel => exact ⟨j + 1, Z7, by omega, by go_num, Lib.hid (by rw [HAt.out]; simpa [List.append_assoc] using HI7.out), HK7⟩
                case measure => simp [intOf]; omega
              · have HT : Hid (args.take j = args) := Lib.hid (List.take_of_length_le (by omega))
                go_wp2
                go_roundw
                case rel => exact ⟨i + 1, Z4, by omega, by go_num, Lib.hid (by have h := HI4.out; rw [HT.out] at h; rw [HTk.out, ← List.append_assoc]; simpa [Tr.flatN, List.append_assoc] using h), Lib.hid (HK3.out.trans HK4.out)⟩
                case measure => simp [intOf]; omega
      · have HT : Hid (ns.take i = ns) := Lib.hid (List.take_of_length_le (by omega))
        go_wp2
        go_end0
        exact ⟨rfl, Z1, by have h := HI1.out; rw [HT.out] at h; exact h, HK1.out⟩
end Go.Proofs.Ytimpadooknclkaa
