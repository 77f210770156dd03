/-
  The reference's Widths.
-/
import Derived.Deep.RegionHeld3
import Derived.Test.YthcilpijiindeaaWidths12
import Derived.Test.YthcilpijiindeaaRefGives12
import Derived.Test.YthcilpijiindeaaRefSet10
import Derived.Test.YthcilpijiindeaaApp9
set_option linter.unusedVariables false
set_option linter.unusedSimpArgs false
namespace Go.Proofs.Ythcilpijiindeaa
open Go.RowKit

namespace It
theorem widR_get (s : Stg) (A all : Int) : ∀ (l : List Gl) (c p : Int) (k : Nat) (g : Gl), p = prtR A all c → l[k]? = some g → (widR s A all c p l)[k]? = some (g.w + prtR A all (c + wsum s (l.take (k + 1))) - prtR A all (c + wsum s (l.take k)))
  | y :: r, c, p, 0, g, hp, h => by
    simp at h
    subst h
    simp [widR, wsum, hp]
  | y :: r, c, p, k + 1, g, hp, h => by
    simp at h
    have := widR_get s A all r (c + wgt s y) (prtR A all (c + wgt s y)) k g rfl h
    simp only [widR, List.getElem?_cons_succ, this, List.take_succ_cons, wsum]
    rw [show c + wgt s y + wsum s (r.take (k + 1)) = c + (wgt s y + wsum s (r.take (k + 1))) by omega, show c + wgt s y + wsum s (r.take k) = c + (wgt s y + wsum s (r.take k)) by omega]
theorem widR_len (s : Stg) (A all : Int) : ∀ (l : List Gl) (c p : Int), (widR s A all c p l).length = l.length
  | [], _, _ => rfl
  | g :: r, c, p => by simp only [widR, List.length_cons, widR_len s A all r]
theorem widR_zero (s : Stg) (A B all : Int) (h : ¬ 0 < all) : ∀ (l : List Gl) (c p : Int), widR s A all c p l = widR s B all c p l
  | [], _, _ => rfl
  | g :: r, c, p => by
    have e : ∀ x, prtR A all x = prtR B all x := fun x => by unfold prtR; rw [if_neg h, if_neg h]
    simp only [widR]
    rw [e, widR_zero s A B all h r]
/-- the excess that is shared, with its sign -/
def amtR (s : Stg) (all : Int) : Int := if s.sg = -1 ∧ s.e < -all then -all else s.e
theorem widths_R {l : List Gl} {t : Int} {s : Stg} (h : setOf l t = some s) : widR s (amtR s (wsum s l)) (wsum s l) 0 0 l = widF s (amtOf l s) (wsum s l) 0 l := by
  have hg := (setOf_some h).1
  have hsg := setOf_sg h
  obtain ⟨a0, a1⟩ := amt_bound h
  obtain ⟨w0, w1⟩ := wsum_bound (s := s) hg
  have h1 := widR_is hsg a0 w0 l 0 (Int.le_refl _) (glMay_yes hg).2.1
  rw [prt_zero, Int.mul_zero] at h1
  rw [← h1]
  rcases hsg with e | e | e
  · have hk := wsum_shrink (s := s) (by omega) l
    have : amtR s (wsum s l) = s.sg * amtOf l s := by
      unfold amtR amtOf
      rw [hk, if_neg (show ¬ 0 ≤ s.sg by omega), e]
      by_cases hc : s.e < -sumK l
      · rw [if_pos ⟨rfl, hc⟩]; omega
      · rw [if_neg (fun x => hc x.2)]; omega
    rw [this]
  · exact widR_zero s _ _ _ (by rw [wsum_none e]; omega) l 0 0
  · have : amtR s (wsum s l) = s.sg * amtOf l s := by
      unfold amtR amtOf
      rw [if_neg (fun x => by omega), if_pos (by omega), e]
      omega
    rw [this]
theorem amtR_bound {l : List Gl} {t : Int} {s : Stg} (h : setOf l t = some s) : -1073741823 ≤ amtR s (wsum s l) ∧ amtR s (wsum s l) ≤ 1073741823 := by
  obtain ⟨_, _, _, e4, e5⟩ := setOf_e h
  obtain ⟨w0, w1⟩ := wsum_bound (s := s) (setOf_some h).1
  unfold amtR
  split <;> omega
theorem mul_bound {a c : Int} (h0 : -1073741823 ≤ a) (h1 : a ≤ 1073741823) (c0 : 0 ≤ c) (c1 : c ≤ 1073741823) : -1152921504606846976 ≤ a * c ∧ a * c ≤ 1152921504606846976 := by
  have h : (a * c).natAbs ≤ 1073741823 * 1073741823 := by
    rw [Int.natAbs_mul]
    exact Nat.mul_le_mul (by omega) (by omega)
  omega
theorem tdiv_bound {a n : Int} (h0 : -1152921504606846976 ≤ a) (h1 : a ≤ 1152921504606846976) : -1152921504606846976 ≤ a.tdiv n ∧ a.tdiv n ≤ 1152921504606846976 := by
  have h : (a.tdiv n).natAbs ≤ a.natAbs := by rw [Int.natAbs_tdiv]; exact Nat.div_le_self _ _
  omega
theorem prtR_bound {A all c : Int} (h0 : -1073741823 ≤ A) (h1 : A ≤ 1073741823) (c0 : 0 ≤ c) (c1 : c ≤ 1073741823) : -1152921504606846976 ≤ prtR A all c ∧ prtR A all c ≤ 1152921504606846976 := by
  unfold prtR
  split
  · obtain ⟨a, b⟩ := mul_bound h0 h1 c0 c1
    exact tdiv_bound a b
  · omega
end It
theorem elemGl : Try.prog.elem 62 = 38 := by kernel_rfl
theorem sizeGl (wx : World) : (sizeOf 38).run Try.prog wx = .ok 4 wx := by kernel_rfl
theorem run_one12 (b o n k cap : Nat) (h : k < cap) (wx : World) : (Instr.slice 62 (.slice (some ⟨b, o, none⟩) n cap) (some (.int .i64 (k : Int))) (some (.int .i64 ((k : Int) + 1))) none).run Try.prog wx = .ok (.slice (some ⟨b, o + k * 4, none⟩) 1 (cap - k)) wx := by
  have e : ((k : Int) + 1) = ((k + 1 : Nat) : Int) := by omega
  rw [e, run_slice_lh (ht := by rw [elemGl]; exact Try.underlying62) (h0 := by omega) (h1 := by omega) (h2 := by omega), elemGl, sizeGl]
  have hc : ¬ cap = k := by omega
  simp [Result.andThen, sliced, hc, Addr.add]
theorem slc_one12 {w : World} {b o cap : Nat} {g : It.Gl} (h : RecAt w b o (glC g)) (hc : 1 ≤ cap) : GlsAt w (.slice (some ⟨b, o, none⟩) 1 cap) [g] := by
  refine ⟨⟨_, _, rfl, hc⟩, by unfold maxLen; simp, fun _ => ⟨b, o, cap, rfl, fun i x hi => ?_⟩⟩
  match i, hi with
  | 0, hi => simp at hi; subst hi; simpa using h
  | i + 1, hi => simp at hi
abbrev OwnZ (B : Nat) (v : Value) (l : List Int) (w : World) : Prop := OwnR 2 inZ 1 B v l w
theorem inZ_cell (l : List Int) : ∀ u ∈ l.flatMap inZ, u.oneCell' = true := by
  intro u hu
  obtain ⟨x, _, hx⟩ := List.mem_flatMap.1 hu
  simp [inZ] at hx
  subst hx
  rfl
theorem glMay_g {l : List It.Gl} (h : It.glMay l = true) {g : It.Gl} (hg : g ∈ l) : It.glMay [g] = true := by
  rw [It.glMay_one]
  exact List.all_eq_true.1 (It.glMay_yes h).2.1 g hg
theorem own_lowW {α : Type} {T : TypeId} {f : α → List Value} {k B C : Nat} {v : Value} {l : List α} {w : World} (h : OwnR T f k B v l w) (hC : C ≤ B) : OwnR T f k C v l w := by
  refine ⟨h.1, ?_⟩
  rcases h.2 with h1 | ⟨g, cp, cu, e, hB, rest⟩
  · exact .inl h1
  · exact .inr ⟨g, cp, cu, e, by omega, rest⟩
theorem own_formZ {B : Nat} {v : Value} {l : List Int} {w : World} (h : OwnZ B v l w) : ∃ a n c, v = .slice a n c := by
  obtain ⟨⟨a, c, e, _⟩, _⟩ := OwnR.at h inZ_len
  exact ⟨a, _, c, e⟩
theorem w64_succ {k n : Nat} (h : k < n) (hn : n ≤ 2000) : wrap64 ((k : Int) + 1) = (k : Int) + 1 := w64 (by omega) (by omega)
theorem wr_succ {k n : Nat} (h : k < n) (hn : n ≤ 2000) : IntKind.i64.wrap ((k : Int) + 1) = (k : Int) + 1 := It.wr_in (by omega) (by omega)
/-- what the reference's Widths answers -/
def RWidthsAt (B : Nat) (w : World) (r : Option (List Int)) (u : Value) : Prop :=
  match r with
  | none => u = .tuple #[.slice none 0 0, .bool false]
  | some ws => ∃ x, u = .tuple #[x, .bool true] ∧ OwnZ B x ws w
set_option maxHeartbeats 8000000 in
set_option maxRecDepth 100000 in
theorem refWidths_any (v : Value) (l : List It.Gl) (t : Int) (w : World) (h : GlsAt w v l) (hn : l.length ≤ 2000) :
    Calls Try.prog 38 #[v, .int .i64 t] w fun e w' => ∃ u, e = .returned u ∧ RWidthsAt w.heap.size w' (It.widths l t) u ∧ Below w.heap.size w w' := by
  have HA := Lib.hid h
  have HS := Lib.hid (refSet_any v l t w h)
  obtain ⟨⟨p, cp, rfl, hcap⟩, hm, _⟩ := h
  have hza : l.length ≤ 9223372036854775807 := by omega
  have HQ : Hid (It.widths l t = (It.setOf l t).map fun s => It.widF s (It.amtOf l s) (It.wsum s l) 0 l) := Lib.hid rfl
  obtain ⟨r, hr⟩ : ∃ r, r = It.widths l t := ⟨_, rfl⟩
  rw [← hr] at HQ ⊢
  clear hr
  obtain ⟨o, ho⟩ : ∃ o, o = It.setOf l t := ⟨_, rfl⟩
  have HO := Lib.hid ho
  rw [← ho] at HS HQ
  clear ho
  cases o with
  | none =>
    have HE : Hid (r = none) := Lib.hid HQ.out
    unfold setV at HS
    go_enter Try.func38, Try.ntmps38
    go_wp2_with fail
    refine HS.out.mono ?_
    rintro e w2 ⟨rfl, hb2⟩
    have HB2 := Lib.hid hb2
    clear hb2
    have HB3 := Lib.hid (below_step HB2.out (below_alloc w2 (.cells #[.int .i64 0, .int .i64 0, .int .i64 0, .int .i64 0] 56)))
    go_wp2
    exact bodyPost_ret (v := .tuple #[.slice none 0 0, .bool false]) (by simp [results, Try.results38, go_sem]) rfl ⟨_, rfl, by rw [HE.out]; exact rfl, HB3.out⟩
  | some s =>
    have hs := HO.out.symm
    have hq := (It.setOf_some hs).1
    have HE : Hid (r = some (It.widR s (It.amtR s (It.wsum s l)) (It.wsum s l) 0 0 l)) := Lib.hid (by rw [It.widths_R hs]; exact HQ.out)
    obtain ⟨a0, a1⟩ := It.amtR_bound hs
    obtain ⟨e1, e2, e3, e4, e5⟩ := It.setOf_e hs
    have hsg := It.setOf_sg hs
    obtain ⟨w0, w1⟩ := It.wsum_bound (s := s) hq
    have HWt := Lib.hid (It.wsum_take s hq)
    have HGv := Lib.hid (fun w1 (hb : GlsAt w1 (.slice p l.length cp) l) => refGives_any _ l l.length s w1 hb (Nat.le_refl _) hn hq hsg)
    rw [List.take_length] at HGv
    have HG1 : Hid (∀ u g w1, g ∈ l → GlsAt w1 u [g] → Calls Try.prog 57 #[u, .int .i64 1, .agg #[.int .i64 s.sg, .int .i64 s.o, .int .i64 0, .int .i64 0]] w1 (Ret (.int .i64 (It.wgt s g)) w1)) := Lib.hid (fun u g w1 hg hb => by
      have h1 := refGives_any u [g] 1 ⟨s.sg, s.o, 0, 0⟩ w1 hb (by simp) (by simp) (glMay_g hq hg) hsg
      have e : It.wsum ⟨s.sg, s.o, 0, 0⟩ ([g].take 1) = It.wgt s g := by simp [It.wsum, It.wgt]
      rw [e] at h1
      exact h1)
    have HGt := Lib.hid (It.widR_get s (It.amtR s (It.wsum s l)) (It.wsum s l) l 0 0)
    have HGw : Hid (∀ g ∈ l, -1073741823 ≤ g.w ∧ g.w ≤ 1073741823) := Lib.hid (fun g hg => by
      have := It.glOk_yes (List.all_eq_true.1 (It.glMay_yes hq).2.1 g hg)
      exact this.2.1)
    have HWl := Lib.hid (It.widR_len s (It.amtR s (It.wsum s l)) (It.wsum s l) l 0 0)
    have HPb := Lib.hid (fun c (c0 : 0 ≤ c) (c1 : c ≤ 1073741823) => It.prtR_bound (all := It.wsum s l) a0 a1 c0 c1)
    have HMb := Lib.hid (fun c (c0 : 0 ≤ c) (c1 : c ≤ 1073741823) => It.mul_bound a0 a1 c0 c1)
    have HAm : Hid (It.amtR s (It.wsum s l) = if s.sg = -1 ∧ s.e < -It.wsum s l then -It.wsum s l else s.e) := Lib.hid rfl
    have HPr : Hid (∀ c, It.prtR (It.amtR s (It.wsum s l)) (It.wsum s l) c = if 0 < It.wsum s l then (It.amtR s (It.wsum s l) * c).tdiv (It.wsum s l) else 0) := Lib.hid (fun c => rfl)
    generalize It.amtR s (It.wsum s l) = A at *
    obtain ⟨all, hall⟩ : ∃ all, all = It.wsum s l := ⟨_, rfl⟩
    rw [← hall] at HE HGv HGt HWl HPb HAm HPr w0 w1
    obtain ⟨res, hres⟩ : ∃ res, res = It.widR s A all 0 0 l := ⟨_, rfl⟩
    rw [← hres] at HE HGt HWl
    clear hs hq hres hall e1 e2 e3
    unfold setV stgV at HS
    unfold stgV at HGv
    have hneg : wrap64 (-all) = -all := w64 (by omega) (by omega)
    go_enter Try.func38, Try.ntmps38
    go_wp2_with fail
    refine HS.out.mono ?_
    rintro e w2 ⟨rfl, hb2⟩
    have HB2 := Lib.hid hb2
    clear hb2
    obtain ⟨W3, hW3⟩ : ∃ W, W = w2.alloc (.cells #[.int .i64 s.sg, .int .i64 s.o, .int .i64 s.e, .int .i64 s.bad] 56) := ⟨_, rfl⟩
    have HB3 := Lib.hid (below_step HB2.out (below_alloc w2 (.cells #[.int .i64 s.sg, .int .i64 s.o, .int .i64 s.e, .int .i64 s.bad] 56)))
    have HX3 := Lib.hid (obj_new w2 _ rfl #[.int .i64 s.sg, .int .i64 s.o, .int .i64 s.e, .int .i64 s.bad] 56)
    rw [← hW3] at HB3 HX3
    obtain ⟨P, hP⟩ : ∃ P, P = w2.heap.size := ⟨_, rfl⟩
    rw [← hP] at HX3
    have s0 := Lib.cell_of_heap HX3.out 0
    have s1 := Lib.cell_of_heap HX3.out 1
    have s2 := Lib.cell_of_heap HX3.out 2
    have s3 := Lib.cell_of_heap HX3.out 3
    go_upto_region 4 with fail
    rw [← hW3, ← hP]
    clear hW3 hP
    go_wp2_with fail
    refine (HGv.out _ (HA.out.mono HB3.out)).mono ?_
    rintro e w4 ⟨rfl, hb4⟩
    have HX4 := Lib.hid (obj_kept hb4 HX3.out)
    have HB4 := Lib.hid (below_step HB3.out hb4)
    clear hb4 s0 s1 s2 s3
    have s0 : w4.cell? ⟨P, 0, none⟩ = some (.int .i64 s.sg) := Lib.cell_of_heap HX4.out 0
    have s1 : w4.cell? ⟨P, 1, none⟩ = some (.int .i64 s.o) := Lib.cell_of_heap HX4.out 1
    have s2 : w4.cell? ⟨P, 2, none⟩ = some (.int .i64 s.e) := Lib.cell_of_heap HX4.out 2
    obtain ⟨n, hnn⟩ : ∃ n, n = l.length := ⟨_, rfl⟩
    have Hn := Lib.hid hnn
    rw [← hnn] at HA hn hza HWl ⊢
    clear hnn hm hcap HGv
    have hcase : (s.sg = -1 ∧ s.e < -all) ∨ (s.sg = -1 ∧ ¬ s.e < -all) ∨ ¬ s.sg = -1 := by omega
    rcases hcase with ⟨f1, f2⟩ | ⟨f1, f2⟩ | f1
    · have hA : A = -all := by rw [HAm.out, if_pos ⟨f1, f2⟩]
      have f3 : (s.sg == -1) = true := by rw [f1]; rfl
      go_upto_region 8 with fail
      rw [← hA]
      clear f1 f2 f3
      have HO5 := Lib.hid (own_lowW (own_empty 2 inZ 1 w4) HB4.out.size)
      have HB5 := Lib.hid (below_step HB4.out (below_alloc w4 (.cells #[] 2)))
      obtain ⟨W5, hW5⟩ : ∃ W, W = w4.alloc (.cells #[] 2) := ⟨_, rfl⟩
      obtain ⟨Q0, hQ0⟩ : ∃ Q, Q = w4.heap.size := ⟨_, rfl⟩
      rw [← hW5, ← hQ0] at HO5
      rw [← hW5] at HB5
      have s0' : W5.cell? ⟨P, 0, none⟩ = some (.int .i64 s.sg) := by rw [hW5]; exact cell_below (below_alloc _ _) s0
      have s1' : W5.cell? ⟨P, 1, none⟩ = some (.int .i64 s.o) := by rw [hW5]; exact cell_below (below_alloc _ _) s1
      clear s0 s1 s2
      go_upto_region 9 with fail
      rw [← hW5, ← hQ0]
      clear hW5 hQ0
      have HO6 : Hid (OwnZ w.heap.size (.slice (some ⟨Q0, 0, none⟩) 0 0) (res.take 0) (W5.alloc (.cells #[.int .i64 s.sg, .int .i64 s.o, .int .i64 0, .int .i64 0] 56))) := Lib.hid (OwnR.mono HO5.out (below_alloc _ _))
      have HY6 := Lib.hid (obj_new W5 _ rfl #[.int .i64 s.sg, .int .i64 s.o, .int .i64 0, .int .i64 0] 56)
      have HB6 := Lib.hid (below_step HB5.out (below_alloc W5 (.cells #[.int .i64 s.sg, .int .i64 s.o, .int .i64 0, .int .i64 0] 56)))
      obtain ⟨W6, hW6⟩ : ∃ W, W = W5.alloc (.cells #[.int .i64 s.sg, .int .i64 s.o, .int .i64 0, .int .i64 0] 56) := ⟨_, rfl⟩
      obtain ⟨P1, hP1⟩ : ∃ P, P = W5.heap.size := ⟨_, rfl⟩
      rw [← hW6] at HO6 HY6 HB6
      rw [← hP1] at HY6
      go_upto_region 11 with fail
      rw [← hW6, ← hP1]
      clear hW6 hP1 s0' s1' HO5 HB5 hA
      go_wp2_with fail
      go_loopw [10, 11, 12, 14] (fun ov sv pv kv wr => ∃ k : Nat, k ≤ n ∧ kv = .int .i64 k ∧ sv = .int .i64 (It.wsum s (l.take k)) ∧ pv = .int .i64 (It.prtR A all (It.wsum s (l.take k))) ∧ Hid (OwnZ w.heap.size ov (res.take k) wr) ∧ Hid (wr.heap[P1]? = some (.cells #[.int .i64 s.sg, .int .i64 s.o, .int .i64 0, .int .i64 0] 56 (0, 0))) ∧ Hid (Below w.heap.size w wr)) (fun _ _ _ kv _ => n - (intOf kv).toNat)
      case atStart => exact ⟨0, Nat.zero_le _, rfl, rfl, by rw [HPr.out]; simp [It.wsum], HO6, HY6, HB6⟩
      case round =>
        obtain ⟨k, hk, rfl, rfl, rfl, HO, HY, HB⟩ := hrel
        clear HO6 HY6 HB6
        by_cases hlt : k < n
        · obtain ⟨b1, o1, d1, e1, r1⟩ := HA.out.2.2 (by rw [← Hn.out]; omega)
          rw [← Hn.out] at e1
          obtain ⟨rfl, rfl⟩ : p = some ⟨b1, o1, none⟩ ∧ cp = d1 := by injection e1 with a1 a2 a3; exact ⟨a1, a3⟩
          obtain ⟨g, hg⟩ : ∃ g, l[k]? = some g := ⟨_, List.getElem?_eq_getElem (by rw [← Hn.out]; exact hlt)⟩
          have hkc : k < cp := by have := HA.out.1; obtain ⟨_, _, e, hc⟩ := this; injection e with _ _ e; rw [← Hn.out] at hc; omega
          have HRk := Lib.hid (r1 k g hg)
          have HRes := Lib.hid (HGt.out k g (by rw [HPr.out]; simp) hg)
          rw [Int.zero_add, Int.zero_add] at HRes
          have hsx : It.wsum s (l.take (k + 1)) = It.wsum s (l.take k) + It.wgt s g := by rw [It.take_snoc hg, It.wsum_app]; simp [It.wsum]
          obtain ⟨t0, t1⟩ := HWt.out k
          obtain ⟨t2, t3⟩ := HWt.out (k + 1)
          obtain ⟨g0, g1⟩ := HGw.out g (List.mem_of_getElem? hg)
          have hmem := List.mem_of_getElem? hg
          have k0 : (0 : Int) ≤ (k : Int) := by omega
          have kl : (k : Int) < (n : Int) := by omega
          have hk1 : wrap64 ((k : Int) + 1) = (k : Int) + 1 := w64_succ hlt hn
          have hk2 : IntKind.i64.wrap ((k : Int) + 1) = (k : Int) + 1 := wr_succ hlt hn
          have hs3 := fun wx => run_one12 b1 o1 n k cp hkc wx
          have hs4 : ∀ wx, (Instr.sliceAt 62 (.slice (some ⟨b1, o1, none⟩) n cp) (some (.int .i64 (k : Int))) (some (.int .i64 ((k : Int) + 1))) none).run Try.prog wx = .ok (.slice (some ⟨b1, o1 + k * 4, none⟩) 1 (cp - k)) wx := fun wx => by rw [run_sliceAt_slice (h := by rw [elemGl]; exact Try.underlying62)]; exact hs3 wx
          have HBd := Lib.hid (below_step HB.out (below_drew10w wr))
          have HYd := Lib.hid (obj_kept (below_drew10w wr) HY.out)
          have HOd := Lib.hid (OwnR.mono HO.out (below_drew10w wr))
          have HGd := Lib.hid (HG1.out (.slice (some ⟨b1, o1 + k * 4, none⟩) 1 (cp - k)) g wr.drew hmem (slc_one12 (HRk.out.mono HBd.out) (Nat.sub_pos_of_lt hkc)))
          obtain ⟨c0, hc0⟩ : ∃ c, c = It.wsum s (l.take k) := ⟨_, rfl⟩
          obtain ⟨c1, hc1⟩ : ∃ c, c = It.wsum s (l.take (k + 1)) := ⟨_, rfl⟩
          rw [← hc0] at hsx t0 t1 HRes ⊢
          rw [← hc1] at hsx t2 t3 HRes
          have HSk : Hid (Value.int .i64 c1 = .int .i64 (It.wsum s (l.take (k + 1)))) := Lib.hid (by rw [hc1])
          have hPk : Value.int .i64 (It.prtR A all c1) = .int .i64 (It.prtR A all (It.wsum s (l.take (k + 1)))) := by rw [hc1]
          have HPk := Lib.hid hPk
          obtain ⟨gw, hgw⟩ : ∃ x, x = It.wgt s g := ⟨_, rfl⟩
          rw [← hgw] at hsx HGd
          have kw0 : wrap64 (c0 + gw) = c1 := by rw [hsx]; exact w64 (by omega) (by omega)
          have kw0' : IntKind.i64.wrap (c0 + gw) = c1 := by rw [hsx]; exact It.wr_in (by omega) (by omega)
          obtain ⟨a0', a1'⟩ := HPb.out c0 t0 t1
          obtain ⟨b0', b1'⟩ := HPb.out c1 t2 t3
          obtain ⟨m0', m1'⟩ := HMb.out c1 t2 t3
          have q0 := Lib.cell_of_heap HY.out 0
          have q1 := Lib.cell_of_heap HY.out 1
          have q2 := Lib.cell_of_heap HY.out 2
          have q3 := Lib.cell_of_heap HY.out 3
          have hSd : wr.drew.cell? ⟨P1, 0, none⟩ = some (.int .i64 s.sg) ∧ wr.drew.cell? ⟨P1, 1, none⟩ = some (.int .i64 s.o) ∧ wr.drew.cell? ⟨P1, 2, none⟩ = some (.int .i64 0) ∧ wr.drew.cell? ⟨P1, 3, none⟩ = some (.int .i64 0) := ⟨q0, q1, q2, q3⟩
          clear r1 e1 hg hmem hc0 hc1 hgw hsx hPk
          go_upto_region 14 with fail
          go_region_held3 (fun w' => w'.cell? ⟨P1, 0, none⟩ = some (.int .i64 s.sg) ∧ w'.cell? ⟨P1, 1, none⟩ = some (.int .i64 s.o) ∧ w'.cell? ⟨P1, 2, none⟩ = some (.int .i64 0) ∧ w'.cell? ⟨P1, 3, none⟩ = some (.int .i64 0)) (first | (with_reducible exact hSd) | (with_reducible exact hS5) | go_keep) (((with_reducible refine HGd.out.mono ?_); rintro e w5 ⟨rfl, hb5⟩; have HY5 := Lib.hid (obj_kept hb5 HYd.out); have HB5 := Lib.hid (below_step HBd.out hb5); have HO5 := Lib.hid (OwnR.mono HOd.out hb5); have hS5 : w5.cell? ⟨P1, 0, none⟩ = some (.int .i64 s.sg) ∧ w5.cell? ⟨P1, 1, none⟩ = some (.int .i64 s.o) ∧ w5.cell? ⟨P1, 2, none⟩ = some (.int .i64 0) ∧ w5.cell? ⟨P1, 3, none⟩ = some (.int .i64 0) := ⟨Lib.cell_of_heap HY5.out 0, Lib.cell_of_heap HY5.out 1, Lib.cell_of_heap HY5.out 2, Lib.cell_of_heap HY5.out 3⟩; clear hb5))
          clear q0 q1 q2 q3 hSd hS5 HGd hs3 hs4
          by_cases hz : 0 < all
          · have hpr : It.prtR A all c1 = (A * c1).tdiv all := by rw [HPr.out, if_pos hz]
            rw [hpr] at b0' b1'
            have km : wrap64 (A * c1) = A * c1 := w64 (by omega) (by omega)
            have km' : IntKind.i64.wrap (A * c1) = A * c1 := It.wr_in (by omega) (by omega)
            have kq : wrap64 ((A * c1).tdiv all) = It.prtR A all c1 := by rw [hpr]; exact w64 (by omega) (by omega)
            have kq' : IntKind.i64.wrap ((A * c1).tdiv all) = It.prtR A all c1 := by rw [hpr]; exact It.wr_in (by omega) (by omega)
            rw [← hpr] at b0' b1'
            have hz0 : all ≠ 0 := by omega
            have hz1 : (all == 0) = false := by simpa using hz0
            clear hpr
            have kw2 : IntKind.i64.wrap (g.w + It.prtR A all c1 - It.prtR A all c0) = g.w + It.prtR A all c1 - It.prtR A all c0 := It.wr_in (by omega) (by omega)
            have kw1 : IntKind.i64.wrap (g.w + It.prtR A all c1) = g.w + It.prtR A all c1 := It.wr_in (by omega) (by omega)
            have kw3 : wrap64 (g.w + It.prtR A all c1 - It.prtR A all c0) = g.w + It.prtR A all c1 - It.prtR A all c0 := w64 (by omega) (by omega)
            have kw4 : wrap64 (g.w + It.prtR A all c1) = g.w + It.prtR A all c1 := w64 (by omega) (by omega)
            have y0 : w5.cell? ⟨b1, o1 + k * 4, none⟩ = some (.int .i64 g.w) := (gl_cells (HRk.out.mono HB5.out)).1
            have HO6 := Lib.hid (OwnR.mono HO5.out (below_alloc w5 (.cells #[.int .i64 (g.w + It.prtR A all c1 - It.prtR A all c0)] 2)))
            have HY6 := Lib.hid (obj_kept (below_alloc w5 (.cells #[.int .i64 (g.w + It.prtR A all c1 - It.prtR A all c0)] 2)) HY5.out)
            have HB6 := Lib.hid (below_step HB5.out (below_alloc w5 (.cells #[.int .i64 (g.w + It.prtR A all c1 - It.prtR A all c0)] 2)))
            have HN6 := Lib.hid (slc_new inZ_len w5 _ rfl [g.w + It.prtR A all c1 - It.prtR A all c0] 2 (by simp) #[.int .i64 (g.w + It.prtR A all c1 - It.prtR A all c0)] rfl)
            have hz6 := HB6.out.size
            have hlr : (res.take k).length = k := by rw [List.length_take, HWl.out]; omega
            clear a0' b0' a1' b1'
            go_wp2_with (at_builtin; refine wpList_append_slc Try.underlying67 infoZ12 rfl (by decide) inZ_len inZ_cell rfl _ _ rfl w.heap.size _ _ (res.take k) [g.w + It.prtR A all c1 - It.prtR A all c0] rfl HO6.out rfl HN6.out (by rw [hlr]; simp; omega) (by rw [hlr]; unfold maxLen; simp; omega) hz6 ?_; intro v9 w9 h9 hg9; have HO9 := Lib.hid h9; have HY9 := Lib.hid (obj_far HY6.out hg9 (own_off9 HO6.out HY6.out (by decide))); have HB9 := Lib.hid (below_app HB6.out hg9 HO6.out hz6); clear h9 hg9)
            go_roundw
            case rel => exact ⟨k + 1, by omega, by go_num, HSk.out, HPk.out, Lib.hid (by rw [It.take_snoc HRes.out]; exact HO9.out), HY9, HB9⟩
            case measure => simp [intOf]; omega
          · have hpr : It.prtR A all c1 = 0 := by rw [HPr.out, if_neg hz]
            rw [hpr] at b0' b1' HPk HRes
            rw [Int.add_zero] at HRes
            have kw2 : IntKind.i64.wrap (g.w - It.prtR A all c0) = g.w - It.prtR A all c0 := It.wr_in (by omega) (by omega)
            have kw3 : wrap64 (g.w - It.prtR A all c0) = g.w - It.prtR A all c0 := w64 (by omega) (by omega)
            have y0 : w5.cell? ⟨b1, o1 + k * 4, none⟩ = some (.int .i64 g.w) := (gl_cells (HRk.out.mono HB5.out)).1
            have HO6 := Lib.hid (OwnR.mono HO5.out (below_alloc w5 (.cells #[.int .i64 (g.w - It.prtR A all c0)] 2)))
            have HY6 := Lib.hid (obj_kept (below_alloc w5 (.cells #[.int .i64 (g.w - It.prtR A all c0)] 2)) HY5.out)
            have HB6 := Lib.hid (below_step HB5.out (below_alloc w5 (.cells #[.int .i64 (g.w - It.prtR A all c0)] 2)))
            have HN6 := Lib.hid (slc_new inZ_len w5 _ rfl [g.w - It.prtR A all c0] 2 (by simp) #[.int .i64 (g.w - It.prtR A all c0)] rfl)
            have hz6 := HB6.out.size
            have hlr : (res.take k).length = k := by rw [List.length_take, HWl.out]; omega
            clear a0' b0' a1' b1'
            go_wp2_with (at_builtin; refine wpList_append_slc Try.underlying67 infoZ12 rfl (by decide) inZ_len inZ_cell rfl _ _ rfl w.heap.size _ _ (res.take k) [g.w - It.prtR A all c0] rfl HO6.out rfl HN6.out (by rw [hlr]; simp; omega) (by rw [hlr]; unfold maxLen; simp; omega) hz6 ?_; intro v9 w9 h9 hg9; have HO9 := Lib.hid h9; have HY9 := Lib.hid (obj_far HY6.out hg9 (own_off9 HO6.out HY6.out (by decide))); have HB9 := Lib.hid (below_app HB6.out hg9 HO6.out hz6); clear h9 hg9)
            go_roundw
            case rel => exact ⟨k + 1, by omega, by go_num, HSk.out, HPk.out, Lib.hid (by rw [It.take_snoc HRes.out]; exact HO9.out), HY9, HB9⟩
            case measure => simp [intOf]; omega
        · obtain rfl : k = n := by omega
          have HF : Hid (res.take k = res) := Lib.hid (List.take_of_length_le (by rw [HWl.out]; exact Nat.le_refl _))
          obtain ⟨av, nv, cv, rfl⟩ := own_formZ HO.out
          go_wp2
          exact bodyPost_ret (v := .tuple #[.slice av nv cv, .bool true]) (by simp [results, Try.results38, go_sem]) rfl ⟨_, rfl, by rw [HE.out]; exact ⟨_, rfl, by rw [← HF.out]; exact HO.out⟩, HB.out⟩
    · have hA : A = s.e := by rw [HAm.out, if_neg (fun h => f2 h.2)]
      have f3 : (s.sg == -1) = true := by rw [f1]; rfl
      go_upto_region 8 with fail
      rw [← hA]
      clear f1 f2 f3
      have HO5 := Lib.hid (own_lowW (own_empty 2 inZ 1 w4) HB4.out.size)
      have HB5 := Lib.hid (below_step HB4.out (below_alloc w4 (.cells #[] 2)))
      obtain ⟨W5, hW5⟩ : ∃ W, W = w4.alloc (.cells #[] 2) := ⟨_, rfl⟩
      obtain ⟨Q0, hQ0⟩ : ∃ Q, Q = w4.heap.size := ⟨_, rfl⟩
      rw [← hW5, ← hQ0] at HO5
      rw [← hW5] at HB5
      have s0' : W5.cell? ⟨P, 0, none⟩ = some (.int .i64 s.sg) := by rw [hW5]; exact cell_below (below_alloc _ _) s0
      have s1' : W5.cell? ⟨P, 1, none⟩ = some (.int .i64 s.o) := by rw [hW5]; exact cell_below (below_alloc _ _) s1
      clear s0 s1 s2
      go_upto_region 9 with fail
      rw [← hW5, ← hQ0]
      clear hW5 hQ0
      have HO6 : Hid (OwnZ w.heap.size (.slice (some ⟨Q0, 0, none⟩) 0 0) (res.take 0) (W5.alloc (.cells #[.int .i64 s.sg, .int .i64 s.o, .int .i64 0, .int .i64 0] 56))) := Lib.hid (OwnR.mono HO5.out (below_alloc _ _))
      have HY6 := Lib.hid (obj_new W5 _ rfl #[.int .i64 s.sg, .int .i64 s.o, .int .i64 0, .int .i64 0] 56)
      have HB6 := Lib.hid (below_step HB5.out (below_alloc W5 (.cells #[.int .i64 s.sg, .int .i64 s.o, .int .i64 0, .int .i64 0] 56)))
      obtain ⟨W6, hW6⟩ : ∃ W, W = W5.alloc (.cells #[.int .i64 s.sg, .int .i64 s.o, .int .i64 0, .int .i64 0] 56) := ⟨_, rfl⟩
      obtain ⟨P1, hP1⟩ : ∃ P, P = W5.heap.size := ⟨_, rfl⟩
      rw [← hW6] at HO6 HY6 HB6
      rw [← hP1] at HY6
      go_upto_region 11 with fail
      rw [← hW6, ← hP1]
      clear hW6 hP1 s0' s1' HO5 HB5 hA
      go_wp2_with fail
      go_loopw [10, 11, 12, 14] (fun ov sv pv kv wr => ∃ k : Nat, k ≤ n ∧ kv = .int .i64 k ∧ sv = .int .i64 (It.wsum s (l.take k)) ∧ pv = .int .i64 (It.prtR A all (It.wsum s (l.take k))) ∧ Hid (OwnZ w.heap.size ov (res.take k) wr) ∧ Hid (wr.heap[P1]? = some (.cells #[.int .i64 s.sg, .int .i64 s.o, .int .i64 0, .int .i64 0] 56 (0, 0))) ∧ Hid (Below w.heap.size w wr)) (fun _ _ _ kv _ => n - (intOf kv).toNat)
      case atStart => exact ⟨0, Nat.zero_le _, rfl, rfl, by rw [HPr.out]; simp [It.wsum], HO6, HY6, HB6⟩
      case round =>
        obtain ⟨k, hk, rfl, rfl, rfl, HO, HY, HB⟩ := hrel
        clear HO6 HY6 HB6
        by_cases hlt : k < n
        · obtain ⟨b1, o1, d1, e1, r1⟩ := HA.out.2.2 (by rw [← Hn.out]; omega)
          rw [← Hn.out] at e1
          obtain ⟨rfl, rfl⟩ : p = some ⟨b1, o1, none⟩ ∧ cp = d1 := by injection e1 with a1 a2 a3; exact ⟨a1, a3⟩
          obtain ⟨g, hg⟩ : ∃ g, l[k]? = some g := ⟨_, List.getElem?_eq_getElem (by rw [← Hn.out]; exact hlt)⟩
          have hkc : k < cp := by have := HA.out.1; obtain ⟨_, _, e, hc⟩ := this; injection e with _ _ e; rw [← Hn.out] at hc; omega
          have HRk := Lib.hid (r1 k g hg)
          have HRes := Lib.hid (HGt.out k g (by rw [HPr.out]; simp) hg)
          rw [Int.zero_add, Int.zero_add] at HRes
          have hsx : It.wsum s (l.take (k + 1)) = It.wsum s (l.take k) + It.wgt s g := by rw [It.take_snoc hg, It.wsum_app]; simp [It.wsum]
          obtain ⟨t0, t1⟩ := HWt.out k
          obtain ⟨t2, t3⟩ := HWt.out (k + 1)
          obtain ⟨g0, g1⟩ := HGw.out g (List.mem_of_getElem? hg)
          have hmem := List.mem_of_getElem? hg
          have k0 : (0 : Int) ≤ (k : Int) := by omega
          have kl : (k : Int) < (n : Int) := by omega
          have hk1 : wrap64 ((k : Int) + 1) = (k : Int) + 1 := w64_succ hlt hn
          have hk2 : IntKind.i64.wrap ((k : Int) + 1) = (k : Int) + 1 := wr_succ hlt hn
          have hs3 := fun wx => run_one12 b1 o1 n k cp hkc wx
          have hs4 : ∀ wx, (Instr.sliceAt 62 (.slice (some ⟨b1, o1, none⟩) n cp) (some (.int .i64 (k : Int))) (some (.int .i64 ((k : Int) + 1))) none).run Try.prog wx = .ok (.slice (some ⟨b1, o1 + k * 4, none⟩) 1 (cp - k)) wx := fun wx => by rw [run_sliceAt_slice (h := by rw [elemGl]; exact Try.underlying62)]; exact hs3 wx
          have HBd := Lib.hid (below_step HB.out (below_drew10w wr))
          have HYd := Lib.hid (obj_kept (below_drew10w wr) HY.out)
          have HOd := Lib.hid (OwnR.mono HO.out (below_drew10w wr))
          have HGd := Lib.hid (HG1.out (.slice (some ⟨b1, o1 + k * 4, none⟩) 1 (cp - k)) g wr.drew hmem (slc_one12 (HRk.out.mono HBd.out) (Nat.sub_pos_of_lt hkc)))
          obtain ⟨c0, hc0⟩ : ∃ c, c = It.wsum s (l.take k) := ⟨_, rfl⟩
          obtain ⟨c1, hc1⟩ : ∃ c, c = It.wsum s (l.take (k + 1)) := ⟨_, rfl⟩
          rw [← hc0] at hsx t0 t1 HRes ⊢
          rw [← hc1] at hsx t2 t3 HRes
          have HSk : Hid (Value.int .i64 c1 = .int .i64 (It.wsum s (l.take (k + 1)))) := Lib.hid (by rw [hc1])
          have hPk : Value.int .i64 (It.prtR A all c1) = .int .i64 (It.prtR A all (It.wsum s (l.take (k + 1)))) := by rw [hc1]
          have HPk := Lib.hid hPk
          obtain ⟨gw, hgw⟩ : ∃ x, x = It.wgt s g := ⟨_, rfl⟩
          rw [← hgw] at hsx HGd
          have kw0 : wrap64 (c0 + gw) = c1 := by rw [hsx]; exact w64 (by omega) (by omega)
          have kw0' : IntKind.i64.wrap (c0 + gw) = c1 := by rw [hsx]; exact It.wr_in (by omega) (by omega)
          obtain ⟨a0', a1'⟩ := HPb.out c0 t0 t1
          obtain ⟨b0', b1'⟩ := HPb.out c1 t2 t3
          obtain ⟨m0', m1'⟩ := HMb.out c1 t2 t3
          have q0 := Lib.cell_of_heap HY.out 0
          have q1 := Lib.cell_of_heap HY.out 1
          have q2 := Lib.cell_of_heap HY.out 2
          have q3 := Lib.cell_of_heap HY.out 3
          have hSd : wr.drew.cell? ⟨P1, 0, none⟩ = some (.int .i64 s.sg) ∧ wr.drew.cell? ⟨P1, 1, none⟩ = some (.int .i64 s.o) ∧ wr.drew.cell? ⟨P1, 2, none⟩ = some (.int .i64 0) ∧ wr.drew.cell? ⟨P1, 3, none⟩ = some (.int .i64 0) := ⟨q0, q1, q2, q3⟩
          clear r1 e1 hg hmem hc0 hc1 hgw hsx hPk
          go_upto_region 14 with fail
          go_region_held3 (fun w' => w'.cell? ⟨P1, 0, none⟩ = some (.int .i64 s.sg) ∧ w'.cell? ⟨P1, 1, none⟩ = some (.int .i64 s.o) ∧ w'.cell? ⟨P1, 2, none⟩ = some (.int .i64 0) ∧ w'.cell? ⟨P1, 3, none⟩ = some (.int .i64 0)) (first | (with_reducible exact hSd) | (with_reducible exact hS5) | go_keep) (((with_reducible refine HGd.out.mono ?_); rintro e w5 ⟨rfl, hb5⟩; have HY5 := Lib.hid (obj_kept hb5 HYd.out); have HB5 := Lib.hid (below_step HBd.out hb5); have HO5 := Lib.hid (OwnR.mono HOd.out hb5); have hS5 : w5.cell? ⟨P1, 0, none⟩ = some (.int .i64 s.sg) ∧ w5.cell? ⟨P1, 1, none⟩ = some (.int .i64 s.o) ∧ w5.cell? ⟨P1, 2, none⟩ = some (.int .i64 0) ∧ w5.cell? ⟨P1, 3, none⟩ = some (.int .i64 0) := ⟨Lib.cell_of_heap HY5.out 0, Lib.cell_of_heap HY5.out 1, Lib.cell_of_heap HY5.out 2, Lib.cell_of_heap HY5.out 3⟩; clear hb5))
          clear q0 q1 q2 q3 hSd hS5 HGd hs3 hs4
          by_cases hz : 0 < all
          · have hpr : It.prtR A all c1 = (A * c1).tdiv all := by rw [HPr.out, if_pos hz]
            rw [hpr] at b0' b1'
            have km : wrap64 (A * c1) = A * c1 := w64 (by omega) (by omega)
            have km' : IntKind.i64.wrap (A * c1) = A * c1 := It.wr_in (by omega) (by omega)
            have kq : wrap64 ((A * c1).tdiv all) = It.prtR A all c1 := by rw [hpr]; exact w64 (by omega) (by omega)
            have kq' : IntKind.i64.wrap ((A * c1).tdiv all) = It.prtR A all c1 := by rw [hpr]; exact It.wr_in (by omega) (by omega)
            rw [← hpr] at b0' b1'
            have hz0 : all ≠ 0 := by omega
            have hz1 : (all == 0) = false := by simpa using hz0
            clear hpr
            have kw2 : IntKind.i64.wrap (g.w + It.prtR A all c1 - It.prtR A all c0) = g.w + It.prtR A all c1 - It.prtR A all c0 := It.wr_in (by omega) (by omega)
            have kw1 : IntKind.i64.wrap (g.w + It.prtR A all c1) = g.w + It.prtR A all c1 := It.wr_in (by omega) (by omega)
            have kw3 : wrap64 (g.w + It.prtR A all c1 - It.prtR A all c0) = g.w + It.prtR A all c1 - It.prtR A all c0 := w64 (by omega) (by omega)
            have kw4 : wrap64 (g.w + It.prtR A all c1) = g.w + It.prtR A all c1 := w64 (by omega) (by omega)
            have y0 : w5.cell? ⟨b1, o1 + k * 4, none⟩ = some (.int .i64 g.w) := (gl_cells (HRk.out.mono HB5.out)).1
            have HO6 := Lib.hid (OwnR.mono HO5.out (below_alloc w5 (.cells #[.int .i64 (g.w + It.prtR A all c1 - It.prtR A all c0)] 2)))
            have HY6 := Lib.hid (obj_kept (below_alloc w5 (.cells #[.int .i64 (g.w + It.prtR A all c1 - It.prtR A all c0)] 2)) HY5.out)
            have HB6 := Lib.hid (below_step HB5.out (below_alloc w5 (.cells #[.int .i64 (g.w + It.prtR A all c1 - It.prtR A all c0)] 2)))
            have HN6 := Lib.hid (slc_new inZ_len w5 _ rfl [g.w + It.prtR A all c1 - It.prtR A all c0] 2 (by simp) #[.int .i64 (g.w + It.prtR A all c1 - It.prtR A all c0)] rfl)
            have hz6 := HB6.out.size
            have hlr : (res.take k).length = k := by rw [List.length_take, HWl.out]; omega
            clear a0' b0' a1' b1'
            go_wp2_with (at_builtin; refine wpList_append_slc Try.underlying67 infoZ12 rfl (by decide) inZ_len inZ_cell rfl _ _ rfl w.heap.size _ _ (res.take k) [g.w + It.prtR A all c1 - It.prtR A all c0] rfl HO6.out rfl HN6.out (by rw [hlr]; simp; omega) (by rw [hlr]; unfold maxLen; simp; omega) hz6 ?_; intro v9 w9 h9 hg9; have HO9 := Lib.hid h9; have HY9 := Lib.hid (obj_far HY6.out hg9 (own_off9 HO6.out HY6.out (by decide))); have HB9 := Lib.hid (below_app HB6.out hg9 HO6.out hz6); clear h9 hg9)
            go_roundw
            case rel => exact ⟨k + 1, by omega, by go_num, HSk.out, HPk.out, Lib.hid (by rw [It.take_snoc HRes.out]; exact HO9.out), HY9, HB9⟩
            case measure => simp [intOf]; omega
          · have hpr : It.prtR A all c1 = 0 := by rw [HPr.out, if_neg hz]
            rw [hpr] at b0' b1' HPk HRes
            rw [Int.add_zero] at HRes
            have kw2 : IntKind.i64.wrap (g.w - It.prtR A all c0) = g.w - It.prtR A all c0 := It.wr_in (by omega) (by omega)
            have kw3 : wrap64 (g.w - It.prtR A all c0) = g.w - It.prtR A all c0 := w64 (by omega) (by omega)
            have y0 : w5.cell? ⟨b1, o1 + k * 4, none⟩ = some (.int .i64 g.w) := (gl_cells (HRk.out.mono HB5.out)).1
            have HO6 := Lib.hid (OwnR.mono HO5.out (below_alloc w5 (.cells #[.int .i64 (g.w - It.prtR A all c0)] 2)))
            have HY6 := Lib.hid (obj_kept (below_alloc w5 (.cells #[.int .i64 (g.w - It.prtR A all c0)] 2)) HY5.out)
            have HB6 := Lib.hid (below_step HB5.out (below_alloc w5 (.cells #[.int .i64 (g.w - It.prtR A all c0)] 2)))
            have HN6 := Lib.hid (slc_new inZ_len w5 _ rfl [g.w - It.prtR A all c0] 2 (by simp) #[.int .i64 (g.w - It.prtR A all c0)] rfl)
            have hz6 := HB6.out.size
            have hlr : (res.take k).length = k := by rw [List.length_take, HWl.out]; omega
            clear a0' b0' a1' b1'
            go_wp2_with (at_builtin; refine wpList_append_slc Try.underlying67 infoZ12 rfl (by decide) inZ_len inZ_cell rfl _ _ rfl w.heap.size _ _ (res.take k) [g.w - It.prtR A all c0] rfl HO6.out rfl HN6.out (by rw [hlr]; simp; omega) (by rw [hlr]; unfold maxLen; simp; omega) hz6 ?_; intro v9 w9 h9 hg9; have HO9 := Lib.hid h9; have HY9 := Lib.hid (obj_far HY6.out hg9 (own_off9 HO6.out HY6.out (by decide))); have HB9 := Lib.hid (below_app HB6.out hg9 HO6.out hz6); clear h9 hg9)
            go_roundw
            case rel => exact ⟨k + 1, by omega, by go_num, HSk.out, HPk.out, Lib.hid (by rw [It.take_snoc HRes.out]; exact HO9.out), HY9, HB9⟩
            case measure => simp [intOf]; omega
        · obtain rfl : k = n := by omega
          have HF : Hid (res.take k = res) := Lib.hid (List.take_of_length_le (by rw [HWl.out]; exact Nat.le_refl _))
          obtain ⟨av, nv, cv, rfl⟩ := own_formZ HO.out
          go_wp2
          exact bodyPost_ret (v := .tuple #[.slice av nv cv, .bool true]) (by simp [results, Try.results38, go_sem]) rfl ⟨_, rfl, by rw [HE.out]; exact ⟨_, rfl, by rw [← HF.out]; exact HO.out⟩, HB.out⟩
    · have hA : A = s.e := by rw [HAm.out, if_neg (fun h => f1 h.1)]
      have f3 : (s.sg == -1) = false := by simpa using f1
      go_upto_region 8 with fail
      rw [← hA]
      clear f1 f3
      have HO5 := Lib.hid (own_lowW (own_empty 2 inZ 1 w4) HB4.out.size)
      have HB5 := Lib.hid (below_step HB4.out (below_alloc w4 (.cells #[] 2)))
      obtain ⟨W5, hW5⟩ : ∃ W, W = w4.alloc (.cells #[] 2) := ⟨_, rfl⟩
      obtain ⟨Q0, hQ0⟩ : ∃ Q, Q = w4.heap.size := ⟨_, rfl⟩
      rw [← hW5, ← hQ0] at HO5
      rw [← hW5] at HB5
      have s0' : W5.cell? ⟨P, 0, none⟩ = some (.int .i64 s.sg) := by rw [hW5]; exact cell_below (below_alloc _ _) s0
      have s1' : W5.cell? ⟨P, 1, none⟩ = some (.int .i64 s.o) := by rw [hW5]; exact cell_below (below_alloc _ _) s1
      clear s0 s1 s2
      go_upto_region 9 with fail
      rw [← hW5, ← hQ0]
      clear hW5 hQ0
      have HO6 : Hid (OwnZ w.heap.size (.slice (some ⟨Q0, 0, none⟩) 0 0) (res.take 0) (W5.alloc (.cells #[.int .i64 s.sg, .int .i64 s.o, .int .i64 0, .int .i64 0] 56))) := Lib.hid (OwnR.mono HO5.out (below_alloc _ _))
      have HY6 := Lib.hid (obj_new W5 _ rfl #[.int .i64 s.sg, .int .i64 s.o, .int .i64 0, .int .i64 0] 56)
      have HB6 := Lib.hid (below_step HB5.out (below_alloc W5 (.cells #[.int .i64 s.sg, .int .i64 s.o, .int .i64 0, .int .i64 0] 56)))
      obtain ⟨W6, hW6⟩ : ∃ W, W = W5.alloc (.cells #[.int .i64 s.sg, .int .i64 s.o, .int .i64 0, .int .i64 0] 56) := ⟨_, rfl⟩
      obtain ⟨P1, hP1⟩ : ∃ P, P = W5.heap.size := ⟨_, rfl⟩
      rw [← hW6] at HO6 HY6 HB6
      rw [← hP1] at HY6
      go_upto_region 11 with fail
      rw [← hW6, ← hP1]
      clear hW6 hP1 s0' s1' HO5 HB5 hA
      go_wp2_with fail
      go_loopw [10, 11, 12, 14] (fun ov sv pv kv wr => ∃ k : Nat, k ≤ n ∧ kv = .int .i64 k ∧ sv = .int .i64 (It.wsum s (l.take k)) ∧ pv = .int .i64 (It.prtR A all (It.wsum s (l.take k))) ∧ Hid (OwnZ w.heap.size ov (res.take k) wr) ∧ Hid (wr.heap[P1]? = some (.cells #[.int .i64 s.sg, .int .i64 s.o, .int .i64 0, .int .i64 0] 56 (0, 0))) ∧ Hid (Below w.heap.size w wr)) (fun _ _ _ kv _ => n - (intOf kv).toNat)
      case atStart => exact ⟨0, Nat.zero_le _, rfl, rfl, by rw [HPr.out]; simp [It.wsum], HO6, HY6, HB6⟩
      case round =>
        obtain ⟨k, hk, rfl, rfl, rfl, HO, HY, HB⟩ := hrel
        clear HO6 HY6 HB6
        by_cases hlt : k < n
        · obtain ⟨b1, o1, d1, e1, r1⟩ := HA.out.2.2 (by rw [← Hn.out]; omega)
          rw [← Hn.out] at e1
          obtain ⟨rfl, rfl⟩ : p = some ⟨b1, o1, none⟩ ∧ cp = d1 := by injection e1 with a1 a2 a3; exact ⟨a1, a3⟩
          obtain ⟨g, hg⟩ : ∃ g, l[k]? = some g := ⟨_, List.getElem?_eq_getElem (by rw [← Hn.out]; exact hlt)⟩
          have hkc : k < cp := by have := HA.out.1; obtain ⟨_, _, e, hc⟩ := this; injection e with _ _ e; rw [← Hn.out] at hc; omega
          have HRk := Lib.hid (r1 k g hg)
          have HRes := Lib.hid (HGt.out k g (by rw [HPr.out]; simp) hg)
          rw [Int.zero_add, Int.zero_add] at HRes
          have hsx : It.wsum s (l.take (k + 1)) = It.wsum s (l.take k) + It.wgt s g := by rw [It.take_snoc hg, It.wsum_app]; simp [It.wsum]
          obtain ⟨t0, t1⟩ := HWt.out k
          obtain ⟨t2, t3⟩ := HWt.out (k + 1)
          obtain ⟨g0, g1⟩ := HGw.out g (List.mem_of_getElem? hg)
          have hmem := List.mem_of_getElem? hg
          have k0 : (0 : Int) ≤ (k : Int) := by omega
          have kl : (k : Int) < (n : Int) := by omega
          have hk1 : wrap64 ((k : Int) + 1) = (k : Int) + 1 := w64_succ hlt hn
          have hk2 : IntKind.i64.wrap ((k : Int) + 1) = (k : Int) + 1 := wr_succ hlt hn
          have hs3 := fun wx => run_one12 b1 o1 n k cp hkc wx
          have hs4 : ∀ wx, (Instr.sliceAt 62 (.slice (some ⟨b1, o1, none⟩) n cp) (some (.int .i64 (k : Int))) (some (.int .i64 ((k : Int) + 1))) none).run Try.prog wx = .ok (.slice (some ⟨b1, o1 + k * 4, none⟩) 1 (cp - k)) wx := fun wx => by rw [run_sliceAt_slice (h := by rw [elemGl]; exact Try.underlying62)]; exact hs3 wx
          have HBd := Lib.hid (below_step HB.out (below_drew10w wr))
          have HYd := Lib.hid (obj_kept (below_drew10w wr) HY.out)
          have HOd := Lib.hid (OwnR.mono HO.out (below_drew10w wr))
          have HGd := Lib.hid (HG1.out (.slice (some ⟨b1, o1 + k * 4, none⟩) 1 (cp - k)) g wr.drew hmem (slc_one12 (HRk.out.mono HBd.out) (Nat.sub_pos_of_lt hkc)))
          obtain ⟨c0, hc0⟩ : ∃ c, c = It.wsum s (l.take k) := ⟨_, rfl⟩
          obtain ⟨c1, hc1⟩ : ∃ c, c = It.wsum s (l.take (k + 1)) := ⟨_, rfl⟩
          rw [← hc0] at hsx t0 t1 HRes ⊢
          rw [← hc1] at hsx t2 t3 HRes
          have HSk : Hid (Value.int .i64 c1 = .int .i64 (It.wsum s (l.take (k + 1)))) := Lib.hid (by rw [hc1])
          have hPk : Value.int .i64 (It.prtR A all c1) = .int .i64 (It.prtR A all (It.wsum s (l.take (k + 1)))) := by rw [hc1]
          have HPk := Lib.hid hPk
          obtain ⟨gw, hgw⟩ : ∃ x, x = It.wgt s g := ⟨_, rfl⟩
          rw [← hgw] at hsx HGd
          have kw0 : wrap64 (c0 + gw) = c1 := by rw [hsx]; exact w64 (by omega) (by omega)
          have kw0' : IntKind.i64.wrap (c0 + gw) = c1 := by rw [hsx]; exact It.wr_in (by omega) (by omega)
          obtain ⟨a0', a1'⟩ := HPb.out c0 t0 t1
          obtain ⟨b0', b1'⟩ := HPb.out c1 t2 t3
          obtain ⟨m0', m1'⟩ := HMb.out c1 t2 t3
          have q0 := Lib.cell_of_heap HY.out 0
          have q1 := Lib.cell_of_heap HY.out 1
          have q2 := Lib.cell_of_heap HY.out 2
          have q3 := Lib.cell_of_heap HY.out 3
          have hSd : wr.drew.cell? ⟨P1, 0, none⟩ = some (.int .i64 s.sg) ∧ wr.drew.cell? ⟨P1, 1, none⟩ = some (.int .i64 s.o) ∧ wr.drew.cell? ⟨P1, 2, none⟩ = some (.int .i64 0) ∧ wr.drew.cell? ⟨P1, 3, none⟩ = some (.int .i64 0) := ⟨q0, q1, q2, q3⟩
          clear r1 e1 hg hmem hc0 hc1 hgw hsx hPk
          go_upto_region 14 with fail
          go_region_held3 (fun w' => w'.cell? ⟨P1, 0, none⟩ = some (.int .i64 s.sg) ∧ w'.cell? ⟨P1, 1, none⟩ = some (.int .i64 s.o) ∧ w'.cell? ⟨P1, 2, none⟩ = some (.int .i64 0) ∧ w'.cell? ⟨P1, 3, none⟩ = some (.int .i64 0)) (first | (with_reducible exact hSd) | (with_reducible exact hS5) | go_keep) (((with_reducible refine HGd.out.mono ?_); rintro e w5 ⟨rfl, hb5⟩; have HY5 := Lib.hid (obj_kept hb5 HYd.out); have HB5 := Lib.hid (below_step HBd.out hb5); have HO5 := Lib.hid (OwnR.mono HOd.out hb5); have hS5 : w5.cell? ⟨P1, 0, none⟩ = some (.int .i64 s.sg) ∧ w5.cell? ⟨P1, 1, none⟩ = some (.int .i64 s.o) ∧ w5.cell? ⟨P1, 2, none⟩ = some (.int .i64 0) ∧ w5.cell? ⟨P1, 3, none⟩ = some (.int .i64 0) := ⟨Lib.cell_of_heap HY5.out 0, Lib.cell_of_heap HY5.out 1, Lib.cell_of_heap HY5.out 2, Lib.cell_of_heap HY5.out 3⟩; clear hb5))
          clear q0 q1 q2 q3 hSd hS5 HGd hs3 hs4
          by_cases hz : 0 < all
          · have hpr : It.prtR A all c1 = (A * c1).tdiv all := by rw [HPr.out, if_pos hz]
            rw [hpr] at b0' b1'
            have km : wrap64 (A * c1) = A * c1 := w64 (by omega) (by omega)
            have km' : IntKind.i64.wrap (A * c1) = A * c1 := It.wr_in (by omega) (by omega)
            have kq : wrap64 ((A * c1).tdiv all) = It.prtR A all c1 := by rw [hpr]; exact w64 (by omega) (by omega)
            have kq' : IntKind.i64.wrap ((A * c1).tdiv all) = It.prtR A all c1 := by rw [hpr]; exact It.wr_in (by omega) (by omega)
            rw [← hpr] at b0' b1'
            have hz0 : all ≠ 0 := by omega
            have hz1 : (all == 0) = false := by simpa using hz0
            clear hpr
            have kw2 : IntKind.i64.wrap (g.w + It.prtR A all c1 - It.prtR A all c0) = g.w + It.prtR A all c1 - It.prtR A all c0 := It.wr_in (by omega) (by omega)
            have kw1 : IntKind.i64.wrap (g.w + It.prtR A all c1) = g.w + It.prtR A all c1 := It.wr_in (by omega) (by omega)
            have kw3 : wrap64 (g.w + It.prtR A all c1 - It.prtR A all c0) = g.w + It.prtR A all c1 - It.prtR A all c0 := w64 (by omega) (by omega)
            have kw4 : wrap64 (g.w + It.prtR A all c1) = g.w + It.prtR A all c1 := w64 (by omega) (by omega)
            have y0 : w5.cell? ⟨b1, o1 + k * 4, none⟩ = some (.int .i64 g.w) := (gl_cells (HRk.out.mono HB5.out)).1
            have HO6 := Lib.hid (OwnR.mono HO5.out (below_alloc w5 (.cells #[.int .i64 (g.w + It.prtR A all c1 - It.prtR A all c0)] 2)))
            have HY6 := Lib.hid (obj_kept (below_alloc w5 (.cells #[.int .i64 (g.w + It.prtR A all c1 - It.prtR A all c0)] 2)) HY5.out)
            have HB6 := Lib.hid (below_step HB5.out (below_alloc w5 (.cells #[.int .i64 (g.w + It.prtR A all c1 - It.prtR A all c0)] 2)))
            have HN6 := Lib.hid (slc_new inZ_len w5 _ rfl [g.w + It.prtR A all c1 - It.prtR A all c0] 2 (by simp) #[.int .i64 (g.w + It.prtR A all c1 - It.prtR A all c0)] rfl)
            have hz6 := HB6.out.size
            have hlr : (res.take k).length = k := by rw [List.length_take, HWl.out]; omega
            clear a0' b0' a1' b1'
            go_wp2_with (at_builtin; refine wpList_append_slc Try.underlying67 infoZ12 rfl (by decide) inZ_len inZ_cell rfl _ _ rfl w.heap.size _ _ (res.take k) [g.w + It.prtR A all c1 - It.prtR A all c0] rfl HO6.out rfl HN6.out (by rw [hlr]; simp; omega) (by rw [hlr]; unfold maxLen; simp; omega) hz6 ?_; intro v9 w9 h9 hg9; have HO9 := Lib.hid h9; have HY9 := Lib.hid (obj_far HY6.out hg9 (own_off9 HO6.out HY6.out (by decide))); have HB9 := Lib.hid (below_app HB6.out hg9 HO6.out hz6); clear h9 hg9)
            go_roundw
            case rel => exact ⟨k + 1, by omega, by go_num, HSk.out, HPk.out, Lib.hid (by rw [It.take_snoc HRes.out]; exact HO9.out), HY9, HB9⟩
            case measure => simp [intOf]; omega
          · have hpr : It.prtR A all c1 = 0 := by rw [HPr.out, if_neg hz]
            rw [hpr] at b0' b1' HPk HRes
            rw [Int.add_zero] at HRes
            have kw2 : IntKind.i64.wrap (g.w - It.prtR A all c0) = g.w - It.prtR A all c0 := It.wr_in (by omega) (by omega)
            have kw3 : wrap64 (g.w - It.prtR A all c0) = g.w - It.prtR A all c0 := w64 (by omega) (by omega)
            have y0 : w5.cell? ⟨b1, o1 + k * 4, none⟩ = some (.int .i64 g.w) := (gl_cells (HRk.out.mono HB5.out)).1
            have HO6 := Lib.hid (OwnR.mono HO5.out (below_alloc w5 (.cells #[.int .i64 (g.w - It.prtR A all c0)] 2)))
            have HY6 := Lib.hid (obj_kept (below_alloc w5 (.cells #[.int .i64 (g.w - It.prtR A all c0)] 2)) HY5.out)
            have HB6 := Lib.hid (below_step HB5.out (below_alloc w5 (.cells #[.int .i64 (g.w - It.prtR A all c0)] 2)))
            have HN6 := Lib.hid (slc_new inZ_len w5 _ rfl [g.w - It.prtR A all c0] 2 (by simp) #[.int .i64 (g.w - It.prtR A all c0)] rfl)
            have hz6 := HB6.out.size
            have hlr : (res.take k).length = k := by rw [List.length_take, HWl.out]; omega
            clear a0' b0' a1' b1'
            go_wp2_with (at_builtin; refine wpList_append_slc Try.underlying67 infoZ12 rfl (by decide) inZ_len inZ_cell rfl _ _ rfl w.heap.size _ _ (res.take k) [g.w - It.prtR A all c0] rfl HO6.out rfl HN6.out (by rw [hlr]; simp; omega) (by rw [hlr]; unfold maxLen; simp; omega) hz6 ?_; intro v9 w9 h9 hg9; have HO9 := Lib.hid h9; have HY9 := Lib.hid (obj_far HY6.out hg9 (own_off9 HO6.out HY6.out (by decide))); have HB9 := Lib.hid (below_app HB6.out hg9 HO6.out hz6); clear h9 hg9)
            go_roundw
            case rel => exact ⟨k + 1, by omega, by go_num, HSk.out, HPk.out, Lib.hid (by rw [It.take_snoc HRes.out]; exact HO9.out), HY9, HB9⟩
            case measure => simp [intOf]; omega
        · obtain rfl : k = n := by omega
          have HF : Hid (res.take k = res) := Lib.hid (List.take_of_length_le (by rw [HWl.out]; exact Nat.le_refl _))
          obtain ⟨av, nv, cv, rfl⟩ := own_formZ HO.out
          go_wp2
          exact bodyPost_ret (v := .tuple #[.slice av nv cv, .bool true]) (by simp [results, Try.results38, go_sem]) rfl ⟨_, rfl, by rw [HE.out]; exact ⟨_, rfl, by rw [← HF.out]; exact HO.out⟩, HB.out⟩
end Go.Proofs.Ythcilpijiindeaa
