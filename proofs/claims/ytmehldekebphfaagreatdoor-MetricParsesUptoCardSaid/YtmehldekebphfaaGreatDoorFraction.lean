/-
  The program's printFraction: the digits that the document's procedure produces.
-/
import Derived.Test.YtmehldekebphfaaGreatDoorParse
import Derived.Maps.AppendAt
import Derived.OwnWalk
import Derived.Laws.IdiomStrings
set_option linter.unusedVariables false
set_option linter.unusedSimpArgs false
namespace Go.Proofs.YtmehldekebphfaaGreatDoor
open Go.RowKit

theorem frac_step {f S D : Nat} {rest : List Nat} (h : Fr.frac (f + 1) S D = some rest) :
    (65536 < D → 17232 ≤ S) ∧ ∃ S', S' = (if 65536 < D then S - 17232 else S) ∧ ((10 * (S' % 65536) ≤ 10 * D ∧ rest = [S' / 65536]) ∨ (10 * D < 10 * (S' % 65536) ∧ ∃ r', rest = S' / 65536 :: r' ∧ Fr.frac f (10 * (S' % 65536)) (10 * D) = some r')) := by
  unfold Fr.frac at h
  have step : ∀ (x y z : Nat), (Fr.frac f y z).map (x :: ·) = some rest → ∃ r', rest = x :: r' ∧ Fr.frac f y z = some r' := by
    intro x y z h
    obtain ⟨l, hl, rfl⟩ := Option.map_eq_some_iff.1 h
    exact ⟨l, rfl, hl⟩
  split at h
  · rename_i hD
    split at h
    · cases h
    · rename_i hS
      refine ⟨fun _ => by omega, S - 17232, by rw [if_pos hD], ?_⟩
      split at h
      · rename_i hle
        injection h with h
        exact .inl ⟨hle, h.symm⟩
      · rename_i hle
        exact .inr ⟨by omega, step _ _ _ h⟩
  · rename_i hD
    refine ⟨fun e => absurd e hD, S, by rw [if_neg hD], ?_⟩
    split at h
    · rename_i hle
      injection h with h
      exact .inl ⟨hle, h.symm⟩
    · rename_i hle
      exact .inr ⟨by omega, step _ _ _ h⟩

/-- where the procedure stands: at s and d, with the digits 'done' out of 'all' -/
structure Stand (all : List Nat) (f : Nat) (s d : Int) (done : List Nat) : Prop where
  s0 : 0 ≤ s
  s1 : s ≤ 655360
  d0 : 10 ≤ d
  d1 : d ≤ 1000000
  room : d * ((10 ^ f : Nat) : Int) ≤ 1000000
  left : ∃ rest, Fr.frac f s.toNat d.toNat = some rest ∧ done ++ rest = all
  len : done.length + f ≤ 5
/-- what a round makes of it, d' being the digit that it writes -/
structure Next (all : List Nat) (f : Nat) (s' d : Int) (done : List Nat) : Prop where
  dig : (s' / 65536).toNat ≤ 9
  len : done.length < 5
  last : 10 * (s' % 65536) ≤ 10 * d → done ++ [(s' / 65536).toNat] = all
  more : 10 * d < 10 * (s' % 65536) → ∃ f', f = f' + 1 ∧ Stand all f' (10 * (s' % 65536)) (10 * d) (done ++ [(s' / 65536).toNat])
theorem Stand.next {all : List Nat} {f : Nat} {s d s' : Int} {done : List Nat} (h : Stand all f s d done) (h9 : ∀ x ∈ all, x ≤ 9) (hs : s' = if 65536 < d then s - 17232 else s) : (65536 < d → 17232 ≤ s) ∧ 0 ≤ s' ∧ Next all f s' d done := by
  obtain ⟨s0, s1, d0, d1, room, ⟨rest, hf, hall⟩, len⟩ := h
  cases f with
  | zero => simp [Fr.frac] at hf
  | succ f =>
    obtain ⟨h1, S', hS', h2⟩ := frac_step hf
    have hd : 65536 < d.toNat ↔ 65536 < d := by omega
    have e : (S' : Int) = s' := by
      rw [hS', hs]
      by_cases hD : 65536 < d
      · rw [if_pos hD, if_pos (hd.2 hD)]
        have := h1 (hd.2 hD)
        omega
      · rw [if_neg hD, if_neg (fun x => hD (hd.1 x))]
        omega
    have eq : (s' / 65536).toNat = S' / 65536 := by rw [← e]; omega
    have em : (s' % 65536) = ((S' % 65536 : Nat) : Int) := by rw [← e]; omega
    have hdig : S' / 65536 ∈ all := by
      rw [← hall]
      rcases h2 with ⟨_, h3⟩ | ⟨_, r', h3, _⟩ <;> rw [h3] <;> simp
    refine ⟨fun hD => by have := h1 (hd.2 hD); omega, by omega, ?_, by omega, ?_, ?_⟩
    · rw [eq]; exact h9 _ hdig
    · intro hle
      rcases h2 with ⟨_, h3⟩ | ⟨h4, _⟩
      · rw [eq, ← h3]; exact hall
      · omega
    · intro hlt
      rcases h2 with ⟨h4, _⟩ | ⟨h4, r', h3, h5⟩
      · omega
      · have hroom : 10 * d * ((10 ^ f : Nat) : Int) ≤ 1000000 := by
          have e2 : ((10 ^ (f + 1) : Nat) : Int) = ((10 ^ f : Nat) : Int) * 10 := by rw [Nat.pow_succ]; push_cast; rfl
          rw [e2] at room
          have e3 : d * (((10 ^ f : Nat) : Int) * 10) = 10 * d * ((10 ^ f : Nat) : Int) := by
            rw [Int.mul_comm (((10 ^ f : Nat) : Int)) 10, ← Int.mul_assoc, Int.mul_comm d 10]
          omega
        have hpos : (1 : Int) ≤ ((10 ^ f : Nat) : Int) := by
          have : 0 < 10 ^ f := Nat.pow_pos (by decide)
          omega
        have h10 : 10 * d * 1 ≤ 10 * d * ((10 ^ f : Nat) : Int) := Int.mul_le_mul_of_nonneg_left hpos (by omega)
        refine ⟨f, rfl, ?_⟩
        refine ⟨by omega, by omega, by omega, by omega, hroom, ⟨r', ?_, ?_⟩, ?_⟩
        · have a1 : (10 * (s' % 65536)).toNat = 10 * (S' % 65536) := by rw [em]; omega
          have a2 : (10 * d).toNat = 10 * d.toNat := by omega
          rw [a1, a2]; exact h5
        · rw [eq, List.append_assoc, ← hall, h3]; rfl
        · rw [List.length_append, List.length_cons, List.length_nil]; omega
theorem stand_start {r : Int} (h0 : 0 ≤ r) (h1 : r < 65536) : Stand (Sc.fracDs r.toNat) 5 (10 * r + 5) 10 [] := by
  obtain ⟨hf, _⟩ := Sc.fracDs_ok r.toNat (by omega)
  refine ⟨by omega, by omega, by omega, by omega, by decide, ⟨_, ?_, List.nil_append _⟩, by simp⟩
  have e : (10 * r + 5).toNat = 10 * r.toNat + 5 := by omega
  rw [e]; exact hf

theorem infoU8 : (Tryz.prog.info? 5).map (fun i => (i.zero, i.size, i.bytes)) = some (some (.int .u8 0), 1, 1) := by kernel_rfl
/-- v is a slice of the call's own, of digits -/
def OwnD (B : Nat) (v : Value) (ds : List Nat) (w : World) : Prop := w.ownsRow B 5 1 v ds.length (ds.map fun d => Value.int .u8 ((48 + d : Nat) : Int))
theorem ownD_snoc {B : Nat} {v : Value} {dn : List Nat} {q : Int} {w : World} (hq : 0 ≤ q) (h : w.ownsRow B 5 1 v (dn.length + 1) ((dn.map fun d => Value.int .u8 ((48 + d : Nat) : Int)) ++ [Value.int .u8 (48 + q)])) : Hid (OwnD B v (dn ++ [q.toNat]) w) := by
  show World.ownsRow _ _ _ _ _ _ _
  rw [List.length_append, List.map_append]
  have e : ((48 + q.toNat : Nat) : Int) = 48 + q := by omega
  show World.ownsRow _ _ _ _ _ _ (_ ++ [Value.int .u8 ((48 + q.toNat : Nat) : Int)])
  rw [e]
  exact h
/-- 'string(b)' of digits -/
theorem ownD_text {B : Nat} {v : Value} {ds : List Nat} {w : World} (h : OwnD B v ds w) (hne : ds ≠ []) (h9 : ∀ d ∈ ds, d ≤ 9) :
    ∃ g cap, v = .slice (some ⟨g, 0, none⟩) ds.length cap ∧ ∀ wx, (∀ i, w.heap[g]? = some i → wx.heap[g]? = some i) → (convert 82 9 v).run Tryz.prog wx = .ok (.string ⟨(Sc.bytesOf ds).toArray⟩) wx := by
  have h0 := h
  rcases h.2 with ⟨rfl, hn⟩ | ⟨g, cap, cur, rfl, _, hg, hcap, hmax, hsz, htake⟩
  · exact absurd (List.eq_nil_of_length_eq_zero hn) hne
  · refine ⟨g, cap, rfl, fun wx hw => ?_⟩
    have hl : (Sc.bytesOf ds).length = ds.length := by unfold Sc.bytesOf; rw [List.length_map]
    have hc := run_convert_bytes_back (P := Tryz.prog) wx 82 9 5 ⟨g, 0, none⟩ cap (Sc.bytesOf ds) Tryz.underlying82 Tryz.underlying5 Tryz.underlying9 (fun j hj => by
      have hj' : j < ds.length := by rw [← hl]; exact hj
      have := World.ownsRow.cells h0 (g := g) rfl j (.int .u8 ((48 + ds[j] : Nat) : Int)) (by rw [List.getElem?_map, List.getElem?_eq_getElem hj']; rfl)
      have hx := h9 ds[j] (List.getElem_mem hj')
      have e : ((Sc.bytesOf ds)[j].toNat : Int) = ((48 + ds[j] : Nat) : Int) := by
        have e0 : (Sc.bytesOf ds)[j] = UInt8.ofNat (48 + ds[j]) := List.getElem_map _
        rw [e0, Fm.dig_toNat _ (by omega)]
      rw [e, ← this]
      exact World.cell?_of_block (by
        rw [show ((⟨g, 0, none⟩ : Addr).add j).block = g by unfold Addr.add; split <;> rfl]
        rw [hw _ hg, hg]))
    rw [hl] at hc
    exact hc

set_option maxHeartbeats 8000000 in
set_option maxRecDepth 100000 in
theorem fraction_print (r : Int) (h0 : 0 ≤ r) (h1 : r < 65536) (w : World) :
    Calls Tryz.prog 91 #[.int .i64 r] w (Ret (.string ⟨(Sc.bytesOf (Sc.fracDs r.toNat)).toArray⟩) w) := by
  obtain ⟨i0, hi, hz0, hz1, hz2⟩ := info_parts infoU8
  obtain ⟨all, hall⟩ : ∃ all, all = Sc.fracDs r.toNat := ⟨_, rfl⟩
  obtain ⟨_, _, h9, hne, _⟩ := Sc.fracDs_ok r.toNat (by omega)
  have hst := stand_start h0 h1
  rw [← hall] at h9 hne hst ⊢
  have H9 := Lib.hid h9
  have HNE := Lib.hid hne
  have HST := Lib.hid hst
  clear h9 hne hst hall
  go_enter Tryz.func91, Tryz.ntmps91
  go_wp2_with fail
  go_loopg [3, 4, 5] 5 (fun k v sv dv wr => ∃ (s d : Int) (done : List Nat), sv = .int .i64 s ∧ dv = .int .i64 d ∧ Hid (Stand all k s d done) ∧ Hid (OwnD w.heap.size v done wr) ∧ Hid (Below w.heap.size w wr))
  case atStart => exact ⟨10 * r + 5, 10, [], rfl, rfl, HST, Lib.hid (World.ownsRow_nil _ _ _ _), Lib.hid (Below.refl _ _)⟩
  case round =>
    obtain ⟨s, d, done, rfl, rfl, HS, HO, HB⟩ := hrel
    by_cases hD : 65536 < d
    · have NX := HS.out.next (s' := s + -17232) H9.out (by rw [if_pos hD]; omega)
      obtain ⟨hlow, hs0, HNX0⟩ := NX
      have HNX := Lib.hid HNX0
      have hs1 : s + -17232 ≤ 655360 := by have := HS.out.s1; omega
      have hd0 := HS.out.d0
      have hd1 := HS.out.d1
      have hlow := hlow hD
      have hsm := HS.out.s1
      have q0 : 0 ≤ (s + -17232) / 65536 := by omega
      have q9 : (s + -17232) / 65536 ≤ 9 := by have := HNX0.dig; omega
      have m0 : 0 ≤ (s + -17232) % 65536 := by omega
      have m1 : (s + -17232) % 65536 < 65536 := by omega
      have hown := World.ownsRow.alloc HO.out (.cells #[.int .u8 (48 + (s + -17232) / 65536)] 5)

      clear HNX0
      by_cases hle : 10 * ((s + -17232) % 65536) ≤ 10 * d
      · go_wp2_with (at_builtin; refine wpList_append_own _ rfl _ _ 82 rfl w.heap.size 5 i0 (.int .u8 0) 1 1 Tryz.underlying82 hi hz0 hz1 hz2 rfl (by decide) _ _ _ rfl hown ⟨wr.heap.size, 0, none⟩ 1 1 [.int .u8 (48 + (s + -17232) / 65536)] rfl rfl (cell_one_new _ _ _) (fun z hz => by simp at hz; subst hz; rfl) (by unfold maxLen; have := HNX.out.len; omega) (by have := HNX.out.len; omega) (by have := HB.out.size; simp; omega) ?_; intro v' w3 hown' hgrow3 hnil3; have HB3 := Lib.hid ((HB.out.alloc HB.out.size (.cells #[.int .u8 (48 + (s + -17232) / 65536)] 5)).grown hgrow3 (by have := HB.out.size; simp; omega) (fun q hq => (World.ownsRow.lt hown q hq).1)); have HO3 := ownD_snoc q0 hown'; rw [HNX.out.last hle] at HO3; obtain ⟨g, cap, rfl, hcv0⟩ := ownD_text HO3.out HNE.out H9.out; have hcv := hcv0 w3 (fun _ h => h); clear hown hown' hgrow3 hnil3 hcv0)
        go_ret
        exact ⟨rfl, HB3.out⟩
      · exfalso; omega
    · have NX := HS.out.next (s' := s) H9.out (by rw [if_neg hD])
      obtain ⟨hlow, hs0, HNX0⟩ := NX
      have HNX := Lib.hid HNX0
      have hs1 : s ≤ 655360 := by have := HS.out.s1; omega
      have hd0 := HS.out.d0
      have hd1 := HS.out.d1
      clear hlow
      have hD1 : d ≤ 65536 := by omega
      have q0 : 0 ≤ (s) / 65536 := by omega
      have q9 : (s) / 65536 ≤ 9 := by have := HNX0.dig; omega
      have m0 : 0 ≤ (s) % 65536 := by omega
      have m1 : (s) % 65536 < 65536 := by omega
      have hown := World.ownsRow.alloc HO.out (.cells #[.int .u8 (48 + (s) / 65536)] 5)
      clear hD
      clear HNX0
      by_cases hle : 10 * ((s) % 65536) ≤ 10 * d
      · go_wp2_with (at_builtin; refine wpList_append_own _ rfl _ _ 82 rfl w.heap.size 5 i0 (.int .u8 0) 1 1 Tryz.underlying82 hi hz0 hz1 hz2 rfl (by decide) _ _ _ rfl hown ⟨wr.heap.size, 0, none⟩ 1 1 [.int .u8 (48 + (s) / 65536)] rfl rfl (cell_one_new _ _ _) (fun z hz => by simp at hz; subst hz; rfl) (by unfold maxLen; have := HNX.out.len; omega) (by have := HNX.out.len; omega) (by have := HB.out.size; simp; omega) ?_; intro v' w3 hown' hgrow3 hnil3; have HB3 := Lib.hid ((HB.out.alloc HB.out.size (.cells #[.int .u8 (48 + (s) / 65536)] 5)).grown hgrow3 (by have := HB.out.size; simp; omega) (fun q hq => (World.ownsRow.lt hown q hq).1)); have HO3 := ownD_snoc q0 hown'; rw [HNX.out.last hle] at HO3; obtain ⟨g, cap, rfl, hcv0⟩ := ownD_text HO3.out HNE.out H9.out; have hcv := hcv0 w3 (fun _ h => h); clear hown hown' hgrow3 hnil3 hcv0)
        go_ret
        exact ⟨rfl, HB3.out⟩
      · obtain ⟨f', hf', hst'⟩ := HNX.out.more (by omega)
        have HF := Lib.hid hf'
        have HST' := Lib.hid hst'
        have hle2 : 10 * d < 10 * ((s) % 65536) := by omega
        clear hf' hst' hle
        go_wp2_with (at_builtin; refine wpList_append_own _ rfl _ _ 82 rfl w.heap.size 5 i0 (.int .u8 0) 1 1 Tryz.underlying82 hi hz0 hz1 hz2 rfl (by decide) _ _ _ rfl hown ⟨wr.heap.size, 0, none⟩ 1 1 [.int .u8 (48 + (s) / 65536)] rfl rfl (cell_one_new _ _ _) (fun z hz => by simp at hz; subst hz; rfl) (by unfold maxLen; have := HNX.out.len; omega) (by have := HNX.out.len; omega) (by have := HB.out.size; simp; omega) ?_; intro v' w3 hown' hgrow3 hnil3; have HB3 := Lib.hid ((HB.out.alloc HB.out.size (.cells #[.int .u8 (48 + (s) / 65536)] 5)).grown hgrow3 (by have := HB.out.size; simp; omega) (fun q hq => (World.ownsRow.lt hown q hq).1)); have HO3 := ownD_snoc q0 hown'; clear hown hown' hgrow3 hnil3)
        go_roundg f'
        case measure => have := HF.out; omega
        case rel => exact ⟨_, _, _, rfl, rfl, HST', HO3, HB3⟩
end Go.Proofs.YtmehldekebphfaaGreatDoor
