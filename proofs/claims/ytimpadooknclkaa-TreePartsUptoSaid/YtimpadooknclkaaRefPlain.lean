/-
  The reference's Plain: tokens without their places.
-/
import Derived.Test.YtimpadooknclkaaToks
import Derived.Deep.RegionHeld3
import Derived.Deep.AppendLies
import Derived.Deep.DrawnRows
set_option linter.unusedVariables false
set_option linter.unusedSimpArgs false
namespace Go.Proofs.Ytimpadooknclkaa
open Go.RowKit
attribute [local go_sem ↓] Go.wp_at_zero Go.wp_at_succ

theorem map_snoc {ts : List Tok} {k : Nat} {t : Tok} (h : ts[k]? = some t) : (ts.take (k + 1)).map Lx.plain = (ts.take k).map Lx.plain ++ [Lx.plain t] := by
  rw [List.take_add_one, h]
  simp
def RowPost (ts : List Tok) (w : World) (e : Ending) (w' : World) : Prop := ∃ v, e = .returned v ∧ OwnT w.heap.size v ts w' ∧ Below w.heap.size w w'

set_option maxHeartbeats 2000000 in
set_option maxRecDepth 100000 in
theorem plain_nil (p : Option Addr) (cap : Nat) (w : World) : Calls Try.prog 16 #[.slice p 0 cap] w (RowPost [] w) := by
  have HO := Lib.hid (ownT_made w)
  have HB := Lib.hid (below_alloc w (.cells #[] 36))
  go_enter Try.func16, Try.ntmps16
  go_wp2
  refine wp_loop_rounds 1 ?_
  rw [rounds_succ]
  go_wp2
  go_ret
  exact ⟨_, rfl, HO.out, HB.out⟩

set_option maxHeartbeats 4000000 in
set_option maxRecDepth 100000 in
theorem plain_some (b o cap : Nat) (ts : List Tok) (hn : ts.length * 32 ≤ 140737488355328) (w : World) (hc : ∀ i t, ts[i]? = some t → TokAt w b (o + i * 3) t) :
    Calls Try.prog 16 #[.slice (some ⟨b, o, none⟩) ts.length cap] w (RowPost (ts.map Lx.plain) w) := by
  obtain ⟨i0, hi, hz0, hz1, hz2⟩ := info_parts infoTok
  have HC := Lib.hid hc
  have HN := Lib.hid hn
  have hn1 : ts.length ≤ 9223372036854775807 := by omega
  have HO0 := Lib.hid (ownT_made w)
  have HB0 := Lib.hid (below_alloc w (.cells #[] 36))
  clear hc hn
  go_enter Try.func16, Try.ntmps16
  go_wp2
  go_loopw [3, 4] (fun ov iv wr => ∃ k : Nat, k ≤ ts.length ∧ iv = .int .i64 k ∧ Hid (OwnT w.heap.size ov ((ts.take k).map Lx.plain) wr) ∧ Hid (Below w.heap.size w wr)) (fun _ iv _ => ts.length - (intOf iv).toNat)
  case atStart => exact ⟨0, Nat.zero_le _, rfl, HO0, HB0⟩
  case round =>
    obtain ⟨k, hk, rfl, HO, HB⟩ := hrel
    clear HO0 HB0
    by_cases hlt : k < ts.length
    · obtain ⟨t, ht⟩ : ∃ t, ts[k]? = some t := ⟨_, List.getElem?_eq_getElem hlt⟩
      have DT := HC.out k t ht
      have HM := Lib.hid (map_snoc ht)
      have lb : b < w.heap.size := World.block_lt_of_cell? w _ DT.k
      have d1 := cell_below HB.out DT.k
      have d2 := cell_below HB.out DT.s
      have k0 : (0 : Int) ≤ (k : Int) := by omega
      have k1 : (k : Int) < (ts.length : Int) := by omega
      have hown : World.ownsRow wr w.heap.size 36 3 u3 ((ts.take k).map Lx.plain).length (allCells ((ts.take k).map Lx.plain)) := HO.out
      have ak : u3.ownBlock ≠ some b := fun e => by have := (World.ownsRow.lt hown b e).1; omega
      have hlk : ((ts.take k).map Lx.plain).length = k := by rw [List.length_map, List.length_take]; omega
      have hbs := HB.out.size
      have hnn := HN.out
      clear DT ht
      go_wp2_with fail
      go_region_held3 (fun w' => w'.cell? ⟨b, o + k * 3, none⟩ = some (.int .i64 t.kind) ∧ w'.cell? ⟨b, o + k * 3 + 1, none⟩ = some (.string (str t.text)))
        (first
          | go_keep
          | (go_split_ands
             refine ⟨?_, ?_⟩
             · (rw [hgrow.cell_far _ (by simp; omega) (Ne.symm ak)]; assumption)
             · (rw [hgrow.cell_far _ (by simp; omega) (Ne.symm ak)]; assumption)))
        ((refine step_append_lies _ (by rfl) _ _ _ (by rfl) w.heap.size 36 i0 _ 3 32 Try.underlying22 hi hz0 hz1 hz2 rfl (by omega) u3 _ _ (by rfl) ((hown.alloc _).drew) ⟨wr.heap.size, 0, none⟩ 1 1 (tokCells (Lx.plain t)) (by rfl) (by rfl) (World.news_of_block (cs := (tokCells (Lx.plain t)).toArray) (t := 36) (fr := (0, 0)) (heap_alloc_new wr _)) (one_cells _) (by omega) (by unfold maxLen; omega) (by omega) (by simp; omega) (wr.heap.size + 1) (by simp) ?_; intro gg cap' w1 hown1 hgrow hat hlt1))
      go_wp2
      go_roundw
      case rel =>
        refine ⟨k + 1, by omega, by go_num, Lib.hid ?_, Lib.hid (((HB.out.alloc HB.out.size _).drew).grown hgrow (by simp; omega) (fun q hq => (World.ownsRow.lt hown q hq).1))⟩
        rw [HM.out]
        have h1 := ownT_snoc hown1
        rw [hlk] at h1
        exact h1
      case measure => simp [intOf]; omega
    · have HT : Hid (ts.take k = ts) := Lib.hid (List.take_of_length_le (by omega))
      go_wp2
      go_ret
      exact ⟨_, rfl, by have h := HO.out; rw [HT.out] at h; exact h, HB.out⟩

/-- The reference's Plain, at every slice of tokens. -/
theorem plain_any (v : Value) (ts : List Tok) (hn : ts.length * 32 ≤ 140737488355328) (w : World) (h : ToksAt w v ts) : Calls Try.prog 16 #[v] w (RowPost (ts.map Lx.plain) w) := by
  obtain ⟨⟨p, c, rfl, _⟩, m, k⟩ := h
  rcases Nat.eq_zero_or_pos ts.length with h0 | h0
  · obtain rfl : ts = [] := List.eq_nil_of_length_eq_zero h0
    exact plain_nil p c w
  · obtain ⟨b, o, d, e, q⟩ := k h0
    obtain ⟨rfl, rfl⟩ : p = some ⟨b, o, none⟩ ∧ c = d := by injection e with a1 a2 a3; exact ⟨a1, a3⟩
    exact plain_some b o _ ts hn w q
end Go.Proofs.Ytimpadooknclkaa
