/-
  What is said: words, keys, labels of a note.
-/
import Derived.Test.YtfjplhgajoehfaaGreatDoorShelf
import Derived.Deep.RegionLaw
import Derived.Test.YtfjplhgajoehfaaGreatDoorQUp14
set_option linter.unusedVariables false
set_option linter.unusedSimpArgs false
namespace Go.Proofs.YtfjplhgajoehfaaGreatDoor
open Go.RowKit

set_option maxHeartbeats 1000000 in
set_option maxRecDepth 100000 in
theorem clone14 (s : ByteArray) (hs : s.size ≤ 281474976710656) (w : World) : Calls Tryz.prog 34 #[.string s] w (Ret (.string s) w) := by
  have HC := Lib.hid (fun w => Tryz.stringslite_Clone s w hs)
  go_enter Tryz.func34, Tryz.ntmps34
  go_wp2_with fail
  refine (HC.out _).mono ?_
  rintro e w1 ⟨rfl, hb⟩
  have HB := Lib.hid hb
  clear hb
  go_wp2
  go_ret
  exact ⟨rfl, HB.out⟩

/-- a procedure's answer -/
def Done14 (E : Env14) (S : Nat → Prop) (w1 : World) (lev d : Nat) (s : El.St) (e : Ending) (w' : World) : Prop := e = .returned (.tuple #[]) ∧ MK E S w1 lev d s w'
theorem kSa_ne : 83 ≠ kSa.T := by decide
set_option maxHeartbeats 4000000 in
set_option maxRecDepth 100000 in
theorem say_any (E : Env14) (S : Nat → Prop) (w1 : World) (lev : Nat) (kind : Nat) (x : List UInt8) (c : Bool) (pa : Option Addr) (na ca : Nat) (a : Int) (s : El.St) (w : World) (hx : x.length ≤ lim14) (hsz : El.sz s ≤ lim14) (hmk : MK E S w1 lev 4 s w) :
    Calls Tryz.prog 87 #[E.m, .int .i64 kind, .agg #[.bool c, .string (str x), .slice pa na ca, .int .i64 a]] w (Done14 E S w1 lev 4 { s with said := s.said ++ [⟨kind, x, a⟩] }) := by
  obtain ⟨K, y, h⟩ := hmk
  obtain ⟨wb, hwb⟩ : ∃ wb, wb = w.alloc (.cells #[.bool c, .string (str x), .slice pa na ca, .int .i64 a] 89) := ⟨_, rfl⟩
  have hbb : Below w.heap.size w wb := by rw [hwb]; exact below_alloc _ _
  have hH := h.mono hbb
  have hbox : wb.heap[w.heap.size]? = some (.cells #[.bool c, .string (str x), .slice pa na ca, .int .i64 a] 89 (0, 0)) := by rw [hwb]; exact obj_new _ _ rfl _ _
  have hbd : Below wb.heap.size wb wb.drew := below_drew9 wb
  have HHd := Lib.hid (hH.mono hbd)
  have hbox2 := obj_kept hbd hbox
  have hob := HHd.out.obj
  obtain ⟨av, nv, cv, hyv⟩ : ∃ a n c, y.vt = .slice a n c := by
    obtain ⟨a, c, e, _⟩ := (h.rows.said (Nat.le_refl _)).len
    exact ⟨_, _, _, e⟩
  have b1 := mcell hbox2 1 rfl
  have b3 := mcell hbox2 3 rfl
  have m43 : wb.drew.cell? ⟨E.p, 43, none⟩ = some (.slice av nv cv) := by rw [← hyv]; exact mcell hob 43 rfl
  have HC := Lib.hid (clone14 (str x) (by rw [str_size13]; unfold lim14 at hx; omega) wb.drew)
  have HOW := Lib.hid (fun w7 (hb7 : Below wb.drew.heap.size wb.drew w7) => (HHd.out.mono hb7))
  have HBX := Lib.hid (fun w7 (hb7 : Below wb.drew.heap.size wb.drew w7) => cell_below hb7 m43)
  have HHyv := Lib.hid hyv
  have HOS := Lib.hid (fun w7 (hb7 : Below wb.drew.heap.size wb.drew w7) => (hyv ▸ (HHd.out.mono hb7).rows.said (Nat.le_refl _) : OwnE kSa E.w0.heap.size K (fun b => K b ∨ S b) (.slice av nv cv) s.said w7))
  have hsl : s.said.length ≤ lim14 := by unfold El.sz at hsz; omega
  have HSL : Hid (s.said.length ≤ 1000000000000) := Lib.hid (by unfold lim14 at hsl; omega)
  have HB0 : Hid (E.w0.heap.size ≤ wb.drew.heap.size) := Lib.hid (HHd.out.below.size)
  clear hbb hH hbox hbd hbox2 hob hsz hsl hx h hyv
  unfold Env14.m
  go_enter Tryz.func87, Tryz.ntmps87
  go_wp2_with fail
  rw [← hwb]
  clear hwb
  go_region_law (first
    | (go_simp; go_at_call 34; refine HC.out.mono ?_; rintro e w7 ⟨rfl, hb7⟩; have c7 := cell_below hb7 m43; have d1 := cell_below hb7 b1; have d3 := cell_below hb7 b3; have e7 := cell_below (below_alloc w7 (.cells #[.int .i64 kind, .string (str x), .int .i64 a] 60)) c7; have H8 := Lib.hid (below_step hb7 (below_alloc w7 (.cells #[.int .i64 kind, .string (str x), .int .i64 a] 60))))
    | (refine step_push14 okSa (by rfl) _ _ (by rfl) E.w0.heap.size K (fun b => K b ∨ S b) (.slice av nv cv) s.said ⟨kind, x, a⟩ ⟨kind, x, a⟩ w7.heap.size (by rfl) (by rfl) (HOS.out _ H8.out) (src_new rfl) rfl HSL.out (HOW.out _ H8.out).below.size (HOW.out _ H8.out).rows.Klt (HOW.out _ H8.out).rows.KX ?_; intro g9 cap9 w9 ho9 hg9; have hb9 := (HOW.out _ H8.out).objFar (HOS.out _ H8.out) hg9 kSa_ne; have c9 : w9.cell? ⟨E.p, 43, none⟩ = some y.vt := mcell hb9 43 rfl; have f9 : w9.frozen? ⟨E.p, 43, none⟩ = false := Lib.frozen_of_heap hb9 43))
  all_goals (
    have HP := Lib.hid ((HOW.out _ H8.out).push hg9 (HOS.out _ H8.out) rfl kSa_ne ((HOW.out _ H8.out).rows.push_said (Nat.le_refl _) (by rw [HHyv.out]; exact hg9) ho9) rfl 43 (.slice (some ⟨g9, 0, none⟩) (s.said.length + 1) cap9) rfl)
    clear ho9 hg9 hb9 c7 d1 d3 e7
    go_wp2
    go_end0
    exact ⟨rfl, _, _, HP.out⟩)
end Go.Proofs.YtfjplhgajoehfaaGreatDoor
