/-
  ElabLemmas: the series of any command, and the words of any lemma, are as the document says.
-/
import Derived.Test.YtmaplllahikkgaaGreatDoorQFix14
import Derived.Test.YtmaplllahikkgaaGreatDoorQSer14
set_option linter.unusedVariables false
set_option linter.unusedSimpArgs false
namespace Go.Proofs.YtmaplllahikkgaaGreatDoor
open Go.RowKit

set_option maxHeartbeats 8000000 in
set_option maxRecDepth 100000 in
theorem elabLemmas_any (x : List UInt8) (pc pw pn pt : Option Addr) (nc nw nn nt cc cw cn ct : Nat) (ws : List (List UInt8)) (ser fr til loc : Int) (w : World) (h : TxsAt w (.slice pw nw cw) ws) (hsm : ∀ x ∈ ws, x.length ≤ 281474976710656) (hl : ws.length ≤ 8796093021952)
    (f0 : -9223372036854775808 ≤ fr) (f1 : fr ≤ 9223372036854775807) (t0 : -9223372036854775808 ≤ til) (t1 : til ≤ 9223372036854775807) (hE : Envs14 w) :
    Calls Tryz.prog 4 #[.string (str x), .agg #[.slice pc nc cc, .slice pw nw cw, .slice pn nn cn], .agg #[.int .i64 ser, .int .i64 fr, .int .i64 til, .slice pt nt ct, .int .i64 loc]] w (Ret (.bool true) w) := by
  have hb1 := below_alloc w (.cells #[.slice pc nc cc, .slice pw nw cw, .slice pn nn cn] 41)
  have hb2 := below_alloc (w.alloc (.cells #[.slice pc nc cc, .slice pw nw cw, .slice pn nn cn] 41)) (.cells #[.int .i64 ser, .int .i64 fr, .int .i64 til, .slice pt nt ct, .int .i64 loc] 44)
  have o1 := obj_kept hb2 (obj_new w _ rfl #[.slice pc nc cc, .slice pw nw cw, .slice pn nn cn] 41)
  have o2 := obj_new (w.alloc (.cells #[.slice pc nc cc, .slice pw nw cw, .slice pn nn cn] 41)) (w.heap.size + 1) (by simp) #[.int .i64 ser, .int .i64 fr, .int .i64 til, .slice pt nt ct, .int .i64 loc] 44
  have hbw := below_step hb1 hb2
  obtain ⟨V, hV⟩ : ∃ V, V = (w.alloc (.cells #[.slice pc nc cc, .slice pw nw cw, .slice pn nn cn] 41)).alloc (.cells #[.int .i64 ser, .int .i64 fr, .int .i64 til, .slice pt nt ct, .int .i64 loc] 44) := ⟨_, rfl⟩
  rw [← hV] at o1 o2 hbw
  have HBV := Lib.hid hbw
  have HEV := Lib.hid (hE.mono hbw)
  have HWV := Lib.hid (SlcAt.mono h hbw)
  have HC := Lib.hid (fun wx (hb : Below V.heap.size V wx) => (⟨mcell (obj_kept hb o1) 0 rfl, mcell (obj_kept hb o1) 1 rfl, mcell (obj_kept hb o1) 2 rfl, mcell (obj_kept hb o2) 0 rfl, mcell (obj_kept hb o2) 1 rfl, mcell (obj_kept hb o2) 2 rfl, mcell (obj_kept hb o2) 3 rfl, mcell (obj_kept hb o2) 4 rfl⟩ :
    wx.cell? ⟨w.heap.size, 0, none⟩ = some (.slice pc nc cc) ∧ wx.cell? ⟨w.heap.size, 1, none⟩ = some (.slice pw nw cw) ∧ wx.cell? ⟨w.heap.size, 2, none⟩ = some (.slice pn nn cn) ∧ wx.cell? ⟨w.heap.size + 1, 0, none⟩ = some (.int .i64 ser) ∧ wx.cell? ⟨w.heap.size + 1, 1, none⟩ = some (.int .i64 fr) ∧ wx.cell? ⟨w.heap.size + 1, 2, none⟩ = some (.int .i64 til) ∧ wx.cell? ⟨w.heap.size + 1, 3, none⟩ = some (.slice pt nt ct) ∧ wx.cell? ⟨w.heap.size + 1, 4, none⟩ = some (.int .i64 loc)))
  have bd := below_drew V 1
  have HVd : Hid (Below V.heap.size V V.drew) := Lib.hid bd
  have HFx := Lib.hid (fixed_any V.drew (HEV.out.mono bd))
  have HS := Lib.hid (fun wx (hb : Below V.heap.size V wx) => series_any x wx (HEV.out.mono hb).ser)
  have HR := Lib.hid (fun wx => refSeries_any x wx)
  have HL := Lib.hid (fun wx (hb : Below V.heap.size V wx) => lemma_any pc pw pn pt nc nw nn nt cc cw cn ct ws ser fr til loc wx (SlcAt.mono HWV.out hb) hsm hl f0 f1 t0 t1)
  have HLR := Lib.hid (fun wx (hb : Below V.heap.size V wx) => refLemma_any pc pw pn pt nc nw nn nt cc cw cn ct ws ser fr til loc wx (SlcAt.mono HWV.out hb) hl f0 f1 t0 t1)
  unfold LemPost at HL HLR
  obtain ⟨c0, c1, c2, c3, c4, c5, c6, c7⟩ := HC.out V (Below.refl _ _)
  generalize serIx x = sx at *
  generalize lemW ws fr til = lw at *
  have hsx : (sx == sx) = true := beq_self_eq_true _
  clear hb1 hb2 o1 o2 hbw h hsm hl f0 f1 t0 t1 hE bd
  go_enter Tryz.func4, Tryz.ntmps4
  go_upto_region 1 with fail
  rw [← hV]
  clear hV
  go_region_held3 (fun w' => w'.cell? ⟨w.heap.size, 0, none⟩ = some (.slice pc nc cc) ∧ w'.cell? ⟨w.heap.size, 1, none⟩ = some (.slice pw nw cw) ∧ w'.cell? ⟨w.heap.size, 2, none⟩ = some (.slice pn nn cn) ∧ w'.cell? ⟨w.heap.size + 1, 0, none⟩ = some (.int .i64 ser) ∧ w'.cell? ⟨w.heap.size + 1, 1, none⟩ = some (.int .i64 fr) ∧ w'.cell? ⟨w.heap.size + 1, 2, none⟩ = some (.int .i64 til) ∧ w'.cell? ⟨w.heap.size + 1, 3, none⟩ = some (.slice pt nt ct) ∧ w'.cell? ⟨w.heap.size + 1, 4, none⟩ = some (.int .i64 loc))
    (first | (with_reducible exact HC.out _ HU6.out) | (with_reducible exact HC.out _ HU5.out) | (with_reducible exact HC.out _ HU4.out) | (with_reducible exact HC.out _ HU3.out) | (with_reducible exact HC.out _ HU2.out) | (with_reducible exact HC.out _ HU1.out) | (with_reducible exact HC.out _ HVd.out) | go_keep)
    (first
      | ((with_reducible refine HFx.out.mono ?_); rintro e u1 ⟨rfl, hb⟩; have HU1 := Lib.hid (below_step HVd.out hb); clear hb)
      | ((with_reducible refine (HS.out _ HU1.out).mono ?_); rintro e u2 ⟨rfl, hb⟩; have HU2 := Lib.hid (below_step HU1.out hb); clear hb)
      | ((with_reducible refine (HR.out _).mono ?_); rintro e u3 ⟨rfl, hb⟩; have HU3 := Lib.hid (below_step HU2.out hb); clear hb)
      | ((with_reducible refine (HL.out _ HU3.out).mono ?_); rintro e u4 ⟨v4, rfl, hb, hx⟩; have HU4 := Lib.hid (below_step HU3.out hb); have HX4 := Lib.hid hx; clear hb hx)
      | ((with_reducible refine (HLR.out _ HU4.out).mono ?_); rintro e u5 ⟨v5, rfl, hb, hx⟩; have HU5 := Lib.hid (below_step HU4.out hb); have HTT := Lib.hid (texts_self _ _ _ _ (SlcAt.mono HX4.out hb) hx); clear hb hx)
      | ((with_reducible refine HTT.out.mono ?_); rintro e u6 ⟨rfl, nd, hu6⟩; have HU6 : Hid (Below V.heap.size V u6) := Lib.hid (by rw [hu6]; exact below_step HU5.out (below_drew _ _)); clear hu6))
  all_goals
    go_wp2
    go_ret
    exact ⟨rfl, below_step HBV.out HU6.out⟩
end Go.Proofs.YtmaplllahikkgaaGreatDoor
