/-
  The answers that the document fixes (layer 6): the statements' 'fixed' returns true, where the program's calls keep their contracts.
-/
import Derived.Test.YtimpadooknclkaaCalls6
import Derived.Deep.DeepCutAuto
set_option linter.unusedVariables false
set_option linter.unusedSimpArgs false
namespace Go.Proofs.Ytimpadooknclkaa
open Go.RowKit

def tk (k : Int) (t : List UInt8) (a : Int) : Tok := ⟨k, t, a⟩
def fixT : List Tok := [tk 1 [101, 100] 0, tk 2 [] 0, tk 0 [97] 0, tk 0 [98] 0, tk 3 [] 0, tk 2 [] 0, tk 1 [65] 0, tk 2 [] 0, tk 0 [99] 0, tk 3 [] 0, tk 3 [] 0, tk 0 [100] 0]
def fixN : List Nd := [.mk true [101, 100] [[.mk false [97] [] 0, .mk false [98] [] 0], [.mk true [65] [[.mk false [99] [] 0]] 0]] 0, .mk false [100] [] 0]
theorem fix_cells : (allCells fixT).toArray = #[.int .i64 1, .string ⟨#[101, 100]⟩, .int .i64 0, .int .i64 2, .string ⟨#[]⟩, .int .i64 0, .int .i64 0, .string ⟨#[97]⟩, .int .i64 0, .int .i64 0, .string ⟨#[98]⟩, .int .i64 0, .int .i64 3, .string ⟨#[]⟩, .int .i64 0, .int .i64 2, .string ⟨#[]⟩, .int .i64 0, .int .i64 1, .string ⟨#[65]⟩, .int .i64 0, .int .i64 2, .string ⟨#[]⟩, .int .i64 0, .int .i64 0, .string ⟨#[99]⟩, .int .i64 0, .int .i64 3, .string ⟨#[]⟩, .int .i64 0, .int .i64 3, .string ⟨#[]⟩, .int .i64 0, .int .i64 0, .string ⟨#[100]⟩, .int .i64 0] := rfl
theorem fix_G : Tr.G 0 (Tr.reals fixT) fixN := by
  have e : Tr.reals fixT = fixT := by decide +kernel
  rw [e]
  have hd : Tr.G 0 [tk 0 [100] 0] [.mk false [100] [] 0] := .word (t := tk 0 [100] 0) rfl (.nil 0)
  have hc : Tr.G 2 [tk 0 [99] 0] [.mk false [99] [] 0] := .word (t := tk 0 [99] 0) rfl (.nil 2)
  have hA : Tr.G 1 [tk 1 [65] 0, tk 2 [] 0, tk 0 [99] 0, tk 3 [] 0] [.mk true [65] [[.mk false [99] [] 0]] 0] :=
    .grp (t := tk 1 [65] 0) (o := tk 2 [] 0) (c := tk 3 [] 0) (b := [tk 0 [99] 0]) (r := []) rfl rfl rfl (by decide) hc (.cmd (t := tk 1 [65] 0) rfl (.nil 1))
  have hab : Tr.G 1 [tk 0 [97] 0, tk 0 [98] 0] [.mk false [97] [] 0, .mk false [98] [] 0] := .word (t := tk 0 [97] 0) rfl (.word (t := tk 0 [98] 0) rfl (.nil 1))
  have h1 : Tr.G 0 (tk 1 [101, 100] 0 :: tk 2 [] 0 :: ([tk 1 [65] 0, tk 2 [] 0, tk 0 [99] 0, tk 3 [] 0] ++ tk 3 [] 0 :: [tk 0 [100] 0])) (.mk true [101, 100] [[.mk true [65] [[.mk false [99] [] 0]] 0]] 0 :: [.mk false [100] [] 0]) :=
    .grp (t := tk 1 [101, 100] 0) (o := tk 2 [] 0) (c := tk 3 [] 0) rfl rfl rfl (by decide) hA (.cmd (t := tk 1 [101, 100] 0) rfl hd)
  exact .grp (t := tk 1 [101, 100] 0) (o := tk 2 [] 0) (c := tk 3 [] 0) (b := [tk 0 [97] 0, tk 0 [98] 0]) rfl rfl rfl (by decide) hab h1
theorem toks12 (W : World) : ToksAt (W.alloc (.cells #[.int .i64 1, .string ⟨#[101, 100]⟩, .int .i64 0, .int .i64 2, .string ⟨#[]⟩, .int .i64 0, .int .i64 0, .string ⟨#[97]⟩, .int .i64 0, .int .i64 0, .string ⟨#[98]⟩, .int .i64 0, .int .i64 3, .string ⟨#[]⟩, .int .i64 0, .int .i64 2, .string ⟨#[]⟩, .int .i64 0, .int .i64 1, .string ⟨#[65]⟩, .int .i64 0, .int .i64 2, .string ⟨#[]⟩, .int .i64 0, .int .i64 0, .string ⟨#[99]⟩, .int .i64 0, .int .i64 3, .string ⟨#[]⟩, .int .i64 0, .int .i64 3, .string ⟨#[]⟩, .int .i64 0, .int .i64 0, .string ⟨#[100]⟩, .int .i64 0] 36)) (.slice (some ⟨W.heap.size, 0, none⟩) 12 12) fixT := by
  have h := toks_new W fixT 36 (by decide)
  rw [fix_cells] at h
  exact h
theorem six_below {w w' : World} {p q : Nat} {a b : Value} {s t : Value} {c d : Value} (hb : Below w.heap.size w w') (h : w.cell? ⟨p, 0, none⟩ = some a ∧ w.cell? ⟨p, 1, none⟩ = some s ∧ w.cell? ⟨p, 2, none⟩ = some c ∧ w.cell? ⟨q, 0, none⟩ = some b ∧ w.cell? ⟨q, 1, none⟩ = some t ∧ w.cell? ⟨q, 2, none⟩ = some d) :
    w'.cell? ⟨p, 0, none⟩ = some a ∧ w'.cell? ⟨p, 1, none⟩ = some s ∧ w'.cell? ⟨p, 2, none⟩ = some c ∧ w'.cell? ⟨q, 0, none⟩ = some b ∧ w'.cell? ⟨q, 1, none⟩ = some t ∧ w'.cell? ⟨q, 2, none⟩ = some d :=
  ⟨cell_below hb h.1, cell_below hb h.2.1, cell_below hb h.2.2.1, cell_below hb h.2.2.2.1, cell_below hb h.2.2.2.2.1, cell_below hb h.2.2.2.2.2⟩

theorem six_set {w : World} {p r : Nat} {a b : Value} {s t : Value} {c d x y : Value} (hr : p + 1 < r) (h : w.cell? ⟨p, 0, none⟩ = some a ∧ w.cell? ⟨p, 1, none⟩ = some s ∧ w.cell? ⟨p, 2, none⟩ = some c ∧ w.cell? ⟨p + 1, 0, none⟩ = some b ∧ w.cell? ⟨p + 1, 1, none⟩ = some t ∧ w.cell? ⟨p + 1, 2, none⟩ = some d) :
    ((w.setCell ⟨r, 0, none⟩ x).setCell ⟨r, 1, none⟩ y).cell? ⟨p, 0, none⟩ = some a ∧ ((w.setCell ⟨r, 0, none⟩ x).setCell ⟨r, 1, none⟩ y).cell? ⟨p, 1, none⟩ = some s ∧ ((w.setCell ⟨r, 0, none⟩ x).setCell ⟨r, 1, none⟩ y).cell? ⟨p, 2, none⟩ = some c ∧ ((w.setCell ⟨r, 0, none⟩ x).setCell ⟨r, 1, none⟩ y).cell? ⟨p + 1, 0, none⟩ = some b ∧ ((w.setCell ⟨r, 0, none⟩ x).setCell ⟨r, 1, none⟩ y).cell? ⟨p + 1, 1, none⟩ = some t ∧ ((w.setCell ⟨r, 0, none⟩ x).setCell ⟨r, 1, none⟩ y).cell? ⟨p + 1, 2, none⟩ = some d := by
  have h1 : r ≠ p := by omega
  have h2 : r ≠ p + 1 := by omega
  rw [two_far6 w h1, two_far6 w h1, two_far6 w h1, two_far6 w h2, two_far6 w h2, two_far6 w h2]
  exact h
theorem toks_one (W : World) (k : Int) (x : List UInt8) (a : Int) : ToksAt (W.alloc (.cells #[.int .i64 k, .string (str x), .int .i64 a] 36)) (.slice (some ⟨W.heap.size, 0, none⟩) 1 1) [tk k x a] := toks_new W [tk k x a] 36 (by unfold maxLen; simp)
theorem toks_one_at (W : World) (k : Int) (a : Int) (p : Nat) (hp : W.heap.size = p) : ToksAt (W.alloc (.cells #[.int .i64 k, .string ⟨#[]⟩, .int .i64 a] 36)) (.slice (some ⟨p, 0, none⟩) 1 1) [tk k [] a] := by
  subst hp
  exact toks_one W k [] a
theorem toks_two_at (W : World) (p : Nat) (hp : W.heap.size = p) : ToksAt (W.alloc (.cells #[.int .i64 1, .string ⟨#[112]⟩, .int .i64 0, .int .i64 2, .string ⟨#[]⟩, .int .i64 2] 36)) (.slice (some ⟨p, 0, none⟩) 2 2) [tk 1 [112] 0, tk 2 [] 2] := by
  subst hp
  exact toks_new W [tk 1 [112] 0, tk 2 [] 2] 36 (by unfold maxLen; simp)
theorem toks_two (W : World) (k j : Int) (x y : List UInt8) (a c : Int) : ToksAt (W.alloc (.cells #[.int .i64 k, .string (str x), .int .i64 a, .int .i64 j, .string (str y), .int .i64 c] 36)) (.slice (some ⟨W.heap.size, 0, none⟩) 2 2) [tk k x a, tk j y c] := toks_new W [tk k x a, tk j y c] 36 (by unfold maxLen; simp)
theorem stays_same {w : World} {p : Addr} {x : Value} (h : w.cell? p = some x) (b : Nat) : Stays w (w.setCell p x) b := fun o v hv => by
  by_cases e : p = ⟨b, o, none⟩
  · rw [← e] at hv ⊢
    rw [h] at hv
    injection hv with hv
    subst hv
    exact World.cell?_setCell_same _ _ _ h
  · rw [World.cell?_setCell_other _ _ _ _ e]
    exact hv
theorem fin_set {w wP : World} {r : Nat} {KP : Nat → Prop} {vP : Value} {l : List Nd} (hF : FltAt wP r 0 0) (hP : NodesC wP KP vP l) (hK : Below w.heap.size w wP) (hr : w.heap.size ≤ r) :
    ∃ (r' : Nat) (K' : Nat → Prop), Value.pointer (some ⟨r, 0, none⟩) = Value.pointer (some ⟨r', 0, none⟩) ∧ Hid (FltAt ((wP.setCell ⟨r, 0, none⟩ (.int .i64 0)).setCell ⟨r, 1, none⟩ (.int .i64 0)) r' 0 0) ∧ Hid (NodesC ((wP.setCell ⟨r, 0, none⟩ (.int .i64 0)).setCell ⟨r, 1, none⟩ (.int .i64 0)) K' vP l) ∧ Hid (Below w.heap.size w ((wP.setCell ⟨r, 0, none⟩ (.int .i64 0)).setCell ⟨r, 1, none⟩ (.int .i64 0))) := by
  have s0 : ∀ b, Stays wP (wP.setCell ⟨r, 0, none⟩ (.int .i64 0)) b := stays_same hF.c0
  have c1 := s0 r 1 _ hF.c1
  have s1 : ∀ b, Stays (wP.setCell ⟨r, 0, none⟩ (.int .i64 0)) ((wP.setCell ⟨r, 0, none⟩ (.int .i64 0)).setCell ⟨r, 1, none⟩ (.int .i64 0)) b := stays_same c1
  refine ⟨r, KP, rfl, Lib.hid ⟨s1 r 0 _ (s0 r 0 _ hF.c0), s1 r 1 _ c1, by simp [hF.f0], by simp [hF.f1]⟩, Lib.hid ((hP.set r 0 _ s0).set r 1 _ s1), Lib.hid ?_⟩
  exact Below.setCell (p := ⟨r, 1, none⟩) (Below.setCell (p := ⟨r, 0, none⟩) hK hr _) hr _
theorem undrew {w w' : World} (h : Below w.drew.heap.size w.drew w') : Below w.heap.size w w' := ⟨h.os, h.tape, h.output, h.size, h.block⟩
theorem lt_six1 {w : World} {p : Nat} {a b : Value} {s t : Value} {c d : Value} (h : w.cell? ⟨p, 0, none⟩ = some a ∧ w.cell? ⟨p, 1, none⟩ = some s ∧ w.cell? ⟨p, 2, none⟩ = some c ∧ w.cell? ⟨p + 1, 0, none⟩ = some b ∧ w.cell? ⟨p + 1, 1, none⟩ = some t ∧ w.cell? ⟨p + 1, 2, none⟩ = some d) : p + 1 < w.heap.size + 1 := by
  have h1 : p + 1 < w.heap.size := block_lt_of_cell h.2.2.2.1
  omega
theorem flt_after {w w' : World} (hb : Below (w.alloc (.cells #[.int .i64 0, .int .i64 0] 26)).heap.size (w.alloc (.cells #[.int .i64 0, .int .i64 0] 26)) w') : FltAt w' w.heap.size 0 0 := (flt_new w 0 0).mono hb
theorem toks12b (W : World) (o : Obj) : ToksAt ((W.alloc o).alloc (.cells #[.int .i64 1, .string ⟨#[101, 100]⟩, .int .i64 0, .int .i64 2, .string ⟨#[]⟩, .int .i64 0, .int .i64 0, .string ⟨#[97]⟩, .int .i64 0, .int .i64 0, .string ⟨#[98]⟩, .int .i64 0, .int .i64 3, .string ⟨#[]⟩, .int .i64 0, .int .i64 2, .string ⟨#[]⟩, .int .i64 0, .int .i64 1, .string ⟨#[65]⟩, .int .i64 0, .int .i64 2, .string ⟨#[]⟩, .int .i64 0, .int .i64 0, .string ⟨#[99]⟩, .int .i64 0, .int .i64 3, .string ⟨#[]⟩, .int .i64 0, .int .i64 3, .string ⟨#[]⟩, .int .i64 0, .int .i64 0, .string ⟨#[100]⟩, .int .i64 0] 36)) (.slice (some ⟨W.heap.size + 1, 0, none⟩) 12 12) fixT := by
  have h := toks12 (W.alloc o)
  rw [World.size_alloc] at h
  exact h
theorem lt_six {w : World} {p : Nat} {a b : Value} {s t : Value} {c d : Value} (h : w.cell? ⟨p, 0, none⟩ = some a ∧ w.cell? ⟨p, 1, none⟩ = some s ∧ w.cell? ⟨p, 2, none⟩ = some c ∧ w.cell? ⟨p + 1, 0, none⟩ = some b ∧ w.cell? ⟨p + 1, 1, none⟩ = some t ∧ w.cell? ⟨p + 1, 2, none⟩ = some d) : p + 1 < w.heap.size := block_lt_of_cell h.2.2.2.1
theorem flt_two (w : World) {o : Obj} {w' : World} (hb : Below ((w.alloc o).alloc (.cells #[.int .i64 0, .int .i64 0] 26)).heap.size ((w.alloc o).alloc (.cells #[.int .i64 0, .int .i64 0] 26)) w') : FltAt w' (w.heap.size + 1) 0 0 := by
  have h := (flt_new (w.alloc o) 0 0).mono hb
  rw [World.size_alloc] at h
  exact h

set_option maxHeartbeats 16000000 in
set_option maxRecDepth 100000 in
theorem fixed6 (C : TreeC) (w : World) : Calls Try.prog 9 #[] w (Ret (.bool true) w) := by
  have HC := Lib.hid C
  have cW := Lib.hid (fun s w => word6 s w)
  have cC := Lib.hid (fun s w => command6 s w)
  have cP : Hid (∀ v w, ToksAt w v fixT → Calls Try.prog 7 #[v] w (fun e w' => ∃ v K, e = .returned (.tuple #[v, .agg #[.int .i64 0, .int .i64 0]]) ∧ NodesC w' K v fixN ∧ Below w.heap.size w w')) := Lib.hid (fun v w h => C.yesC v fixT fixN w (by decide) fix_G h)
  obtain ⟨Z, hZ⟩ : ∃ Z, Z = (w.alloc (.cells #[.int .i64 2, .string ⟨#[]⟩, .int .i64 0] 36)).alloc (.cells #[.int .i64 3, .string ⟨#[]⟩, .int .i64 0] 36) := ⟨_, rfl⟩
  have HBZ : Hid (Below w.heap.size w Z) := Lib.hid (by rw [hZ]; exact (below_alloc _ _).alloc (by simp) _)
  have hS : Z.drew.cell? ⟨w.heap.size, 0, none⟩ = some (.int .i64 2) ∧ Z.drew.cell? ⟨w.heap.size, 1, none⟩ = some (.string ⟨#[]⟩) ∧ Z.drew.cell? ⟨w.heap.size, 2, none⟩ = some (.int .i64 0) ∧ Z.drew.cell? ⟨w.heap.size + 1, 0, none⟩ = some (.int .i64 3) ∧ Z.drew.cell? ⟨w.heap.size + 1, 1, none⟩ = some (.string ⟨#[]⟩) ∧ Z.drew.cell? ⟨w.heap.size + 1, 2, none⟩ = some (.int .i64 0) := by
    rw [hZ]
    refine ⟨?_, ?_, ?_, ?_, ?_, ?_⟩ <;> simp
  have HK := Lib.hid HBZ.out.drew
  clear C
  go_enter Try.func9, Try.ntmps9
  go_upto_region 2 with fail
  rw [← hZ]
  clear hZ
  go_cut [3, 4] (fun lv fv wx => ∃ (r : Nat) (KP : Nat → Prop), fv = .pointer (some ⟨r, 0, none⟩) ∧ Hid (FltAt wx r 0 0) ∧ Hid (NodesC wx KP lv fixN) ∧ Hid (Below w.heap.size w wx))
  case first =>
    go_region_held3 (fun w' => w'.cell? ⟨w.heap.size, 0, none⟩ = some (.int .i64 2) ∧ w'.cell? ⟨w.heap.size, 1, none⟩ = some (.string ⟨#[]⟩) ∧ w'.cell? ⟨w.heap.size, 2, none⟩ = some (.int .i64 0) ∧ w'.cell? ⟨w.heap.size + 1, 0, none⟩ = some (.int .i64 3) ∧ w'.cell? ⟨w.heap.size + 1, 1, none⟩ = some (.string ⟨#[]⟩) ∧ w'.cell? ⟨w.heap.size + 1, 2, none⟩ = some (.int .i64 0))
      (first | exact hS | exact six_below (below_alloc _ _) hS | exact six_below (below_step (below_alloc _ _) (below_alloc _ _)) hS | exact six_below (Below.setCell (Below.setCell (below_alloc _ _) (Nat.le_refl _) _) (Nat.le_refl _) _) hS | exact six_set HLt.out hS | go_keep)
      (first
        | ((go_at_call 26; refine (cW.out _ _).mono ?_; rintro e wA ⟨rfl, hbA⟩; have hS := six_below hbA hS; have HK := Lib.hid (below_step HK.out hbA); try (have hFF := hFF.mono hbA)))
        | ((go_at_call 25; refine (cC.out _ _).mono ?_; rintro e wA ⟨rfl, hbA⟩; have hS := six_below hbA hS; have HK := Lib.hid (below_step HK.out hbA); try (have hFF := hFF.mono hbA)))
        | ((go_at_call 26; refine (cW.out _ _).mono ?_; rintro e wA ⟨rfl, hbA⟩; have HLt := Lib.hid (lt_six hS); have hFF := flt_after hbA; have hS := six_below (below_step (below_alloc _ _) hbA) hS; have HK := Lib.hid (below_step HK.out (below_step (below_alloc _ _) hbA))))
        | ((go_at_call 25; refine (cC.out _ _).mono ?_; rintro e wA ⟨rfl, hbA⟩; have HLt := Lib.hid (lt_six hS); have hFF := flt_after hbA; have hS := six_below (below_step (below_alloc _ _) hbA) hS; have HK := Lib.hid (below_step HK.out (below_step (below_alloc _ _) hbA))))
        | ((go_at_call 25; refine (cC.out _ _).mono ?_; rintro e wA ⟨rfl, hbA0⟩; have hbA := undrew hbA0; have HLt := Lib.hid (lt_six (w := Z) hS); have hFF := flt_after hbA; have hS := six_below (w := Z) (below_step (below_alloc _ _) hbA) hS; have HK := Lib.hid (below_step HBZ.out (below_step (below_alloc _ _) hbA))))
        | ((go_at_call 7; with_reducible refine (cP.out _ _ (toks12 wA)).mono ?_; rintro e wP ⟨vP, KP, rfl, hP, hbP⟩; have hS := six_below (below_step (below_alloc _ _) hbP) hS; have HK := Lib.hid (below_step HK.out (below_step (below_alloc _ _) hbP)); try (have hFF := (hFF.mono (below_alloc _ _)).mono hbP; have q0 := hFF.c0; have q1 := hFF.c1; have q2 := hFF.f0; have q3 := hFF.f1)))
        | ((go_at_call 7; with_reducible refine (cP.out _ _ ((toks12 wA).mono (below_alloc _ _))).mono ?_; rintro e wP ⟨vP, KP, rfl, hP, hbP⟩; have HLt := Lib.hid (lt_six1 hS); have hS := six_below (below_step (below_step (below_alloc _ _) (below_alloc _ _)) hbP) hS; have HK := Lib.hid (below_step HK.out (below_step (below_step (below_alloc _ _) (below_alloc _ _)) hbP)); have hFF := flt_two wA hbP; have q0 := hFF.c0; have q1 := hFF.c1; have q2 := hFF.f0; have q3 := hFF.f1))
        | ((go_at_call 7; with_reducible refine (cP.out _ _ (toks12b wA _)).mono ?_; rintro e wP ⟨vP, KP, rfl, hP, hbP⟩; have HLt := Lib.hid (lt_six hS); have hFF := (flt_after (below_alloc _ _)).mono hbP; have hS := six_below (below_step (below_step (below_alloc _ _) (below_alloc _ _)) hbP) hS; have HK := Lib.hid (below_step HK.out (below_step (below_step (below_alloc _ _) (below_alloc _ _)) hbP)); have q0 := hFF.c0; have q1 := hFF.c1; have q2 := hFF.f0; have q3 := hFF.f1)))
    all_goals go_wp2_with fail
    all_goals go_meet
    all_goals first
      | exact ⟨_, KP, rfl, Lib.hid (flt_new wP 0 0), Lib.hid (hP.mono (below_alloc _ _)), Lib.hid (below_step HK.out (below_alloc _ _))⟩
      | exact fin_set hFF hP HK.out (by have := HLt.out; omega)
  case rest =>
    obtain ⟨r, KP, rfl, HF1, HV1, HB1⟩ := hcut
    have cQ1 : Hid (∀ v w, ToksAt w v [tk 2 [] 3] → Calls Try.prog 7 #[v] w (fun e w' => ∃ v K, e = .returned (.tuple #[v, .agg #[.int .i64 60, .int .i64 3]]) ∧ NodesAt w' K v [] ∧ Below w.heap.size w w')) := Lib.hid (fun v w h => HC.out.no v [tk 2 [] 3] w (by decide) (by decide +kernel) h)
    have cQ2 : Hid (∀ v w, ToksAt w v [tk 1 [112] 0, tk 2 [] 2] → Calls Try.prog 7 #[v] w (fun e w' => ∃ v K, e = .returned (.tuple #[v, .agg #[.int .i64 62, .int .i64 2]]) ∧ NodesAt w' K v [] ∧ Below w.heap.size w w')) := Lib.hid (fun v w h => HC.out.no v [tk 1 [112] 0, tk 2 [] 2] w (by decide) (by decide +kernel) h)
    have cQ3 : Hid (∀ v w, ToksAt w v [tk 3 [] 4] → Calls Try.prog 7 #[v] w (fun e w' => ∃ v K, e = .returned (.tuple #[v, .agg #[.int .i64 61, .int .i64 4]]) ∧ NodesAt w' K v [] ∧ Below w.heap.size w w')) := Lib.hid (fun v w h => HC.out.no v [tk 3 [] 4] w (by decide) (by decide +kernel) h)
    have cDp : Hid (∀ v K w, NodesC w K v fixN → Calls Try.prog 18 #[v] w (Ret (.int .i64 2) w)) := Lib.hid (fun v K w h => HC.out.depth v fixN K w (by decide +kernel) h)
    have cWd : Hid (∀ v K w, NodesAt w K v fixN → Calls Try.prog 17 #[v] w (fun e w' => ∃ v', e = .returned v' ∧ StrsAt w' v' [[97], [98], [99], [100]] ∧ Below w.heap.size w w')) := Lib.hid (fun v K w h => HC.out.words v fixN K w (by decide +kernel) h)
    obtain ⟨b, o, cap, rfl, _, hrow⟩ := HV1.out.1.2.2 (by decide)
    have hn0 := hrow.at (i := 0) rfl
    have hn1 := hrow.at (i := 1) rfl
    unfold NdAt at hn0 hn1
    obtain ⟨va0, _, _, a02, _, ⟨pa0, ca0, rfl, _⟩, _⟩ := hn0
    obtain ⟨va1, _, a11, _⟩ := hn1
    have HA0 := Lib.hid a02
    have HA1 := Lib.hid a11
    clear hrow a02 a11
    go_wp2_with fail
    refine (cQ1.out _ _ (toks_one_at wc 2 3 wc.heap.size rfl)).mono ?_
    rintro e w3 ⟨v3, K3, rfl, _, hb3⟩
    have hb3' := below_step (below_step (below_alloc _ _) hb3) (below_alloc w3 (.cells #[.int .i64 60, .int .i64 3] 26))
    have HB3 := Lib.hid hb3'
    have HG3 := Lib.hid (flt_new w3 60 3)
    clear hb3 hb3'
    go_wp2_with fail
    refine (cC.out _ _).mono ?_
    rintro e w3b ⟨rfl, hb3b⟩
    have HB3b := Lib.hid (below_step HB3.out hb3b)
    have HG3b := Lib.hid (HG3.out.mono hb3b)
    clear hb3b
    go_wp2_with fail
    refine (cQ2.out _ _ (toks_two_at w3b w3b.heap.size rfl)).mono ?_
    rintro e w4 ⟨v4, K4, rfl, _, hb4⟩
    have hb4' := below_step (below_step (below_alloc _ _) hb4) (below_alloc w4 (.cells #[.int .i64 62, .int .i64 2] 26))
    have HB4 := Lib.hid (below_step HB3b.out hb4')
    have HG4 := Lib.hid (HG3b.out.mono hb4')
    have HH4 := Lib.hid (flt_new w4 62 2)
    clear hb4 hb4'
    go_wp2_with fail
    refine (cQ3.out _ _ (toks_one_at (w4.alloc (.cells #[.int .i64 62, .int .i64 2] 26)) 3 4 (w4.heap.size + 1) (World.size_alloc _ _))).mono ?_
    rintro e w5 ⟨v5, K5, rfl, _, hb5⟩
    have hb5' := below_step (below_step (below_alloc _ _) hb5) (below_alloc w5 (.cells #[.int .i64 61, .int .i64 4] 26))
    have HB5 := Lib.hid (below_step HB4.out hb5')
    have HG5 := Lib.hid (HG4.out.mono hb5')
    have HH5 := Lib.hid (HH4.out.mono hb5')
    have HI5 := Lib.hid (flt_new w5 61 4)
    clear hb5 hb5'
    have HF5 := Lib.hid (HF1.out.mono HB5.out)
    have HV5 := Lib.hid (HV1.out.mono HB5.out)
    have a0 := cell_below HB5.out HA0.out
    have a1 := cell_below HB5.out HA1.out
    have f0 := HF5.out.c0
    have g0 := HG5.out.c0
    have g1 := HG5.out.c1
    have h0 := HH5.out.c0
    have h1 := HH5.out.c1
    have i0 := HI5.out.c0
    have i1 := HI5.out.c1
    have q1 : ∀ wx, (binOp .eql 26 (.agg #[.int .i64 60, .int .i64 3]) (.agg #[.int .i64 60, .int .i64 3])).run Try.prog wx = .ok (.bool true) wx := fun wx => by rw [eqFlt]; rfl
    have q2 : ∀ wx, (binOp .eql 26 (.agg #[.int .i64 62, .int .i64 2]) (.agg #[.int .i64 62, .int .i64 2])).run Try.prog wx = .ok (.bool true) wx := fun wx => by rw [eqFlt]; rfl
    have q3 : ∀ wx, (binOp .eql 26 (.agg #[.int .i64 61, .int .i64 4]) (.agg #[.int .i64 61, .int .i64 4])).run Try.prog wx = .ok (.bool true) wx := fun wx => by rw [eqFlt]; rfl
    have hd : (str [100] : ByteArray) = ⟨#[100]⟩ := rfl
    rw [hd] at a1
    clear hd
    go_wp2_with fail
    refine (cDp.out _ _ _ HV5.out).mono ?_
    rintro e w6 ⟨rfl, hb6⟩
    have HB6 := Lib.hid (below_step HB5.out hb6)
    have HV6 := Lib.hid (HV5.out.mono hb6)
    clear hb6
    go_wp2_with fail
    refine (cWd.out _ _ _ HV6.out.1).mono ?_
    rintro e w7 ⟨v7, rfl, hs7, hb7⟩
    have hb7' := below_step hb7 (below_alloc w7 (.cells #[.string ⟨#[97]⟩, .string ⟨#[98]⟩, .string ⟨#[99]⟩, .string ⟨#[100]⟩] 9))
    have HB7 := Lib.hid (below_step HB6.out hb7')
    have HS7 := Lib.hid (hs7.mono (below_alloc w7 (.cells #[.string ⟨#[97]⟩, .string ⟨#[98]⟩, .string ⟨#[99]⟩, .string ⟨#[100]⟩] 9)))
    have HW7 : Hid (StrsAt (w7.alloc (.cells #[.string ⟨#[97]⟩, .string ⟨#[98]⟩, .string ⟨#[99]⟩, .string ⟨#[100]⟩] 9)) (.slice (some ⟨w7.heap.size, 0, none⟩) 4 4) [[97], [98], [99], [100]]) := Lib.hid (strs_new w7 [[97], [98], [99], [100]] 9 (by unfold maxLen; simp))
    clear hs7 hb7 hb7'
    go_wp2_with fail
    refine (texts_self _ _ _ _ HS7.out HW7.out).mono ?_
    rintro e w8 ⟨rfl, n8, rfl⟩
    go_wp2_with fail
    go_ret
    exact ⟨rfl, below_step HB1.out (below_step HB7.out (below_drew _ _))⟩
end Go.Proofs.Ytimpadooknclkaa
