/-
  The landed inShort at the closures of Short and of Head; Short, Head.
-/
import Derived.Test.YtjjkilopeofjjaaDoorMark15
import Derived.Test.YtjjkilopeofjjaaDoorBld13
set_option linter.unusedVariables false
set_option linter.unusedSimpArgs false
namespace Go.Proofs.YtjjkilopeofjjaaDoor
open Go.RowKit

theorem lay_one15 (w : World) (p : Nat) (hp : w.heap.size = p) (v : Value) (T : TypeId) : (w.alloc (.cells #[v] T)).cell? ⟨p, 0, none⟩ = some v := by subst hp; exact cell_lay w #[v] T 0 v rfl
theorem mkf15 (fn : Fn) (first cap : Array Value) (w : World) : (Instr.makeFunc fn first cap).run Tryd.prog w = .ok (.func fn first cap) w := rfl
theorem egShort15 : ∀ args w, (callFunc 26 args).run Tryd.prog w = .ok (.enter 26 args) w := enters_of Tryd.func26 (by kernel_rfl) rfl
theorem egHead15 : ∀ args w, (callFunc 28 args).run Tryd.prog w = .ok (.enter 28 args) w := enters_of Tryd.func28 (by kernel_rfl) rfl
theorem sepd_first {G : List (List UInt8)} {x : List UInt8} (h : G[0]? = some x) : Lm.sepd (G.take 1) = x := by
  rw [Lm.take_succ (k := 0) h]
  simp [Lm.sepd]
theorem sepd_next {G : List (List UInt8)} {x : List UInt8} {k : Nat} (h : G[k]? = some x) (h0 : 0 < k) : Lm.sepd (G.take (k + 1)) = (Lm.sepd (G.take k) ++ [32]) ++ x := by
  rw [Lm.take_succ h, Lm.sepd_snoc, if_neg]
  · simp
  · intro e
    have := congrArg List.length e
    have hl := (List.getElem?_eq_some_iff.1 h).1
    rw [List.length_take, List.length_nil] at this
    omega
theorem sepd_len : ∀ (G : List (List UInt8)), (∀ x ∈ G, x.length ≤ 1048600) → (Lm.sepd G).length ≤ G.length * 1048601
  | [], _ => by simp [Lm.sepd]
  | x :: r, h => by
    have hx := h x (List.mem_cons_self ..)
    have key : ∀ r : List (List UInt8), (∀ x ∈ r, x.length ≤ 1048600) → (r.flatMap fun y => (32 : UInt8) :: y).length ≤ r.length * 1048601 := by
      intro r
      induction r with
      | nil => intro _; simp
      | cons y t ih =>
        intro h
        have := ih (fun z hz => h z (List.mem_cons_of_mem _ hz))
        have hy := h y (List.mem_cons_self ..)
        rw [List.flatMap_cons, List.length_append, List.length_cons, List.length_cons]
        omega
    have := key r (fun z hz => h z (List.mem_cons_of_mem _ hz))
    unfold Lm.sepd
    rw [List.length_append, List.length_cons]
    omega

set_option maxHeartbeats 4000000 in
set_option maxRecDepth 100000 in
theorem inShort_any (p : Nat) (G : List (List UInt8)) (n : Nat) (hn : n = G.length) (hG : ∀ x ∈ G, x.length ≤ 1048600) (hmax : n ≤ 9223372036854775807) (w0 w : World) (hb0 : Below w0.heap.size w0 w)
    (hclo : ∀ (i : Nat) (s : List UInt8) (w1 : World), G[i]? = some s → Below w0.heap.size w0 w1 → Calls Tryd.prog 26 #[.int .i64 (i : Int), .pointer (some ⟨p, 0, none⟩)] w1 (Ret (.string (str s)) w1)) :
    Calls Tryd.prog 25 #[.int .i64 (n : Int), .func (.func 26) #[] #[.pointer (some ⟨p, 0, none⟩)]] w (Ret (.string (str (Lm.join G))) w) := by
  have Hn := Lib.hid hn
  have HC := Lib.hid hclo
  have HB0 := Lib.hid hb0
  have HG := Lib.hid hG
  have eg := egShort15
  by_cases h3 : 3 < n
  · have hJ : Lm.join G = Lm.at_ G 0 ++ Lm.gap ++ Lm.at_ G (n - 1) := by unfold Lm.join; rw [if_pos (by omega), hn]
    rw [hJ]
    have g0 := Lm.get_of (l := G) (k := 0) (by omega)
    have g1 := Lm.get_of (l := G) (k := n - 1) (by omega)
    have l0 := hG _ (List.mem_of_getElem? g0)
    have l1 := hG _ (List.mem_of_getElem? g1)
    have HC0 := Lib.hid (fun w1 h => hclo 0 _ w1 g0 h)
    have HC1 := Lib.hid (fun w1 h => hclo (n - 1) _ w1 g1 h)
    have i3 : (3 : Int) < (n : Int) := by omega
    have e0 : ((0 : Nat) : Int) = 0 := rfl
    rw [e0] at HC0
    have e1 : ((n - 1 : Nat) : Int) = (n : Int) - 1 := by omega
    rw [e1] at HC1
    generalize Lm.at_ G 0 = x0 at *
    generalize Lm.at_ G (n - 1) = x1 at *
    have s1 := fun wx => sum_str15 x0 Lm.gap (x0 ++ Lm.gap) (by simp [Lm.gap]; omega) rfl wx
    have s2 := fun wx => sum_str15 (x0 ++ Lm.gap) x1 (x0 ++ Lm.gap ++ x1) (by simp [Lm.gap]; omega) rfl wx
    have e5 : str Lm.gap = ⟨#[32, 46, 46, 46, 32]⟩ := rfl
    rw [e5] at s1
    generalize x0 ++ Lm.gap ++ x1 = c2 at *
    generalize x0 ++ Lm.gap = c1 at *
    clear hn hclo hb0 hG h3 hJ g0 g1 l0 l1 e0 e1 e5
    go_enter Tryd.func25, Tryd.ntmps25
    go_wp2_with fail
    refine (HC0.out _ HB0.out).mono ?_
    rintro e w1 ⟨rfl, hb⟩
    have HB := Lib.hid hb
    have HB1 := Lib.hid (below_step HB0.out hb)
    clear hb HC0
    go_wp2_with fail
    refine (HC1.out _ HB1.out).mono ?_
    rintro e w2 ⟨rfl, hb⟩
    have HB2 := Lib.hid (below_step HB.out hb)
    clear hb
    go_wp2
    go_ret
    exact ⟨rfl, HB2.out⟩
  · have HJ : Hid (Lm.join G = Lm.sepd G) := Lib.hid (by unfold Lm.join; rw [if_neg (by omega)])
    rw [HJ.out]
    have i3 : ¬ (3 : Int) < (n : Int) := by omega
    have hn3 : n ≤ 3 := by omega
    have HBl := Lib.hid (bld_fresh w)
    have HB2 := Lib.hid (below_alloc w (.cells #[.pointer none, .slice none 0 0] 44))
    have HL := Lib.hid (fun k (hk : k ≤ n) => (by
      have h1 := sepd_len (G.take k) (fun x hx => hG x (List.mem_of_mem_take hx))
      have h2 : (G.take k).length ≤ 3 := by rw [List.length_take]; omega
      omega : (Lm.sepd (G.take k)).length ≤ 3145803))
    have e32 : str [32] = ⟨#[32]⟩ := rfl
    clear hn hclo hb0 hG h3
    go_enter Tryd.func25, Tryd.ntmps25
    go_wp2_with fail
    go_loopw [18] (fun iv wr => ∃ k : Nat, k ≤ n ∧ iv = .int .i64 k ∧ Hid (Bld w.heap.size w.heap.size (Lm.sepd (G.take k)) wr) ∧ Hid (Below w.heap.size w wr)) (fun iv _ => n - (intOf iv).toNat)
    case atStart => exact ⟨0, Nat.zero_le _, rfl, HBl, HB2⟩
    case round =>
      obtain ⟨k, hk, rfl, HD, HW⟩ := hrel
      clear HBl HB2
      by_cases hlt : k < n
      · obtain ⟨x, hx⟩ : ∃ x, G[k]? = some x := ⟨_, List.getElem?_eq_getElem (by rw [← Hn.out]; exact hlt)⟩
        have kl : (k : Int) < (n : Int) := by omega
        have hxl := HG.out x (List.mem_of_getElem? hx)
        have HCx := Lib.hid (fun w1 h => HC.out k x w1 hx h)
        have hSl := HL.out k hk
        by_cases h0 : k = 0
        · subst h0
          have HN := Lib.hid (sepd_first hx)
          have z0 : Lm.sepd (G.take 0) = [] := rfl
          rw [z0] at HD
          clear hx z0 hSl
          go_wp2_with fail
          refine (HCx.out _ (below_step HB0.out HW.out)).mono ?_
          rintro e w1 ⟨rfl, hb⟩
          have HD1 := Lib.hid (bld_kept HD.out hb)
          have HW1 := Lib.hid (below_step HW.out hb)
          clear hb HD HW HCx
          have HWr := Lib.hid (text_bld_k w.heap.size w.heap.size [] (str x) _ HD1.out (by rw [str_size13]; simp; omega) HW1.out.size)
          go_wp2_with fail
          refine HWr.out.mono ?_
          rintro e w4 ⟨rfl, hd4, hb4, hk4⟩
          rw [str_data, List.nil_append] at hd4
          have HD4 := Lib.hid hd4
          have HW4 := Lib.hid (HW1.out.trans hb4)
          clear hd4 hb4 hk4 HWr HD1 HW1
          go_wp2
          go_roundw
          case rel => exact ⟨1, by omega, by go_num, by rw [HN.out]; exact HD4, HW4⟩
          case measure => simp [intOf]; omega
        · have HN := Lib.hid (sepd_next hx (by omega))
          have k0 : (0 : Int) < (k : Int) := by omega
          generalize Lm.sepd (G.take k) = S at HN hSl HD
          have HWr := Lib.hid (text_bld_k w.heap.size w.heap.size S ⟨#[32]⟩ _ HD.out (by rw [← e32, str_size13]; simp; omega) HW.out.size)
          clear hx h0
          go_wp2_with fail
          refine HWr.out.mono ?_
          rintro e w4 ⟨rfl, hd4, hb4, hk4⟩
          have HD4 : Hid (Bld w.heap.size w.heap.size (S ++ [32]) w4) := Lib.hid hd4
          have HW4 := Lib.hid (HW.out.trans hb4)
          clear hd4 hb4 hk4 HWr HD HW
          go_wp2_with fail
          refine (HCx.out _ (below_step HB0.out HW4.out)).mono ?_
          rintro e w1 ⟨rfl, hb⟩
          have HD1 := Lib.hid (bld_kept HD4.out hb)
          have HW1 := Lib.hid (below_step HW4.out hb)
          clear hb HD4 HW4 HCx
          have HWr := Lib.hid (text_bld_k w.heap.size w.heap.size (S ++ [32]) (str x) _ HD1.out (by rw [str_size13]; simp; omega) HW1.out.size)
          go_wp2_with fail
          refine HWr.out.mono ?_
          rintro e w5 ⟨rfl, hd4, hb4, hk4⟩
          rw [str_data] at hd4
          have HD5 := Lib.hid hd4
          have HW5 := Lib.hid (HW1.out.trans hb4)
          clear hd4 hb4 hk4 HWr HD1 HW1
          go_wp2
          go_roundw
          case rel => exact ⟨k + 1, by omega, by go_num, by rw [HN.out]; exact HD5, HW5⟩
          case measure => simp [intOf]; omega
      · have HF : Hid (G.take k = G) := Lib.hid (List.take_of_length_le (by rw [← Hn.out]; omega))
        rw [HF.out] at HD
        go_wp2_with fail
        refine (string_bld w.heap.size w.heap.size _ _ HD.out HW.out.size).mono ?_
        rintro e w3 ⟨rfl, hb3⟩
        have HB3 := Lib.hid (HW.out.trans hb3)
        clear hb3
        go_wp2
        go_ret
        exact ⟨rfl, HB3.out⟩

set_option maxHeartbeats 4000000 in
set_option maxRecDepth 100000 in
theorem inHead_any (p p2 : Nat) (G : List (List UInt8)) (n : Nat) (hn : n = G.length) (hG : ∀ x ∈ G, x.length ≤ 1048600) (hmax : n ≤ 9223372036854775807) (w0 w : World) (hb0 : Below w0.heap.size w0 w)
    (hclo : ∀ (i : Nat) (s : List UInt8) (w1 : World), G[i]? = some s → Below w0.heap.size w0 w1 → Calls Tryd.prog 28 #[.int .i64 (i : Int), .pointer (some ⟨p, 0, none⟩), .pointer (some ⟨p2, 0, none⟩)] w1 (Ret (.string (str s)) w1)) :
    Calls Tryd.prog 25 #[.int .i64 (n : Int), .func (.func 28) #[] #[.pointer (some ⟨p, 0, none⟩), .pointer (some ⟨p2, 0, none⟩)]] w (Ret (.string (str (Lm.join G))) w) := by
  have Hn := Lib.hid hn
  have HC := Lib.hid hclo
  have HB0 := Lib.hid hb0
  have HG := Lib.hid hG
  have eg := egHead15
  by_cases h3 : 3 < n
  · have hJ : Lm.join G = Lm.at_ G 0 ++ Lm.gap ++ Lm.at_ G (n - 1) := by unfold Lm.join; rw [if_pos (by omega), hn]
    rw [hJ]
    have g0 := Lm.get_of (l := G) (k := 0) (by omega)
    have g1 := Lm.get_of (l := G) (k := n - 1) (by omega)
    have l0 := hG _ (List.mem_of_getElem? g0)
    have l1 := hG _ (List.mem_of_getElem? g1)
    have HC0 := Lib.hid (fun w1 h => hclo 0 _ w1 g0 h)
    have HC1 := Lib.hid (fun w1 h => hclo (n - 1) _ w1 g1 h)
    have i3 : (3 : Int) < (n : Int) := by omega
    have e0 : ((0 : Nat) : Int) = 0 := rfl
    rw [e0] at HC0
    have e1 : ((n - 1 : Nat) : Int) = (n : Int) - 1 := by omega
    rw [e1] at HC1
    generalize Lm.at_ G 0 = x0 at *
    generalize Lm.at_ G (n - 1) = x1 at *
    have s1 := fun wx => sum_str15 x0 Lm.gap (x0 ++ Lm.gap) (by simp [Lm.gap]; omega) rfl wx
    have s2 := fun wx => sum_str15 (x0 ++ Lm.gap) x1 (x0 ++ Lm.gap ++ x1) (by simp [Lm.gap]; omega) rfl wx
    have e5 : str Lm.gap = ⟨#[32, 46, 46, 46, 32]⟩ := rfl
    rw [e5] at s1
    generalize x0 ++ Lm.gap ++ x1 = c2 at *
    generalize x0 ++ Lm.gap = c1 at *
    clear hn hclo hb0 hG h3 hJ g0 g1 l0 l1 e0 e1 e5
    go_enter Tryd.func25, Tryd.ntmps25
    go_wp2_with fail
    refine (HC0.out _ HB0.out).mono ?_
    rintro e w1 ⟨rfl, hb⟩
    have HB := Lib.hid hb
    have HB1 := Lib.hid (below_step HB0.out hb)
    clear hb HC0
    go_wp2_with fail
    refine (HC1.out _ HB1.out).mono ?_
    rintro e w2 ⟨rfl, hb⟩
    have HB2 := Lib.hid (below_step HB.out hb)
    clear hb
    go_wp2
    go_ret
    exact ⟨rfl, HB2.out⟩
  · have HJ : Hid (Lm.join G = Lm.sepd G) := Lib.hid (by unfold Lm.join; rw [if_neg (by omega)])
    rw [HJ.out]
    have i3 : ¬ (3 : Int) < (n : Int) := by omega
    have hn3 : n ≤ 3 := by omega
    have HBl := Lib.hid (bld_fresh w)
    have HB2 := Lib.hid (below_alloc w (.cells #[.pointer none, .slice none 0 0] 44))
    have HL := Lib.hid (fun k (hk : k ≤ n) => (by
      have h1 := sepd_len (G.take k) (fun x hx => hG x (List.mem_of_mem_take hx))
      have h2 : (G.take k).length ≤ 3 := by rw [List.length_take]; omega
      omega : (Lm.sepd (G.take k)).length ≤ 3145803))
    have e32 : str [32] = ⟨#[32]⟩ := rfl
    clear hn hclo hb0 hG h3
    go_enter Tryd.func25, Tryd.ntmps25
    go_wp2_with fail
    go_loopw [18] (fun iv wr => ∃ k : Nat, k ≤ n ∧ iv = .int .i64 k ∧ Hid (Bld w.heap.size w.heap.size (Lm.sepd (G.take k)) wr) ∧ Hid (Below w.heap.size w wr)) (fun iv _ => n - (intOf iv).toNat)
    case atStart => exact ⟨0, Nat.zero_le _, rfl, HBl, HB2⟩
    case round =>
      obtain ⟨k, hk, rfl, HD, HW⟩ := hrel
      clear HBl HB2
      by_cases hlt : k < n
      · obtain ⟨x, hx⟩ : ∃ x, G[k]? = some x := ⟨_, List.getElem?_eq_getElem (by rw [← Hn.out]; exact hlt)⟩
        have kl : (k : Int) < (n : Int) := by omega
        have hxl := HG.out x (List.mem_of_getElem? hx)
        have HCx := Lib.hid (fun w1 h => HC.out k x w1 hx h)
        have hSl := HL.out k hk
        by_cases h0 : k = 0
        · subst h0
          have HN := Lib.hid (sepd_first hx)
          have z0 : Lm.sepd (G.take 0) = [] := rfl
          rw [z0] at HD
          clear hx z0 hSl
          go_wp2_with fail
          refine (HCx.out _ (below_step HB0.out HW.out)).mono ?_
          rintro e w1 ⟨rfl, hb⟩
          have HD1 := Lib.hid (bld_kept HD.out hb)
          have HW1 := Lib.hid (below_step HW.out hb)
          clear hb HD HW HCx
          have HWr := Lib.hid (text_bld_k w.heap.size w.heap.size [] (str x) _ HD1.out (by rw [str_size13]; simp; omega) HW1.out.size)
          go_wp2_with fail
          refine HWr.out.mono ?_
          rintro e w4 ⟨rfl, hd4, hb4, hk4⟩
          rw [str_data, List.nil_append] at hd4
          have HD4 := Lib.hid hd4
          have HW4 := Lib.hid (HW1.out.trans hb4)
          clear hd4 hb4 hk4 HWr HD1 HW1
          go_wp2
          go_roundw
          case rel => exact ⟨1, by omega, by go_num, by rw [HN.out]; exact HD4, HW4⟩
          case measure => simp [intOf]; omega
        · have HN := Lib.hid (sepd_next hx (by omega))
          have k0 : (0 : Int) < (k : Int) := by omega
          generalize Lm.sepd (G.take k) = S at HN hSl HD
          have HWr := Lib.hid (text_bld_k w.heap.size w.heap.size S ⟨#[32]⟩ _ HD.out (by rw [← e32, str_size13]; simp; omega) HW.out.size)
          clear hx h0
          go_wp2_with fail
          refine HWr.out.mono ?_
          rintro e w4 ⟨rfl, hd4, hb4, hk4⟩
          have HD4 : Hid (Bld w.heap.size w.heap.size (S ++ [32]) w4) := Lib.hid hd4
          have HW4 := Lib.hid (HW.out.trans hb4)
          clear hd4 hb4 hk4 HWr HD HW
          go_wp2_with fail
          refine (HCx.out _ (below_step HB0.out HW4.out)).mono ?_
          rintro e w1 ⟨rfl, hb⟩
          have HD1 := Lib.hid (bld_kept HD4.out hb)
          have HW1 := Lib.hid (below_step HW4.out hb)
          clear hb HD4 HW4 HCx
          have HWr := Lib.hid (text_bld_k w.heap.size w.heap.size (S ++ [32]) (str x) _ HD1.out (by rw [str_size13]; simp; omega) HW1.out.size)
          go_wp2_with fail
          refine HWr.out.mono ?_
          rintro e w5 ⟨rfl, hd4, hb4, hk4⟩
          rw [str_data] at hd4
          have HD5 := Lib.hid hd4
          have HW5 := Lib.hid (HW1.out.trans hb4)
          clear hd4 hb4 hk4 HWr HD1 HW1
          go_wp2
          go_roundw
          case rel => exact ⟨k + 1, by omega, by go_num, by rw [HN.out]; exact HD5, HW5⟩
          case measure => simp [intOf]; omega
      · have HF : Hid (G.take k = G) := Lib.hid (List.take_of_length_le (by rw [← Hn.out]; omega))
        rw [HF.out] at HD
        go_wp2_with fail
        refine (string_bld w.heap.size w.heap.size _ _ HD.out HW.out.size).mono ?_
        rintro e w3 ⟨rfl, hb3⟩
        have HB3 := Lib.hid (HW.out.trans hb3)
        clear hb3
        go_wp2
        go_ret
        exact ⟨rfl, HB3.out⟩
end Go.Proofs.YtjjkilopeofjjaaDoor
