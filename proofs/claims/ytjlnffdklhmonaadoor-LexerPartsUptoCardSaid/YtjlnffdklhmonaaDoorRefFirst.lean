/-
  The reference's First: the letter that a text begins with.
-/
import Derived.Test.YtjlnffdklhmonaaDoorRefBytes
set_option linter.unusedVariables false
set_option linter.unusedSimpArgs false
namespace Go.Proofs.YtjlnffdklhmonaaDoor
open Go.RowKit Go.Sort

def firstV : Option (Nat × Nat) → Value
  | none => .tuple #[.int .i32 0, .int .i64 0]
  | some (c, n) => .tuple #[.int .i32 (c : Int), .int .i64 (n : Int)]
theorem first_none {l : List UInt8} (h : ∀ m, 1 ≤ m → m ≤ 4 → Ut.hit l m = false) : Ut.first l = none := by
  unfold Ut.first
  rw [h 1 (by omega) (by omega), h 2 (by omega) (by omega), h 3 (by omega) (by omega), h 4 (by omega) (by omega)]
  rfl
theorem first_at {l : List UInt8} {n : Nat} (h1 : 1 ≤ n) (h4 : n ≤ 4) (h : ∀ m, 1 ≤ m → m < n → Ut.hit l m = false) (hn : Ut.hit l n = true) : Ut.first l = some (Ut.val l n, n) := by
  have c : n = 1 ∨ n = 2 ∨ n = 3 ∨ n = 4 := by omega
  unfold Ut.first
  rcases c with rfl | rfl | rfl | rfl
  · rw [hn]; rfl
  · rw [h 1 (by omega) (by omega), hn]; rfl
  · rw [h 1 (by omega) (by omega), h 2 (by omega) (by omega), hn]; rfl
  · rw [h 1 (by omega) (by omega), h 2 (by omega) (by omega), h 3 (by omega) (by omega), hn]; rfl
theorem hit_long {l : List UInt8} {n : Nat} (h : l.length < n) : Ut.hit l n = false := by
  unfold Ut.hit
  rw [decide_eq_false (by omega)]; rfl
theorem hit_of {l : List UInt8} {n : Nat} {b : Bool} (h : n ≤ l.length) (hb : (Ut.letterN (Ut.val l n) && Ut.enc (Ut.val l n) == l.take n) = b) : Ut.hit l n = b := by
  unfold Ut.hit
  rw [decide_eq_true h, Bool.true_and]; exact hb
theorem no_next {l : List UInt8} {n : Nat} (h : ∀ m, 1 ≤ m → m < n → Ut.hit l m = false) (hn : Ut.hit l n = false) : ∀ m, 1 ≤ m → m < n + 1 → Ut.hit l m = false := by
  intro m h1 h2
  rcases Nat.lt_or_ge m n with h3 | h3
  · exact h m h1 h3
  · rw [show m = n by omega]; exact hn
theorem w32 {x : Int} (h0 : 0 ≤ x) (h1 : x ≤ 2147483647) : IntKind.i32.wrap x = x := by
  unfold IntKind.wrap
  simp [IntKind.signed, IntKind.bits]
  omega
theorem val_small (s : ByteArray) (n : Nat) : Ut.val s.data.toList n ≤ 2097151 := by
  have h : ∀ i, Ut.at8 s.data.toList i ≤ 255 := fun i => by
    unfold Ut.at8
    have := (s.data.toList.getD i 0).toNat_lt
    omega
  have h0 := h 0
  have h1 := h 1
  have h2 := h 2
  have h3 := h 3
  unfold Ut.val
  split <;> omega
theorem byte_small (s : ByteArray) (k : Nat) (h : k < s.size) : (0 : Int) ≤ (s[k].toNat : Int) ∧ (s[k].toNat : Int) ≤ 255 := by
  have := s[k].toNat_lt
  omega
theorem ret_first {a b : Int} {c n : Nat} {o : Option (Nat × Nat)} (h : o = some (c, n)) (ha : a = (c : Int)) (hb : b = (n : Int)) : Ending.returned (.tuple #[.int .i32 a, .int .i64 b]) = .returned (firstV o) := by
  rw [h, ha, hb]; rfl
theorem val_1 (s : ByteArray) (h0 : 0 < s.size) : ((Ut.val s.data.toList 1 : Nat) : Int) = (s[0].toNat : Int) := by
  have e : Ut.val s.data.toList 1 = Ut.at8 s.data.toList 0 := rfl
  rw [e, at8_at s 0 h0]
theorem val_2 (s : ByteArray) (h0 : 0 < s.size) (h1 : 1 < s.size) : ((Ut.val s.data.toList 2 : Nat) : Int) = (64 : Int) * ((s[0].toNat : Int) % (32 : Int)) + (s[1].toNat : Int) % (64 : Int) := by
  have e : Ut.val s.data.toList 2 = 64 * (Ut.at8 s.data.toList 0 % 32) + Ut.at8 s.data.toList 1 % 64 := rfl
  rw [e, at8_at s 0 h0, at8_at s 1 h1]
  push_cast
  rfl
theorem val_3 (s : ByteArray) (h0 : 0 < s.size) (h1 : 1 < s.size) (h2 : 2 < s.size) : ((Ut.val s.data.toList 3 : Nat) : Int) = (64 : Int) * ((64 : Int) * ((s[0].toNat : Int) % (16 : Int)) + (s[1].toNat : Int) % (64 : Int)) + (s[2].toNat : Int) % (64 : Int) := by
  have e : Ut.val s.data.toList 3 = 64 * (64 * (Ut.at8 s.data.toList 0 % 16) + Ut.at8 s.data.toList 1 % 64) + Ut.at8 s.data.toList 2 % 64 := rfl
  rw [e, at8_at s 0 h0, at8_at s 1 h1, at8_at s 2 h2]
  push_cast
  rfl
theorem val_4 (s : ByteArray) (h0 : 0 < s.size) (h1 : 1 < s.size) (h2 : 2 < s.size) (h3 : 3 < s.size) : ((Ut.val s.data.toList 4 : Nat) : Int) = (64 : Int) * ((64 : Int) * ((64 : Int) * ((s[0].toNat : Int) % (8 : Int)) + (s[1].toNat : Int) % (64 : Int)) + (s[2].toNat : Int) % (64 : Int)) + (s[3].toNat : Int) % (64 : Int) := by
  have e : Ut.val s.data.toList 4 = 64 * (64 * (64 * (Ut.at8 s.data.toList 0 % 8) + Ut.at8 s.data.toList 1 % 64) + Ut.at8 s.data.toList 2 % 64) + Ut.at8 s.data.toList 3 % 64 := rfl
  rw [e, at8_at s 0 h0, at8_at s 1 h1, at8_at s 2 h2, at8_at s 3 h3]
  push_cast
  rfl
set_option maxHeartbeats 12000000 in
set_option maxRecDepth 100000 in
theorem refFirst_any (s : ByteArray) (hs : s.size ≤ 9223372036854775807) (w : World) : Calls Tryd.prog 55 #[.string s] w (Ret (firstV (Ut.first s.data.toList)) w) := by
  have mixed : Tryd.prog.follows .mixedOrders = true := by kernel_rfl
  go_enter Tryd.func55, Tryd.ntmps55
  go_wp2_with fail
  go_loopw [4] (fun iv wr => ∃ n : Nat, 1 ≤ n ∧ n ≤ 5 ∧ iv = .int .i64 n ∧ Hid (∀ m, 1 ≤ m → m < n → Ut.hit s.data.toList m = false) ∧ Hid (Below w.heap.size w wr)) (fun iv _ => (5 - intOf iv).toNat)
  case atStart => exact ⟨1, by omega, by omega, rfl, Lib.hid (fun m h1 h2 => by omega), Lib.hid (Below.refl _ _)⟩
  case round =>
    obtain ⟨n, hn1, hn5, rfl, HN, HB⟩ := hrel
    by_cases hn : n ≤ 4 ∧ n ≤ s.size
    · obtain ⟨hn4, hnl⟩ := hn
      have c : n = 1 ∨ n = 2 ∨ n = 3 ∨ n = 4 := by omega
      rcases c with rfl | rfl | rfl | rfl
      · clear hn1 hn5 hn4
        have g0 : 0 < s.size := by omega
        have hv := val_1 s g0
        have hlen : s.data.toList.length = s.size := (Lib.size_eq s).symm
        obtain ⟨v, hvd⟩ : ∃ v, v = Ut.val s.data.toList 1 := ⟨_, rfl⟩
        rw [← hvd] at hv
        have cL : ∀ d os, Calls Tryd.prog 60 #[.int .i32 ((s[0].toNat : Int))] (grow (redrawn wr d) os) fun e w'' => e = .returned (.bool (Ut.letterN v)) ∧ ∃ p : Regrown, w'' = grow (redrawn wr p.d) p.os :=
          fun d os => Calls.regrown_of (by rw [← hv, ← Ut.letter_nat]; exact (refLetter_any _ _).mono fun _ _ h => h.ret)
        have hsl : ∀ wx, (Instr.slice 9 (.string s) none (some (.int .i64 1)) none).run Tryd.prog wx = .ok (.string (s.extract 0 1)) wx := fun wx => run_slice_string_h wx 9 s Tryd.underlying9 .i64 1 (by omega) (by omega)
        have hT : (s.extract 0 1).toList = s.data.toList.take 1 := by rw [Lib.toList_data]; simp
        have hw32 : IntKind.i32.wrap ((s[0].toNat : Int)) = (s[0].toNat : Int) := w32 (by rw [← hv]; omega) (by have := val_small s 1; rw [← hv, hvd]; omega)
        have HV := Lib.hid hv
        have HVD := Lib.hid hvd
        have HT := Lib.hid hT
        have HLen := Lib.hid hlen
        cases hL : Ut.letterN v with
        | false =>
          have hno := Lib.hid (no_next HN.out (hit_of (b := false) (by rw [HLen.out]; exact hnl) (by rw [← HVD.out, hL]; rfl)))
          rw [hL] at cL
          clear hL hv hvd hT hlen
          obtain ⟨y0, z0⟩ := byte_small s 0 g0
          go_wp2_with fail
          refine wp_loop_rounds 1 ?_
          rw [rounds_succ]
          go_wp2_with fail
          refine wp_region_quiet_below (by assumption) (by kernel_rfl) ?_
          repeat (first | go_big_quiet_step (with_reducible exact cL _ _) | quiet_step (with_reducible exact cL _ _))
          refine wpQuiet_nil ?_
          intro _ hw'
          obtain ⟨⟨dq, osq⟩, hw''⟩ := hw'
          subst hw''
          go_wp2_with fail
          go_roundw
          case rel => exact ⟨2, by omega, by omega, rfl, hno, Lib.hid (below_step HB.out (below_regrown _ _ _))⟩
          case measure => simp [intOf]
        | true =>
          have hle := Ut.letterN_le hL
          have hvt : ((s[0].toNat : Int)).toNat = v := by rw [← hv]; omega
          have cB : ∀ d os, Calls Tryd.prog 61 #[.int .i32 ((s[0].toNat : Int))] (grow (redrawn wr d) os) fun e w'' => e = .returned (.string ⟨(Ut.enc v).toArray⟩) ∧ ∃ p : Regrown, w'' = grow (redrawn wr p.d) p.os :=
            fun d os => Calls.regrown_of (by
              have h := bytes_any ((s[0].toNat : Int)) (by rw [← hv]; omega) (by rw [← hv]; omega) (grow (redrawn wr d) os)
              rw [hvt] at h
              exact h.mono fun _ _ h => h)
          cases hq : (Ut.enc v == s.data.toList.take 1) with
          | false =>
            have HH := Lib.hid (hit_of (l := s.data.toList) (n := 1) (b := false) (by rw [HLen.out]; exact hnl) (by rw [← HVD.out, hL, Bool.true_and]; exact hq))
            have hq2 : (Ut.enc v == (s.extract 0 1).toList) = false := by rw [HT.out]; exact hq
            rw [hL] at cL
            clear hL hv hvd hT hlen hle hvt hq
            obtain ⟨y0, z0⟩ := byte_small s 0 g0
            go_wp2_with fail
            refine wp_loop_rounds 1 ?_
            rw [rounds_succ]
            go_wp2_with fail
            refine wp_region_quiet_below (by assumption) (by kernel_rfl) ?_
            repeat (first | go_big_quiet_step (first | with_reducible exact cL _ _ | with_reducible exact cB _ _) | quiet_step (first | with_reducible exact cL _ _ | with_reducible exact cB _ _))
            refine wpQuiet_nil ?_
            intro _ hw'
            obtain ⟨⟨dq, osq⟩, hw''⟩ := hw'
            subst hw''
            go_wp2_with fail
            go_roundw
            case rel => exact ⟨2, by omega, by omega, rfl, Lib.hid (no_next HN.out HH.out), Lib.hid (below_step HB.out (below_regrown _ _ _))⟩
            case measure => simp [intOf]
          | true =>
            have HH := Lib.hid (hit_of (l := s.data.toList) (n := 1) (b := true) (by rw [HLen.out]; exact hnl) (by rw [← HVD.out, hL, Bool.true_and]; exact hq))
            have hq2 : (Ut.enc v == (s.extract 0 1).toList) = true := by rw [HT.out]; exact hq
            rw [hL] at cL
            clear hL hv hvd hT hlen hle hvt hq
            obtain ⟨y0, z0⟩ := byte_small s 0 g0
            go_wp2_with fail
            refine wp_loop_rounds 1 ?_
            rw [rounds_succ]
            go_wp2_with fail
            refine wp_region_quiet_below (by assumption) (by kernel_rfl) ?_
            repeat (first | go_big_quiet_step (first | with_reducible exact cL _ _ | with_reducible exact cB _ _) | quiet_step (first | with_reducible exact cL _ _ | with_reducible exact cB _ _))
            refine wpQuiet_nil ?_
            intro _ hw'
            obtain ⟨⟨dq, osq⟩, hw''⟩ := hw'
            subst hw''
            go_wp2_with fail
            go_ret2
            exact ⟨ret_first (first_at (by omega) (by omega) HN.out HH.out) (by rw [← HVD.out, HV.out]) rfl, below_step HB.out (below_regrown _ _ _)⟩
      · clear hn1 hn5 hn4
        have g0 : 0 < s.size := by omega
        have g1 : 1 < s.size := by omega
        have hv := val_2 s g0 g1
        have hlen : s.data.toList.length = s.size := (Lib.size_eq s).symm
        obtain ⟨v, hvd⟩ : ∃ v, v = Ut.val s.data.toList 2 := ⟨_, rfl⟩
        rw [← hvd] at hv
        have cL : ∀ d os, Calls Tryd.prog 60 #[.int .i32 ((64 : Int) * ((s[0].toNat : Int) % (32 : Int)) + (s[1].toNat : Int) % (64 : Int))] (grow (redrawn wr d) os) fun e w'' => e = .returned (.bool (Ut.letterN v)) ∧ ∃ p : Regrown, w'' = grow (redrawn wr p.d) p.os :=
          fun d os => Calls.regrown_of (by rw [← hv, ← Ut.letter_nat]; exact (refLetter_any _ _).mono fun _ _ h => h.ret)
        have hsl : ∀ wx, (Instr.slice 9 (.string s) none (some (.int .i64 2)) none).run Tryd.prog wx = .ok (.string (s.extract 0 2)) wx := fun wx => run_slice_string_h wx 9 s Tryd.underlying9 .i64 2 (by omega) (by omega)
        have hT : (s.extract 0 2).toList = s.data.toList.take 2 := by rw [Lib.toList_data]; simp
        have hw32 : IntKind.i32.wrap ((64 : Int) * ((s[0].toNat : Int) % (32 : Int)) + (s[1].toNat : Int) % (64 : Int)) = (64 : Int) * ((s[0].toNat : Int) % (32 : Int)) + (s[1].toNat : Int) % (64 : Int) := w32 (by rw [← hv]; omega) (by have := val_small s 2; rw [← hv, hvd]; omega)
        have HV := Lib.hid hv
        have HVD := Lib.hid hvd
        have HT := Lib.hid hT
        have HLen := Lib.hid hlen
        cases hL : Ut.letterN v with
        | false =>
          have hno := Lib.hid (no_next HN.out (hit_of (b := false) (by rw [HLen.out]; exact hnl) (by rw [← HVD.out, hL]; rfl)))
          rw [hL] at cL
          clear hL hv hvd hT hlen
          obtain ⟨y0, z0⟩ := byte_small s 0 g0
          obtain ⟨y1, z1⟩ := byte_small s 1 g1
          go_wp2_with fail
          refine wp_loop_rounds 2 ?_
          rw [rounds_succ]
          go_wp2_with fail
          rw [rounds_succ]
          go_wp2_with fail
          refine wp_region_quiet_below (by assumption) (by kernel_rfl) ?_
          repeat (first | go_big_quiet_step (with_reducible exact cL _ _) | quiet_step (with_reducible exact cL _ _))
          refine wpQuiet_nil ?_
          intro _ hw'
          obtain ⟨⟨dq, osq⟩, hw''⟩ := hw'
          subst hw''
          go_wp2_with fail
          go_roundw
          case rel => exact ⟨3, by omega, by omega, rfl, hno, Lib.hid (below_step HB.out (below_regrown _ _ _))⟩
          case measure => simp [intOf]
        | true =>
          have hle := Ut.letterN_le hL
          have hvt : ((64 : Int) * ((s[0].toNat : Int) % (32 : Int)) + (s[1].toNat : Int) % (64 : Int)).toNat = v := by rw [← hv]; omega
          have cB : ∀ d os, Calls Tryd.prog 61 #[.int .i32 ((64 : Int) * ((s[0].toNat : Int) % (32 : Int)) + (s[1].toNat : Int) % (64 : Int))] (grow (redrawn wr d) os) fun e w'' => e = .returned (.string ⟨(Ut.enc v).toArray⟩) ∧ ∃ p : Regrown, w'' = grow (redrawn wr p.d) p.os :=
            fun d os => Calls.regrown_of (by
              have h := bytes_any ((64 : Int) * ((s[0].toNat : Int) % (32 : Int)) + (s[1].toNat : Int) % (64 : Int)) (by rw [← hv]; omega) (by rw [← hv]; omega) (grow (redrawn wr d) os)
              rw [hvt] at h
              exact h.mono fun _ _ h => h)
          cases hq : (Ut.enc v == s.data.toList.take 2) with
          | false =>
            have HH := Lib.hid (hit_of (l := s.data.toList) (n := 2) (b := false) (by rw [HLen.out]; exact hnl) (by rw [← HVD.out, hL, Bool.true_and]; exact hq))
            have hq2 : (Ut.enc v == (s.extract 0 2).toList) = false := by rw [HT.out]; exact hq
            rw [hL] at cL
            clear hL hv hvd hT hlen hle hvt hq
            obtain ⟨y0, z0⟩ := byte_small s 0 g0
            obtain ⟨y1, z1⟩ := byte_small s 1 g1
            go_wp2_with fail
            refine wp_loop_rounds 2 ?_
            rw [rounds_succ]
            go_wp2_with fail
            rw [rounds_succ]
            go_wp2_with fail
            refine wp_region_quiet_below (by assumption) (by kernel_rfl) ?_
            repeat (first | go_big_quiet_step (first | with_reducible exact cL _ _ | with_reducible exact cB _ _) | quiet_step (first | with_reducible exact cL _ _ | with_reducible exact cB _ _))
            refine wpQuiet_nil ?_
            intro _ hw'
            obtain ⟨⟨dq, osq⟩, hw''⟩ := hw'
            subst hw''
            go_wp2_with fail
            go_roundw
            case rel => exact ⟨3, by omega, by omega, rfl, Lib.hid (no_next HN.out HH.out), Lib.hid (below_step HB.out (below_regrown _ _ _))⟩
            case measure => simp [intOf]
          | true =>
            have HH := Lib.hid (hit_of (l := s.data.toList) (n := 2) (b := true) (by rw [HLen.out]; exact hnl) (by rw [← HVD.out, hL, Bool.true_and]; exact hq))
            have hq2 : (Ut.enc v == (s.extract 0 2).toList) = true := by rw [HT.out]; exact hq
            rw [hL] at cL
            clear hL hv hvd hT hlen hle hvt hq
            obtain ⟨y0, z0⟩ := byte_small s 0 g0
            obtain ⟨y1, z1⟩ := byte_small s 1 g1
            go_wp2_with fail
            refine wp_loop_rounds 2 ?_
            rw [rounds_succ]
            go_wp2_with fail
            rw [rounds_succ]
            go_wp2_with fail
            refine wp_region_quiet_below (by assumption) (by kernel_rfl) ?_
            repeat (first | go_big_quiet_step (first | with_reducible exact cL _ _ | with_reducible exact cB _ _) | quiet_step (first | with_reducible exact cL _ _ | with_reducible exact cB _ _))
            refine wpQuiet_nil ?_
            intro _ hw'
            obtain ⟨⟨dq, osq⟩, hw''⟩ := hw'
            subst hw''
            go_wp2_with fail
            go_ret2
            exact ⟨ret_first (first_at (by omega) (by omega) HN.out HH.out) (by rw [← HVD.out, HV.out]) rfl, below_step HB.out (below_regrown _ _ _)⟩
      · clear hn1 hn5 hn4
        have g0 : 0 < s.size := by omega
        have g1 : 1 < s.size := by omega
        have g2 : 2 < s.size := by omega
        have hv := val_3 s g0 g1 g2
        have hlen : s.data.toList.length = s.size := (Lib.size_eq s).symm
        obtain ⟨v, hvd⟩ : ∃ v, v = Ut.val s.data.toList 3 := ⟨_, rfl⟩
        rw [← hvd] at hv
        have cL : ∀ d os, Calls Tryd.prog 60 #[.int .i32 ((64 : Int) * ((64 : Int) * ((s[0].toNat : Int) % (16 : Int)) + (s[1].toNat : Int) % (64 : Int)) + (s[2].toNat : Int) % (64 : Int))] (grow (redrawn wr d) os) fun e w'' => e = .returned (.bool (Ut.letterN v)) ∧ ∃ p : Regrown, w'' = grow (redrawn wr p.d) p.os :=
          fun d os => Calls.regrown_of (by rw [← hv, ← Ut.letter_nat]; exact (refLetter_any _ _).mono fun _ _ h => h.ret)
        have hsl : ∀ wx, (Instr.slice 9 (.string s) none (some (.int .i64 3)) none).run Tryd.prog wx = .ok (.string (s.extract 0 3)) wx := fun wx => run_slice_string_h wx 9 s Tryd.underlying9 .i64 3 (by omega) (by omega)
        have hT : (s.extract 0 3).toList = s.data.toList.take 3 := by rw [Lib.toList_data]; simp
        have hw32 : IntKind.i32.wrap ((64 : Int) * ((64 : Int) * ((s[0].toNat : Int) % (16 : Int)) + (s[1].toNat : Int) % (64 : Int)) + (s[2].toNat : Int) % (64 : Int)) = (64 : Int) * ((64 : Int) * ((s[0].toNat : Int) % (16 : Int)) + (s[1].toNat : Int) % (64 : Int)) + (s[2].toNat : Int) % (64 : Int) := w32 (by rw [← hv]; omega) (by have := val_small s 3; rw [← hv, hvd]; omega)
        have HV := Lib.hid hv
        have HVD := Lib.hid hvd
        have HT := Lib.hid hT
        have HLen := Lib.hid hlen
        cases hL : Ut.letterN v with
        | false =>
          have hno := Lib.hid (no_next HN.out (hit_of (b := false) (by rw [HLen.out]; exact hnl) (by rw [← HVD.out, hL]; rfl)))
          rw [hL] at cL
          clear hL hv hvd hT hlen
          obtain ⟨y0, z0⟩ := byte_small s 0 g0
          obtain ⟨y1, z1⟩ := byte_small s 1 g1
          obtain ⟨y2, z2⟩ := byte_small s 2 g2
          go_wp2_with fail
          refine wp_loop_rounds 3 ?_
          rw [rounds_succ]
          go_wp2_with fail
          rw [rounds_succ]
          go_wp2_with fail
          rw [rounds_succ]
          go_wp2_with fail
          refine wp_region_quiet_below (by assumption) (by kernel_rfl) ?_
          repeat (first | go_big_quiet_step (with_reducible exact cL _ _) | quiet_step (with_reducible exact cL _ _))
          refine wpQuiet_nil ?_
          intro _ hw'
          obtain ⟨⟨dq, osq⟩, hw''⟩ := hw'
          subst hw''
          go_wp2_with fail
          go_roundw
          case rel => exact ⟨4, by omega, by omega, rfl, hno, Lib.hid (below_step HB.out (below_regrown _ _ _))⟩
          case measure => simp [intOf]
        | true =>
          have hle := Ut.letterN_le hL
          have hvt : ((64 : Int) * ((64 : Int) * ((s[0].toNat : Int) % (16 : Int)) + (s[1].toNat : Int) % (64 : Int)) + (s[2].toNat : Int) % (64 : Int)).toNat = v := by rw [← hv]; omega
          have cB : ∀ d os, Calls Tryd.prog 61 #[.int .i32 ((64 : Int) * ((64 : Int) * ((s[0].toNat : Int) % (16 : Int)) + (s[1].toNat : Int) % (64 : Int)) + (s[2].toNat : Int) % (64 : Int))] (grow (redrawn wr d) os) fun e w'' => e = .returned (.string ⟨(Ut.enc v).toArray⟩) ∧ ∃ p : Regrown, w'' = grow (redrawn wr p.d) p.os :=
            fun d os => Calls.regrown_of (by
              have h := bytes_any ((64 : Int) * ((64 : Int) * ((s[0].toNat : Int) % (16 : Int)) + (s[1].toNat : Int) % (64 : Int)) + (s[2].toNat : Int) % (64 : Int)) (by rw [← hv]; omega) (by rw [← hv]; omega) (grow (redrawn wr d) os)
              rw [hvt] at h
              exact h.mono fun _ _ h => h)
          cases hq : (Ut.enc v == s.data.toList.take 3) with
          | false =>
            have HH := Lib.hid (hit_of (l := s.data.toList) (n := 3) (b := false) (by rw [HLen.out]; exact hnl) (by rw [← HVD.out, hL, Bool.true_and]; exact hq))
            have hq2 : (Ut.enc v == (s.extract 0 3).toList) = false := by rw [HT.out]; exact hq
            rw [hL] at cL
            clear hL hv hvd hT hlen hle hvt hq
            obtain ⟨y0, z0⟩ := byte_small s 0 g0
            obtain ⟨y1, z1⟩ := byte_small s 1 g1
            obtain ⟨y2, z2⟩ := byte_small s 2 g2
            go_wp2_with fail
            refine wp_loop_rounds 3 ?_
            rw [rounds_succ]
            go_wp2_with fail
            rw [rounds_succ]
            go_wp2_with fail
            rw [rounds_succ]
            go_wp2_with fail
            refine wp_region_quiet_below (by assumption) (by kernel_rfl) ?_
            repeat (first | go_big_quiet_step (first | with_reducible exact cL _ _ | with_reducible exact cB _ _) | quiet_step (first | with_reducible exact cL _ _ | with_reducible exact cB _ _))
            refine wpQuiet_nil ?_
            intro _ hw'
            obtain ⟨⟨dq, osq⟩, hw''⟩ := hw'
            subst hw''
            go_wp2_with fail
            go_roundw
            case rel => exact ⟨4, by omega, by omega, rfl, Lib.hid (no_next HN.out HH.out), Lib.hid (below_step HB.out (below_regrown _ _ _))⟩
            case measure => simp [intOf]
          | true =>
            have HH := Lib.hid (hit_of (l := s.data.toList) (n := 3) (b := true) (by rw [HLen.out]; exact hnl) (by rw [← HVD.out, hL, Bool.true_and]; exact hq))
            have hq2 : (Ut.enc v == (s.extract 0 3).toList) = true := by rw [HT.out]; exact hq
            rw [hL] at cL
            clear hL hv hvd hT hlen hle hvt hq
            obtain ⟨y0, z0⟩ := byte_small s 0 g0
            obtain ⟨y1, z1⟩ := byte_small s 1 g1
            obtain ⟨y2, z2⟩ := byte_small s 2 g2
            go_wp2_with fail
            refine wp_loop_rounds 3 ?_
            rw [rounds_succ]
            go_wp2_with fail
            rw [rounds_succ]
            go_wp2_with fail
            rw [rounds_succ]
            go_wp2_with fail
            refine wp_region_quiet_below (by assumption) (by kernel_rfl) ?_
            repeat (first | go_big_quiet_step (first | with_reducible exact cL _ _ | with_reducible exact cB _ _) | quiet_step (first | with_reducible exact cL _ _ | with_reducible exact cB _ _))
            refine wpQuiet_nil ?_
            intro _ hw'
            obtain ⟨⟨dq, osq⟩, hw''⟩ := hw'
            subst hw''
            go_wp2_with fail
            go_ret2
            exact ⟨ret_first (first_at (by omega) (by omega) HN.out HH.out) (by rw [← HVD.out, HV.out]) rfl, below_step HB.out (below_regrown _ _ _)⟩
      · clear hn1 hn5 hn4
        have g0 : 0 < s.size := by omega
        have g1 : 1 < s.size := by omega
        have g2 : 2 < s.size := by omega
        have g3 : 3 < s.size := by omega
        have hv := val_4 s g0 g1 g2 g3
        have hlen : s.data.toList.length = s.size := (Lib.size_eq s).symm
        obtain ⟨v, hvd⟩ : ∃ v, v = Ut.val s.data.toList 4 := ⟨_, rfl⟩
        rw [← hvd] at hv
        have cL : ∀ d os, Calls Tryd.prog 60 #[.int .i32 ((64 : Int) * ((64 : Int) * ((64 : Int) * ((s[0].toNat : Int) % (8 : Int)) + (s[1].toNat : Int) % (64 : Int)) + (s[2].toNat : Int) % (64 : Int)) + (s[3].toNat : Int) % (64 : Int))] (grow (redrawn wr d) os) fun e w'' => e = .returned (.bool (Ut.letterN v)) ∧ ∃ p : Regrown, w'' = grow (redrawn wr p.d) p.os :=
          fun d os => Calls.regrown_of (by rw [← hv, ← Ut.letter_nat]; exact (refLetter_any _ _).mono fun _ _ h => h.ret)
        have hsl : ∀ wx, (Instr.slice 9 (.string s) none (some (.int .i64 4)) none).run Tryd.prog wx = .ok (.string (s.extract 0 4)) wx := fun wx => run_slice_string_h wx 9 s Tryd.underlying9 .i64 4 (by omega) (by omega)
        have hT : (s.extract 0 4).toList = s.data.toList.take 4 := by rw [Lib.toList_data]; simp
        have hw32 : IntKind.i32.wrap ((64 : Int) * ((64 : Int) * ((64 : Int) * ((s[0].toNat : Int) % (8 : Int)) + (s[1].toNat : Int) % (64 : Int)) + (s[2].toNat : Int) % (64 : Int)) + (s[3].toNat : Int) % (64 : Int)) = (64 : Int) * ((64 : Int) * ((64 : Int) * ((s[0].toNat : Int) % (8 : Int)) + (s[1].toNat : Int) % (64 : Int)) + (s[2].toNat : Int) % (64 : Int)) + (s[3].toNat : Int) % (64 : Int) := w32 (by rw [← hv]; omega) (by have := val_small s 4; rw [← hv, hvd]; omega)
        have HV := Lib.hid hv
        have HVD := Lib.hid hvd
        have HT := Lib.hid hT
        have HLen := Lib.hid hlen
        cases hL : Ut.letterN v with
        | false =>
          have hno := Lib.hid (no_next HN.out (hit_of (b := false) (by rw [HLen.out]; exact hnl) (by rw [← HVD.out, hL]; rfl)))
          rw [hL] at cL
          clear hL hv hvd hT hlen
          obtain ⟨y0, z0⟩ := byte_small s 0 g0
          obtain ⟨y1, z1⟩ := byte_small s 1 g1
          obtain ⟨y2, z2⟩ := byte_small s 2 g2
          obtain ⟨y3, z3⟩ := byte_small s 3 g3
          go_wp2_with fail
          refine wp_loop_rounds 4 ?_
          rw [rounds_succ]
          go_wp2_with fail
          rw [rounds_succ]
          go_wp2_with fail
          rw [rounds_succ]
          go_wp2_with fail
          rw [rounds_succ]
          go_wp2_with fail
          refine wp_region_quiet_below (by assumption) (by kernel_rfl) ?_
          repeat (first | go_big_quiet_step (with_reducible exact cL _ _) | quiet_step (with_reducible exact cL _ _))
          refine wpQuiet_nil ?_
          intro _ hw'
          obtain ⟨⟨dq, osq⟩, hw''⟩ := hw'
          subst hw''
          go_wp2_with fail
          go_roundw
          case rel => exact ⟨5, by omega, by omega, rfl, hno, Lib.hid (below_step HB.out (below_regrown _ _ _))⟩
          case measure => simp [intOf]
        | true =>
          have hle := Ut.letterN_le hL
          have hvt : ((64 : Int) * ((64 : Int) * ((64 : Int) * ((s[0].toNat : Int) % (8 : Int)) + (s[1].toNat : Int) % (64 : Int)) + (s[2].toNat : Int) % (64 : Int)) + (s[3].toNat : Int) % (64 : Int)).toNat = v := by rw [← hv]; omega
          have cB : ∀ d os, Calls Tryd.prog 61 #[.int .i32 ((64 : Int) * ((64 : Int) * ((64 : Int) * ((s[0].toNat : Int) % (8 : Int)) + (s[1].toNat : Int) % (64 : Int)) + (s[2].toNat : Int) % (64 : Int)) + (s[3].toNat : Int) % (64 : Int))] (grow (redrawn wr d) os) fun e w'' => e = .returned (.string ⟨(Ut.enc v).toArray⟩) ∧ ∃ p : Regrown, w'' = grow (redrawn wr p.d) p.os :=
            fun d os => Calls.regrown_of (by
              have h := bytes_any ((64 : Int) * ((64 : Int) * ((64 : Int) * ((s[0].toNat : Int) % (8 : Int)) + (s[1].toNat : Int) % (64 : Int)) + (s[2].toNat : Int) % (64 : Int)) + (s[3].toNat : Int) % (64 : Int)) (by rw [← hv]; omega) (by rw [← hv]; omega) (grow (redrawn wr d) os)
              rw [hvt] at h
              exact h.mono fun _ _ h => h)
          cases hq : (Ut.enc v == s.data.toList.take 4) with
          | false =>
            have HH := Lib.hid (hit_of (l := s.data.toList) (n := 4) (b := false) (by rw [HLen.out]; exact hnl) (by rw [← HVD.out, hL, Bool.true_and]; exact hq))
            have hq2 : (Ut.enc v == (s.extract 0 4).toList) = false := by rw [HT.out]; exact hq
            rw [hL] at cL
            clear hL hv hvd hT hlen hle hvt hq
            obtain ⟨y0, z0⟩ := byte_small s 0 g0
            obtain ⟨y1, z1⟩ := byte_small s 1 g1
            obtain ⟨y2, z2⟩ := byte_small s 2 g2
            obtain ⟨y3, z3⟩ := byte_small s 3 g3
            go_wp2_with fail
            refine wp_loop_rounds 4 ?_
            rw [rounds_succ]
            go_wp2_with fail
            rw [rounds_succ]
            go_wp2_with fail
            rw [rounds_succ]
            go_wp2_with fail
            rw [rounds_succ]
            go_wp2_with fail
            refine wp_region_quiet_below (by assumption) (by kernel_rfl) ?_
            repeat (first | go_big_quiet_step (first | with_reducible exact cL _ _ | with_reducible exact cB _ _) | quiet_step (first | with_reducible exact cL _ _ | with_reducible exact cB _ _))
            refine wpQuiet_nil ?_
            intro _ hw'
            obtain ⟨⟨dq, osq⟩, hw''⟩ := hw'
            subst hw''
            go_wp2_with fail
            go_roundw
            case rel => exact ⟨5, by omega, by omega, rfl, Lib.hid (no_next HN.out HH.out), Lib.hid (below_step HB.out (below_regrown _ _ _))⟩
            case measure => simp [intOf]
          | true =>
            have HH := Lib.hid (hit_of (l := s.data.toList) (n := 4) (b := true) (by rw [HLen.out]; exact hnl) (by rw [← HVD.out, hL, Bool.true_and]; exact hq))
            have hq2 : (Ut.enc v == (s.extract 0 4).toList) = true := by rw [HT.out]; exact hq
            rw [hL] at cL
            clear hL hv hvd hT hlen hle hvt hq
            obtain ⟨y0, z0⟩ := byte_small s 0 g0
            obtain ⟨y1, z1⟩ := byte_small s 1 g1
            obtain ⟨y2, z2⟩ := byte_small s 2 g2
            obtain ⟨y3, z3⟩ := byte_small s 3 g3
            go_wp2_with fail
            refine wp_loop_rounds 4 ?_
            rw [rounds_succ]
            go_wp2_with fail
            rw [rounds_succ]
            go_wp2_with fail
            rw [rounds_succ]
            go_wp2_with fail
            rw [rounds_succ]
            go_wp2_with fail
            refine wp_region_quiet_below (by assumption) (by kernel_rfl) ?_
            repeat (first | go_big_quiet_step (first | with_reducible exact cL _ _ | with_reducible exact cB _ _) | quiet_step (first | with_reducible exact cL _ _ | with_reducible exact cB _ _))
            refine wpQuiet_nil ?_
            intro _ hw'
            obtain ⟨⟨dq, osq⟩, hw''⟩ := hw'
            subst hw''
            go_wp2_with fail
            go_ret2
            exact ⟨ret_first (first_at (by omega) (by omega) HN.out HH.out) (by rw [← HVD.out, HV.out]) rfl, below_step HB.out (below_regrown _ _ _)⟩
    · have hno := Lib.hid (first_none (l := s.data.toList) (fun m h1 h4 => by
        rcases Nat.lt_or_ge m n with h | h
        · exact HN.out m h1 h
        · exact hit_long (by rw [← Lib.size_eq]; omega)))
      by_cases h5 : n = 5
      · subst h5
        clear hn hn1 hn5
        go_wp2_with fail
        go_ret2
        exact ⟨by rw [hno.out]; rfl, HB.out⟩
      · have h4 : n ≤ 4 := by omega
        have hl : s.size < n := by omega
        clear hn hn1 hn5 h5
        go_wp2_with fail
        go_ret2
        exact ⟨by rw [hno.out]; rfl, HB.out⟩
end Go.Proofs.YtjlnffdklhmonaaDoor
