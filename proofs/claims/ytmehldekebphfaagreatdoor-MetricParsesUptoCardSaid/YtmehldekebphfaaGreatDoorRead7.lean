/-
  The landed readCode and readLength: a word that is a code, or a length, as it would be printed; else the error of a line.
-/
import Derived.Test.YtmehldekebphfaaGreatDoorWords7
import Derived.Test.YtmehldekebphfaaGreatDoorEnv7
import Derived.Test.YtmehldekebphfaaGreatDoorShelf
set_option linter.unusedVariables false
set_option linter.unusedSimpArgs false
namespace Go.Proofs.YtmehldekebphfaaGreatDoor
open Go.RowKit

def errV (a : Addr) : Value := .iface 207 (.pointer (some a))
def codeR (aL : Addr) : Option Int → Value
  | some n => .tuple #[.int .i32 n, .nilIface]
  | none => .tuple #[.int .i32 0, .iface 207 (.pointer (some aL))]
def lenR (aL : Addr) : Option Int → Value
  | some n => .tuple #[.int .i64 n, .nilIface]
  | none => .tuple #[.int .i64 0, .iface 207 (.pointer (some aL))]

/-- a text that is no number at all -/
theorem atoi_bad (s : ByteArray) (hlim : s.size ≤ 281474976710656) (h : (∀ v, Lib.atoiAll s.data.toList ≠ .ok v) ∧ Lib.atoiAll s.data.toList ≠ .range) (tp : TypeId) (p : Value) (w : World) (hvar : w.var? Tryz.prog "strconv.ErrSyntax" = some #[.iface tp p]) :
    Calls Tryz.prog 107 #[.string s] w fun e w' => ∃ N, e = .returned (.tuple #[.int .i64 0, .iface 191 (.pointer (some ⟨N, 0, none⟩))]) ∧ w.heap.size ≤ N ∧ w'.heap[N]? = some (.cells #[.string ⟨#[65, 116, 111, 105]⟩, .string s, .iface tp p] 203 (0, 0)) ∧ Below w.heap.size w w' :=
  Any.strconv_Atoi_syntax_var Tryz.laysC172 s hlim (by cases hh : Lib.atoiAll s.data.toList <;> simp_all) tp p w hvar
set_option maxHeartbeats 4000000 in
set_option maxRecDepth 100000 in
theorem readCode_any {aL aT : Addr} (s : ByteArray) (hs : s.size ≤ 140737488355328) (w : World) (hE : MEnv aL aT w) : Calls Tryz.prog 95 #[.string s] w (Ret (codeR aL (Mt.codeB s.data.toList)) w) := by
  have HEE := Lib.hid (fun w' (h : Below w.heap.size w w') => hE.mono h)
  have hsz := size7 s
  have e0 := hE.line
  by_cases hl : 7 < s.size
  · have hn := codeB_long (l := s.data.toList) (by omega)
    rw [hn]
    have g1 : (7 : Int) < (s.size : Int) := by omega
    clear hE hsz hn
    go_enter Tryz.func95, Tryz.ntmps95
    go_wp2_with fail
    go_quiet (fail)
    go_wp2
    go_ret2
    exact ⟨rfl, below_drew _ _⟩
  · have g1 : ¬ ((7 : Int) < (s.size : Int)) := by omega
    rcases ha : Lib.atoiAll s.data.toList with v | _ | _
    · have hr := Fm.atoi_range ha
      by_cases h0 : v < 0
      · have hn := codeB_neg ha h0
        rw [hn]
        have HA := Lib.hid ha
        clear hE hsz hn ha
        go_enter Tryz.func95, Tryz.ntmps95
        go_wp2_with fail
        refine (Tryz.strconv_Atoi_ok s (by omega) v HA.out w).mono ?_
        rintro e w1 ⟨rfl, hw1⟩
        have HB1 := Lib.hid (below_bytes hw1)
        have e1 := (HEE.out _ HB1.out).line
        clear hw1 e0
        go_wp2_with fail
        go_quiet (fail)
        go_wp2
        go_ret2
        exact ⟨rfl, below_step HB1.out (below_drew _ _)⟩
      · by_cases hq : Lib.itoa v = s.data.toList
        · have hn := codeB_yes ha (by omega) (by omega) hq
          have hbd := code_bound hn
          rw [hn]
          have hq2 : (Lib.itoa v == s.toList) = true := by rw [Lib.toList_data, hq]; simp
          have hq3 : (Lib.itoa v != s.toList) = false := by rw [Lib.toList_data, hq]; simp
          have HA := Lib.hid ha
          have hv1 : v ≤ 2147483647 := by omega
          have hv0 : 0 ≤ v := by omega
          clear hE hsz hn ha hq hbd e0
          go_enter Tryz.func95, Tryz.ntmps95
          go_wp2_with fail
          refine (Tryz.strconv_Atoi_ok s (by omega) v HA.out w).mono ?_
          rintro e w1 ⟨rfl, hw1⟩
          have HB1 := Lib.hid (below_bytes hw1)
          clear hw1
          go_wp2_with fail
          refine (Tryz.strconv_Itoa v (by omega) (by omega) _ (HEE.out _ HB1.out).tab).mono ?_
          rintro e w2 ⟨rfl, hw2⟩
          have HB2 : Hid (Below w.heap.size w w2) := Lib.hid (by obtain ⟨k, os, rfl⟩ := hw2; exact below_step HB1.out (below_growN _ _ _))
          clear hw2
          go_wp2
          go_ret2
          exact ⟨rfl, HB2.out⟩
        · have hn : Mt.codeB s.data.toList = none := codeB_no (by rw [num_of_ok ha, if_neg hq])
          rw [hn]
          have hq2 : (Lib.itoa v == s.toList) = false := by rw [Lib.toList_data]; exact beq_eq_false_iff_ne.2 hq
          have hq3 : (Lib.itoa v != s.toList) = true := by rw [Lib.toList_data]; exact bne_iff_ne.2 hq
          have HA := Lib.hid ha
          clear hE hsz hn ha hq e0
          go_enter Tryz.func95, Tryz.ntmps95
          go_wp2_with fail
          refine (Tryz.strconv_Atoi_ok s (by omega) v HA.out w).mono ?_
          rintro e w1 ⟨rfl, hw1⟩
          have HB1 := Lib.hid (below_bytes hw1)
          clear hw1
          go_wp2_with fail
          refine (Tryz.strconv_Itoa v hr.1 hr.2 _ (HEE.out _ HB1.out).tab).mono ?_
          rintro e w2 ⟨rfl, hw2⟩
          have HB2 : Hid (Below w.heap.size w w2) := Lib.hid (by obtain ⟨k, os, rfl⟩ := hw2; exact below_step HB1.out (below_growN _ _ _))
          have e1 := (HEE.out _ HB2.out).line
          clear hw2
          go_wp2_with fail
          go_quiet (fail)
          go_wp2
          go_ret2
          exact ⟨rfl, below_step HB2.out (below_drew _ _)⟩
    · have hn : Mt.codeB s.data.toList = none := codeB_no (num_of_bad (fun v h => by rw [ha] at h; cases h))
      rw [hn]
      obtain ⟨tp, p, hv⟩ := hE.syn
      have HV := Lib.hid hv
      have HA := Lib.hid ha
      clear hE hsz hn ha hv e0
      go_enter Tryz.func95, Tryz.ntmps95
      go_wp2_with fail
      refine (atoi_bad s (by omega) ⟨fun v h => (by rw [HA.out] at h; cases h), fun h => (by rw [HA.out] at h; cases h)⟩ tp p w HV.out).mono ?_
      rintro e w1 ⟨N, rfl, _, _, hb1⟩
      have HB1 := Lib.hid hb1
      have e1 := (HEE.out _ HB1.out).line
      clear hb1
      go_wp2_with fail
      go_quiet (fail)
      go_wp2
      go_ret2
      exact ⟨rfl, below_step HB1.out (below_drew _ _)⟩
    · have hn : Mt.codeB s.data.toList = none := codeB_no (num_of_bad (fun v h => by rw [ha] at h; cases h))
      rw [hn]
      obtain ⟨tp, p, hv⟩ := hE.rng
      have HV := Lib.hid hv
      have HA := Lib.hid ha
      clear hE hsz hn ha hv e0
      go_enter Tryz.func95, Tryz.ntmps95
      go_wp2_with fail
      refine (Tryz.strconv_Atoi_range_var s (by omega) HA.out tp p w HV.out).mono ?_
      rintro e w1 ⟨N, rfl, _, _, hb1⟩
      have HB1 := Lib.hid hb1
      have e1 := (HEE.out _ HB1.out).line
      clear hb1
      go_wp2_with fail
      go_quiet (fail)
      go_wp2
      go_ret2
      exact ⟨rfl, below_step HB1.out (below_drew _ _)⟩

set_option maxHeartbeats 4000000 in
set_option maxRecDepth 100000 in
theorem readLength_any {aL aT : Addr} (s : ByteArray) (hs : s.size ≤ 140737488355328) (w : World) (hE : MEnv aL aT w) : Calls Tryz.prog 96 #[.string s] w (Ret (lenR aL (Mt.lenB s.data.toList)) w) := by
  have HEE := Lib.hid (fun w' (h : Below w.heap.size w w') => hE.mono h)
  have HP := Lib.hid (fun w => parse_any s (by omega) w)
  have HR := Lib.hid (fun n w (hE : MEnv aL aT w) => print_any n w hE.tab)
  have e0 := hE.line
  have hlb := lenB_is s.data.toList
  have hlp := fun n => @lenB_parse s.data.toList n
  have hbq := bytes_eq7 (Sc.print (parseV s.data.toList)) s
  obtain ⟨r, hr⟩ : ∃ r, r = Mt.lenB s.data.toList := ⟨_, rfl⟩
  rw [← hr] at hlb hlp ⊢
  cases hb : parseB s.data.toList with
  | false =>
    rw [hb] at hlb HP
    simp at hlb
    subst hlb
    generalize parseV s.data.toList = pv at HP
    clear hE hlp hbq hr hb
    go_enter Tryz.func96, Tryz.ntmps96
    go_wp2_with fail
    refine (HP.out _).mono ?_
    rintro e w1 ⟨rfl, hb1⟩
    have HB1 := Lib.hid hb1
    have e1 := (HEE.out _ HB1.out).line
    unfold Two
    clear hb1 e0
    go_wp2_with fail
    go_quiet (fail)
    go_wp2
    go_ret2
    exact ⟨rfl, below_step HB1.out (below_drew _ _)⟩
  | true =>
    rw [hb] at hlb HP
    by_cases hq : Sc.print (parseV s.data.toList) = s.data.toList
    · rw [decide_eq_true hq] at hbq
      obtain ⟨n, rfl⟩ : ∃ n, r = some n := by
        cases r with
        | none => rw [decide_eq_true hq] at hlb; cases hlb
        | some n => exact ⟨n, rfl⟩
      have hpv := hlp n rfl
      rw [hpv] at hbq HP
      have HRn := Lib.hid (fun w hE => HR.out n w hE)
      generalize (⟨(Sc.print n).toArray⟩ : ByteArray) = t at HRn hbq
      have hbq2 : (t.toList != s.toList) = false := by simp [bne, hbq]
      clear hE hlp hlb hr hb hq hpv HR e0
      go_enter Tryz.func96, Tryz.ntmps96
      go_wp2_with fail
      refine (HP.out _).mono ?_
      rintro e w1 ⟨rfl, hb1⟩
      have HB1 := Lib.hid hb1
      unfold Two
      clear hb1
      go_wp2_with fail
      refine (HRn.out _ (HEE.out _ HB1.out)).mono ?_
      rintro e w2 ⟨rfl, hb2⟩
      have HB2 := Lib.hid (below_step HB1.out hb2)
      clear hb2
      go_wp2
      go_ret2
      exact ⟨rfl, HB2.out⟩
    · rw [decide_eq_false hq] at hbq hlb
      obtain rfl : r = none := by
        cases r with
        | none => rfl
        | some n => cases hlb
      generalize parseV s.data.toList = pv at HP hbq
      have HRn := Lib.hid (fun w hE => HR.out pv w hE)
      generalize (⟨(Sc.print pv).toArray⟩ : ByteArray) = t at HRn hbq
      have hbq2 : (t.toList != s.toList) = true := by simp [bne, hbq]
      clear hE hlp hlb hr hb hq HR e0
      go_enter Tryz.func96, Tryz.ntmps96
      go_wp2_with fail
      refine (HP.out _).mono ?_
      rintro e w1 ⟨rfl, hb1⟩
      have HB1 := Lib.hid hb1
      unfold Two
      clear hb1
      go_wp2_with fail
      refine (HRn.out _ (HEE.out _ HB1.out)).mono ?_
      rintro e w2 ⟨rfl, hb2⟩
      have HB2 := Lib.hid (below_step HB1.out hb2)
      have e1 := (HEE.out _ HB2.out).line
      clear hb2
      go_wp2_with fail
      go_quiet (fail)
      go_wp2
      go_ret2
      exact ⟨rfl, below_step HB2.out (below_drew _ _)⟩
end Go.Proofs.YtmehldekebphfaaGreatDoor
